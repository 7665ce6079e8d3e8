import PyProof.Rows.All
import Wide.All
import OpenK.AllK
import Wide.FinOn
import HandS.ForMost
import HandS.ForExc
import HandS.Defaults
import HandS.CallSlots
import HandS.Gcd
import HandS.Wide
import HandS.IsInst
import HandS.Property
import HandS.ClsMeth
import HandS.ExcInit
import HandS.ExcField
import HandS.ExcIs
import HandS.Flow
import HandS.TupAny
import HandS.Deep
import KE.KOpsOwn
import PyProof.ReprRoads
import PyProof.Rows.NestShow
import HandS.Comp
import HandS.HeadHook2
import HandS.Ends
import KE.HD3
import HandS.Codes
import PyProof.SliceSyntax
import KE.KRevSl
import HandS.SortInts
import KE.KSortTupAny
import KE.KDictCopyH
import KE.KDictSum
import HandS.Text
import HandS.OwnIter
import HandS.IterVal
import PyProof.WalksMore
import HandS.Strs
import HandS.Zip
import KE.KDictPairs
import PyProof.SeqRoads
import PySem.Challenge.RW_swornlots_k07_forms_added
import PyProof.P3Eq
set_option Elab.async false
set_option linter.all false
set_option maxRecDepth 100000
set_option maxHeartbeats 2000000
namespace Vi
open PySem L2

/-! ### data -/
inductive D where
  | non | bl (b : Bool) | int (i : Int) | str (x : Str)
  | tup (xs : List D) | lst (xs : List D) | kl (xs : List D)
  | xtup (xs : List D)
  | ref (n : Nat)
  | obj (c : Nat) (fs : List (Str × D))
  | cls (c : Nat)
  | dK (kvs : List (Key × D)) | dT (kvs : List (List Key × D))
inductive Cell where
  | lst (xs : List D)
  | ins (c : Nat) (fs : List (Str × D))
  | dK (kvs : List (Key × D)) | dT (kvs : List (List Key × D))
  | frz (c : Cell)
/-- what an expression gives: data, a new list (nobody else knows it), a list of a slot (to be read) -/
inductive Vl where
  | d (x : D) | tl (xs : List D) | bl (xs : List D) | bi (c : Nat) (fs : List (Str × D))
/-- what a slot holds: data, a list of its own, a new instance in its own __init__ -/
inductive Sl where
  | d (x : D) | ol (xs : List D) | oi (c : Nat) (fs : List (Str × D)) | xc (c : Nat) (fs : List (Str × D))
abbrev Env := List (Option Sl)
abbrev Hc := List Cell
inductive R (α : Type) where
  | ok (a : α) (h : Hc) | exc (x : D) (h : Hc) | stuck
def R.bind {α β : Type} (r : R α) (k : α → Hc → R β) : R β := match r with
  | .ok a h => k a h
  | .exc x h => .exc x h
  | .stuck => .stuck
@[simp] theorem R.bind_ok {α β : Type} {a : α} {h : Hc} {k : α → Hc → R β} : (R.ok a h).bind k = k a h := rfl
@[simp] theorem R.bind_exc {α β : Type} {a : D} {h : Hc} {k : α → Hc → R β} : (R.exc a h : R α).bind k = .exc a h := rfl
@[simp] theorem R.bind_stuck {α β : Type} {k : α → Hc → R β} : (R.stuck : R α).bind k = .stuck := rfl

/-! ### how data stands in the heap -/
/-- a type: a built-in one, an own class -/
inductive Ty where
  | bt (n : String) | own (c : Nat)
  deriving DecidableEq
structure Gi where
  K : PySem.W.Frag
  ca : Nat → Addr
  isC : Nat → Bool
  fld : Nat → Str → Bool
  isi : Ty → Ty → Option Bool
  kc : List D → Bool
/-- a tuple's object: made here, or one of the module's own -/
def SqK (g : Gi) (ds : List D) (F : Hp) (a : Addr) (vs : List V) : Prop := F a = some (.tup vs) ∨ (g.kc ds = true ∧ SqT g.K F a vs)
theorem SqK.sq {g : Gi} {ds : List D} {F : Hp} {a : Addr} {vs : List V} (h : SqK g ds F a vs) : SqT g.K F a vs := by
  rcases h with h | h
  · exact .inl (.inl h)
  · exact h.2
mutual
def Rep (g : Gi) (F : Hp) (al : Nat → Option Addr) : D → V → Prop
  | .non, v => v = .non
  | .bl b, v => v = .bl b
  | .int i, v => v = .int i
  | .str x, v => v = .str x
  | .tup ds, v => ∃ (a : Addr) (vs : List V), v = .ref a ∧ SqK g ds F a vs ∧ Reps g F al ds vs
  | .lst ds, v => ∃ (a : Addr) (vs : List V), v = .ref a ∧ F a = some (.lst vs) ∧ Reps g F al ds vs
  | .xtup ds, v => ∃ (a : Addr) (o : Obj) (vs : List V), v = .ref a ∧ F a = some (.frz o (.tup vs)) ∧ o.dict = none ∧ Reps g F al ds vs
  | .kl ds, v => ∃ (a : Addr) (vs : List V), v = .ref a ∧ SqL g.K F a vs ∧ Reps g F al ds vs
  | .ref n, v => ∃ a, v = .ref a ∧ al n = some a
  | .obj c fs, v => ∃ (a dx : Addr) (vs : List (Str × V)), v = .ref a ∧ F a = some (.ins (g.ca c) dx vs) ∧ RepF g F al fs vs
  | .cls c, v => v = .ref (g.ca c)
  | .dK kvs, v => ∃ (a : Addr) (vs : List (Key × V)), v = .ref a ∧ F a = some (.dK vs) ∧ RepK g F al kvs vs
  | .dT kvs, v => ∃ (a : Addr) (vs : List (List Key × V)), v = .ref a ∧ F a = some (.dT vs) ∧ RepT g F al kvs vs
def Reps (g : Gi) (F : Hp) (al : Nat → Option Addr) : List D → List V → Prop
  | [], vs => vs = []
  | d :: ds, vs => ∃ v r, vs = v :: r ∧ Rep g F al d v ∧ Reps g F al ds r
def RepF (g : Gi) (F : Hp) (al : Nat → Option Addr) : List (Str × D) → List (Str × V) → Prop
  | [], vs => vs = []
  | (k, d) :: ds, vs => ∃ v r, vs = (k, v) :: r ∧ Rep g F al d v ∧ RepF g F al ds r
def RepK (g : Gi) (F : Hp) (al : Nat → Option Addr) : List (Key × D) → List (Key × V) → Prop
  | [], vs => vs = []
  | (k, d) :: ds, vs => ∃ v r, vs = (k, v) :: r ∧ Rep g F al d v ∧ RepK g F al ds r
def RepT (g : Gi) (F : Hp) (al : Nat → Option Addr) : List (List Key × D) → List (List Key × V) → Prop
  | [], vs => vs = []
  | (k, d) :: ds, vs => ∃ v r, vs = (k, v) :: r ∧ Rep g F al d v ∧ RepT g F al ds r
end
theorem sqT_mono {K : PySem.W.Frag} {F F' : Hp} {a : Addr} {vs : List V} (e : ∀ a o, F a = some o → F' a = some o) (h : SqT K F a vs) : SqT K F' a vs := by
  rcases h with (h | ⟨o, h⟩) | h
  · exact .inl (.inl (e _ _ h))
  · exact .inl (.inr ⟨o, e _ _ h⟩)
  · exact .inr h
theorem sqK_mono {g : Gi} {ds : List D} {F F' : Hp} {a : Addr} {vs : List V} (e : ∀ a o, F a = some o → F' a = some o) (h : SqK g ds F a vs) : SqK g ds F' a vs := by
  rcases h with h | h
  · exact .inl (e _ _ h)
  · exact .inr ⟨h.1, sqT_mono e h.2⟩
theorem sqL_mono {K : PySem.W.Frag} {F F' : Hp} {a : Addr} {vs : List V} (e : ∀ a o, F a = some o → F' a = some o) (h : SqL K F a vs) : SqL K F' a vs := by
  rcases h with (h | ⟨o, h⟩) | h
  · exact .inl (.inl (e _ _ h))
  · exact .inl (.inr ⟨o, e _ _ h⟩)
  · exact .inr h
section
variable {g : Gi} {F F' : Hp} {al al' : Nat → Option Addr}
mutual
theorem Rep.mono (e : ∀ a o, F a = some o → F' a = some o) (ea : ∀ n a, al n = some a → al' n = some a) : ∀ {d : D} {v : V}, Rep g F al d v → Rep g F' al' d v
  | .non, _, h => h
  | .bl _, _, h => h
  | .int _, _, h => h
  | .str _, _, h => h
  | .tup _, _, ⟨a, vs, h1, h2, h3⟩ => ⟨a, vs, h1, sqK_mono e h2, Reps.mono e ea h3⟩
  | .lst _, _, ⟨a, vs, h1, h2, h3⟩ => ⟨a, vs, h1, e _ _ h2, Reps.mono e ea h3⟩
  | .xtup _, _, ⟨a, o, vs, h1, h2, h3, h4⟩ => ⟨a, o, vs, h1, e _ _ h2, h3, Reps.mono e ea h4⟩
  | .kl _, _, ⟨a, vs, h1, h2, h3⟩ => ⟨a, vs, h1, sqL_mono e h2, Reps.mono e ea h3⟩
  | .ref _, _, ⟨a, h1, h2⟩ => ⟨a, h1, ea _ _ h2⟩
  | .obj _ _, _, ⟨a, dx, vs, h1, h2, h3⟩ => ⟨a, dx, vs, h1, e _ _ h2, RepF.mono e ea h3⟩
  | .cls _, _, h => h
  | .dK _, _, ⟨a, vs, h1, h2, h3⟩ => ⟨a, vs, h1, e _ _ h2, RepK.mono e ea h3⟩
  | .dT _, _, ⟨a, vs, h1, h2, h3⟩ => ⟨a, vs, h1, e _ _ h2, RepT.mono e ea h3⟩
theorem Reps.mono (e : ∀ a o, F a = some o → F' a = some o) (ea : ∀ n a, al n = some a → al' n = some a) : ∀ {d : List D} {v : List V}, Reps g F al d v → Reps g F' al' d v
  | [], _, h => h
  | _ :: _, _, ⟨v, r, h1, h2, h3⟩ => ⟨v, r, h1, Rep.mono e ea h2, Reps.mono e ea h3⟩
theorem RepF.mono (e : ∀ a o, F a = some o → F' a = some o) (ea : ∀ n a, al n = some a → al' n = some a) : ∀ {d : List (Str × D)} {v : List (Str × V)}, RepF g F al d v → RepF g F' al' d v
  | [], _, h => h
  | (_, _) :: _, _, ⟨v, r, h1, h2, h3⟩ => ⟨v, r, h1, Rep.mono e ea h2, RepF.mono e ea h3⟩
theorem RepK.mono (e : ∀ a o, F a = some o → F' a = some o) (ea : ∀ n a, al n = some a → al' n = some a) : ∀ {d : List (Key × D)} {v : List (Key × V)}, RepK g F al d v → RepK g F' al' d v
  | [], _, h => h
  | (_, _) :: _, _, ⟨v, r, h1, h2, h3⟩ => ⟨v, r, h1, Rep.mono e ea h2, RepK.mono e ea h3⟩
theorem RepT.mono (e : ∀ a o, F a = some o → F' a = some o) (ea : ∀ n a, al n = some a → al' n = some a) : ∀ {d : List (List Key × D)} {v : List (List Key × V)}, RepT g F al d v → RepT g F' al' d v
  | [], _, h => h
  | (_, _) :: _, _, ⟨v, r, h1, h2, h3⟩ => ⟨v, r, h1, Rep.mono e ea h2, RepT.mono e ea h3⟩
end
end

/-! ### the state -/
structure Sta where
  F : Hp
  al : Nat → Option Addr
  h : Hc
  z : Nat → Option HO
abbrev RepS (g : Gi) (s : Sta) : D → V → Prop := Rep g s.F s.al
abbrev RepsS (g : Gi) (s : Sta) : List D → List V → Prop := Reps g s.F s.al
def CellRep (g : Gi) (s : Sta) (H : Hp) (a : Addr) : Cell → Prop
  | .lst ds => ∃ vs, H a = some (.lst vs) ∧ Reps g s.F s.al ds vs
  | .ins c fs => ∃ dx vs, H a = some (.ins (g.ca c) dx vs) ∧ RepF g s.F s.al fs vs
  | .dK kvs => ∃ vs, H a = some (.dK vs) ∧ RepK g s.F s.al kvs vs
  | .dT kvs => ∃ vs, H a = some (.dT vs) ∧ RepT g s.F s.al kvs vs
  | .frz c => CellRep g s H a c
theorem CellRep.mv {g : Gi} {s s' : Sta} {H H' : Hp} {a : Addr} (e : ∀ o, H a = some o → H' a = some o) (f : ∀ a o, s.F a = some o → s'.F a = some o) (l : ∀ n a, s.al n = some a → s'.al n = some a) : ∀ {c : Cell}, CellRep g s H a c → CellRep g s' H' a c
  | .lst _, ⟨vs, h3, h4⟩ => ⟨vs, e _ h3, h4.mono f l⟩
  | .ins _ _, ⟨dx, vs, h3, h4⟩ => ⟨dx, vs, e _ h3, h4.mono f l⟩
  | .dK _, ⟨vs, h3, h4⟩ => ⟨vs, e _ h3, h4.mono f l⟩
  | .dT _, ⟨vs, h3, h4⟩ => ⟨vs, e _ h3, h4.mono f l⟩
  | .frz c, h => CellRep.mv (c := c) e f l h
/-- the cells that stand still, and what stands in them -/
structure ZOk (s : Sta) (H : Hp) : Prop where
  at_ : ∀ n o, s.z n = some o → ∃ a c, s.al n = some a ∧ H a = some o ∧ s.h[n]? = some (.frz c)
  of : ∀ n c, s.h[n]? = some (.frz c) → ∃ o, s.z n = some o
theorem ZOk.keep {s s' : Sta} {H H' : Hp} (k : ZOk s H) (ez : s'.z = s.z) (eh : s'.h = s.h) (l : ∀ n a, s.al n = some a → s'.al n = some a) (e : ∀ n a o, s.al n = some a → H a = some o → H' a = some o) : ZOk s' H' :=
  ⟨fun n o h => by
    rw [ez] at h
    obtain ⟨a, c, h1, h2, h3⟩ := k.at_ n o h
    exact ⟨a, c, l _ _ h1, e n a o h1 h2, by rw [eh]; exact h3⟩, fun n c h => by
    rw [eh] at h
    rw [ez]
    exact k.of n c h⟩
structure Good (g : Gi) (s : Sta) (H : Hp) : Prop where
  fle : ∀ a o, s.F a = some o → H a = some o
  inj : ∀ n m a, s.al n = some a → s.al m = some a → n = m
  dom : ∀ n a, s.al n = some a → n < s.h.length ∧ s.F a = none ∧ ∃ o, H a = some o
  cell : ∀ n c, s.h[n]? = some c → ∃ a, s.al n = some a ∧ CellRep g s H a c
  zed : ZOk s H
structure Evo (s : Sta) (H : Hp) (s' : Sta) (H' : Hp) : Prop where
  f : ∀ a o, s.F a = some o → s'.F a = some o
  al : ∀ n a, s.al n = some a → s'.al n = some a
  oth : ∀ a o, H a = some o → (∀ n, s.al n ≠ some a) → H' a = some o ∧ (s.F a = none → (∀ ws, o ≠ .tup ws) → s'.F a = none) ∧ ∀ n, s'.al n ≠ some a
  len : s.h.length ≤ s'.h.length
  z : ∀ n o, s.z n = some o → s'.z n = some o
theorem Evo.refl (s : Sta) (H : Hp) : Evo s H s H := ⟨fun _ _ h => h, fun _ _ h => h, fun _ _ h n => ⟨h, fun z _ => z, n⟩, Nat.le_refl _, fun _ _ h => h⟩
theorem Evo.trans {s s1 s2 : Sta} {H H1 H2 : Hp} (a : Evo s H s1 H1) (b : Evo s1 H1 s2 H2) : Evo s H s2 H2 :=
  ⟨fun _ _ h => b.f _ _ (a.f _ _ h), fun _ _ h => b.al _ _ (a.al _ _ h), fun x o h n => by
    obtain ⟨h1, f1, n1⟩ := a.oth x o h n
    obtain ⟨h2, f2, n2⟩ := b.oth x o h1 n1
    exact ⟨h2, fun z t => f2 (f1 z t) t, n2⟩, Nat.le_trans a.len b.len, fun _ _ h => b.z _ _ (a.z _ _ h)⟩
section
variable {g : Gi} {s s' : Sta} {H H' : Hp}
theorem Evo.rep (e : Evo s H s' H') {d : D} {v : V} (h : Rep g s.F s.al d v) : Rep g s'.F s'.al d v := h.mono e.f e.al
theorem Evo.reps (e : Evo s H s' H') {d : List D} {v : List V} (h : Reps g s.F s.al d v) : Reps g s'.F s'.al d v := h.mono e.f e.al
theorem Evo.repF (e : Evo s H s' H') {d : List (Str × D)} {v : List (Str × V)} (h : RepF g s.F s.al d v) : RepF g s'.F s'.al d v := h.mono e.f e.al
end

/-- where a body began -/
structure Bg where
  s : Sta
  H : Hp
  me : Addr := 0
  xa : Addr := 0
  xd : Addr := 0
  xcl : Nat := 0
/-- an address that is one slot's own -/
structure OwnA (B : Bg) (s : Sta) (a : Addr) : Prop where
  f : s.F a = none
  al : ∀ n, s.al n ≠ some a
  new : B.H a = none
theorem OwnA.evo {B : Bg} {s s' : Sta} {H H' : Hp} {a : Addr} {o : HO} (e : Evo s H s' H') (h : OwnA B s a) (ho : H a = some o) (nt : ∀ ws, o ≠ .tup ws) : OwnA B s' a ∧ H' a = some o := by
  obtain ⟨h1, h2, h3⟩ := e.oth a o ho h.al
  exact ⟨⟨h2 h.f nt, h3, h.new⟩, h1⟩
def SlRep (g : Gi) (B : Bg) (s : Sta) (H : Hp) : Sl → V → Prop
  | .d x, v => Rep g s.F s.al x v
  | .ol xs, v => ∃ a vs, v = .ref a ∧ H a = some (.lst vs) ∧ OwnA B s a ∧ Reps g s.F s.al xs vs
  | .oi c fs, v => ∃ a dx vs, v = .ref a ∧ H a = some (.ins (g.ca c) dx vs) ∧ OwnA B s a ∧ RepF g s.F s.al fs vs ∧ a = B.me
  | .xc c fs, v => v = .ref B.xa ∧ c = B.xcl ∧ ∃ vs, H B.xd = some (.xd vs) ∧ (∀ n, s.al n ≠ some B.xd) ∧ RepF g s.F s.al fs vs
def Sl.own : Sl → Bool
  | .d _ => false
  | .xc _ _ => false
  | _ => true
theorem SlRep.evo {g : Gi} {B : Bg} {s s' : Sta} {H H' : Hp} (e : Evo s H s' H') : ∀ {sl : Sl} {v : V}, SlRep g B s H sl v → SlRep g B s' H' sl v
  | .d _, _, h => e.rep h
  | .ol _, _, ⟨a, vs, h1, h2, h3, h4⟩ => ⟨a, vs, h1, (h3.evo e h2 fun _ z => nomatch z).2, (h3.evo e h2 fun _ z => nomatch z).1, e.reps h4⟩
  | .oi _ _, _, ⟨a, dx, vs, h1, h2, h3, h4, h5⟩ => ⟨a, dx, vs, h1, (h3.evo e h2 fun _ z => nomatch z).2, (h3.evo e h2 fun _ z => nomatch z).1, e.repF h4, h5⟩
  | .xc _ _, _, ⟨h1, h2, vs, h3, h4, h5⟩ => ⟨h1, h2, vs, (e.oth _ _ h3 h4).1, (e.oth _ _ h3 h4).2.2, e.repF h5⟩
structure SR (g : Gi) (B : Bg) (env : Env) (s : Sta) (σ : L2.St) (H : Hp) : Prop where
  good : Good g s H
  evo : Evo B.s B.H s H
  len : env.length = σ.length
  slot : ∀ (i : Nat) (sl : Sl), env[i]? = some (some sl) → ∃ v, σ[i]? = some (some v) ∧ SlRep g B s H sl v
  sep : ∀ (i j : Nat) (sl sl' : Sl) (v : V), i ≠ j → env[i]? = some (some sl) → env[j]? = some (some sl') → sl.own = true → sl'.own = true → σ[i]? = some (some v) → σ[j]? ≠ some (some v)
/-- not one of the slots' own -/
def NotOwn (env : Env) (σ : L2.St) (a : Addr) : Prop := ∀ (i : Nat) (sl : Sl), env[i]? = some (some sl) → sl.own = true → σ[i]? ≠ some (some (.ref a))
def VlRep (g : Gi) (B : Bg) (env : Env) (σ : L2.St) (s : Sta) (H : Hp) : Vl → V → Prop
  | .d x, v => Rep g s.F s.al x v
  | .tl xs, v => ∃ a vs, v = .ref a ∧ H a = some (.lst vs) ∧ OwnA B s a ∧ NotOwn env σ a ∧ Reps g s.F s.al xs vs
  | .bl xs, v => ∃ a vs, v = .ref a ∧ H a = some (.lst vs) ∧ OwnA B s a ∧ Reps g s.F s.al xs vs
  | .bi c fs, v => ∃ a dx vs, v = .ref a ∧ H a = some (.ins (g.ca c) dx vs) ∧ OwnA B s a ∧ RepF g s.F s.al fs vs
theorem VlRep.evo {g : Gi} {B : Bg} {env : Env} {σ : L2.St} {s s' : Sta} {H H' : Hp} (e : Evo s H s' H') : ∀ {x : Vl} {v : V}, VlRep g B env σ s H x v → VlRep g B env σ s' H' x v
  | .d _, _, h => e.rep h
  | .tl _, _, ⟨a, vs, h1, h2, h3, h5, h4⟩ => ⟨a, vs, h1, (h3.evo e h2 fun _ z => nomatch z).2, (h3.evo e h2 fun _ z => nomatch z).1, h5, e.reps h4⟩
  | .bl _, _, ⟨a, vs, h1, h2, h3, h4⟩ => ⟨a, vs, h1, (h3.evo e h2 fun _ z => nomatch z).2, (h3.evo e h2 fun _ z => nomatch z).1, e.reps h4⟩
  | .bi _ _, _, ⟨a, dx, vs, h1, h2, h3, h4⟩ => ⟨a, dx, vs, h1, (h3.evo e h2 fun _ z => nomatch z).2, (h3.evo e h2 fun _ z => nomatch z).1, e.repF h4⟩
/-- an exception: its class, its fields in its own dict -/
def XRep (g : Gi) (s : Sta) (H : Hp) : D → Value → Option Addr → Prop
  | .obj c fs, cls, dd => ∃ d vs, cls = .ref (g.ca c) ∧ dd = some d ∧ H d = some (.xd vs) ∧ (∀ n, s.al n ≠ some d) ∧ RepF g s.F s.al fs vs
  | _, _, _ => False
abbrev WXv := Value → Option Addr → L2.St → Hp → Prop

/-! ### readings of mirrors -/
abbrev ME := Env → Hc → R Vl
abbrev MB := Env → Hc → R Bool
abbrev MA := Env → Hc → R (List Vl)
section
variable (g : Gi) (B : Bg) (W : WXv) (env : Env) (s : Sta) (σ : L2.St) (H : Hp)
/-- what must hold of a result r that is reckoned at (s, H) -/
def PostX (x : D) (h : Hc) : Prop := ∀ (cls : Value) (dd : Option Addr) (H' : Hp) (s' : Sta), s'.h = h → Evo s H s' H' → SR g B env s' σ H' → XRep g s' H' x cls dd → W cls dd σ H'
def PostE : R Vl → VK → Prop
  | .ok d h, Q => ∀ (v : V) (H' : Hp) (s' : Sta), s'.h = h → Evo s H s' H' → SR g B env s' σ H' → VlRep g B env σ s' H' d v → Q v H'
  | .exc x h, _ => PostX g B W env s σ H x h
  | .stuck, _ => False
def PostB : R Bool → (Bool → Hp → Prop) → Prop
  | .ok b h, Q => ∀ (H' : Hp) (s' : Sta), s'.h = h → Evo s H s' H' → SR g B env s' σ H' → Q b H'
  | .exc x h, _ => PostX g B W env s σ H x h
  | .stuck, _ => False
inductive VlReps (g : Gi) (B : Bg) (env : Env) (σ : L2.St) (s : Sta) (H : Hp) : List Vl → List V → Prop
  | nil : VlReps g B env σ s H [] []
  | cons {x : Vl} {xs : List Vl} {v : V} {vs : List V} : VlRep g B env σ s H x v → VlReps g B env σ s H xs vs → VlReps g B env σ s H (x :: xs) (v :: vs)
def PostA : R (List Vl) → (List V → Hp → Prop) → Prop
  | .ok d h, Q => ∀ (vs : List V) (H' : Hp) (s' : Sta), s'.h = h → Evo s H s' H' → SR g B env s' σ H' → VlReps g B env σ s' H' d vs → Q vs H'
  | .exc x h, _ => PostX g B W env s σ H x h
  | .stuck, _ => False
end
theorem VlReps.evo {g : Gi} {B : Bg} {env : Env} {σ : L2.St} {s s' : Sta} {H H' : Hp} (e : Evo s H s' H') : ∀ {x : List Vl} {v : List V}, VlReps g B env σ s H x v → VlReps g B env σ s' H' x v
  | _, _, .nil => .nil
  | _, _, .cons a b => .cons (a.evo e) (b.evo e)
def tE (g : Gi) (B : Bg) (W : WXv) (m : ME) : TE := fun σ H Q => ∃ env s, SR g B env s σ H ∧ PostE g B W env s σ H (m env s.h) Q
def tT (g : Gi) (B : Bg) (W : WXv) (m : MB) : TT := fun σ H Q => ∃ env s, SR g B env s σ H ∧ PostB g B W env s σ H (m env s.h) Q
def tA (g : Gi) (B : Bg) (W : WXv) (m : MA) : TA := fun σ H Q => ∃ env s, SR g B env s σ H ∧ PostA g B W env s σ H (m env s.h) Q
section
variable {g : Gi} {B : Bg} {W : WXv} {env : Env} {s s' : Sta} {σ : L2.St} {H H' : Hp}
theorem PostX.later {x : D} {h : Hc} (e : Evo s H s' H') (p : PostX g B W env s σ H x h) : PostX g B W env s' σ H' x h := fun cls dd H2 s2 e1 e2 sr xr => p cls dd H2 s2 e1 (e.trans e2) sr xr
theorem PostE.later {Q : VK} (e : Evo s H s' H') : ∀ {r : R Vl}, PostE g B W env s σ H r Q → PostE g B W env s' σ H' r Q
  | .ok _ _, p => fun v H2 s2 e1 e2 sr vr => p v H2 s2 e1 (e.trans e2) sr vr
  | .exc _ _, p => PostX.later e p
  | .stuck, p => p
theorem PostB.later {Q : Bool → Hp → Prop} (e : Evo s H s' H') : ∀ {r : R Bool}, PostB g B W env s σ H r Q → PostB g B W env s' σ H' r Q
  | .ok _ _, p => fun H2 s2 e1 e2 sr => p H2 s2 e1 (e.trans e2) sr
  | .exc _ _, p => PostX.later e p
  | .stuck, p => p
theorem PostA.later {Q : List V → Hp → Prop} (e : Evo s H s' H') : ∀ {r : R (List Vl)}, PostA g B W env s σ H r Q → PostA g B W env s' σ H' r Q
  | .ok _ _, p => fun v H2 s2 e1 e2 sr vr => p v H2 s2 e1 (e.trans e2) sr vr
  | .exc _ _, p => PostX.later e p
  | .stuck, p => p

theorem PostE.mono {Q Q' : VK} (i : ∀ v H, Q v H → Q' v H) : ∀ {r : R Vl}, PostE g B W env s σ H r Q → PostE g B W env s σ H r Q'
  | .ok _ _, p => fun v H2 s2 e1 e2 sr vr => i _ _ (p v H2 s2 e1 e2 sr vr)
  | .exc _ _, p => p
  | .stuck, p => p
theorem PostB.mono {Q Q' : Bool → Hp → Prop} (i : ∀ v H, Q v H → Q' v H) : ∀ {r : R Bool}, PostB g B W env s σ H r Q → PostB g B W env s σ H r Q'
  | .ok _ _, p => fun H2 s2 e1 e2 sr => i _ _ (p H2 s2 e1 e2 sr)
  | .exc _ _, p => p
  | .stuck, p => p
theorem PostA.mono {Q Q' : List V → Hp → Prop} (i : ∀ v H, Q v H → Q' v H) : ∀ {r : R (List Vl)}, PostA g B W env s σ H r Q → PostA g B W env s σ H r Q'
  | .ok _ _, p => fun v H2 s2 e1 e2 sr vr => i _ _ (p v H2 s2 e1 e2 sr vr)
  | .exc _ _, p => p
  | .stuck, p => p
theorem tE.mono {m : ME} {Q Q' : VK} (h : tE g B W m σ H Q) (i : ∀ v H, Q v H → Q' v H) : tE g B W m σ H Q' := by
  obtain ⟨env, s, sr, p⟩ := h
  exact ⟨env, s, sr, p.mono i⟩
theorem tT.mono {m : MB} {Q Q' : Bool → Hp → Prop} (h : tT g B W m σ H Q) (i : ∀ v H, Q v H → Q' v H) : tT g B W m σ H Q' := by
  obtain ⟨env, s, sr, p⟩ := h
  exact ⟨env, s, sr, p.mono i⟩
theorem tA.mono {m : MA} {Q Q' : List V → Hp → Prop} (h : tA g B W m σ H Q) (i : ∀ v H, Q v H → Q' v H) : tA g B W m σ H Q' := by
  obtain ⟨env, s, sr, p⟩ := h
  exact ⟨env, s, sr, p.mono i⟩
/-- one part, then the rest -/
theorem bindE {a : ME} {k : Vl → Hc → R Vl} {Q : VK} (sr : SR g B env s σ H) (p : PostE g B W env s σ H ((a env s.h).bind k) Q) :
    tE g B W a σ H fun v H1 => ∃ s1 x, SR g B env s1 σ H1 ∧ Evo s H s1 H1 ∧ VlRep g B env σ s1 H1 x v ∧ PostE g B W env s1 σ H1 (k x s1.h) Q := by
  refine ⟨env, s, sr, ?_⟩
  cases e : a env s.h with
  | ok x h1 =>
    rw [e] at p
    intro v H1 s1 e1 ev sr1 vr
    refine ⟨s1, x, sr1, ev, vr, ?_⟩
    rw [e1]
    exact PostE.later ev p
  | exc x h1 =>
    rw [e] at p
    exact p
  | stuck =>
    rw [e] at p
    exact p
theorem bindET {a : ME} {k : Vl → Hc → R Bool} {Q : Bool → Hp → Prop} (sr : SR g B env s σ H) (p : PostB g B W env s σ H ((a env s.h).bind k) Q) :
    tE g B W a σ H fun v H1 => ∃ s1 x, SR g B env s1 σ H1 ∧ Evo s H s1 H1 ∧ VlRep g B env σ s1 H1 x v ∧ PostB g B W env s1 σ H1 (k x s1.h) Q := by
  refine ⟨env, s, sr, ?_⟩
  cases e : a env s.h with
  | ok x h1 =>
    rw [e] at p
    intro v H1 s1 e1 ev sr1 vr
    refine ⟨s1, x, sr1, ev, vr, ?_⟩
    rw [e1]
    exact PostB.later ev p
  | exc x h1 =>
    rw [e] at p
    exact p
  | stuck =>
    rw [e] at p
    exact p
theorem bindTE {a : MB} {k : Bool → Hc → R Vl} {Q : VK} (sr : SR g B env s σ H) (p : PostE g B W env s σ H ((a env s.h).bind k) Q) :
    tT g B W a σ H fun b H1 => ∃ s1, SR g B env s1 σ H1 ∧ Evo s H s1 H1 ∧ PostE g B W env s1 σ H1 (k b s1.h) Q := by
  refine ⟨env, s, sr, ?_⟩
  cases e : a env s.h with
  | ok x h1 =>
    rw [e] at p
    intro H1 s1 e1 ev sr1
    refine ⟨s1, sr1, ev, ?_⟩
    rw [e1]
    exact PostE.later ev p
  | exc x h1 =>
    rw [e] at p
    exact p
  | stuck =>
    rw [e] at p
    exact p
theorem bindTT {a : MB} {k : Bool → Hc → R Bool} {Q : Bool → Hp → Prop} (sr : SR g B env s σ H) (p : PostB g B W env s σ H ((a env s.h).bind k) Q) :
    tT g B W a σ H fun b H1 => ∃ s1, SR g B env s1 σ H1 ∧ Evo s H s1 H1 ∧ PostB g B W env s1 σ H1 (k b s1.h) Q := by
  refine ⟨env, s, sr, ?_⟩
  cases e : a env s.h with
  | ok x h1 =>
    rw [e] at p
    intro H1 s1 e1 ev sr1
    refine ⟨s1, sr1, ev, ?_⟩
    rw [e1]
    exact PostB.later ev p
  | exc x h1 =>
    rw [e] at p
    exact p
  | stuck =>
    rw [e] at p
    exact p
theorem bindAA {a : ME} {b : MA} {f : Vl → List Vl → Hc → R (List Vl)} {Q : List V → Hp → Prop} (sr : SR g B env s σ H) (p : PostA g B W env s σ H ((a env s.h).bind fun x h1 => (b env h1).bind fun xs h2 => f x xs h2) Q) :
    tE g B W a σ H fun v H1 => tA g B W b σ H1 fun vs H2 => ∃ s2 x xs, SR g B env s2 σ H2 ∧ Evo s H s2 H2 ∧ VlRep g B env σ s2 H2 x v ∧ VlReps g B env σ s2 H2 xs vs ∧ PostA g B W env s2 σ H2 (f x xs s2.h) Q := by
  refine ⟨env, s, sr, ?_⟩
  cases e1 : a env s.h with
  | ok x h1 =>
    rw [e1] at p
    intro v H1 s1 q1 ev1 sr1 vr1
    refine ⟨env, s1, sr1, ?_⟩
    have p : PostA g B W env s σ H ((b env h1).bind fun xs h2 => f x xs h2) Q := p
    rw [q1]
    cases e2 : b env h1 with
    | ok xs h2 =>
      rw [e2] at p
      intro vs H2 s2 q2 ev2 sr2 vr2
      refine ⟨s2, x, xs, sr2, ev1.trans ev2, vr1.evo ev2, vr2, ?_⟩
      rw [q2]
      exact PostA.later (ev1.trans ev2) p
    | exc x h =>
      rw [e2] at p
      exact PostX.later ev1 p
    | stuck =>
      rw [e2] at p
      exact p
  | exc x h =>
    rw [e1] at p
    exact p
  | stuck =>
    rw [e1] at p
    exact p
theorem bindA {a : MA} {k : List Vl → Hc → R Vl} {Q : VK} (sr : SR g B env s σ H) (p : PostE g B W env s σ H ((a env s.h).bind k) Q) :
    tA g B W a σ H fun vs H1 => ∃ s1 xs, SR g B env s1 σ H1 ∧ Evo s H s1 H1 ∧ VlReps g B env σ s1 H1 xs vs ∧ PostE g B W env s1 σ H1 (k xs s1.h) Q := by
  refine ⟨env, s, sr, ?_⟩
  cases e : a env s.h with
  | ok x h1 =>
    rw [e] at p
    intro v H1 s1 e1 ev sr1 vr
    refine ⟨s1, x, sr1, ev, vr, ?_⟩
    rw [e1]
    exact PostE.later ev p
  | exc x h1 =>
    rw [e] at p
    exact p
  | stuck =>
    rw [e] at p
    exact p
/-- a result that changes nothing -/
theorem PostE.pure {x : Vl} {v : V} {Q : VK} (sr : SR g B env s σ H) (p : PostE g B W env s σ H (.ok x s.h) Q) (r : VlRep g B env σ s H x v) : Q v H := p v H s rfl (Evo.refl s H) sr r
theorem PostB.pure {b : Bool} {Q : Bool → Hp → Prop} (sr : SR g B env s σ H) (p : PostB g B W env s σ H (.ok b s.h) Q) : Q b H := p H s rfl (Evo.refl s H) sr
/-- a new object that is tracked nowhere -/
theorem SR.new {p : Addr} {o : HO} (sr : SR g B env s σ H) (hp : H p = none) : SR g B env s σ (upd H p o) ∧ Evo s H s (upd H p o) := by
  have ne : ∀ {a : Addr} {u : HO}, H a = some u → a ≠ p := fun h => ne_of_none h hp
  have ev : Evo s H s (upd H p o) := ⟨fun _ _ h => h, fun _ _ h => h, fun a u h n => ⟨by rw [upd_ne (ne h)]; exact h, fun z _ => z, n⟩, Nat.le_refl _, fun _ _ h => h⟩
  refine ⟨⟨⟨fun a u h => ?_, sr.good.inj, fun n a h => ?_, fun n c h => ?_, sr.good.zed.keep rfl rfl (fun _ _ h => h) fun n a o _ h => by rw [upd_ne (ne h)]; exact h⟩, sr.evo.trans ev, sr.len, fun i sl h => ?_, sr.sep⟩, ev⟩
  · have z := sr.good.fle a u h
    rw [upd_ne (ne z)]
    exact z
  · obtain ⟨h1, h2, u, h3⟩ := sr.good.dom n a h
    exact ⟨h1, h2, u, by rw [upd_ne (ne h3)]; exact h3⟩
  · obtain ⟨a, h1, h2⟩ := sr.good.cell n c h
    refine ⟨a, h1, ?_⟩
    exact h2.mv (fun o h3 => by rw [upd_ne (ne h3)]; exact h3) (fun _ _ h => h) fun _ _ h => h
  · obtain ⟨v, h1, h2⟩ := sr.slot i sl h
    exact ⟨v, h1, h2.evo ev⟩
theorem SR.own_new {p : Addr} (sr : SR g B env s σ H) (hp : H p = none) : OwnA B s p := by
  refine ⟨?_, fun n h => ?_, ?_⟩
  · cases e : s.F p with
    | none => rfl
    | some o =>
      have z := sr.good.fle p o e
      rw [hp] at z
      cases z
  · obtain ⟨_, _, o, h3⟩ := sr.good.dom n p h
    rw [hp] at h3
    cases h3
  · cases e : B.H p with
    | none => rfl
    | some o =>
      by_cases hn : ∀ n, B.s.al n ≠ some p
      · have z := (sr.evo.oth p o e hn).1
        rw [hp] at z
        cases z
      · have hn2 : ∃ n, B.s.al n = some p := Classical.byContradiction fun h => hn fun n z => h ⟨n, z⟩
        obtain ⟨n, h⟩ := hn2
        obtain ⟨_, _, o, h3⟩ := sr.good.dom n p (sr.evo.al n p h)
        rw [hp] at h3
        cases h3
theorem SlRep.there {sl : Sl} {v : V} (h : SlRep g B s H sl v) (o : sl.own = true) : ∃ a u, v = .ref a ∧ H a = some u := by
  cases sl with
  | d x => cases o
  | ol xs => obtain ⟨a, vs, h1, h2, _⟩ := h; exact ⟨a, _, h1, h2⟩
  | oi c fs => obtain ⟨a, dx, vs, h1, h2, _⟩ := h; exact ⟨a, _, h1, h2⟩
  | xc c fs => cases o
theorem SR.notOwn_new {p : Addr} (sr : SR g B env s σ H) (hp : H p = none) : NotOwn env σ p := fun i sl h1 h2 h3 => by
  obtain ⟨v, e1, e2⟩ := sr.slot i sl h1
  obtain ⟨a, u, rfl, h4⟩ := e2.there h2
  rw [h3] at e1
  cases e1
  rw [hp] at h4
  cases h4
/-- freeze: an owned address becomes part of what never changes -/
def Sta.frz (s : Sta) (a : Addr) (o : HO) : Sta := { s with F := upd s.F a o }
theorem evo_frz {a : Addr} {o : HO} (hf : s.F a = none) (hn : ∀ n, s.al n ≠ some a) (hb : B.H a = none) (e : Evo B.s B.H s H) : Evo B.s B.H (s.frz a o) H :=
  ⟨fun b u h => by
    have z := e.f b u h
    have ne : b ≠ a := fun q => by rw [q, hf] at z; cases z
    show upd s.F a o b = some u
    rw [upd_ne ne]; exact z, e.al, fun b u h n => by
    obtain ⟨h1, h2, h3⟩ := e.oth b u h n
    refine ⟨h1, fun z t => ?_, h3⟩
    have ne : b ≠ a := fun q => by rw [q, hb] at h; cases h
    show upd s.F a o b = none
    rw [upd_ne ne]; exact h2 z t, e.len, e.z⟩
end
end Vi

set_option Elab.async false
set_option linter.all false
set_option maxRecDepth 100000
set_option maxHeartbeats 2000000
namespace Vi
open PySem L2

theorem pe_imp {X : Cx} {e : Expr} {t t' : TE} (h : PE X e t) (i : ∀ σ H Q, t' σ H Q → t σ H Q) : PE X e t' := ⟨fun pins s σ H Q I q => h.run pins s σ H Q I (i σ H Q q)⟩
theorem pt_imp {X : Cx} {e : Expr} {t t' : TT} (h : PT X e t) (i : ∀ σ H Q, t' σ H Q → t σ H Q) : PT X e t' := ⟨fun pins s σ H Q I q => h.run pins s σ H Q I (i σ H Q q)⟩
theorem pw_imp {X : Cx} {e : Expr} {t t' : TT} (h : PW X e t) (i : ∀ σ H Q, t' σ H Q → t σ H Q) : PW X e t' := ⟨fun wh pins s σ H Q I q => h.run wh pins s σ H Q I (i σ H Q q)⟩
theorem pa_imp {X : Cx} {e : List Expr} {t t' : TA} (h : PA X e t) (i : ∀ σ H Q, t' σ H Q → t σ H Q) : PA X e t' := ⟨fun pos pins s σ H Q I q => h.run pos pins s σ H Q I (i σ H Q q)⟩

/-! ### mirrors -/
def mVar (i : Nat) : ME := fun env h => match env[i]? with
  | some (some (.d x)) => .ok (.d x) h
  | some (some (.ol xs)) => .ok (.bl xs) h
  | some (some (.oi c fs)) => .ok (.bi c fs) h
  | _ => .stuck
@[simp] def mC (d : D) : ME := fun _ h => .ok (.d d) h
@[simp] def m1 (f : Vl → Hc → R Vl) (a : ME) : ME := fun env h => (a env h).bind f
@[simp] def m2 (f : Vl → Vl → Hc → R Vl) (a b : ME) : ME := fun env h => (a env h).bind fun x h1 => (b env h1).bind fun y h2 => f x y h2
@[simp] def m2b (f : Vl → Vl → Hc → R Bool) (a b : ME) : MB := fun env h => (a env h).bind fun x h1 => (b env h1).bind fun y h2 => f x y h2
@[simp] def maNil : MA := fun _ h => .ok [] h
@[simp] def maCons (a : ME) (b : MA) : MA := fun env h => (a env h).bind fun x h1 => (b env h1).bind fun xs h2 => .ok (x :: xs) h2
@[simp] def mA1 (f : List Vl → Hc → R Vl) (a : MA) : ME := fun env h => (a env h).bind f
/-- all are data -/
@[simp] def datas : List Vl → Option (List D)
  | [] => some []
  | .d x :: r => (datas r).map (x :: ·)
  | _ :: _ => none
def Cell.bare : Cell → Cell
  | .frz c => c.bare
  | c => c
theorem CellRep.bare {g : Gi} {s : Sta} {H : Hp} {a : Addr} : ∀ {c : Cell}, CellRep g s H a c → CellRep g s H a c.bare
  | .lst _, h => h
  | .ins _ _, h => h
  | .dK _, h => h
  | .dT _, h => h
  | .frz c, h => CellRep.bare (c := c) h
def lst? (h : Hc) : Vl → Option (List D)
  | .d (.lst xs) => some xs
  | .d (.kl xs) => some xs
  | .tl xs => some xs
  | .bl xs => some xs
  | .d (.ref n) => (match h[n]?.map Cell.bare with
    | some (.lst xs) => some xs
    | _ => none)
  | _ => none
/-- a list that was made by the program -/
def mlst? (h : Hc) : Vl → Option (List D)
  | .d (.lst xs) => some xs
  | .tl xs => some xs
  | .bl xs => some xs
  | .d (.ref n) => (match h[n]?.map Cell.bare with
    | some (.lst xs) => some xs
    | _ => none)
  | _ => none
def tup? : Vl → Option (List D)
  | .d (.tup xs) => some xs
  | _ => none

section
variable {g : Gi} {B : Bg} {W : WXv} {env : Env} {s s' : Sta} {σ : L2.St} {H H' : Hp}
theorem Good.sqL {a : Addr} {vs : List V} (gd : Good g s H) (h : SqL g.K s.F a vs) : SqL g.K H a vs := sqL_mono gd.fle h
theorem Good.sqT {a : Addr} {vs : List V} (gd : Good g s H) (h : SqT g.K s.F a vs) : SqT g.K H a vs := sqT_mono gd.fle h
theorem ref_lst {n : Nat} {v : V} {xs : List D} (gd : Good g s H) (h : Rep g s.F s.al (.ref n) v) (e : (match s.h[n]?.map Cell.bare with
    | some (.lst xs) => some xs
    | _ => none) = some xs) : ∃ a vs, v = .ref a ∧ H a = some (.lst vs) ∧ Reps g s.F s.al xs vs := by
  obtain ⟨a, rfl, hal⟩ := h
  cases e1 : s.h[n]? with
  | none =>
    rw [e1] at e
    cases e
  | some c =>
    rw [e1] at e
    obtain ⟨b, g1, g2⟩ := gd.cell n c e1
    rw [hal] at g1
    cases g1
    have g3 := g2.bare
    have e : (match some c.bare with
      | some (.lst xs) => some xs
      | _ => none) = some xs := e
    cases ec : c.bare with
    | lst ys =>
      rw [ec] at e g3
      cases e
      obtain ⟨vs, h1, h2⟩ := g3
      exact ⟨a, vs, rfl, h1, h2⟩
    | _ =>
      rw [ec] at e
      cases e
theorem VlRep.lst {x : Vl} {v : V} {xs : List D} (gd : Good g s H) (h : VlRep g B env σ s H x v) (e : lst? s.h x = some xs) : ∃ a vs, v = .ref a ∧ SqL g.K H a vs ∧ Reps g s.F s.al xs vs := by
  cases x with
  | d x =>
    cases x with
    | lst ys => cases e; obtain ⟨a, vs, h1, h2, h3⟩ := h; exact ⟨a, vs, h1, .of (gd.fle _ _ h2), h3⟩
    | kl ys => cases e; obtain ⟨a, vs, h1, h2, h3⟩ := h; exact ⟨a, vs, h1, gd.sqL h2, h3⟩
    | ref n => obtain ⟨a, vs, h1, h2, h3⟩ := ref_lst gd h e; exact ⟨a, vs, h1, .of h2, h3⟩
    | _ => cases e
  | tl ys => cases e; obtain ⟨a, vs, h1, h2, _, _, h3⟩ := h; exact ⟨a, vs, h1, .of h2, h3⟩
  | bl ys => cases e; obtain ⟨a, vs, h1, h2, _, h3⟩ := h; exact ⟨a, vs, h1, .of h2, h3⟩
  | bi c fs => cases e
theorem VlRep.mlst {x : Vl} {v : V} {xs : List D} (gd : Good g s H) (h : VlRep g B env σ s H x v) (e : mlst? s.h x = some xs) : ∃ a vs, v = .ref a ∧ H a = some (.lst vs) ∧ Reps g s.F s.al xs vs := by
  cases x with
  | d x =>
    cases x with
    | lst ys => cases e; obtain ⟨a, vs, h1, h2, h3⟩ := h; exact ⟨a, vs, h1, gd.fle _ _ h2, h3⟩
    | ref n => exact ref_lst gd h e
    | _ => cases e
  | tl ys => cases e; obtain ⟨a, vs, h1, h2, _, _, h3⟩ := h; exact ⟨a, vs, h1, h2, h3⟩
  | bl ys => cases e; obtain ⟨a, vs, h1, h2, _, h3⟩ := h; exact ⟨a, vs, h1, h2, h3⟩
  | bi c fs => cases e
theorem VlRep.tup {x : Vl} {v : V} {xs : List D} (gd : Good g s H) (h : VlRep g B env σ s H x v) (e : tup? x = some xs) : ∃ a vs, v = .ref a ∧ SqT g.K H a vs ∧ Reps g s.F s.al xs vs := by
  cases x with
  | d x =>
    cases x with
    | tup ys => cases e; obtain ⟨a, vs, h1, h2, h3⟩ := h; exact ⟨a, vs, h1, gd.sqT h2.sq, h3⟩
    | _ => cases e
  | tl ys => cases e
  | bl ys => cases e
  | bi c fs => cases e
theorem VlReps.datas : ∀ {xs : List Vl} {vs : List V} {ds : List D}, VlReps g B env σ s H xs vs → datas xs = some ds → Reps g s.F s.al ds vs
  | [], _, _, .nil, e => by cases e; rfl
  | .d x :: r, _, ds, .cons h t, e => by
    have e1 : (Vi.datas r).map (x :: ·) = some ds := e
    cases q : Vi.datas r with
    | none => rw [q] at e1; cases e1
    | some l =>
      rw [q] at e1
      cases e1
      exact ⟨_, _, rfl, h, t.datas q⟩
  | .tl _ :: _, _, _, _, e => by cases e
  | .bl _ :: _, _, _, _, e => by cases e
  | .bi _ _ :: _, _, _, _, e => by cases e
theorem Reps.length {F : Hp} {al : Nat → Option Addr} : ∀ {ds : List D} {vs : List V}, Reps g F al ds vs → vs.length = ds.length
  | [], _, h => by rw [h]; rfl
  | _ :: _, _, ⟨v, r, h1, _, h3⟩ => by rw [h1, List.length_cons, List.length_cons, h3.length]
theorem Reps.get {F : Hp} {al : Nat → Option Addr} : ∀ {ds : List D} {vs : List V} {i : Nat} {d : D}, Reps g F al ds vs → ds[i]? = some d → ∃ v, vs[i]? = some v ∧ Rep g F al d v
  | _ :: _, _, 0, _, ⟨v, r, h1, h2, h3⟩, e => by
    cases e
    exact ⟨v, by rw [h1]; rfl, h2⟩
  | _ :: _, _, i + 1, _, ⟨v, r, h1, h2, h3⟩, e => by
    obtain ⟨w, e1, e2⟩ := h3.get (i := i) (by simpa using e)
    exact ⟨w, by rw [h1]; simpa using e1, e2⟩
theorem Reps.append {F : Hp} {al : Nat → Option Addr} : ∀ {ds es : List D} {vs ws : List V}, Reps g F al ds vs → Reps g F al es ws → Reps g F al (ds ++ es) (vs ++ ws)
  | [], _, _, _, h, k => by rw [h]; exact k
  | _ :: _, _, _, _, ⟨v, r, h1, h2, h3⟩, k => ⟨v, r ++ _, by rw [h1]; rfl, h2, h3.append k⟩
theorem Reps.drop {F : Hp} {al : Nat → Option Addr} : ∀ {ds : List D} {vs : List V} (n : Nat), Reps g F al ds vs → Reps g F al (ds.drop n) (vs.drop n)
  | _, _, 0, h => h
  | [], _, n + 1, h => by rw [h]; rfl
  | _ :: _, _, n + 1, ⟨v, r, h1, h2, h3⟩ => by rw [h1]; exact h3.drop n
theorem Reps.take {F : Hp} {al : Nat → Option Addr} : ∀ {ds : List D} {vs : List V} (n : Nat), Reps g F al ds vs → Reps g F al (ds.take n) (vs.take n)
  | _, _, 0, h => rfl
  | [], _, n + 1, h => by rw [h]; rfl
  | _ :: _, _, n + 1, ⟨v, r, h1, h2, h3⟩ => ⟨v, r.take n, by rw [h1]; rfl, h2, h3.take n⟩
theorem Reps.set {F : Hp} {al : Nat → Option Addr} {d : D} {v : V} (hd : Rep g F al d v) : ∀ {ds : List D} {vs : List V} (n : Nat), Reps g F al ds vs → Reps g F al (ds.set n d) (vs.set n v)
  | [], _, _, h => by rw [h]; rfl
  | _ :: _, _, 0, ⟨w, r, h1, h2, h3⟩ => ⟨v, r, by rw [h1]; rfl, hd, h3⟩
  | _ :: _, _, n + 1, ⟨w, r, h1, h2, h3⟩ => ⟨w, r.set n v, by rw [h1]; rfl, h2, h3.set hd n⟩
theorem Reps.cons {F : Hp} {al : Nat → Option Addr} {d : D} {v : V} {ds : List D} {vs : List V} (h : Rep g F al d v) (k : Reps g F al ds vs) : Reps g F al (d :: ds) (v :: vs) := ⟨v, vs, rfl, h, k⟩
theorem Reps.nil {F : Hp} {al : Nat → Option Addr} : Reps g F al [] [] := rfl

/-! ### a new object -/
/-- a new thing that never changes -/
theorem SR.newF {p : Addr} {o : HO} (sr : SR g B env s σ H) (hp : H p = none) :
    SR g B env (s.frz p o) σ (upd H p o) ∧ Evo s H (s.frz p o) (upd H p o) := by
  have ow := sr.own_new hp
  have ne : ∀ {a : Addr} {u : HO}, H a = some u → a ≠ p := fun h => ne_of_none h hp
  have neF : ∀ {a : Addr} {u : HO}, s.F a = some u → a ≠ p := fun h => ne (sr.good.fle _ _ h)
  have ev : Evo s H (s.frz p o) (upd H p o) := ⟨fun a u h => by
      show upd s.F p o a = some u
      rw [upd_ne (neF h)]; exact h, fun _ _ h => h, fun a u h n => ⟨by rw [upd_ne (ne h)]; exact h, fun z _ => by
      show upd s.F p o a = none
      rw [upd_ne (ne h)]; exact z, n⟩, Nat.le_refl _, fun _ _ h => h⟩
  refine ⟨⟨⟨fun a u h => ?_, sr.good.inj, fun n a h => ?_, fun n c h => ?_, sr.good.zed.keep rfl rfl (fun _ _ h => h) fun n a o _ h => by rw [upd_ne (ne h)]; exact h⟩, sr.evo.trans ev, sr.len, fun i sl h => ?_, sr.sep⟩, ev⟩
  · have h : upd s.F p o a = some u := h
    by_cases q : a = p
    · subst q
      rw [upd_same] at h ⊢
      exact h
    · rw [upd_ne q] at h ⊢
      exact sr.good.fle a u h
  · obtain ⟨h1, h2, u, h3⟩ := sr.good.dom n a h
    refine ⟨h1, ?_, u, by rw [upd_ne (ne h3)]; exact h3⟩
    show upd s.F p o a = none
    rw [upd_ne (ne h3)]; exact h2
  · obtain ⟨a, h1, h2⟩ := sr.good.cell n c h
    refine ⟨a, h1, ?_⟩
    exact h2.mv (fun o h3 => by rw [upd_ne (ne h3)]; exact h3) ev.f ev.al
  · obtain ⟨v, h1, h2⟩ := sr.slot i sl h
    exact ⟨v, h1, h2.evo ev⟩
theorem PostE.newT {ds : List D} {vs : List V} {p : Addr} {Q : VK} (sr : SR g B env s σ H) (h : PostE g B W env s σ H (.ok (.d (.tup ds)) s.h) Q) (r : Reps g s.F s.al ds vs) (hp : H p = none) : Q (.ref p) (upd H p (.tup vs)) := by
  obtain ⟨sr1, ev⟩ := sr.newF (o := .tup vs) hp
  exact h _ _ (s.frz p (.tup vs)) rfl ev sr1 ⟨p, vs, rfl, .inl upd_same, ev.reps r⟩
theorem PostE.newL {ds : List D} {vs : List V} {p : Addr} {Q : VK} (sr : SR g B env s σ H) (h : PostE g B W env s σ H (.ok (.d (.lst ds)) s.h) Q) (r : Reps g s.F s.al ds vs) (hp : H p = none) : Q (.ref p) (upd H p (.lst vs)) := by
  obtain ⟨sr1, ev⟩ := sr.newF (o := .lst vs) hp
  exact h _ _ (s.frz p (.lst vs)) rfl ev sr1 ⟨p, vs, rfl, upd_same, ev.reps r⟩
theorem PostE.newO {ds : List D} {vs : List V} {p : Addr} {Q : VK} (sr : SR g B env s σ H) (h : PostE g B W env s σ H (.ok (.tl ds) s.h) Q) (r : Reps g s.F s.al ds vs) (hp : H p = none) : Q (.ref p) (upd H p (.lst vs)) := by
  obtain ⟨sr1, ev⟩ := sr.new (o := .lst vs) hp
  exact h _ _ _ rfl ev sr1 ⟨p, vs, rfl, upd_same, sr.own_new hp, sr.notOwn_new hp, ev.reps r⟩
/-- either: owned or never changed -/
@[simp] def Vl.ofL (o : Bool) (ds : List D) : Vl := if o then .tl ds else .d (.lst ds)
theorem PostE.newLO {o : Bool} {ds : List D} {vs : List V} {p : Addr} {Q : VK} (sr : SR g B env s σ H) (h : PostE g B W env s σ H (.ok (Vl.ofL o ds) s.h) Q) (r : Reps g s.F s.al ds vs) (hp : H p = none) : Q (.ref p) (upd H p (.lst vs)) := by
  cases o with
  | true => exact PostE.newO sr h r hp
  | false => exact PostE.newL sr h r hp
end

/-! ### rules: names, constants, displays -/
section
variable {X : Cx} {g : Gi} {B : Bg} {W : WXv} {pos : Pos}
theorem ve_var (i : Nat) {x : Str} (hN : X.N[i]? = some x := by rfl) (hv : Vis X.env.scope x := by first | exact Or.inl rfl | exact Or.inr (Or.inl rfl) | exact Or.inr (Or.inr rfl)) (hd : (x == ("__debug__" : Str)) = false := by decide)
    (hcd : (x == ("__classdict__" : Str)) = false := by decide) : PE X (.Name x pos) (tE g B W (mVar i)) := by
  refine pe_imp (pe_var hN hv hd hcd) fun σ H Q ⟨env, s, sr, p⟩ => ?_
  unfold mVar at p
  cases e : env[i]? with
  | none => rw [e] at p; exact p.elim
  | some o =>
    rw [e] at p
    cases o with
    | none => exact p.elim
    | some sl =>
      obtain ⟨v, h1, h2⟩ := sr.slot i sl e
      refine ⟨v, h1, ?_⟩
      cases sl with
      | d x => exact PostE.pure sr p h2
      | ol xs => exact PostE.pure sr p h2
      | oi c fs =>
        obtain ⟨a, dx, vs, e1, e2, e3, e4, _⟩ := h2
        exact PostE.pure sr p ⟨a, dx, vs, e1, e2, e3, e4⟩
      | xc c fs => exact p.elim
theorem ve_int {i j} : PE X (.Constant (.int i) j pos) (tE g B W (mC (.int i))) := pe_imp pe_int fun σ H Q ⟨env, s, sr, p⟩ => PostE.pure sr p rfl
theorem ve_bl {b j} : PE X (.Constant (.bool b) j pos) (tE g B W (mC (.bl b))) := pe_imp pe_bl fun σ H Q ⟨env, s, sr, p⟩ => PostE.pure sr p rfl
theorem ve_non {j} : PE X (.Constant .none j pos) (tE g B W (mC .non)) := pe_imp pe_non fun σ H Q ⟨env, s, sr, p⟩ => PostE.pure sr p rfl
theorem ve_str {x j} : PE X (.Constant (.str x) j pos) (tE g B W (mC (.str x))) := pe_imp pe_str fun σ H Q ⟨env, s, sr, p⟩ => PostE.pure sr p rfl
/-- a module's constant -/
structure GlobD (X : Cx) (g : Gi) (x : Str) (d : D) : Prop where
  ex : ∃ (v : V) (u : Value), X.mg x = some u ∧ RelV v u ∧ ∀ F al, Rep g F al d v
theorem ve_glob {x : Str} {d : D} (hg : Gl X x) (h : GlobD X g x d) (hd : (x == ("__debug__" : Str)) = false := by decide) : PE X (.Name x pos) (tE g B W (mC d)) := by
  obtain ⟨v, u, h1, h2, h3⟩ := h.ex
  exact pe_imp (pe_glob hg h1 h2 hd) fun σ H Q ⟨env, s, sr, p⟩ => PostE.pure sr p (h3 _ _)
theorem va_nil : PA X [] (tA g B W maNil) := pa_imp pa_nil fun σ H Q ⟨env, s, sr, p⟩ => p [] H s rfl (Evo.refl s H) sr .nil
theorem va_cons {e : Expr} {es : List Expr} {a : ME} {b : MA} (ha : PE X e (tE g B W a)) (hb : PA X es (tA g B W b)) (hs : starEach (e :: es) X.env = (false, eval e X.env) :: starEach es X.env := by rfl) : PA X (e :: es) (tA g B W (maCons a b)) := by
  refine pa_imp (pa_cons ha hb hs) fun σ H Q ⟨env, s, sr, p⟩ => ?_
  refine (bindAA (f := fun x xs h => .ok (x :: xs) h) (Q := Q) sr p).mono fun v H1 h1 => h1.mono fun vs H2 ⟨s2, x, xs, sr2, ev2, vr1, vr2, p2⟩ => ?_
  exact p2 _ H2 s2 rfl (Evo.refl _ _) sr2 (.cons vr1 vr2)
@[simp] def fTup (xs : List Vl) (h : Hc) : R Vl := match datas xs with
  | some ds => if ds.length ≤ 100000 then .ok (.d (.tup ds)) h else .stuck
  | none => .stuck
@[simp] def fLst (o : Bool) (xs : List Vl) (h : Hc) : R Vl := match datas xs with
  | some ds => if ds.length ≤ 100000 then .ok (Vl.ofL o ds) h else .stuck
  | none => .stuck
theorem size_of {n : Nat} (h : n ≤ 100000) : n ≤ sizeLine := Nat.le_trans h (by decide)
theorem ve_tup {es : List Expr} {a : MA} {x1} (h : PA X es (tA g B W a)) : PE X (.Tuple es x1 pos) (tE g B W (mA1 fTup a)) := by
  refine pe_imp (pe_tup h) fun σ H Q ⟨env, s, sr, p⟩ => ?_
  refine (bindA (Q := Q) sr p).mono fun vs H1 ⟨s2, ys, sr2, ev2, vr2, p2⟩ => ?_
  unfold fTup at p2
  cases e2 : datas ys with
  | none => rw [e2] at p2; exact p2.elim
  | some ds =>
    rw [e2] at p2
    by_cases hl : ds.length ≤ 100000
    · simp only [if_pos hl] at p2
      have rr := vr2.datas e2
      exact ⟨by rw [rr.length]; exact size_of hl, fun p hp => PostE.newT sr2 p2 rr hp⟩
    · simp only [if_neg hl] at p2
      exact p2.elim
theorem ve_lst (o : Bool) {es : List Expr} {a : MA} (h : PA X es (tA g B W a)) : PE X (.List es pos) (tE g B W (mA1 (fLst o) a)) := by
  refine pe_imp (pe_lst h) fun σ H Q ⟨env, s, sr, p⟩ => ?_
  refine (bindA (Q := Q) sr p).mono fun vs H1 ⟨s2, ys, sr2, ev2, vr2, p2⟩ => ?_
  unfold fLst at p2
  cases e2 : datas ys with
  | none => rw [e2] at p2; exact p2.elim
  | some ds =>
    rw [e2] at p2
    by_cases hl : ds.length ≤ 100000
    · simp only [if_pos hl] at p2
      have rr := vr2.datas e2
      exact ⟨by rw [rr.length]; exact size_of hl, fun p hp => PostE.newLO sr2 p2 rr hp⟩
    · simp only [if_neg hl] at p2
      exact p2.elim
end
end Vi

set_option Elab.async false
set_option linter.all false
set_option maxRecDepth 100000
set_option maxHeartbeats 2000000
namespace Vi
open PySem L2

section
variable {g : Gi} {B : Bg} {W : WXv} {env : Env} {s s' : Sta} {σ : L2.St} {H H' : Hp}
theorem bind2E {a b : ME} {f : Vl → Vl → Hc → R Vl} {Q : VK} (sr : SR g B env s σ H) (p : PostE g B W env s σ H (m2 f a b env s.h) Q) :
    tE g B W a σ H fun v H1 => tE g B W b σ H1 fun w H2 => ∃ s2 x y, SR g B env s2 σ H2 ∧ Evo s H s2 H2 ∧ VlRep g B env σ s2 H2 x v ∧ VlRep g B env σ s2 H2 y w ∧ PostE g B W env s2 σ H2 (f x y s2.h) Q := by
  refine (bindE (k := fun x h1 => (b env h1).bind fun y h2 => f x y h2) sr p).mono fun v H1 ⟨s1, x, sr1, e1, r1, p1⟩ => ?_
  refine (bindE (k := fun y h2 => f x y h2) sr1 p1).mono fun w H2 ⟨s2, y, sr2, e2, r2, p2⟩ => ?_
  exact ⟨s2, x, y, sr2, e1.trans e2, r1.evo e2, r2, p2⟩
theorem bind2B {a b : ME} {f : Vl → Vl → Hc → R Bool} {Q : Bool → Hp → Prop} (sr : SR g B env s σ H) (p : PostB g B W env s σ H (m2b f a b env s.h) Q) :
    tE g B W a σ H fun v H1 => tE g B W b σ H1 fun w H2 => ∃ s2 x y, SR g B env s2 σ H2 ∧ Evo s H s2 H2 ∧ VlRep g B env σ s2 H2 x v ∧ VlRep g B env σ s2 H2 y w ∧ PostB g B W env s2 σ H2 (f x y s2.h) Q := by
  refine (bindET (k := fun x h1 => (b env h1).bind fun y h2 => f x y h2) sr p).mono fun v H1 ⟨s1, x, sr1, e1, r1, p1⟩ => ?_
  refine (bindET (k := fun y h2 => f x y h2) sr1 p1).mono fun w H2 ⟨s2, y, sr2, e2, r2, p2⟩ => ?_
  exact ⟨s2, x, y, sr2, e1.trans e2, r1.evo e2, r2, p2⟩
end
/-- what an operation on values must keep -/
def OpV (X : Cx) (g : Gi) (f : Value → Value → Sem Value) (F : Vl → Vl → Hc → R Vl) : Prop :=
  ∃ r : R2, OpR X f r ∧ ∀ (B : Bg) (W : WXv) (env : Env) (s : Sta) (σ : L2.St) (H : Hp) (x y : Vl) (v w : V) (Q : VK), SR g B env s σ H → VlRep g B env σ s H x v → VlRep g B env σ s H y w → PostE g B W env s σ H (F x y s.h) Q → r v w H Q
section
variable {X : Cx} {g : Gi} {B : Bg} {W : WXv} {pos : Pos} {a b : Expr} {ma mb : ME}
theorem ve_bin {op : Operator} {F : Vl → Vl → Hc → R Vl} (ho : OpV X g (binaryOp op) F) (ha : PE X a (tE g B W ma)) (hb : PE X b (tE g B W mb)) : PE X (.BinOp a op b pos) (tE g B W (m2 F ma mb)) := by
  obtain ⟨r, h1, h2⟩ := ho
  refine pe_imp (pe_op h1 ha hb) fun σ H Q ⟨env, s, sr, p⟩ => ?_
  refine (bind2E (Q := Q) sr p).mono fun v H1 q => q.mono fun w H2 ⟨s2, x, y, sr2, _, r1, r2, p2⟩ => ?_
  exact h2 B W env s2 σ H2 x y v w Q sr2 r1 r2 p2
theorem ve_cmp {op : CmpOp} {F : Vl → Vl → Hc → R Vl} (ho : OpV X g (compareOp op) F) (ha : PE X a (tE g B W ma)) (hb : PE X b (tE g B W mb)) (hm : behindInMarks op b = false) : PE X (.Compare a [op] [b] pos) (tE g B W (m2 F ma mb)) := by
  obtain ⟨r, h1, h2⟩ := ho
  refine pe_imp (pe_cmpR h1 ha hb hm) fun σ H Q ⟨env, s, sr, p⟩ => ?_
  refine (bind2E (Q := Q) sr p).mono fun v H1 q => q.mono fun w H2 ⟨s2, x, y, sr2, _, r1, r2, p2⟩ => ?_
  exact h2 B W env s2 σ H2 x y v w Q sr2 r1 r2 p2
/-- a value's truth, where it is a bool -/
@[simp] def asB (m : ME) : MB := fun env h => (m env h).bind fun x h1 => match x with
  | .d (.bl b) => .ok b h1
  | _ => .stuck
theorem tE_asB {m : ME} {σ : L2.St} {H : Hp} {Q : Bool → Hp → Prop} (h : tT g B W (asB m) σ H Q) : tE g B W m σ H fun v H1 => ∃ k, v = .bl k ∧ Q k H1 := by
  obtain ⟨env, s, sr, p⟩ := h
  refine (bindET sr p).mono fun v H1 ⟨s1, x, sr1, _, r1, p1⟩ => ?_
  cases x with
  | d x =>
    cases x with
    | bl b => exact ⟨b, r1, PostB.pure sr1 p1⟩
    | _ => exact p1.elim
  | _ => exact p1.elim
theorem vt_cmp {op : CmpOp} {F : Vl → Vl → Hc → R Vl} (ho : OpV X g (compareOp op) F) (ha : PE X a (tE g B W ma)) (hb : PE X b (tE g B W mb)) (hm : behindInMarks op b = false) : PT X (.Compare a [op] [b] pos) (tT g B W (asB (m2 F ma mb))) := by
  obtain ⟨r, h1, h2⟩ := ho
  refine pt_imp (pt_cmpR h1 ha hb hm) fun σ H Q h => ?_
  obtain ⟨env, s, sr, p⟩ := tE_asB h
  refine (bind2E sr p).mono fun v H1 q => q.mono fun w H2 ⟨s2, x, y, sr2, _, r1, r2, p2⟩ => ?_
  exact h2 B W env s2 σ H2 x y v w _ sr2 r1 r2 p2
/-- any expression that gives a bool, as a test -/
theorem vt_val {m : ME} (h : PE X a (tE g B W m)) (he : ∀ whole, isTrue a X.env whole = (do let v ← whole; standAt a.pos; holding [v] (truthy v)) := by intro _; rfl) : PT X a (tT g B W (asB m)) :=
  pt_imp (pt_val h he) fun σ H Q q => tE_asB q

/-! ### ints -/
@[simp] def fI (f : Int → Int → D) (x y : Vl) (h : Hc) : R Vl := match x, y with
  | .d (.int i), .d (.int j) => .ok (.d (f i j)) h
  | _, _ => .stuck
@[simp] def fIc (c : Int → Int → Bool) (f : Int → Int → D) (x y : Vl) (h : Hc) : R Vl := match x, y with
  | .d (.int i), .d (.int j) => if c i j then .ok (.d (f i j)) h else .stuck
  | _, _ => .stuck
theorem opv_I {f : Value → Value → Sem Value} {F : Int → Int → D} {G : Int → Int → V} (h : OpR X f (rI0 G)) (e : ∀ g F' al i j, Rep g F' al (F i j) (G i j)) : OpV X g f (fI F) := by
  refine ⟨_, h, fun B W env s σ H x y v w Q sr r1 r2 p => ?_⟩
  unfold fI at p
  split at p
  · exact ⟨_, _, r1, r2, PostE.pure sr p (e _ _ _ _ _)⟩
  · exact p.elim
theorem opv_Ic {f : Value → Value → Sem Value} {C : Int → Int → Prop} {c : Int → Int → Bool} {F : Int → Int → D} {G : Int → Int → V} (h : OpR X f (rI C G)) (hc : ∀ i j, c i j = true → C i j) (e : ∀ g F' al i j, Rep g F' al (F i j) (G i j)) : OpV X g f (fIc c F) := by
  refine ⟨_, h, fun B W env s σ H x y v w Q sr r1 r2 p => ?_⟩
  unfold fIc at p
  split at p
  · split at p
    · next hcc => exact ⟨_, _, r1, r2, hc _ _ hcc, PostE.pure sr p (e _ _ _ _ _)⟩
    · exact p.elim
  · exact p.elim
def cMul (i j : Int) : Bool := decide (i.natAbs.log2 + j.natAbs.log2 < 1000000)
def cDiv (_ j : Int) : Bool := decide (j ≠ 0) && decide (j.natAbs.log2 < 9000)
def cPow (i j : Int) : Bool := decide (0 ≤ j) && (decide (j ≤ 1000000) && decide (i.natAbs < 2 ^ 64))
abbrev fSub : Vl → Vl → Hc → R Vl := fI fun i j => .int (i - j)
abbrev fMul : Vl → Vl → Hc → R Vl := fIc cMul fun i j => .int (i * j)
abbrev fDiv : Vl → Vl → Hc → R Vl := fIc cDiv fun i j => .int (i.fdiv j)
abbrev fMod : Vl → Vl → Hc → R Vl := fIc (fun _ j => decide (0 < j)) fun i j => .int (i % j)
abbrev fPow : Vl → Vl → Hc → R Vl := fIc cPow fun i j => .int (i ^ j.toNat)
abbrev fLt : Vl → Vl → Hc → R Vl := fI fun i j => .bl (decide (i < j))
abbrev fLe : Vl → Vl → Hc → R Vl := fI fun i j => .bl (decide (i ≤ j))
abbrev fGt : Vl → Vl → Hc → R Vl := fI fun i j => .bl (decide (j < i))
abbrev fGe : Vl → Vl → Hc → R Vl := fI fun i j => .bl (decide (j ≤ i))
theorem o_sub : OpV X g (binaryOp .Sub) fSub := opv_I op_sub fun _ _ _ _ _ => rfl
theorem o_mul : OpV X g (binaryOp .Mult) fMul := opv_Ic op_mulW (fun i j h => of_decide_eq_true (p := i.natAbs.log2 + j.natAbs.log2 < 1000000) h) fun _ _ _ _ _ => rfl
theorem op_fdivA : OpR X (binaryOp .FloorDiv) (rI (fun _ j => j ≠ 0 ∧ j.natAbs.log2 < 9000) fun i j => .int (i.fdiv j)) := opI fun i j _ _ _ _ _ hc q =>
  PyProof.Rows.floordiv_int hc.1 q (.inl (PyProof.noPylong_of_log2 hc.2))
theorem o_div : OpV X g (binaryOp .FloorDiv) fDiv := opv_Ic op_fdivA (fun _ _ h => by
  obtain ⟨h1, h2⟩ := Bool.and_eq_true_iff.mp h
  exact ⟨of_decide_eq_true h1, of_decide_eq_true h2⟩) fun _ _ _ _ _ => rfl
theorem o_mod : OpV X g (binaryOp .Mod) fMod := opv_Ic op_mod (fun _ _ h => of_decide_eq_true h) fun _ _ _ _ _ => rfl
theorem o_pow : OpV X g (binaryOp .Pow) fPow := opv_Ic op_pow (fun _ _ h => by
  obtain ⟨h1, h2⟩ := Bool.and_eq_true_iff.mp h
  obtain ⟨h2, h3⟩ := Bool.and_eq_true_iff.mp h2
  exact ⟨of_decide_eq_true h1, of_decide_eq_true h2, of_decide_eq_true h3⟩) fun _ _ _ _ _ => rfl
theorem o_lt : OpV X g (compareOp .Lt) fLt := opv_I op_lt fun _ _ _ _ _ => rfl
theorem o_le : OpV X g (compareOp .LtE) fLe := opv_I op_le fun _ _ _ _ _ => rfl
theorem o_gt : OpV X g (compareOp .Gt) fGt := opv_I op_gt fun _ _ _ _ _ => rfl
theorem o_ge : OpV X g (compareOp .GtE) fGe := opv_I op_ge fun _ _ _ _ _ => rfl
theorem tup?_eq {x : Vl} {xs : List D} (h : tup? x = some xs) : x = .d (.tup xs) := by
  cases x with
  | d x =>
    cases x with
    | tup ys => cases h; rfl
    | _ => cases h
  | _ => cases h
/-- + of ints, texts, lists, tuples; o: a new list is owned -/
def fAdd (o : Bool) (x y : Vl) (h : Hc) : R Vl := match x, y with
  | .d (.int i), .d (.int j) => .ok (.d (.int (i + j))) h
  | .d (.str a), .d (.str b) => if a.length + b.length ≤ 100000 then .ok (.d (.str (a ++ b))) h else .stuck
  | x, y => match mlst? h x, mlst? h y with
    | some xs, some ys => if xs.length + ys.length ≤ 100000 then .ok (Vl.ofL o (xs ++ ys)) h else .stuck
    | _, _ => match tup? x, tup? y with
      | some xs, some ys => if xs.length + ys.length ≤ 100000 then .ok (.d (.tup (xs ++ ys))) h else .stuck
      | _, _ => .stuck
theorem o_add (o : Bool) (hK : g.K = X.K) : OpV X g (binaryOp .Add) (fAdd o) := by
  refine ⟨_, OpR.or op_add (OpR.or op_add_str (OpR.or op_cat op_catA)), fun B W env s σ H x y v w Q sr r1 r2 p => ?_⟩
  unfold fAdd at p
  split at p
  · exact .inl ⟨_, _, r1, r2, PostE.pure sr p rfl⟩
  · split at p
    · next hl => exact .inr (.inl ⟨_, _, r1, r2, size_of hl, PostE.pure sr p rfl⟩)
    · exact p.elim
  · split at p
    · next xs ys e1 e2 =>
      split at p
      · next hl =>
        obtain ⟨a1, vs1, rfl, h1, q1⟩ := r1.mlst sr.good e1
        obtain ⟨a2, vs2, rfl, h2, q2⟩ := r2.mlst sr.good e2
        exact .inr (.inr (.inl ⟨a1, a2, vs1, vs2, rfl, rfl, h1, h2, by rw [q1.length, q2.length]; exact size_of hl, fun p' hp => PostE.newLO sr p (q1.append q2) hp⟩))
      · exact p.elim
    · split at p
      · next xs ys e1 e2 =>
        split at p
        · next hl =>
          obtain ⟨a1, vs1, rfl, h1, q1⟩ := r1.tup sr.good e1
          obtain ⟨a2, vs2, rfl, h2, q2⟩ := r2.tup sr.good e2
          have c1 : ∀ {ds : List D} {vs : List V}, Reps g s.F s.al ds vs → vs = [] → ds = [] := fun {ds vs} q e => by
            have := q.length
            rw [e] at this
            exact List.length_eq_zero_iff.mp this.symm
          refine .inr (.inr (.inr ⟨a1, a2, vs1, vs2, rfl, rfl, hK ▸ h1, hK ▸ h2, by rw [q1.length, q2.length]; exact size_of hl, fun e => ?_, fun _ e => ?_, fun _ _ p' hp => PostE.newT sr p (q1.append q2) hp⟩))
          · have e := c1 q1 e
            subst e
            exact PostE.pure sr p (tup?_eq e2 ▸ r2)
          · have e := c1 q2 e
            subst e
            rw [List.append_nil] at p
            exact PostE.pure sr p (tup?_eq e1 ▸ r1)
        · exact p.elim
      · exact p.elim
end
end Vi

set_option Elab.async false
set_option linter.all false
set_option maxRecDepth 100000
set_option maxHeartbeats 2000000
namespace Vi
open PySem L2

/-! ### what the written part says of the classes -/
def Ty.val (g : Gi) : Ty → Value
  | .bt n => .type n
  | .own c => .ref (g.ca c)
def Ty.v (g : Gi) : Ty → V
  | .bt n => .ty n
  | .own c => .ref (g.ca c)
structure ClsOk (K : PySem.W.Frag) (C : Addr) : Prop where
  cl : Cls K C
  ha : PySem.W.findIn K (.ref C) "__class__" = some (some (.builtin "object.__class__"))
  hm : PySem.W.mroIn K C (.type "object") = some true
structure GiOk (g : Gi) : Prop where
  cls : ∀ c, g.isC c = true → ClsOk g.K (g.ca c)
  fld : ∀ c f, g.fld c f = true → g.isC c = true ∧ NoAttr g.K (g.ca c) f
  hn : PySem.W.specialIn g.K (.builtin "object.__class__") "__get__" = some (some (.builtin "getset_descriptor.__get__"))
  htk : PySem.W.takesIn g.K (.builtin "object.__class__") = some true
  isi : ∀ t u b, g.isi t u = some b → PySem.W.kitOne g.K (t.val g) (u.val g) = some b
def D.ty (g : Gi) : D → Option Ty
  | .non => some (.bt "NoneType")
  | .bl _ => some (.bt "bool")
  | .int _ => some (.bt "int")
  | .str _ => some (.bt "str")
  | .tup _ => some (.bt "tuple")
  | .xtup _ => some (.bt "tuple")
  | .lst _ => some (.bt "list")
  | .kl _ => none
  | .ref _ => none
  | .obj c _ => if g.isC c then some (.own c) else none
  | .cls _ => none
  | .dK _ => some (.bt "dict")
  | .dT _ => some (.bt "dict")
/-- asks only isC: so that it is the same for g0 and PDx.gi K -/
def Cell.tyC (isC : Nat → Bool) : Cell → Option Ty
  | .lst _ => some (.bt "list")
  | .ins c _ => if isC c then some (.own c) else none
  | .dK _ => some (.bt "dict")
  | .dT _ => some (.bt "dict")
  | .frz c => c.tyC isC
def Cell.ty (g : Gi) (c : Cell) : Option Ty := c.tyC g.isC
def Vl.ty (g : Gi) (h : Hc) : Vl → Option Ty
  | .d (.ref n) => h[n]?.bind (Cell.ty g)
  | .d x => x.ty g
  | .tl _ => some (.bt "list")
  | .bl _ => some (.bt "list")
  | .bi c _ => if g.isC c then some (.own c) else none
theorem ClsOk.ty {g : Gi} (G : GiOk g) {H : Hp} {c : Nat} {a dx : Addr} {vs : List (Str × V)} (hc : g.isC c = true) (h : H a = some (.ins (g.ca c) dx vs)) : TyX g.K H (.ref a) ((Ty.own c).val g) :=
  let k := G.cls c hc
  .base (.ins h k.cl k.ha G.hn G.htk k.hm)
theorem ty_up {g : Gi} {d : D} {t : Ty} {h : Hc} (e : d.ty g = some t) : (Vl.d d).ty g h = some t := by
  cases d <;> first | exact e | cases e
theorem Cell.tyX {g : Gi} (G : GiOk g) {s : Sta} {H : Hp} {a : Addr} {t : Ty} : ∀ {c : Cell}, CellRep g s H a c → c.ty g = some t → TyX g.K H (.ref a) (t.val g)
  | .lst _, ⟨vs, h, _⟩, e => by cases e; exact .base (.lst h)
  | .ins c _, ⟨dx, vs, h, _⟩, e => by
    have e : (if g.isC c then some (Ty.own c) else none) = some _ := e
    by_cases hc : g.isC c = true
    · rw [if_pos hc] at e
      cases e
      exact ClsOk.ty G hc h
    · rw [if_neg hc] at e
      cases e
  | .dK _, ⟨vs, h, _⟩, e => by cases e; exact .base (.dK h)
  | .dT _, ⟨vs, h, _⟩, e => by cases e; exact .base (.dT h)
  | .frz c, h, e => Cell.tyX G (c := c) h e
theorem Vl.tyX {g : Gi} (G : GiOk g) {B : Bg} {env : Env} {s : Sta} {σ : L2.St} {H : Hp} (gd : Good g s H) : ∀ {x : Vl} {v : V} {t : Ty}, VlRep g B env σ s H x v → x.ty g s.h = some t → TyX g.K H v (t.val g)
  | .d .non, _, _, h, e => by cases e; cases h; exact .base .non
  | .d (.bl b), _, _, h, e => by cases e; cases h; exact .base (.bl b)
  | .d (.int b), _, _, h, e => by cases e; cases h; exact .base (.int b)
  | .d (.str b), _, _, h, e => by cases e; cases h; exact .base (.str b)
  | .d (.tup ds), _, _, h, e => by
    cases e
    obtain ⟨a, vs, rfl, h2, _⟩ := h
    rcases h2.sq with (h2 | ⟨o, h2⟩) | ⟨o, its, n, h2, h3, _⟩
    · exact .base (.tup (gd.fle _ _ h2))
    · exact .fTuple (gd.fle _ _ h2)
    · exact .kTuple h2 h3
  | .d (.xtup ds), _, _, h, e => by
    cases e
    obtain ⟨a, o, vs, rfl, h2, _⟩ := h
    exact .fTuple (gd.fle _ _ h2)
  | .d (.lst ds), _, _, h, e => by
    cases e
    obtain ⟨a, vs, rfl, h2, _⟩ := h
    exact .base (.lst (gd.fle _ _ h2))
  | .d (.kl _), _, _, h, e => by cases e
  | .d (.ref n), _, _, h, e => by
    obtain ⟨a, rfl, hal⟩ := h
    obtain ⟨c, e1, e2⟩ := Option.bind_eq_some_iff.mp (show s.h[n]?.bind (Cell.ty g) = some _ from e)
    obtain ⟨b, g1, g2⟩ := gd.cell n c e1
    rw [hal] at g1
    cases g1
    exact Cell.tyX G g2 e2
  | .d (.cls _), _, _, h, e => by cases e
  | .d (.obj c fs), _, _, h, e => by
    obtain ⟨a, dx, vs, rfl, h2, _⟩ := h
    have e : (if g.isC c then some (Ty.own c) else none) = some _ := e
    by_cases hc : g.isC c = true
    · rw [if_pos hc] at e
      cases e
      exact ClsOk.ty G hc (gd.fle _ _ h2)
    · rw [if_neg hc] at e
      cases e
  | .d (.dK _), _, _, h, e => by
    cases e
    obtain ⟨a, vs, rfl, h2, _⟩ := h
    exact .base (.dK (gd.fle _ _ h2))
  | .d (.dT _), _, _, h, e => by
    cases e
    obtain ⟨a, vs, rfl, h2, _⟩ := h
    exact .base (.dT (gd.fle _ _ h2))
  | .tl _, _, _, h, e => by
    cases e
    obtain ⟨a, vs, rfl, h2, _⟩ := h
    exact .base (.lst h2)
  | .bl _, _, _, h, e => by
    cases e
    obtain ⟨a, vs, rfl, h2, _⟩ := h
    exact .base (.lst h2)
  | .bi c _, _, _, h, e => by
    obtain ⟨a, dx, vs, rfl, h2, _⟩ := h
    have e : (if g.isC c then some (Ty.own c) else none) = some _ := e
    by_cases hc : g.isC c = true
    · rw [if_pos hc] at e
      cases e
      exact ClsOk.ty G hc h2
    · rw [if_neg hc] at e
      cases e

/-! ### data as the library's data -/
mutual
def toP : D → PyData
  | .non => .none
  | .bl b => .bool b
  | .int i => .int i
  | .str x => .str x
  | .tup xs => .tuple (toPs xs)
  | .xtup xs => .tuple (toPs xs)
  | .lst xs => .list (toPs xs)
  | .kl xs => .list (toPs xs)
  | _ => .none
def toPs : List D → List PyData
  | [] => []
  | x :: r => toP x :: toPs r
end
mutual
def dat : D → Bool
  | .non => true
  | .bl _ => true
  | .int _ => true
  | .str _ => true
  | .tup xs => dats xs
  | .xtup xs => dats xs
  | .lst xs => dats xs
  | .kl xs => dats xs
  | _ => false
def dats : List D → Bool
  | [] => true
  | x :: r => dat x && dats r
end
section
variable {g : Gi} {s : Sta} {H : Hp} {F : Hp} {al : Nat → Option Addr}
mutual
theorem dp_of (hF : ∀ a o, F a = some o → H a = some o) : ∀ {d : D} {v : V}, Rep g F al d v → dat d = true → Dp g.K H v (toP d)
  | .non, _, h, _ => by cases h; exact .non
  | .bl b, _, h, _ => by cases h; exact .bl b
  | .int b, _, h, _ => by cases h; exact .int b
  | .str b, _, h, _ => by cases h; exact .str b
  | .tup ds, _, ⟨a, vs, h1, h2, h3⟩, e => by rw [h1]; exact .tup (sqT_mono hF h2.sq) (dps_of hF h3 e)
  | .lst ds, _, ⟨a, vs, h1, h2, h3⟩, e => by rw [h1]; exact .lst (.of (hF _ _ h2)) (dps_of hF h3 e)
  | .xtup ds, _, ⟨a, o, vs, h1, h2, _, h3⟩, e => by rw [h1]; exact .tup (.inl (.inr ⟨o, hF _ _ h2⟩)) (dps_of hF h3 e)
  | .kl ds, _, ⟨a, vs, h1, h2, h3⟩, e => by rw [h1]; exact .lst (sqL_mono hF h2) (dps_of hF h3 e)
  | .ref _, _, _, e => by cases e
  | .obj _ _, _, _, e => by cases e
  | .cls _, _, _, e => by cases e
  | .dK _, _, _, e => by cases e
  | .dT _, _, _, e => by cases e
theorem dps_of (hF : ∀ a o, F a = some o → H a = some o) : ∀ {d : List D} {v : List V}, Reps g F al d v → dats d = true → DpAll g.K H v (toPs d)
  | [], _, h, _ => by cases h; exact .nil
  | d :: ds, _, ⟨v, r, h1, h2, h3⟩, e => by
    obtain ⟨e1, e2⟩ := Bool.and_eq_true_iff.mp (show (dat d && dats ds) = true from e)
    rw [h1]
    exact .cons (dp_of hF h2 e1) (dps_of hF h3 e2)
end
end
/-- the data that a value is, if it is some -/
def Vl.dat? : Vl → Option D
  | .d x => if dat x then some x else none
  | .tl xs => if dats xs then some (.lst xs) else none
  | .bl xs => if dats xs then some (.lst xs) else none
  | .bi _ _ => none
theorem VlRep.dp' {g : Gi} {B : Bg} {env : Env} {s : Sta} {σ : L2.St} {H : Hp} (gd : Good g s H) : ∀ {x : Vl} {v : V} {d : D}, VlRep g B env σ s H x v → x.dat? = some d → Dp g.K H v (toP d)
  | .d x, _, _, h, e => by
    have e : (if dat x then some x else none) = some _ := e
    split at e
    · next hd => cases e; exact dp_of gd.fle h hd
    · cases e
  | .tl xs, _, _, h, e => by
    have e : (if dats xs then some (D.lst xs) else none) = some _ := e
    split at e
    · next hd =>
      cases e
      obtain ⟨a, vs, rfl, h2, _, _, h3⟩ := h
      exact .lst (.of h2) (dps_of gd.fle h3 hd)
    · cases e
  | .bl xs, _, _, h, e => by
    have e : (if dats xs then some (D.lst xs) else none) = some _ := e
    split at e
    · next hd =>
      cases e
      obtain ⟨a, vs, rfl, h2, _, h3⟩ := h
      exact .lst (.of h2) (dps_of gd.fle h3 hd)
    · cases e
  | .bi _ _, _, _, _, e => by cases e
def eqD (x y : D) : Bool := PyData.eqv (toP x) (toP y)
def shp (x : D) : Bool := SeqAt.shaped (toP x)
def fEq0 (neg : Bool) (x y : Vl) (h : Hc) : R Vl := match x.dat?, y.dat? with
  | some d, some e => if shp d && shp e then .ok (.d (.bl (if neg then !eqD d e else eqD d e))) h else .stuck
  | _, _ => .stuck
/-- texts need no further look -/
def fEq (neg : Bool) (x y : Vl) (h : Hc) : R Vl := match x, y with
  | .d (.str a), .d (.str b) => .ok (.d (.bl (if neg then !decide (a = b) else decide (a = b)))) h
  | x, y => fEq0 neg x y h
section
variable {X : Cx} {g : Gi} {B : Bg} {W : WXv} {pos : Pos} {a b c : Expr} {ma mb mc : ME}
theorem dec_s {a b : PySem.Str} : decide (L2.V.str a = L2.V.str b) = decide (a = b) := by
  rw [Bool.eq_iff_iff]
  simp
theorem o_eq (hK : g.K = X.K) (hu : X.A.units + 64 < cLine) : OpV X g (compareOp .Eq) (fEq false) := by
  refine ⟨_, OpR.or op_eq (op_eqD hu), fun B W env s σ H x y v w Q sr r1 r2 p => ?_⟩
  unfold fEq at p
  split at p
  · next a b =>
    obtain rfl : v = .str a := r1
    obtain rfl : w = .str b := r2
    exact .inl ⟨rfl, by rw [dec_s]; exact PostE.pure sr p rfl⟩
  · unfold fEq0 at p
    split at p
    · next d e e1 e2 =>
      split at p
      · next hs =>
        obtain ⟨h1, h2⟩ := Bool.and_eq_true_iff.mp hs
        exact .inr ⟨_, _, hK ▸ r1.dp' sr.good e1, hK ▸ r2.dp' sr.good e2, h1, h2, PostE.pure sr p rfl⟩
      · exact p.elim
    · exact p.elim
theorem o_ne (hK : g.K = X.K) (hu : X.A.units + 64 < cLine) : OpV X g (compareOp .NotEq) (fEq true) := by
  refine ⟨_, OpR.or op_ne (op_neD hu), fun B W env s σ H x y v w Q sr r1 r2 p => ?_⟩
  unfold fEq at p
  split at p
  · next a b =>
    obtain rfl : v = .str a := r1
    obtain rfl : w = .str b := r2
    exact .inl ⟨rfl, by rw [dec_s]; exact PostE.pure sr p rfl⟩
  · unfold fEq0 at p
    split at p
    · next d e e1 e2 =>
      split at p
      · next hs =>
        obtain ⟨h1, h2⟩ := Bool.and_eq_true_iff.mp hs
        exact .inr ⟨_, _, hK ▸ r1.dp' sr.good e1, hK ▸ r2.dp' sr.good e2, h1, h2, PostE.pure sr p rfl⟩
      · exact p.elim
    · exact p.elim
end
end Vi

set_option Elab.async false
set_option linter.all false
set_option maxRecDepth 100000
set_option maxHeartbeats 2000000
namespace Vi
open PySem L2

/-! ### and, or, not, if .. else, chains -/
@[simp] def mNot (m : ME) : ME := m1 (fun x h => match x with
  | .d (.bl b) => .ok (.d (.bl (!b))) h
  | _ => .stuck) m
@[simp] def mAnd (a b : ME) : ME := fun env h => (a env h).bind fun x h1 => match x with
  | .d (.bl true) => b env h1
  | .d (.bl false) => .ok (.d (.bl false)) h1
  | _ => .stuck
@[simp] def mOr (a b : ME) : ME := fun env h => (a env h).bind fun x h1 => match x with
  | .d (.bl false) => b env h1
  | .d (.bl true) => .ok (.d (.bl true)) h1
  | _ => .stuck
@[simp] def tNotM (a : MB) : MB := fun env h => (a env h).bind fun b h1 => .ok (!b) h1
def tAndM (a b : MB) : MB := fun env h => (a env h).bind fun x h1 => if x then b env h1 else .ok false h1
def tOrM (a b : MB) : MB := fun env h => (a env h).bind fun x h1 => if x then .ok true h1 else b env h1
def mIf (c : MB) (a b : ME) : ME := fun env h => (c env h).bind fun x h1 => if x then a env h1 else b env h1
@[simp] def mChain (f g : Vl → Vl → Hc → R Vl) (a b c : ME) : ME := fun env h => (a env h).bind fun x h1 => (b env h1).bind fun y h2 => (f x y h2).bind fun z h3 => match z with
  | .d (.bl true) => (c env h3).bind fun w h4 => g y w h4
  | .d (.bl false) => .ok (.d (.bl false)) h3
  | _ => .stuck
@[simp] def fNeg (x : Vl) (h : Hc) : R Vl := match x with
  | .d (.int i) => .ok (.d (.int (-i))) h
  | _ => .stuck
section
variable {X : Cx} {g : Gi} {B : Bg} {W : WXv} {pos : Pos} {a b c : Expr} {ma mb mc : ME} {rest : List Expr} {ta tb tc : MB} {env : Env} {s : Sta} {σ : L2.St} {H : Hp}
theorem ve_not (ha : PE X a (tE g B W ma)) : PE X (.UnaryOp .Not a pos) (tE g B W (mNot ma)) := by
  refine pe_imp (pe_not ha) fun σ H Q ⟨env, s, sr, p⟩ => ?_
  refine (bindE (Q := Q) sr p).mono fun v H1 ⟨s1, x, sr1, _, r1, p1⟩ => ?_
  split at p1
  · exact ⟨_, r1, PostE.pure sr1 p1 rfl⟩
  · exact p1.elim
theorem ve_one {op} (h : PE X a (tE g B W ma)) : PE X (.BoolOp op [a] pos) (tE g B W ma) := pe_one h
theorem ve_and (ha : PE X a (tE g B W ma)) (hb : PE X (.BoolOp .And (b :: rest) pos) (tE g B W mb)) : PE X (.BoolOp .And (a :: b :: rest) pos) (tE g B W (mAnd ma mb)) := by
  refine pe_imp (pe_and ha hb) fun σ H Q ⟨env, s, sr, p⟩ => ?_
  refine (bindE (Q := Q) sr p).mono fun v H1 ⟨s1, x, sr1, _, r1, p1⟩ => ?_
  split at p1
  · exact ⟨true, r1, iteT ⟨env, s1, sr1, p1⟩⟩
  · exact ⟨false, r1, iteF (PostE.pure sr1 p1 rfl)⟩
  · exact p1.elim
theorem ve_or (ha : PE X a (tE g B W ma)) (hb : PE X (.BoolOp .Or (b :: rest) pos) (tE g B W mb)) : PE X (.BoolOp .Or (a :: b :: rest) pos) (tE g B W (mOr ma mb)) := by
  refine pe_imp (pe_or ha hb) fun σ H Q ⟨env, s, sr, p⟩ => ?_
  refine (bindE (Q := Q) sr p).mono fun v H1 ⟨s1, x, sr1, _, r1, p1⟩ => ?_
  split at p1
  · exact ⟨false, r1, iteF ⟨env, s1, sr1, p1⟩⟩
  · exact ⟨true, r1, iteT (PostE.pure sr1 p1 rfl)⟩
  · exact p1.elim
theorem vt_not (ha : PT X a (tT g B W ta)) : PT X (.UnaryOp .Not a pos) (tT g B W (tNotM ta)) := by
  refine pt_imp (pt_not ha) fun σ H Q ⟨env, s, sr, p⟩ => ?_
  refine (bindTT (Q := Q) sr p).mono fun v H1 ⟨s1, sr1, _, p1⟩ => ?_
  exact PostB.pure sr1 p1
theorem vw_and1 (ha : PT X a (tT g B W ta)) : PW X (.BoolOp .And [a] pos) (tT g B W ta) := pw_and1 ha
theorem vw_or1 (ha : PT X a (tT g B W ta)) : PW X (.BoolOp .Or [a] pos) (tT g B W ta) := pw_or1 ha
theorem vw_and (ha : PT X a (tT g B W ta)) (hb : PW X (.BoolOp .And (b :: rest) pos) (tT g B W tb)) : PW X (.BoolOp .And (a :: b :: rest) pos) (tT g B W (tAndM ta tb)) := by
  refine pw_imp (pw_and ha hb) fun σ H Q ⟨env, s, sr, p⟩ => ?_
  refine (bindTT (Q := Q) sr p).mono fun v H1 ⟨s1, sr1, _, p1⟩ => ?_
  cases v with
  | true => exact iteT ⟨env, s1, sr1, p1⟩
  | false => exact iteF (PostB.pure sr1 p1)
theorem vw_or (ha : PT X a (tT g B W ta)) (hb : PW X (.BoolOp .Or (b :: rest) pos) (tT g B W tb)) : PW X (.BoolOp .Or (a :: b :: rest) pos) (tT g B W (tOrM ta tb)) := by
  refine pw_imp (pw_or ha hb) fun σ H Q ⟨env, s, sr, p⟩ => ?_
  refine (bindTT (Q := Q) sr p).mono fun v H1 ⟨s1, sr1, _, p1⟩ => ?_
  cases v with
  | true => exact iteT (PostB.pure sr1 p1)
  | false => exact iteF ⟨env, s1, sr1, p1⟩
theorem ve_if (hc : PT X c (tT g B W tc)) (ha : PE X a (tE g B W ma)) (hb : PE X b (tE g B W mb)) : PE X (.IfExp c a b pos) (tE g B W (mIf tc ma mb)) := by
  refine pe_imp (pe_ifExp hc ha hb) fun σ H Q ⟨env, s, sr, p⟩ => ?_
  refine (bindTE (Q := Q) sr p).mono fun v H1 ⟨s1, sr1, _, p1⟩ => ?_
  cases v with
  | true => exact iteT ⟨env, s1, sr1, p1⟩
  | false => exact iteF ⟨env, s1, sr1, p1⟩
theorem ve_neg (ha : PE X a (tE g B W ma)) : PE X (.UnaryOp .USub a pos) (tE g B W (m1 fNeg ma)) := by
  refine pe_imp (pe_un un_neg ha) fun σ H Q ⟨env, s, sr, p⟩ => ?_
  refine (bindE (Q := Q) sr p).mono fun v H1 ⟨s1, x, sr1, _, r1, p1⟩ => ?_
  unfold fNeg at p1
  split at p1
  · exact ⟨_, r1, PostE.pure sr1 p1 rfl⟩
  · exact p1.elim
/-- a result of an operation that does not change the state, as a bool -/
theorem PostE.then {r : R Vl} {k : Vl → Hc → R Vl} {Q : VK} (p : PostE g B W env s σ H (r.bind k) Q) :
    PostE g B W env s σ H r fun v H1 => ∃ s1 x, SR g B env s1 σ H1 ∧ Evo s H s1 H1 ∧ VlRep g B env σ s1 H1 x v ∧ PostE g B W env s1 σ H1 (k x s1.h) Q := by
  cases r with
  | ok x h1 =>
    intro v H1 s1 e1 ev sr1 vr
    refine ⟨s1, x, sr1, ev, vr, ?_⟩
    rw [e1]
    exact PostE.later ev p
  | exc x h1 => exact p
  | stuck => exact p
theorem ve_chain {op op' : CmpOp} {F F' : Vl → Vl → Hc → R Vl} (ho : OpV X g (compareOp op) F) (ho' : OpV X g (compareOp op') F') (ha : PE X a (tE g B W ma)) (hb : PE X b (tE g B W mb)) (hc : PE X c (tE g B W mc))
    (hm : lastMarks [op, op'] [b, c] = false := by with_unfolding_all rfl) : PE X (.Compare a [op, op'] [b, c] pos) (tE g B W (mChain F F' ma mb mc)) := by
  obtain ⟨r, h1, h2⟩ := ho
  obtain ⟨r', h1', h2'⟩ := ho'
  refine pe_imp (pe_chain h1 h1' ha hb hc hm) fun σ H Q ⟨env, s, sr, p⟩ => ?_
  refine (bindE sr p).mono fun v H1 ⟨s1, x, sr1, _, r1, p1⟩ => ?_
  refine (bindE sr1 p1).mono fun w H2 ⟨s2, y, sr2, e2, r2, p2⟩ => ?_
  refine h2 B W env s2 σ H2 x y v w _ sr2 (r1.evo e2) r2 (p2.then.mono fun z H3 ⟨s3, q, sr3, e3, r3, p3⟩ => ?_)
  split at p3
  · refine ⟨true, r3, iteT ?_⟩
    refine (bindE sr3 p3).mono fun u H4 ⟨s4, q4, sr4, e4, r4, p4⟩ => ?_
    exact h2' B W env s4 σ H4 y q4 w u Q sr4 ((r2.evo e3).evo e4) r4 p4
  · exact ⟨false, r3, iteF (PostE.pure sr3 p3 rfl)⟩
  · exact p3.elim

/-! ### subscripts -/
def fIx (x y : Vl) (h : Hc) : R Vl := match y with
  | .d (.int i) => (match lst? h x with
    | some xs => (match atI xs i with
      | some d => .ok (.d d) h
      | none => .stuck)
    | none => (match tup? x with
      | some xs => (match atI xs i with
        | some d => .ok (.d d) h
        | none => .stuck)
      | none => (match x with
        | .d (.str z) => (match atI z.cps.toList i with
          | some c => if z.length ≤ 100000 then .ok (.d (.str ⟨#[c]⟩)) h else .stuck
          | none => .stuck)
        | .d (.ref n) => (match h[n]? with
          | some (.lst xs) => (match atI xs i with
            | some d => .ok (.d d) h
            | none => .stuck)
          | _ => .stuck)
        | _ => .stuck)))
  | _ => .stuck
theorem Reps.atI {F : Hp} {al : Nat → Option Addr} {ds : List D} {vs : List V} {i : Int} {d : D} (h : Reps g F al ds vs) (e : atI ds i = some d) : ∃ v, L2.atI vs i = some v ∧ Rep g F al d v := by
  unfold L2.atI at e ⊢
  rw [h.length]
  cases q : ixN ds.length i with
  | none => rw [q] at e; cases e
  | some j =>
    rw [q] at e
    exact h.get (i := j) e
theorem ve_ix (hK : g.K = X.K) (ha : PE X a (tE g B W ma)) (hb : PE X b (tE g B W mb)) (hs : PlainIx b) : PE X (.Subscript a b pos) (tE g B W (m2 fIx ma mb)) := by
  refine pe_imp (pe_ix ix_seq ha hb hs) fun σ H Q ⟨env, s, sr, p⟩ => ?_
  refine (bind2E (Q := Q) sr p).mono fun v H1 q => q.mono fun w H2 ⟨s2, x, y, sr2, _, r1, r2, p2⟩ => ?_
  unfold fIx at p2
  split at p2
  · next i =>
    cases r2
    split at p2
    · next xs e1 =>
      split at p2
      · next d e2 =>
        obtain ⟨a1, vs, rfl, h1, q1⟩ := r1.lst sr2.good e1
        obtain ⟨u, e3, r3⟩ := q1.atI e2
        exact .inl ⟨a1, vs, i, u, rfl, rfl, hK ▸ h1, e3, PostE.pure sr2 p2 r3⟩
      · exact p2.elim
    · split at p2
      · next xs e1 =>
        split at p2
        · next d e2 =>
          obtain ⟨a1, vs, rfl, h1, q1⟩ := r1.tup sr2.good e1
          obtain ⟨u, e3, r3⟩ := q1.atI e2
          exact .inr (.inl ⟨a1, vs, i, u, rfl, rfl, hK ▸ h1, e3, PostE.pure sr2 p2 r3⟩)
        · exact p2.elim
      · split at p2
        · next z _ _ =>
          split at p2
          · next c e2 =>
            split at p2
            · next hl =>
              cases r1
              exact .inr (.inr ⟨z, i, c, rfl, rfl, size_of hl, e2, PostE.pure sr2 p2 rfl⟩)
            · exact p2.elim
          · exact p2.elim
        · next n _ _ =>
          split at p2
          · next xs hx =>
            split at p2
            · next d e2 =>
              obtain ⟨a1, rfl, hal⟩ := r1
              obtain ⟨a2, h1, vs, h3, q1⟩ := sr2.good.cell n _ hx
              rw [hal] at h1
              cases h1
              obtain ⟨u, e3, r3⟩ := q1.atI e2
              exact .inl ⟨a1, vs, i, u, rfl, rfl, .of h3, e3, PostE.pure sr2 p2 r3⟩
            · exact p2.elim
          · exact p2.elim
        · exact p2.elim
  · exact p2.elim
end
/-! ### calls of built-ins -/
def CallV (X : Cx) (g : Gi) (f : Value) (F : List Vl → Hc → R Vl) : Prop :=
  ∃ r : List V → Hp → VK → Prop, CallR X f r ∧ ∀ (B : Bg) (W : WXv) (env : Env) (s : Sta) (σ : L2.St) (H : Hp) (xs : List Vl) (vs : List V) (Q : VK), SR g B env s σ H → VlReps g B env σ s H xs vs → PostE g B W env s σ H (F xs s.h) Q → r vs H Q
section
variable {X : Cx} {g : Gi} {B : Bg} {W : WXv} {pos p : Pos} {e : Expr} {es : List Expr} {A : MA} {F : List Vl → Hc → R Vl} {id T : String} {x : Str}
theorem ve_callB (hc : CallV X g (.builtin id) F) (hg : Gl X x) (hm : X.mg x = none) (hv : bootBuiltins x = some (.builtin id)) (ha : PA X (e :: es) (tA g B W A)) (hn : x ≠ "__name__" := by decide) (hdb : (x == ("__debug__" : Str)) = false := by decide)
    (he : starEach (e :: es) X.env = (false, eval e X.env) :: starEach es X.env := by rfl) (hpl : (backTo pos (starEach es X.env)).any (·.1) = false := by rfl) : PE X (.Call (.Name x p) (e :: es) [] pos) (tE g B W (mA1 F A)) := by
  obtain ⟨r, h1, h2⟩ := hc
  refine pe_imp (pe_callB h1 hg hm hv ha hn hdb he hpl) fun σ H Q ⟨env, s, sr, p⟩ => ?_
  refine (bindA (Q := Q) sr p).mono fun vs H1 ⟨s1, xs, sr1, _, r1, p1⟩ => ?_
  exact h2 B W env s1 σ H1 xs vs Q sr1 r1 p1
theorem ve_callTy (hc : CallV X g (.type T) F) (hg : Gl X x) (hm : X.mg x = none) (hv : bootBuiltins x = some (.type T)) (ha : PA X (e :: es) (tA g B W A)) (hn : x ≠ "__name__" := by decide) (hdb : (x == ("__debug__" : Str)) = false := by decide)
    (he : starEach (e :: es) X.env = (false, eval e X.env) :: starEach es X.env := by rfl) (hpl : (backTo pos (starEach es X.env)).any (·.1) = false := by rfl) : PE X (.Call (.Name x p) (e :: es) [] pos) (tE g B W (mA1 F A)) := by
  obtain ⟨r, h1, h2⟩ := hc
  refine pe_imp (pe_callTy h1 hg hm hv ha hn hdb he hpl) fun σ H Q ⟨env, s, sr, p⟩ => ?_
  refine (bindA (Q := Q) sr p).mono fun vs H1 ⟨s1, xs, sr1, _, r1, p1⟩ => ?_
  exact h2 B W env s1 σ H1 xs vs Q sr1 r1 p1
theorem ve_callG (hc : CallV X g (.builtin id) F) (hg : Gl X x) (hm : X.mg x = some (.builtin id)) (ha : PA X (e :: es) (tA g B W A)) (hdb : (x == ("__debug__" : Str)) = false := by decide)
    (he : starEach (e :: es) X.env = (false, eval e X.env) :: starEach es X.env := by rfl) (hpl : (backTo pos (starEach es X.env)).any (·.1) = false := by rfl) : PE X (.Call (.Name x p) (e :: es) [] pos) (tE g B W (mA1 F A)) := by
  obtain ⟨r, h1, h2⟩ := hc
  refine pe_imp (pe_callBfun h1 hg hm ha hdb he hpl) fun σ H Q ⟨env, s, sr, p⟩ => ?_
  refine (bindA (Q := Q) sr p).mono fun vs H1 ⟨s1, xs, sr1, _, r1, p1⟩ => ?_
  exact h2 B W env s1 σ H1 xs vs Q sr1 r1 p1
end
section
variable {g : Gi} {B : Bg} {env : Env} {s : Sta} {σ : L2.St} {H : Hp}
theorem VlReps.one {x : Vl} {vs : List V} (h : VlReps g B env σ s H [x] vs) : ∃ v, vs = [v] ∧ VlRep g B env σ s H x v := by
  cases h with
  | cons a b => cases b; exact ⟨_, rfl, a⟩
theorem VlReps.two {x y : Vl} {vs : List V} (h : VlReps g B env σ s H [x, y] vs) : ∃ v w, vs = [v, w] ∧ VlRep g B env σ s H x v ∧ VlRep g B env σ s H y w := by
  cases h with
  | cons a b =>
    cases b with
    | cons b c => cases c; exact ⟨_, _, rfl, a, b⟩
end
@[simp] def fAbs (xs : List Vl) (h : Hc) : R Vl := match xs with
  | [.d (.int i)] => .ok (.d (.int (if i < 0 then -i else i))) h
  | _ => .stuck
@[simp] def fMax2 (xs : List Vl) (h : Hc) : R Vl := match xs with
  | [.d (.int i), .d (.int j)] => .ok (.d (.int (if j > i then j else i))) h
  | _ => .stuck
@[simp] def fMin2 (xs : List Vl) (h : Hc) : R Vl := match xs with
  | [.d (.int i), .d (.int j)] => .ok (.d (.int (if j < i then j else i))) h
  | _ => .stuck
@[simp] def fGcd (xs : List Vl) (h : Hc) : R Vl := match xs with
  | [.d (.int i), .d (.int j)] => .ok (.d (.int ((Nat.gcd i.natAbs j.natAbs : Nat) : Int))) h
  | _ => .stuck
@[simp] def fIntOf (xs : List Vl) (h : Hc) : R Vl := match xs with
  | [.d (.int i)] => .ok (.d (.int i)) h
  | [.d (.bl b)] => .ok (.d (.int (if b then 1 else 0))) h
  | _ => .stuck
def fStrOf (xs : List Vl) (h : Hc) : R Vl := match xs with
  | [.d (.int i)] => if i.natAbs.log2 < 1920 then .ok (.d (.str (toString i))) h else .stuck
  | _ => .stuck
def fLen (xs : List Vl) (h : Hc) : R Vl := match xs with
  | [x] => (match lst? h x with
    | some ys => .ok (.d (.int ys.length)) h
    | none => (match tup? x with
      | some ys => .ok (.d (.int ys.length)) h
      | none => (match x with
        | .d (.str z) => if z.length ≤ 100000 then .ok (.d (.int z.length)) h else .stuck
        | .d (.ref n) => (match h[n]? with
          | some (.lst ys) => .ok (.d (.int ys.length)) h
          | _ => .stuck)
        | _ => .stuck)))
  | _ => .stuck
def ints? : List D → Option (List Int)
  | [] => some []
  | .int i :: r => (ints? r).map (i :: ·)
  | _ :: _ => none
def fSum (xs : List Vl) (h : Hc) : R Vl := match xs with
  | [x] => (match lst? h x with
    | some ys => (match ints? ys with
      | some ns => .ok (.d (.int ns.sum)) h
      | none => .stuck)
    | none => .stuck)
  | _ => .stuck
/-- list(x) -/
def fList (o : Bool) (xs : List Vl) (h : Hc) : R Vl := match xs with
  | [x] => (match lst? h x with
    | some ys => .ok (Vl.ofL o ys) h
    | none => (match tup? x with
      | some ys => .ok (Vl.ofL o ys) h
      | none => .stuck))
  | _ => .stuck
/-- tuple(x) -/
def fTuple (xs : List Vl) (h : Hc) : R Vl := match xs with
  | [x] => (match lst? h x with
    | some ys => .ok (.d (.tup ys)) h
    | none => (match tup? x with
      | some ys => .ok (.d (.tup ys)) h
      | none => .stuck))
  | _ => .stuck
section
variable {X : Cx} {g : Gi}
theorem c_abs : CallV X g (.builtin "abs") fAbs := by
  refine ⟨_, call_abs, fun B W env s σ H xs vs Q sr r p => ?_⟩
  unfold fAbs at p
  split at p
  · obtain ⟨v, rfl, rr⟩ := r.one
    cases rr
    exact ⟨_, rfl, PostE.pure sr p rfl⟩
  · exact p.elim
theorem c_max2 (hc : X.calm = true) : CallV X g (.builtin "max") fMax2 := by
  refine ⟨_, call_max2 hc, fun B W env s σ H xs vs Q sr r p => ?_⟩
  unfold fMax2 at p
  split at p
  · obtain ⟨v, w, rfl, rr, r2⟩ := r.two
    cases rr
    cases r2
    exact ⟨_, _, rfl, PostE.pure sr p rfl⟩
  · exact p.elim
theorem c_min2 (hc : X.calm = true) : CallV X g (.builtin "min") fMin2 := by
  refine ⟨_, call_min2 hc, fun B W env s σ H xs vs Q sr r p => ?_⟩
  unfold fMin2 at p
  split at p
  · obtain ⟨v, w, rfl, rr, r2⟩ := r.two
    cases rr
    cases r2
    exact ⟨_, _, rfl, PostE.pure sr p rfl⟩
  · exact p.elim
theorem c_gcd : CallV X g (.builtin "math.gcd") fGcd := by
  refine ⟨_, cr_gcd, fun B W env s σ H xs vs Q sr r p => ?_⟩
  unfold fGcd at p
  split at p
  · obtain ⟨v, w, rfl, rr, r2⟩ := r.two
    cases rr
    cases r2
    exact ⟨_, _, rfl, PostE.pure sr p rfl⟩
  · exact p.elim
theorem c_int : CallV X g (.type "int") fIntOf := by
  refine ⟨_, call_int1, fun B W env s σ H xs vs Q sr r p => ?_⟩
  unfold fIntOf at p
  split at p
  · obtain ⟨v, rfl, rr⟩ := r.one
    cases rr
    exact .inl ⟨_, rfl, PostE.pure sr p rfl⟩
  · obtain ⟨v, rfl, rr⟩ := r.one
    cases rr
    exact .inr ⟨_, rfl, PostE.pure sr p rfl⟩
  · exact p.elim
theorem c_str : CallV X g (.type "str") fStrOf := by
  refine ⟨_, call_str_int, fun B W env s σ H xs vs Q sr r p => ?_⟩
  unfold fStrOf at p
  split at p
  · split at p
    · next hl =>
      obtain ⟨v, rfl, rr⟩ := r.one
      cases rr
      exact ⟨_, rfl, hl, PostE.pure sr p rfl⟩
    · exact p.elim
  · exact p.elim
theorem c_len (hK : g.K = X.K) : CallV X g (.builtin "len") fLen := by
  refine ⟨_, call_len, fun B W env s σ H xs vs Q sr r p => ?_⟩
  unfold fLen at p
  split at p
  · next x =>
    obtain ⟨v, rfl, rr⟩ := r.one
    split at p
    · next ys e1 =>
      obtain ⟨a1, ws, rfl, h1, q1⟩ := rr.lst sr.good e1
      exact ⟨_, ys.length, rfl, .inl ⟨ws, hK ▸ h1, q1.length.symm⟩, PostE.pure sr p rfl⟩
    · split at p
      · next ys e1 =>
        obtain ⟨a1, ws, rfl, h1, q1⟩ := rr.tup sr.good e1
        exact ⟨_, ys.length, rfl, .inr ⟨ws, hK ▸ h1, q1.length.symm⟩, PostE.pure sr p rfl⟩
      · split at p
        · split at p
          · next hl =>
            cases rr
            exact ⟨_, _, rfl, ⟨size_of hl, rfl⟩, PostE.pure sr p rfl⟩
          · exact p.elim
        · next n _ _ =>
          split at p
          · next ys hx =>
            obtain ⟨a1, rfl, hal⟩ := rr
            obtain ⟨a2, h1, ws, h3, q1⟩ := sr.good.cell n _ hx
            rw [hal] at h1
            cases h1
            exact ⟨_, ys.length, rfl, .inl ⟨ws, .of h3, q1.length.symm⟩, PostE.pure sr p rfl⟩
          · exact p.elim
        · exact p.elim
  · exact p.elim
theorem Reps.ints {F : Hp} {al : Nat → Option Addr} (ds : List D) : ∀ {vs : List V} {ns : List Int}, Reps g F al ds vs → ints? ds = some ns → vs = ns.map V.int := by
  induction ds with
  | nil =>
    intro vs ns h e
    have e : some [] = some ns := e
    cases e
    exact h
  | cons d ds ih =>
    intro vs ns h e
    obtain ⟨v, r, h1, h2, h3⟩ := h
    cases d with
    | int i =>
      have e1 : (ints? ds).map (i :: ·) = some ns := e
      cases q : ints? ds with
      | none => rw [q] at e1; cases e1
      | some l =>
        rw [q] at e1
        have e2 : i :: l = ns := Option.some.inj e1
        have h2 : v = .int i := h2
        rw [← e2, h1, ih h3 q, h2, List.map_cons]
    | _ => cases e
theorem c_sum (hK : g.K = X.K) (hc : X.calm = true) : CallV X g (.builtin "sum") fSum := by
  refine ⟨_, cr_sum hc, fun B W env s σ H xs vs Q sr r p => ?_⟩
  unfold fSum at p
  split at p
  · obtain ⟨v, rfl, rr⟩ := r.one
    split at p
    · next ys e1 =>
      split at p
      · next ns e2 =>
        obtain ⟨a1, ws, rfl, h1, q1⟩ := rr.lst sr.good e1
        have e3 := Reps.ints _ q1 e2
        subst e3
        exact ⟨a1, ns, rfl, hK ▸ h1, PostE.pure sr p rfl⟩
      · exact p.elim
    · exact p.elim
  · exact p.elim
theorem c_list (o : Bool) (hK : g.K = X.K) : CallV X g (.type "list") (fList o) := by
  refine ⟨_, call_list_of, fun B W env s σ H xs vs Q sr r p => ?_⟩
  unfold fList at p
  split at p
  · obtain ⟨v, rfl, rr⟩ := r.one
    split at p
    · next ys e1 =>
      obtain ⟨a1, ws, rfl, h1, q1⟩ := rr.lst sr.good e1
      exact ⟨_, ws, rfl, .inl (hK ▸ h1), fun l hl => PostE.newLO sr p q1 hl⟩
    · split at p
      · next ys e1 =>
        obtain ⟨a1, ws, rfl, h1, q1⟩ := rr.tup sr.good e1
        exact ⟨_, ws, rfl, .inr (hK ▸ h1), fun l hl => PostE.newLO sr p q1 hl⟩
      · exact p.elim
  · exact p.elim
theorem c_tuple (hK : g.K = X.K) : CallV X g (.type "tuple") fTuple := by
  refine ⟨_, call_tuple_of, fun B W env s σ H xs vs Q sr r p => ?_⟩
  unfold fTuple at p
  split at p
  · obtain ⟨v, rfl, rr⟩ := r.one
    split at p
    · next ys e1 =>
      obtain ⟨a1, ws, rfl, h1, q1⟩ := rr.lst sr.good e1
      exact ⟨_, ws, rfl, .inl ⟨hK ▸ h1, fun l hl => PostE.newT sr p q1 hl⟩⟩
    · split at p
      · next ys e1 =>
        obtain ⟨a1, ws, e2, h1, q1⟩ := rr.tup sr.good e1
        subst e2
        exact ⟨_, ws, rfl, .inr ⟨hK ▸ h1, PostE.pure sr p (tup?_eq e1 ▸ rr)⟩⟩
      · exact p.elim
  · exact p.elim
/-- isinstance(x, T), the class written -/
def fIsi (g : Gi) (t : Ty) (x : Vl) (h : Hc) : R Vl := match x.ty g h with
  | some u => (match g.isi u t with
    | some b => .ok (.d (.bl b)) h
    | none => .stuck)
  | none => .stuck
end
section
variable {X : Cx} {g : Gi} {B : Bg} {W : WXv} {pos p : Pos} {e c : Expr} {m : ME}
theorem ve_isi (G : GiOk g) (hK : g.K = X.K) (t : Ty) (hg : Gl X "isinstance") (hm : X.mg "isinstance" = none) (he : PE X e (tE g B W m)) (hc : PE X c (tC (t.v g)))
    (hs : starEach [e, c] X.env = (false, eval e X.env) :: starEach [c] X.env := by rfl) (hs2 : starEach [c] X.env = (false, eval c X.env) :: starEach [] X.env := by rfl) (hpl : (backTo pos (starEach [c] X.env)).any (·.1) = false := by rfl) :
    PE X (.Call (.Name "isinstance" p) [e, c] [] pos) (tE g B W (m1 (fIsi g t) m)) := by
  refine pe_imp (pe_callB call_isi hg hm (by decide +kernel) (pa_cons he (pa_cons hc pa_nil hs2) hs) (by decide) (by decide) hs hpl) fun σ H Q ⟨env, s, sr, p⟩ => ?_
  refine (bindE (Q := Q) sr p).mono fun v H1 ⟨s1, x, sr1, _, r1, p1⟩ => ?_
  unfold fIsi at p1
  split at p1
  · next u e1 =>
    split at p1
    · next b e2 =>
      refine ⟨v, t.v g, u.val g, t.val g, b, rfl, ?_, hK ▸ Vl.tyX G sr1.good r1 e1, hK ▸ G.isi u t b e2, PostE.pure sr1 p1 rfl⟩
      cases t with
      | bt n => exact .ty n
      | own c => exact .own _
    · exact p1.elim
  · exact p1.elim
end
end Vi

set_option Elab.async false
set_option linter.all false
set_option maxRecDepth 100000
set_option maxHeartbeats 2000000
namespace Vi
open PySem L2

inductive RS where
  | nx (env : Env) (h : Hc) | ret (d : D) (h : Hc) | brk (env : Env) (h : Hc) | cnt (env : Env) (h : Hc) | exc (env : Env) (x : D) (h : Hc) | stuck
abbrev MS := Env → Hc → RS
/-- nothing that is frozen is lost -/
structure Le (s s' : Sta) : Prop where
  f : ∀ a o, s.F a = some o → s'.F a = some o
  al : ∀ n a, s.al n = some a → s'.al n = some a
  z : ∀ n o, s.z n = some o → s'.z n = some o
theorem Le.refl (s : Sta) : Le s s := ⟨fun _ _ h => h, fun _ _ h => h, fun _ _ h => h⟩
theorem Le.trans {a b c : Sta} (x : Le a b) (y : Le b c) : Le a c := ⟨fun _ _ h => y.f _ _ (x.f _ _ h), fun _ _ h => y.al _ _ (x.al _ _ h), fun _ _ h => y.z _ _ (x.z _ _ h)⟩
theorem Evo.le {s s' : Sta} {H H' : Hp} (e : Evo s H s' H') : Le s s' := ⟨e.f, e.al, e.z⟩
section
variable (g : Gi) (B : Bg) (W : WXv)
def PostS (s0 : Sta) : RS → Ends → Prop
  | .nx env h, N => ∀ (σ : L2.St) (H : Hp) (s : Sta), s.h = h → Le s0 s → SR g B env s σ H → N.nx σ H
  | .ret d h, N => ∀ (v : V) (H : Hp) (s : Sta), s.h = h → Evo B.s B.H s H → Good g s H → Rep g s.F s.al d v → N.rt v H
  | .brk env h, N => ∀ (σ : L2.St) (H : Hp) (s : Sta), s.h = h → Le s0 s → SR g B env s σ H → N.bk σ H
  | .cnt env h, N => ∀ (σ : L2.St) (H : Hp) (s : Sta), s.h = h → Le s0 s → SR g B env s σ H → N.ct σ H
  | .exc env x h, _ => ∀ (cls : Value) (dd : Option Addr) (σ : L2.St) (H : Hp) (s : Sta), s.h = h → Le s0 s → SR g B env s σ H → XRep g s H x cls dd → W cls dd σ H
  | .stuck, _ => False
def tS (m : MS) : TS := fun N σ H => ∃ env s, SR g B env s σ H ∧ PostS g B W s (m env s.h) N
end
def R.thenS {α : Type} (r : R α) (env : Env) (k : α → Hc → RS) : RS := match r with
  | .ok a h => k a h
  | .exc x h => .exc env x h
  | .stuck => .stuck
theorem ps_imp {X : Cx} {e : Stmt} {t t' : TS} (h : PS X e t) (i : ∀ N σ H, t' N σ H → t N σ H) : PS X e t' := ⟨fun pins s σ H N I q => h.run pins s σ H N I (i N σ H q)⟩
theorem pss_imp {X : Cx} {e : List Stmt} {t t' : TS} (h : PSs X e t) (i : ∀ N σ H, t' N σ H → t N σ H) : PSs X e t' := ⟨fun pins s σ H N I q => h.run pins s σ H N I (i N σ H q)⟩
section
variable {g : Gi} {B : Bg} {W : WXv} {env : Env} {s : Sta} {σ : L2.St} {H : Hp}
theorem PostS.later {s0 s1 : Sta} {N : Ends} (l : Le s0 s1) : ∀ {r : RS}, PostS g B W s0 r N → PostS g B W s1 r N
  | .nx _ _, p => fun σ H s e h sr => p σ H s e (l.trans h) sr
  | .ret _ _, p => p
  | .brk _ _, p => fun σ H s e h sr => p σ H s e (l.trans h) sr
  | .cnt _ _, p => fun σ H s e h sr => p σ H s e (l.trans h) sr
  | .exc _ _ _, p => fun c d σ H s e h sr => p c d σ H s e (l.trans h) sr
  | .stuck, p => p
theorem bindS {a : ME} {k : Vl → Hc → RS} {N : Ends} (sr : SR g B env s σ H) (p : PostS g B W s ((a env s.h).thenS env k) N) :
    tE g B W a σ H fun v H1 => ∃ s1 x, SR g B env s1 σ H1 ∧ Le s s1 ∧ VlRep g B env σ s1 H1 x v ∧ PostS g B W s1 (k x s1.h) N := by
  refine ⟨env, s, sr, ?_⟩
  cases e : a env s.h with
  | ok x h1 =>
    rw [e] at p
    intro v H1 s1 e1 ev sr1 vr
    exact ⟨s1, x, sr1, ev.le, vr, by rw [e1]; exact PostS.later ev.le p⟩
  | exc x h1 =>
    rw [e] at p
    intro cls dd H1 s1 e1 ev sr1 xr
    exact p cls dd σ H1 s1 e1 ev.le sr1 xr
  | stuck =>
    rw [e] at p
    exact p
theorem bindSB {a : MB} {k : Bool → Hc → RS} {N : Ends} (sr : SR g B env s σ H) (p : PostS g B W s ((a env s.h).thenS env k) N) :
    tT g B W a σ H fun b H1 => ∃ s1, SR g B env s1 σ H1 ∧ Le s s1 ∧ PostS g B W s1 (k b s1.h) N := by
  refine ⟨env, s, sr, ?_⟩
  cases e : a env s.h with
  | ok x h1 =>
    rw [e] at p
    intro H1 s1 e1 ev sr1
    exact ⟨s1, sr1, ev.le, by rw [e1]; exact PostS.later ev.le p⟩
  | exc x h1 =>
    rw [e] at p
    intro cls dd H1 s1 e1 ev sr1 xr
    exact p cls dd σ H1 s1 e1 ev.le sr1 xr
  | stuck =>
    rw [e] at p
    exact p
theorem bindSA {a : MA} {k : List Vl → Hc → RS} {N : Ends} (sr : SR g B env s σ H) (p : PostS g B W s ((a env s.h).thenS env k) N) :
    tA g B W a σ H fun vs H1 => ∃ s1 xs, SR g B env s1 σ H1 ∧ Le s s1 ∧ VlReps g B env σ s1 H1 xs vs ∧ PostS g B W s1 (k xs s1.h) N := by
  refine ⟨env, s, sr, ?_⟩
  cases e : a env s.h with
  | ok x h1 =>
    rw [e] at p
    intro v H1 s1 e1 ev sr1 vr
    exact ⟨s1, x, sr1, ev.le, vr, by rw [e1]; exact PostS.later ev.le p⟩
  | exc x h1 =>
    rw [e] at p
    intro cls dd H1 s1 e1 ev sr1 xr
    exact p cls dd σ H1 s1 e1 ev.le sr1 xr
  | stuck =>
    rw [e] at p
    exact p
/-- a slot gets data -/
theorem SR.set {i : Nat} {x : D} {v : V} (sr : SR g B env s σ H) (r : Rep g s.F s.al x v) : SR g B (env.set i (some (.d x))) s (σ.set i (some v)) H := by
  refine ⟨sr.good, sr.evo, by rw [List.length_set, List.length_set]; exact sr.len, fun j sl h => ?_, fun j k sl sl' u hjk h1 h2 o1 o2 h3 h4 => ?_⟩
  · by_cases e : i = j
    · subst e
      have hi : i < env.length := by
        have := (List.getElem?_eq_some_iff.mp h).1
        rwa [List.length_set] at this
      rw [List.getElem?_set_self hi] at h
      cases h
      exact ⟨v, List.getElem?_set_self (sr.len ▸ hi), r⟩
    · rw [List.getElem?_set_ne e] at h
      rw [List.getElem?_set_ne e]
      exact sr.slot j sl h
  · have ne : ∀ {j : Nat} {sl : Sl}, (env.set i (some (.d x)))[j]? = some (some sl) → sl.own = true → i ≠ j := fun {j sl} h o e => by
      subst e
      have hi : i < env.length := by
        have := (List.getElem?_eq_some_iff.mp h).1
        rwa [List.length_set] at this
      rw [List.getElem?_set_self hi] at h
      cases h
      cases o
    have n1 := ne h1 o1
    have n2 := ne h2 o2
    rw [List.getElem?_set_ne n1] at h1 h3
    rw [List.getElem?_set_ne n2] at h2 h4
    exact sr.sep j k sl sl' u hjk h1 h2 o1 o2 h3 h4
/-- a slot gets something of its own -/
theorem SR.setO {i : Nat} {sl : Sl} {a : Addr} (sr : SR g B env s σ H) (r : SlRep g B s H sl (.ref a)) (hn : NotOwn env σ a) : SR g B (env.set i (some sl)) s (σ.set i (some (.ref a))) H := by
  refine ⟨sr.good, sr.evo, by rw [List.length_set, List.length_set]; exact sr.len, fun j sl' h => ?_, fun j k sl1 sl2 u hjk h1 h2 o1 o2 h3 h4 => ?_⟩
  · by_cases e : i = j
    · subst e
      have hi : i < env.length := by
        have := (List.getElem?_eq_some_iff.mp h).1
        rwa [List.length_set] at this
      rw [List.getElem?_set_self hi] at h
      cases h
      exact ⟨_, List.getElem?_set_self (sr.len ▸ hi), r⟩
    · rw [List.getElem?_set_ne e] at h
      rw [List.getElem?_set_ne e]
      exact sr.slot j sl' h
  · by_cases e1 : i = j
    · subst e1
      have hi : i < env.length := by
        have := (List.getElem?_eq_some_iff.mp h1).1
        rwa [List.length_set] at this
      rw [List.getElem?_set_self (sr.len ▸ hi)] at h3
      cases h3
      rw [List.getElem?_set_ne hjk] at h2 h4
      exact hn k sl2 h2 o2 h4
    · rw [List.getElem?_set_ne e1] at h1 h3
      by_cases e2 : i = k
      · subst e2
        have hi : i < env.length := by
          have := (List.getElem?_eq_some_iff.mp h2).1
          rwa [List.length_set] at this
        rw [List.getElem?_set_self (sr.len ▸ hi)] at h4
        cases h4
        exact hn j sl1 h1 o1 h3
      · rw [List.getElem?_set_ne e2] at h2 h4
        exact sr.sep j k sl1 sl2 u hjk h1 h2 o1 o2 h3 h4
end
/-! ### blocks, assignments, returns -/
@[simp] def mSkip : MS := fun env h => .nx env h
def mSeq (a b : MS) : MS := fun env h => match a env h with
  | .nx env' h' => b env' h'
  | r => r
@[simp] def mSet (i : Nat) (e : ME) : MS := fun env h => (e env h).thenS env fun x h1 => match x with
  | .d x => .nx (env.set i (some (.d x))) h1
  | .tl xs => .nx (env.set i (some (.ol xs))) h1
  | _ => .stuck
@[simp] def mDrop (e : ME) : MS := fun env h => (e env h).thenS env fun _ h1 => .nx env h1
@[simp] def mRet (e : ME) : MS := fun env h => (e env h).thenS env fun x h1 => match x with
  | .d x => .ret x h1
  | .tl xs => .ret (.lst xs) h1
  | .bl xs => .ret (.lst xs) h1
  | _ => .stuck
@[simp] def mRetN : MS := fun _ h => .ret .non h
def mIfS (c : MB) (a b : MS) : MS := fun env h => (c env h).thenS env fun x h1 => if x then a env h1 else b env h1
@[simp] def mBrk : MS := fun env h => .brk env h
@[simp] def mCnt : MS := fun env h => .cnt env h
section
variable {X : Cx} {g : Gi} {B : Bg} {W : WXv} {pos : Pos} {st : Stmt} {rest : List Stmt} {ma mb : MS} {e : Expr} {m : ME} {c : Expr} {mc : MB}
theorem vs_nil : PSs X [] (tS g B W mSkip) := pss_imp pss_nil fun N σ H ⟨env, s, sr, p⟩ => p σ H s rfl (Le.refl s) sr
theorem vs_cons (h1 : PS X st (tS g B W ma)) (h2 : PSs X rest (tS g B W mb)) : PSs X (st :: rest) (tS g B W (mSeq ma mb)) := by
  refine pss_imp (pss_cons h1 h2) fun N σ H ⟨env, s, sr, p⟩ => ⟨env, s, sr, ?_⟩
  unfold mSeq at p
  cases q : ma env s.h with
  | nx env' h' =>
    rw [q] at p
    intro σ' H' s' e l sr'
    exact ⟨env', s', sr', by rw [e]; exact PostS.later l p⟩
  | ret d h' => rw [q] at p; exact p
  | brk env' h' => rw [q] at p; exact p
  | cnt env' h' => rw [q] at p; exact p
  | exc env' x h' => rw [q] at p; exact p
  | stuck => rw [q] at p; exact p
theorem vs_one (h1 : PS X st (tS g B W ma)) : PSs X [st] (tS g B W ma) := pss_one h1
theorem vs_pass : PS X (.Pass pos) (tS g B W mSkip) := ps_imp ps_pass fun N σ H ⟨env, s, sr, p⟩ => p σ H s rfl (Le.refl s) sr
theorem vs_break : PS X (.Break pos) (tS g B W mBrk) := ps_imp ps_break fun N σ H ⟨env, s, sr, p⟩ => p σ H s rfl (Le.refl s) sr
theorem vs_continue : PS X (.Continue pos) (tS g B W mCnt) := ps_imp ps_continue fun N σ H ⟨env, s, sr, p⟩ => p σ H s rfl (Le.refl s) sr
/-- code that the mirror never comes to -/
@[simp] def mNever : MS := fun _ _ => .stuck
theorem vs_never : PS X st (tS g B W mNever) := ps_imp ps_never fun _ _ _ ⟨_, _, _, p⟩ => p
theorem vss_never {sts : List Stmt} : PSs X sts (tS g B W mNever) := pss_imp pss_never fun _ _ _ ⟨_, _, _, p⟩ => p
theorem setPost {i : Nat} {x : Vl} {v : V} {env : Env} {s : Sta} {σ : L2.St} {H : Hp} {N : Ends} (sr : SR g B env s σ H) (r : VlRep g B env σ s H x v)
    (p : PostS g B W s (match (motive := Vl → RS) x with
      | .d x => .nx (env.set i (some (.d x))) s.h
      | .tl xs => .nx (env.set i (some (.ol xs))) s.h
      | _ => .stuck) N) : N.nx (σ.set i (some v)) H := by
  cases x with
  | d x => exact p _ H s rfl (Le.refl s) (sr.set r)
  | tl xs =>
    obtain ⟨a, vs, rfl, h1, h2, h3, h4⟩ := r
    exact p _ H s rfl (Le.refl s) (sr.setO (sl := .ol xs) ⟨a, vs, rfl, h1, h2, h4⟩ h3)
  | bl xs => exact p.elim
  | bi c fs => exact p.elim
theorem vs_set {i : Nat} {x : Str} {pos' : Pos} (hN : X.N.Nodup) (hi : X.N[i]? = some x) (hx : Loc X.env.scope x) (he : PE X e (tE g B W m)) (hs : swapsWith e (some (.Name x pos')) pos.line X.env = pure false := by rfl) (hf : X.fn x = true ∨ X.env.scope.names.lookup x = some .local := by first | exact .inl rfl | exact .inr rfl | assumption) :
    PS X (.Assign [.Name x pos'] e pos) (tS g B W (mSet i m)) := by
  refine ps_imp (ps_set hN hi hx he hs hf) fun N σ H ⟨env, s, sr, p⟩ => ?_
  exact (bindS sr p).mono fun v H1 ⟨s1, x, sr1, l1, r1, p1⟩ => setPost sr1 r1 p1
theorem vs_expr (he : PE X e (tE g B W m)) (hs : swapsWith e none pos.line X.env = pure false := by rfl) : PS X (.Expr e pos) (tS g B W (mDrop m)) := by
  refine ps_imp (ps_expr he hs) fun N σ H ⟨env, s, sr, p⟩ => ?_
  exact (bindS sr p).mono fun v H1 ⟨s1, x, sr1, l1, r1, p1⟩ => p1 σ H1 s1 rfl (Le.refl s1) sr1
/-- a list of the body's own is frozen as the body ends -/
theorem Good.frz {s : Sta} {H : Hp} {a : Addr} {o : HO} (gd : Good g s H) (ha : H a = some o) (hf : s.F a = none) (hal : ∀ n, s.al n ≠ some a) : Good g (s.frz a o) H := by
  have f : ∀ b u, s.F b = some u → (s.frz a o).F b = some u := fun b u h => by
    have ne : b ≠ a := fun q => by rw [q, hf] at h; cases h
    show upd s.F a o b = some u
    rw [upd_ne ne]; exact h
  refine ⟨fun b u h => ?_, gd.inj, fun n b h => ?_, fun n c h => ?_, gd.zed.keep rfl rfl (fun _ _ h => h) fun _ _ _ _ h => h⟩
  · have h : upd s.F a o b = some u := h
    by_cases q : b = a
    · subst q
      rw [upd_same] at h
      cases h
      exact ha
    · rw [upd_ne q] at h
      exact gd.fle b u h
  · obtain ⟨h1, h2, h3⟩ := gd.dom n b h
    refine ⟨h1, ?_, h3⟩
    have ne : b ≠ a := fun q => by subst q; exact hal n h
    show upd s.F a o b = none
    rw [upd_ne ne]; exact h2
  · obtain ⟨b, h1, h2⟩ := gd.cell n c h
    refine ⟨b, h1, ?_⟩
    exact h2.mv (fun _ z => z) f fun _ _ z => z
theorem frz_le {s : Sta} {a : Addr} {o : HO} (hf : s.F a = none) : ∀ b u, s.F b = some u → (s.frz a o).F b = some u := fun b u h => by
  have ne : b ≠ a := fun q => by rw [q, hf] at h; cases h
  show upd s.F a o b = some u
  rw [upd_ne ne]; exact h
theorem retL {xs : List D} {a : Addr} {vs : List V} {env : Env} {s : Sta} {σ : L2.St} {H : Hp} {N : Ends} (sr : SR g B env s σ H) (h1 : H a = some (.lst vs)) (h2 : OwnA B s a) (h4 : Reps g s.F s.al xs vs) (p : PostS g B W s (.ret (.lst xs) s.h) N) : N.rt (.ref a) H := by
  have fl := frz_le (o := .lst vs) h2.f
  exact p (.ref a) H (s.frz a (.lst vs)) rfl (evo_frz h2.f h2.al h2.new sr.evo) (sr.good.frz h1 h2.f h2.al) ⟨a, vs, rfl, upd_same, h4.mono fl fun _ _ z => z⟩
theorem vs_ret (he : PE X e (tE g B W m)) : PS X (.Return (some e) pos) (tS g B W (mRet m)) := by
  refine ps_imp (ps_ret he) fun N σ H ⟨env, s, sr, p⟩ => ?_
  refine (bindS sr p).mono fun v H1 ⟨s1, x, sr1, l1, r1, p1⟩ => ?_
  cases x with
  | d x => exact p1 v H1 s1 rfl sr1.evo sr1.good r1
  | tl xs =>
    obtain ⟨a, vs, rfl, h1, h2, h3, h4⟩ := r1
    exact retL sr1 h1 h2 h4 p1
  | bl xs =>
    obtain ⟨a, vs, rfl, h1, h2, h4⟩ := r1
    exact retL sr1 h1 h2 h4 p1
  | bi c fs => exact p1.elim
theorem vs_retN : PS X (.Return none pos) (tS g B W mRetN) := ps_imp ps_retN fun N σ H ⟨env, s, sr, p⟩ => p .non H s rfl sr.evo sr.good rfl
theorem vs_if {a b : List Stmt} (hc : PT X c (tT g B W mc)) (ha : PSs X a (tS g B W ma)) (hb : PSs X b (tS g B W mb)) : PS X (.If c a b pos) (tS g B W (mIfS mc ma mb)) := by
  refine ps_imp (ps_if hc ha hb) fun N σ H ⟨env, s, sr, p⟩ => ?_
  refine (bindSB sr p).mono fun v H1 ⟨s1, sr1, l1, p1⟩ => ?_
  cases v with
  | true => exact iteT ⟨env, s1, sr1, p1⟩
  | false => exact iteF ⟨env, s1, sr1, p1⟩
end
end Vi

set_option Elab.async false
set_option linter.all false
set_option maxRecDepth 100000
set_option maxHeartbeats 2000000
namespace Vi
open PySem L2

/-! ### targets -/
abbrev TgF := D → Env → Option Env
def TgV (X : Cx) (g : Gi) (target : Expr) (T : TgF) : Prop :=
  ∃ t : TG, PG X target t ∧ ∀ (B : Bg) (env env' : Env) (s : Sta) (σ : L2.St) (H : Hp) (d : D) (v : V) (Q : L2.St → Hp → Prop), SR g B env s σ H → Rep g s.F s.al d v → T d env = some env' → (∀ σ' H', SR g B env' s σ' H' → Q σ' H') → t v σ H Q
def TgsV (X : Cx) (g : Gi) (targets : List Expr) (T : List D → Env → Option Env) : Prop :=
  ∃ t : TGs, PGs X targets t ∧ ∀ (B : Bg) (env env' : Env) (s : Sta) (σ : L2.St) (H : Hp) (ds : List D) (vs : List V) (Q : L2.St → Hp → Prop), SR g B env s σ H → Reps g s.F s.al ds vs → T ds env = some env' → (∀ σ' H', SR g B env' s σ' H' → Q σ' H') → t vs σ H Q
@[simp] def gtN (i : Nat) : TgF := fun d env => some (env.set i (some (.d d)))
@[simp] def gtNil : List D → Env → Option Env := fun ds env => match ds with
  | [] => some env
  | _ => none
@[simp] def gtCons (a : TgF) (b : List D → Env → Option Env) : List D → Env → Option Env := fun ds env => match ds with
  | d :: r => (a d env).bind fun env1 => b r env1
  | [] => none
@[simp] def gtT (n : Nat) (b : List D → Env → Option Env) : TgF := fun d env => match d with
  | .tup ds => if ds.length = n then b ds env else none
  | _ => none
section
variable {X : Cx} {g : Gi} {pos : Pos}
theorem vg_name {i : Nat} {x : Str} (hN : X.N.Nodup) (hi : X.N[i]? = some x) (hx : Loc X.env.scope x) (hf : X.fn x = true ∨ X.env.scope.names.lookup x = some .local := by first | exact .inl rfl | exact .inr rfl | assumption) : TgV X g (.Name x pos) (gtN i) :=
  ⟨_, pg_name hN hi hx hf, fun B env env' s σ H d v Q sr r e k => by
    have e : env.set i (some (.d d)) = env' := Option.some.inj e
    exact k _ _ (e ▸ sr.set r)⟩
theorem vg_nil : TgsV X g [] gtNil := ⟨_, pgs_nil, fun B env env' s σ H ds vs Q sr r e k => by
  cases ds with
  | nil =>
    have e : env = env' := Option.some.inj e
    exact ⟨r, k _ _ (e ▸ sr)⟩
  | cons _ _ => cases e⟩
theorem vg_cons {e : Expr} {es : List Expr} {T : TgF} {U : List D → Env → Option Env} (h1 : TgV X g e T) (h2 : TgsV X g es U) (hs : (assignEach (e :: es) X.env).map (·.2) = assign e X.env :: (assignEach es X.env).map (·.2) := by rfl) : TgsV X g (e :: es) (gtCons T U) := by
  obtain ⟨t, p1, q1⟩ := h1
  obtain ⟨u, p2, q2⟩ := h2
  refine ⟨_, pgs_cons p1 p2 hs, fun B env env' s σ H ds vs Q sr r e k => ?_⟩
  cases ds with
  | nil => cases e
  | cons d ds =>
    obtain ⟨v, vr, ev, r1, r2⟩ := r
    have e : (T d env).bind (fun env1 => U ds env1) = some env' := e
    cases e1 : T d env with
    | none => rw [e1] at e; cases e
    | some env1 =>
      rw [e1] at e
      exact ⟨v, vr, ev, q1 B env env1 s σ H d v _ sr r1 e1 fun σ1 H1 sr1 => q2 B env1 env' s σ1 H1 ds vr Q sr1 r2 e k⟩
theorem vg_tup (hK : g.K = X.K) (hc : X.calm = true) {es : List Expr} {k n : Nat} {U : List D → Env → Option Env} (h : TgsV X g es U) (hn : (assignEach es X.env).length = n := by rfl) (hst : (assignEach es X.env).findIdx? (·.1) = none := by rfl) : TgV X g (.Tuple es k pos) (gtT n U) := by
  obtain ⟨t, p1, q1⟩ := h
  refine ⟨_, pg_tup hc p1 hn hst, fun B env env' s σ H d v Q sr r e k => ?_⟩
  cases d with
  | tup ds =>
    obtain ⟨a, vs, rfl, h2, h3⟩ := r
    have e : (if ds.length = n then U ds env else none) = some env' := e
    by_cases hl : ds.length = n
    · rw [if_pos hl] at e
      exact ⟨a, vs, rfl, hK ▸ sr.good.sqT h2.sq, h3.length.trans hl, q1 B env env' s σ H ds vs Q sr h3 e k⟩
    · rw [if_neg hl] at e
      cases e
  | _ => cases e
end
@[simp] def mUnp (T : TgF) (e : ME) : MS := fun env h => (e env h).thenS env fun x h1 => match x with
  | .d d => (match T d env with
    | some env' => .nx env' h1
    | none => .stuck)
  | _ => .stuck
section
variable {X : Cx} {g : Gi} {B : Bg} {W : WXv} {pos : Pos} {e tg : Expr} {m : ME} {T : TgF}
theorem vs_unp (he : PE X e (tE g B W m)) (ht : TgV X g tg T) (hs : swapsWithSole [tg] e pos.line X.env = pure false := by rfl) (hw : swappedStores [tg] e X.env = pure none := by rfl)
    (h1 : (assignEach [tg] X.env).map (·.2) = [assign tg X.env] := by rfl) : PS X (.Assign [tg] e pos) (tS g B W (mUnp T m)) := by
  obtain ⟨t, p1, q1⟩ := ht
  refine ps_imp (ps_asg he p1 hs hw h1) fun N σ H ⟨env, s, sr, p⟩ => ?_
  refine (bindS sr p).mono fun v H1 ⟨s1, x, sr1, l1, r1, p1⟩ => ?_
  cases x with
  | d d =>
    cases e1 : T d env with
    | none => simp only [e1] at p1; exact p1.elim
    | some env' =>
      simp only [e1] at p1
      exact q1 B env env' s1 σ H1 d v _ sr1 r1 e1 fun σ' H' sr' => p1 σ' H' s1 rfl (Le.refl s1) sr'
  | _ => exact p1.elim
end

/-! ### while -/
def mWhile : Nat → MB → MS → MS
  | 0, _, _ => fun _ _ => .stuck
  | n + 1, c, b => fun env h => (c env h).thenS env fun x h1 => if x then (match b env h1 with
    | .nx e h2 => mWhile n c b e h2
    | .cnt e h2 => mWhile n c b e h2
    | .brk e h2 => .nx e h2
    | .ret d h2 => .ret d h2
    | .exc e x h2 => .exc e x h2
    | .stuck => .stuck) else .nx env h1
section
variable {X : Cx} {g : Gi} {B : Bg} {W : WXv} {pos : Pos} {c : Expr} {body : List Stmt} {mc : MB} {mb : MS}
theorem vs_while (n : Nat) (hp : PassesOwn (model X.prog X.w) X.A X.env X.xe) (hc : PT X c (tT g B W mc)) (hb : PSs X body (tS g B W mb)) : PS X (.While c body [] pos) (tS g B W (mWhile n mc mb)) := by
  refine ps_imp (ps_while hp hc hb) fun N σ H ⟨env, s, sr, p⟩ => ?_
  refine ⟨fun m σ H => ∃ env s, SR g B env s σ H ∧ PostS g B W s (mWhile m mc mb env s.h) N, ⟨n, env, s, sr, p⟩, ?_⟩
  rintro m σ H ⟨env, s, sr, p⟩
  cases m with
  | zero => exact p.elim
  | succ m =>
    refine (bindSB (k := fun x h1 => if x then (match mb env h1 with
      | .nx e h2 => mWhile m mc mb e h2
      | .cnt e h2 => mWhile m mc mb e h2
      | .brk e h2 => .nx e h2
      | .ret d h2 => .ret d h2
      | .exc e x h2 => .exc e x h2
      | .stuck => .stuck) else .nx env h1) sr p).mono fun b H1 ⟨s1, sr1, l1, p1⟩ => ?_
    cases b with
    | false => exact iteF (p1 σ H1 s1 rfl (Le.refl s1) sr1)
    | true =>
      refine iteT ⟨fun σ' H' => ∃ env s, SR g B env s σ' H' ∧ PostS g B W s (mWhile m mc mb env s.h) N, fun σ' H' q => ⟨m, Nat.lt_succ_self m, q⟩, env, s1, sr1, ?_⟩
      rw [if_pos rfl] at p1
      cases q : mb env s1.h with
      | nx e h2 =>
        rw [q] at p1
        intro σ' H' s' e1 l sr'
        exact ⟨e, s', sr', by rw [e1]; exact PostS.later l p1⟩
      | cnt e h2 =>
        rw [q] at p1
        intro σ' H' s' e1 l sr'
        exact ⟨e, s', sr', by rw [e1]; exact PostS.later l p1⟩
      | brk e h2 => rw [q] at p1; exact p1
      | ret d h2 => rw [q] at p1; exact p1
      | exc e x h2 => rw [q] at p1; exact p1
      | stuck => rw [q] at p1; exact p1
end

/-! ### for -/
def forL (T : TgF) (b : MS) : List D → MS
  | [] => fun env h => .nx env h
  | d :: r => fun env h => match T d env with
    | none => .stuck
    | some env1 => (match b env1 h with
      | .nx e h2 => forL T b r e h2
      | .cnt e h2 => forL T b r e h2
      | .brk e h2 => .nx e h2
      | .ret d h2 => .ret d h2
      | .exc e x h2 => .exc e x h2
      | .stuck => .stuck)
/-- a list or tuple that never changes -/
def seqD? (h : Hc) : Vl → Option (Bool × List D)
  | .d (.lst xs) => some (true, xs)
  | .d (.kl xs) => some (true, xs)
  | .d (.tup xs) => some (false, xs)
  | .d (.xtup xs) => some (false, xs)
  | .d (.ref n) => (match h[n]? with
    | some (.frz c) => (match c.bare with
      | .lst xs => some (true, xs)
      | _ => none)
    | _ => none)
  | _ => none
/-- a list that stands still -/
def StL (K : PySem.W.Frag) (s : Sta) (a : Addr) (vs : List V) : Prop := SqL K s.F a vs ∨ ∃ n, s.z n = some (.lst vs) ∧ s.al n = some a
theorem StL.le {K : PySem.W.Frag} {s s' : Sta} {a : Addr} {vs : List V} (l : Le s s') (h : StL K s a vs) : StL K s' a vs := by
  rcases h with h | ⟨n, h1, h2⟩
  · exact .inl (sqL_mono l.f h)
  · exact .inr ⟨n, l.z _ _ h1, l.al _ _ h2⟩
theorem StL.sqL {g : Gi} {K : PySem.W.Frag} {s : Sta} {H : Hp} {a : Addr} {vs : List V} (gd : Good g s H) (h : StL K s a vs) : SqL K H a vs := by
  rcases h with h | ⟨n, h1, h2⟩
  · exact sqL_mono gd.fle h
  · obtain ⟨b, c, h3, h4, _⟩ := gd.zed.at_ n _ h1
    rw [h2] at h3
    cases h3
    exact .of h4
theorem frz_lst {g : Gi} {s : Sta} {H : Hp} {n : Nat} {v : V} {c : Cell} {xs : List D} (gd : Good g s H) (r : Rep g s.F s.al (.ref n) v) (e1 : s.h[n]? = some (.frz c)) (e2 : c.bare = .lst xs) :
    ∃ a vs, v = .ref a ∧ s.z n = some (.lst vs) ∧ s.al n = some a ∧ Reps g s.F s.al xs vs := by
  obtain ⟨a, rfl, hal⟩ := r
  obtain ⟨b, g1, g2⟩ := gd.cell n _ e1
  rw [hal] at g1
  cases g1
  have g3 : CellRep g s H a c.bare := CellRep.bare (c := c) g2
  rw [e2] at g3
  obtain ⟨vs, h1, h2⟩ := g3
  obtain ⟨o, h3⟩ := gd.zed.of n c e1
  obtain ⟨b, _, h4, h5, _⟩ := gd.zed.at_ n o h3
  rw [hal] at h4
  cases h4
  rw [h1] at h5
  cases h5
  exact ⟨a, vs, rfl, h3, hal, h2⟩
def mFor (T : TgF) (e : ME) (b : MS) : MS := fun env h => (e env h).thenS env fun x h1 => match seqD? h1 x with
  | some (_, xs) => forL T b xs env h1
  | none => .stuck
theorem pi_imp {X : Cx} {tg e : Expr} {t t' : TI} (h : PI X tg e t) (i : ∀ σ H Q, t' σ H Q → t σ H Q) : PI X tg e t' := ⟨fun pins s σ H R I q => h.run pins s σ H R I (i σ H R q)⟩
theorem pi_or {X : Cx} {tg e : Expr} {t t' : TI} (h : PI X tg e t) (h' : PI X tg e t') : PI X tg e (fun σ H R => t σ H R ∨ t' σ H R) := ⟨fun pins s σ H R I q => by
  rcases q with q | q
  · exact h.run pins s σ H R I q
  · exact h'.run pins s σ H R I q⟩
section
variable {X : Cx} {g : Gi} {B : Bg} {W : WXv} {pos : Pos} {e tg : Expr} {body : List Stmt} {m : ME} {mb : MS} {T : TgF}
/-- one turn: the body behind the store -/
theorem forTurn {t : TG} {d : D} {r : List D} {v : V} {env : Env} {s : Sta} {σ : L2.St} {H : Hp} {N : Ends} (q1 : ∀ (B : Bg) (env env' : Env) (s : Sta) (σ : L2.St) (H : Hp) (d : D) (v : V) (Q : L2.St → Hp → Prop), SR g B env s σ H → Rep g s.F s.al d v → T d env = some env' → (∀ σ' H', SR g B env' s σ' H' → Q σ' H') → t v σ H Q)
    (sr : SR g B env s σ H) (rep : Rep g s.F s.al d v) (p : PostS g B W s (forL T mb (d :: r) env s.h) N) {Nx : L2.St → Hp → Prop} (hN : ∀ (env : Env) (s' : Sta) (σ : L2.St) (H : Hp), Le s s' → SR g B env s' σ H → PostS g B W s' (forL T mb r env s'.h) N → Nx σ H) :
    t v σ H fun σ2 H2 => tS g B W mb { N with nx := Nx, ct := Nx, bk := N.nx } σ2 H2 := by
  have p : PostS g B W s (match T d env with
    | none => .stuck
    | some env1 => (match mb env1 s.h with
      | .nx e h2 => forL T mb r e h2
      | .cnt e h2 => forL T mb r e h2
      | .brk e h2 => .nx e h2
      | .ret d h2 => .ret d h2
      | .exc e x h2 => .exc e x h2
      | .stuck => .stuck)) N := p
  cases e1 : T d env with
  | none => rw [e1] at p; exact p.elim
  | some env1 =>
    rw [e1] at p
    refine q1 B env env1 s σ H d v _ sr rep e1 fun σ' H' sr' => ⟨env1, s, sr', ?_⟩
    have p : PostS g B W s (match mb env1 s.h with
      | .nx e h2 => forL T mb r e h2
      | .cnt e h2 => forL T mb r e h2
      | .brk e h2 => .nx e h2
      | .ret d h2 => .ret d h2
      | .exc e x h2 => .exc e x h2
      | .stuck => .stuck) N := p
    cases q : mb env1 s.h with
    | nx e h2 =>
      rw [q] at p
      intro σ2 H2 s2 e2 l sr2
      exact hN e s2 σ2 H2 l sr2 (by rw [e2]; exact PostS.later l p)
    | cnt e h2 =>
      rw [q] at p
      intro σ2 H2 s2 e2 l sr2
      exact hN e s2 σ2 H2 l sr2 (by rw [e2]; exact PostS.later l p)
    | brk e h2 => rw [q] at p; exact p
    | ret d h2 => rw [q] at p; exact p
    | exc e x h2 => rw [q] at p; exact p
    | stuck => rw [q] at p; exact p
theorem Reps.mono2 {F F' : Hp} {al al' : Nat → Option Addr} {ds : List D} {vs : List V} (h : Reps g F al ds vs) (e : ∀ a o, F a = some o → F' a = some o) (ea : ∀ n a, al n = some a → al' n = some a) : Reps g F' al' ds vs := h.mono e ea
theorem vs_for (hK : g.K = X.K) (hp : PassesOwn (model X.prog X.w) X.A X.env X.xe) (hc : X.calm = true) (he : PE X e (tE g B W m)) (ht : TgV X g tg T) (hb : PSs X body (tS g B W mb))
    (hs : ∀ x, foldedSetIterable e X.env x = pure x := by intro _; rfl) : PS X (.For tg e body [] pos) (tS g B W (mFor T m mb)) := by
  obtain ⟨t, p1, q1⟩ := ht
  refine ps_imp (ps_for hp hc (pi_or (pi_list (tg := tg) he) (pi_tup he)) p1 hb hs) fun N σ H ⟨env, s, sr, p⟩ => ?_
  -- which of both it is is known ahead
  have go : ∀ (bb : Bool) (xs : List D) (h1 : Hc) (x : Vl), m env s.h = .ok x h1 → seqD? h1 x = some (bb, xs) → PostS g B W s (forL T mb xs env h1) N → tFor (fun σ H R => iList X.K (tE g B W m) σ H R ∨ iTup X.K (tE g B W m) σ H R) t (tS g B W mb) N σ H := by
    intro bb xs h1 x em es pp
    cases bb with
    | true =>
      refine .inl ⟨env, s, sr, ?_⟩
      rw [em]
      intro v H1 s1 e1 ev sr1 vr
      have q : ∃ a vs, v = .ref a ∧ StL g.K s1 a vs ∧ Reps g s1.F s1.al xs vs := by
        cases x with
        | d x =>
          cases x with
          | lst ys => cases es; obtain ⟨a, vs, h1, h2, h3⟩ := vr; exact ⟨a, vs, h1, .inl (.of h2), h3⟩
          | kl ys => cases es; obtain ⟨a, vs, h1, h2, h3⟩ := vr; exact ⟨a, vs, h1, .inl h2, h3⟩
          | ref n =>
            rw [← e1] at es
            unfold seqD? at es
            dsimp only at es
            split at es
            · next c ec =>
              split at es
              · next ys eb =>
                cases es
                obtain ⟨a, vs, h1, h2, h3, h4⟩ := frz_lst sr1.good vr ec eb
                exact ⟨a, vs, h1, .inr ⟨n, h2, h3⟩, h4⟩
              · cases es
            · cases es
          | _ => cases es
        | _ => cases es
      obtain ⟨a, vs, rfl, hq, hr⟩ := q
      refine ⟨a, rfl, ⟨vs, hK ▸ hq.sqL sr1.good⟩, for_list (K := X.K) (a := a) (xs := vs) (fun i σ H => ∃ env s', SR g B env s' σ H ∧ Le s1 s' ∧ PostS g B W s' (forL T mb (xs.drop i) env s'.h) N)
        ⟨env, s1, sr1, Le.refl s1, by rw [List.drop_zero, e1]; exact PostS.later ev.le pp⟩ (fun i σ H _ ⟨env, s', sr', l, _⟩ => hK ▸ (hq.le l).sqL sr'.good) ?_ ?_⟩
      · rintro i y σ H hi ⟨env, s', sr', l, pp⟩
        have hr' := hr.mono2 l.f l.al
        have hl : i < xs.length := by
          rw [← hr.length]
          exact (List.getElem?_eq_some_iff.mp hi).1
        obtain ⟨y', ey, ry⟩ := hr'.get (List.getElem?_eq_getElem hl)
        rw [hi] at ey
        cases ey
        rw [List.drop_eq_getElem_cons hl] at pp
        exact forTurn q1 sr' ry pp fun env2 s2 σ2 H2 l2 sr2 p2 => ⟨env2, s2, sr2, l.trans l2, p2⟩
      · rintro σ H ⟨env, s', sr', l, pp⟩
        rw [hr.length, List.drop_length] at pp
        exact pp σ H s' rfl (Le.refl s') sr'
    | false =>
      refine .inr ⟨env, s, sr, ?_⟩
      rw [em]
      intro v H1 s1 e1 ev sr1 vr
      have q : ∃ a vs, v = .ref a ∧ SqT g.K s1.F a vs ∧ Reps g s1.F s1.al xs vs := by
        cases x with
        | d x =>
          cases x with
          | tup ys => cases es; obtain ⟨a, vs, h1, h2, h3⟩ := vr; exact ⟨a, vs, h1, h2.sq, h3⟩
          | xtup ys => cases es; obtain ⟨a, o, vs, h1, h2, _, h3⟩ := vr; exact ⟨a, vs, h1, .inl (.inr ⟨o, h2⟩), h3⟩
          | ref n =>
            unfold seqD? at es
            dsimp only at es
            split at es
            · split at es <;> cases es
            · cases es
          | _ => cases es
        | _ => cases es
      obtain ⟨a, vs, rfl, hq, hr⟩ := q
      refine ⟨a, rfl, ⟨vs, hK ▸ sr1.good.sqT hq⟩, for_tup (K := X.K) (a := a) (xs := vs) (fun i σ H => ∃ env s', SR g B env s' σ H ∧ Le s1 s' ∧ PostS g B W s' (forL T mb (xs.drop i) env s'.h) N)
        ⟨env, s1, sr1, Le.refl s1, by rw [List.drop_zero, e1]; exact PostS.later ev.le pp⟩ (fun i σ H _ ⟨env, s', sr', l, _⟩ => hK ▸ sr'.good.sqT (sqT_mono l.f hq)) ?_ ?_⟩
      · rintro i y σ H hi ⟨env, s', sr', l, pp⟩
        have hr' := hr.mono2 l.f l.al
        have hl : i < xs.length := by
          rw [← hr.length]
          exact (List.getElem?_eq_some_iff.mp hi).1
        obtain ⟨y', ey, ry⟩ := hr'.get (List.getElem?_eq_getElem hl)
        rw [hi] at ey
        cases ey
        rw [List.drop_eq_getElem_cons hl] at pp
        exact forTurn q1 sr' ry pp fun env2 s2 σ2 H2 l2 sr2 p2 => ⟨env2, s2, sr2, l.trans l2, p2⟩
      · rintro σ H ⟨env, s', sr', l, pp⟩
        rw [hr.length, List.drop_length] at pp
        exact pp σ H s' rfl (Le.refl s') sr'
  unfold mFor at p
  cases em : m env s.h with
  | ok x h1 =>
    rw [em] at p
    have p : PostS g B W s (match seqD? h1 x with
      | some (_, xs) => forL T mb xs env h1
      | none => .stuck) N := p
    cases es : seqD? h1 x with
    | none => rw [es] at p; exact p.elim
    | some q =>
      rw [es] at p
      exact go q.1 q.2 h1 x em es p
  | exc x h1 =>
    rw [em] at p
    refine .inl ⟨env, s, sr, ?_⟩
    rw [em]
    intro cls dd H1 s1 e1 ev sr1 xr
    exact p cls dd σ H1 s1 e1 ev.le sr1 xr
  | stuck =>
    rw [em] at p
    exact p.elim
/-- for i in range(n) -/
def rangeD (lo : Int) (n : Nat) : List D := (List.range n).map fun i : Nat => D.int (lo + (i : Nat))
def mForR (T : TgF) (a : MA) (b : MS) : MS := fun env h => (a env h).thenS env fun xs h1 => match xs with
  | [.d (.int j)] => if -(2 ^ 62) ≤ j ∧ j < 2 ^ 62 then forL T b (rangeD 0 j.toNat) env h1 else .stuck
  | _ => .stuck
def mForR2 (T : TgF) (a : MA) (b : MS) : MS := fun env h => (a env h).thenS env fun xs h1 => match xs with
  | [.d (.int i), .d (.int j)] => if -(2 ^ 62) ≤ i ∧ i < 2 ^ 62 ∧ -(2 ^ 62) ≤ j ∧ j < 2 ^ 62 then forL T b (rangeD i (j - i).toNat) env h1 else .stuck
  | _ => .stuck
theorem rangeD_len (lo : Int) (n : Nat) : (rangeD lo n).length = n := by unfold rangeD; rw [List.length_map, List.length_range]
theorem rangeD_get (lo : Int) (n i : Nat) (h : i < (rangeD lo n).length) : (rangeD lo n)[i] = .int (lo + (i : Nat)) := by
  have e : (rangeD lo n)[i]? = some (.int (lo + (i : Nat))) := by
    have hn : i < n := by rw [rangeD_len] at h; exact h
    show ((List.range n).map fun i : Nat => D.int (lo + (i : Nat)))[i]? = _
    rw [List.getElem?_map, List.getElem?_range hn]
    rfl
  exact (List.getElem?_eq_some_iff.mp e).2
theorem forRange {t : TG} {lo : Int} {n : Nat} {env : Env} {s1 : Sta} {σ : L2.St} {H : Hp} {N : Ends} (q1 : ∀ (B : Bg) (env env' : Env) (s : Sta) (σ : L2.St) (H : Hp) (d : D) (v : V) (Q : L2.St → Hp → Prop), SR g B env s σ H → Rep g s.F s.al d v → T d env = some env' → (∀ σ' H', SR g B env' s σ' H' → Q σ' H') → t v σ H Q)
    (sr1 : SR g B env s1 σ H) (pp : PostS g B W s1 (forL T mb (rangeD lo n) env s1.h) N) : ∃ W' : Nat → Nat → L2.St → Hp → Prop, (∃ m, W' 0 m σ H) ∧ ∀ i m σ H, W' i m σ H →
      ((Itr lo n).stop i H ∧ N.nx σ H) ∨ ((Itr lo n).go i H ∧ ∃ Nx : L2.St → Hp → Prop, (∀ σ' H', Nx σ' H' → ∃ m', m' < m ∧ W' (i + 1) m' σ' H') ∧ ∀ x H', (Itr lo n).yld i H x H' → t x σ H' fun σ2 H2 => tS g B W mb { N with nx := Nx, ct := Nx, bk := N.nx } σ2 H2) := by
  refine for_range (lo := lo) (n := n) (fun i σ H => ∃ env s', SR g B env s' σ H ∧ PostS g B W s' (forL T mb ((rangeD lo n).drop i) env s'.h) N) ⟨env, s1, sr1, by rw [List.drop_zero]; exact pp⟩ ?_ ?_
  · rintro i σ H hi ⟨env, s', sr', pp⟩
    have hl : i < (rangeD lo n).length := by rw [rangeD_len]; exact hi
    rw [List.drop_eq_getElem_cons hl, rangeD_get] at pp
    exact forTurn q1 sr' (show Rep g s'.F s'.al (.int (lo + (i : Nat))) (.int (lo + (i : Nat))) from rfl) pp fun env2 s2 σ2 H2 l2 sr2 p2 => ⟨env2, s2, sr2, p2⟩
  · rintro σ H ⟨env, s', sr', pp⟩
    rw [show (rangeD lo n).drop n = [] from List.drop_eq_nil_of_le (by rw [rangeD_len]; exact Nat.le_refl _)] at pp
    exact pp σ H s' rfl (Le.refl s') sr'
theorem vs_forR1 {a : Expr} {ma : MA} {p' rp : Pos} (hp : PassesOwn (model X.prog X.w) X.A X.env X.xe) (hc : X.calm = true) (hg : Gl X "range") (hm : X.mg "range" = none) (ha : PA X [a] (tA g B W ma)) (ht : TgV X g tg T) (hb : PSs X body (tS g B W mb))
    (hst : starEach [a] X.env = [(false, eval a X.env)] := by rfl) (hs : ∀ x, foldedSetIterable (.Call (.Name "range" p') [a] [] rp) X.env x = pure x := by intro _; rfl) :
    PS X (.For tg (.Call (.Name "range" p') [a] [] rp) body [] pos) (tS g B W (mForR T ma mb)) := by
  obtain ⟨t, p1, q1⟩ := ht
  refine ps_imp (ps_for hp hc (pi_range1 (tg := tg) hg hm ha hst) p1 hb hs) fun N σ H ⟨env, s, sr, p⟩ => ?_
  refine (bindSA sr p).mono fun vs H1 ⟨s1, xs, sr1, l1, r1, p1⟩ => ?_
  split at p1
  · next j =>
    obtain ⟨v, rfl, r⟩ := r1.one
    split at p1
    · next hj =>
      have r : v = .int j := r
      exact ⟨j, by rw [r], hj.1, hj.2, forRange q1 sr1 p1⟩
    · exact p1.elim
  · exact p1.elim
theorem vs_forR2 {a b : Expr} {ma : MA} {p' rp : Pos} (hp : PassesOwn (model X.prog X.w) X.A X.env X.xe) (hc : X.calm = true) (hg : Gl X "range") (hm : X.mg "range" = none) (ha : PA X [a, b] (tA g B W ma)) (ht : TgV X g tg T) (hb : PSs X body (tS g B W mb))
    (hst : starEach [a, b] X.env = [(false, eval a X.env), (false, eval b X.env)] := by rfl) (hst2 : starEach [b] X.env = [(false, eval b X.env)] := by rfl) (hs : ∀ x, foldedSetIterable (.Call (.Name "range" p') [a, b] [] rp) X.env x = pure x := by intro _; rfl) :
    PS X (.For tg (.Call (.Name "range" p') [a, b] [] rp) body [] pos) (tS g B W (mForR2 T ma mb)) := by
  obtain ⟨t, p1, q1⟩ := ht
  refine ps_imp (ps_for hp hc (pi_range2 (tg := tg) hg hm ha hst hst2) p1 hb hs) fun N σ H ⟨env, s, sr, p⟩ => ?_
  refine (bindSA sr p).mono fun vs H1 ⟨s1, xs, sr1, l1, r1, p1⟩ => ?_
  split at p1
  · next i j =>
    obtain ⟨v, w, rfl, r, r2⟩ := r1.two
    split at p1
    · next hj =>
      have r : v = .int i := r
      have r2 : w = .int j := r2
      exact ⟨i, j, by rw [r, r2], hj, forRange q1 sr1 p1⟩
    · exact p1.elim
  · exact p1.elim
end
end Vi

set_option Elab.async false
set_option linter.all false
set_option maxRecDepth 100000
set_option maxHeartbeats 2000000
namespace Vi
open PySem L2

section
variable {g : Gi} {B : Bg} {W : WXv} {env : Env} {s : Sta} {σ : L2.St} {H : Hp}
/-- a slot's own object changes -/
theorem SR.mut {i : Nat} {sl sl' : Sl} {a : Addr} {o : HO} (sr : SR g B env s σ H) (hi : env[i]? = some (some sl)) (ho : sl.own = true) (hσ : σ[i]? = some (some (.ref a))) (hf : s.F a = none) (hal : ∀ n, s.al n ≠ some a) (hb : B.H a = none)
    (r : SlRep g B s (upd H a o) sl' (.ref a)) : SR g B (env.set i (some sl')) s σ (upd H a o) := by
  have hlt : i < env.length := (List.getElem?_eq_some_iff.mp hi).1
  have hnx : ∀ zs, H a ≠ some (.xd zs) := fun zs hz => by
    obtain ⟨v, h1, h2⟩ := sr.slot i sl hi
    rw [hσ] at h1
    cases h1
    cases sl with
    | d x => cases ho
    | xc c fs => cases ho
    | ol xs =>
      obtain ⟨b, vs, e, h2, _⟩ := h2
      cases e
      rw [hz] at h2
      cases h2
    | oi c fs =>
      obtain ⟨b, dx, vs, e, h2, _⟩ := h2
      cases e
      rw [hz] at h2
      cases h2
  have stay : ∀ {sl1 : Sl} {v : V}, SlRep g B s H sl1 v → (sl1.own = true → v ≠ .ref a) → SlRep g B s (upd H a o) sl1 v := fun {sl1 v} h hne => by
    cases sl1 with
    | d x => exact h
    | ol xs =>
      obtain ⟨b, vs, rfl, h2, h3, h4⟩ := h
      have ne : b ≠ a := fun e => hne rfl (by rw [e])
      exact ⟨b, vs, rfl, by rw [upd_ne ne]; exact h2, h3, h4⟩
    | oi c fs =>
      obtain ⟨b, dx, vs, rfl, h2, h3, h4, h5⟩ := h
      have ne : b ≠ a := fun e => hne rfl (by rw [e])
      exact ⟨b, dx, vs, rfl, by rw [upd_ne ne]; exact h2, h3, h4, h5⟩
    | xc c fs =>
      obtain ⟨h1, h2, vs, h3, h4, h5⟩ := h
      have ne : B.xd ≠ a := fun e => hnx vs (by rw [← e]; exact h3)
      exact ⟨h1, h2, vs, by rw [upd_ne ne]; exact h3, h4, h5⟩
  refine ⟨⟨fun b u h => ?_, sr.good.inj, fun n b h => ?_, fun n c h => ?_, sr.good.zed.keep rfl rfl (fun _ _ h => h) fun n b o h1 h2 => by rw [upd_ne (fun e => hal n (by rw [← e]; exact h1))]; exact h2⟩, ⟨sr.evo.f, sr.evo.al, fun b u h n => ?_, sr.evo.len, sr.evo.z⟩, by rw [List.length_set]; exact sr.len, fun j sl1 h => ?_, fun j k sl1 sl2 u hjk h1 h2 o1 o2 h3 h4 => ?_⟩
  · have ne : b ≠ a := fun e => by rw [e, hf] at h; cases h
    rw [upd_ne ne]
    exact sr.good.fle b u h
  · obtain ⟨h1, h2, u, h3⟩ := sr.good.dom n b h
    have ne : b ≠ a := fun e => hal n (by rw [← e]; exact h)
    exact ⟨h1, h2, u, by rw [upd_ne ne]; exact h3⟩
  · obtain ⟨b, h1, h2⟩ := sr.good.cell n c h
    have ne : b ≠ a := fun e => hal n (by rw [← e]; exact h1)
    refine ⟨b, h1, ?_⟩
    exact h2.mv (fun o h3 => by rw [upd_ne ne]; exact h3) (fun _ _ h => h) fun _ _ h => h
  · obtain ⟨h1, h2, h3⟩ := sr.evo.oth b u h n
    have ne : b ≠ a := fun e => by rw [e, hb] at h; cases h
    exact ⟨by rw [upd_ne ne]; exact h1, h2, h3⟩
  · by_cases e : i = j
    · subst e
      rw [List.getElem?_set_self hlt] at h
      cases h
      exact ⟨_, hσ, r⟩
    · rw [List.getElem?_set_ne e] at h
      obtain ⟨v, h1, h2⟩ := sr.slot j sl1 h
      exact ⟨v, h1, stay h2 fun o1 q => by subst q; exact sr.sep i j sl sl1 (.ref a) e hi h ho o1 hσ h1⟩
  · have f : ∀ {j : Nat} {sl1 : Sl}, (env.set i (some sl'))[j]? = some (some sl1) → sl1.own = true → ∃ sl3, env[j]? = some (some sl3) ∧ sl3.own = true := fun {j sl1} h q => by
      by_cases e : i = j
      · subst e
        exact ⟨sl, hi, ho⟩
      · rw [List.getElem?_set_ne e] at h
        exact ⟨sl1, h, q⟩
    obtain ⟨x1, e1, e2⟩ := f h1 o1
    obtain ⟨x2, e3, e4⟩ := f h2 o2
    exact sr.sep j k x1 x2 u hjk e1 e3 e2 e4 h3 h4
/-- a cell changes -/
theorem SR.cell {n : Nat} {c c' : Cell} {a : Addr} {o : HO} (sr : SR g B env s σ H) (hc : s.h[n]? = some c) (ha : s.al n = some a) (nf : ∀ c0, c ≠ .frz c0) (nf' : ∀ c0, c' ≠ .frz c0) (r : CellRep g { s with h := s.h.set n c' } (upd H a o) a c') :
    SR g B env { s with h := s.h.set n c' } σ (upd H a o) := by
  obtain ⟨hn, hf, u0, hu0⟩ := sr.good.dom n a ha
  have stay : ∀ {sl1 : Sl} {v : V}, SlRep g B s H sl1 v → SlRep g B { s with h := s.h.set n c' } (upd H a o) sl1 v := fun {sl1 v} h => by
    cases sl1 with
    | d x => exact h
    | ol xs =>
      obtain ⟨b, vs, rfl, h2, h3, h4⟩ := h
      have ne : b ≠ a := fun e => h3.al n (by rw [e]; exact ha)
      exact ⟨b, vs, rfl, by rw [upd_ne ne]; exact h2, ⟨h3.f, h3.al, h3.new⟩, h4⟩
    | oi c fs =>
      obtain ⟨b, dx, vs, rfl, h2, h3, h4, h5⟩ := h
      have ne : b ≠ a := fun e => h3.al n (by rw [e]; exact ha)
      exact ⟨b, dx, vs, rfl, by rw [upd_ne ne]; exact h2, ⟨h3.f, h3.al, h3.new⟩, h4, h5⟩
    | xc c fs =>
      obtain ⟨h1, h2, vs, h3, h4, h5⟩ := h
      have ne : B.xd ≠ a := fun e => h4 n (by rw [e]; exact ha)
      exact ⟨h1, h2, vs, by rw [upd_ne ne]; exact h3, h4, h5⟩
  have zed : ZOk { s with h := s.h.set n c' } (upd H a o) := ⟨fun m u h => by
      obtain ⟨b, c0, h1, h2, h3⟩ := sr.good.zed.at_ m u h
      have e : n ≠ m := fun e => by
        subst e
        rw [hc] at h3
        exact nf _ (Option.some.inj h3)
      have ne : b ≠ a := fun q => e (sr.good.inj n m a ha (by rw [← q]; exact h1))
      refine ⟨b, c0, h1, by rw [upd_ne ne]; exact h2, ?_⟩
      show (s.h.set n c')[m]? = _
      rw [List.getElem?_set_ne e]
      exact h3, fun m c0 h => by
      have h : (s.h.set n c')[m]? = some (.frz c0) := h
      by_cases e : n = m
      · subst e
        rw [List.getElem?_set_self hn] at h
        exact absurd (Option.some.inj h) (nf' _)
      · rw [List.getElem?_set_ne e] at h
        exact sr.good.zed.of m c0 h⟩
  refine ⟨⟨fun b u h => ?_, sr.good.inj, fun m b h => ?_, fun m d h => ?_, zed⟩, ⟨sr.evo.f, sr.evo.al, fun b u h nn => ?_, by show _ ≤ (s.h.set n c').length; rw [List.length_set]; exact sr.evo.len, sr.evo.z⟩, sr.len, fun j sl1 h => ?_, sr.sep⟩
  · have ne : b ≠ a := fun e => by rw [e] at h; rw [hf] at h; cases h
    rw [upd_ne ne]
    exact sr.good.fle b u h
  · obtain ⟨h1, h2, u, h3⟩ := sr.good.dom m b h
    refine ⟨by show m < (s.h.set n c').length; rw [List.length_set]; exact h1, h2, ?_⟩
    by_cases e : b = a
    · subst e
      exact ⟨o, upd_same⟩
    · exact ⟨u, by rw [upd_ne e]; exact h3⟩
  · have h : (s.h.set n c')[m]? = some d := h
    by_cases e : n = m
    · subst e
      rw [List.getElem?_set_self hn] at h
      cases h
      exact ⟨a, ha, r⟩
    · rw [List.getElem?_set_ne e] at h
      obtain ⟨b, h1, h2⟩ := sr.good.cell m d h
      have ne : b ≠ a := fun q => e (sr.good.inj n m a ha (by rw [← q]; exact h1))
      refine ⟨b, h1, ?_⟩
      exact CellRep.mv (s := s) (s' := { s with h := s.h.set n c' }) (H := H) (fun o h3 => by rw [upd_ne ne]; exact h3) (fun _ _ h => h) (fun _ _ h => h) h2
  · obtain ⟨h1, h2, h3⟩ := sr.evo.oth b u h nn
    have ne : b ≠ a := fun e => h3 n (by rw [e]; exact ha)
    exact ⟨by rw [upd_ne ne]; exact h1, h2, h3⟩
  · obtain ⟨v, h1, h2⟩ := sr.slot j sl1 h
    exact ⟨v, h1, stay h2⟩
end
section
variable {g : Gi} {B : Bg} {W : WXv} {env : Env} {s : Sta} {σ : L2.St} {H : Hp}
theorem bind2S {a b : ME} {f : Vl → Vl → Hc → RS} {N : Ends} (sr : SR g B env s σ H) (p : PostS g B W s ((a env s.h).thenS env fun y h2 => (b env h2).thenS env fun z h3 => f y z h3) N) :
    tE g B W a σ H fun v H1 => tE g B W b σ H1 fun w H2 => ∃ s2 x y, SR g B env s2 σ H2 ∧ Evo s H s2 H2 ∧ VlRep g B env σ s2 H2 x v ∧ VlRep g B env σ s2 H2 y w ∧ PostS g B W s2 (f x y s2.h) N := by
  refine ⟨env, s, sr, ?_⟩
  cases e1 : a env s.h with
  | ok x h1 =>
    rw [e1] at p
    intro v H1 s1 q1 ev1 sr1 vr1
    refine ⟨env, s1, sr1, ?_⟩
    have p : PostS g B W s ((b env h1).thenS env fun z h3 => f x z h3) N := p
    rw [q1]
    cases e2 : b env h1 with
    | ok y h2 =>
      rw [e2] at p
      intro w H2 s2 q2 ev2 sr2 vr2
      refine ⟨s2, x, y, sr2, ev1.trans ev2, vr1.evo ev2, vr2, ?_⟩
      rw [q2]
      exact PostS.later (ev1.trans ev2).le p
    | exc x h =>
      rw [e2] at p
      intro cls dd H2 s2 q2 ev2 sr2 xr
      exact p cls dd σ H2 s2 q2 (ev1.trans ev2).le sr2 xr
    | stuck => rw [e2] at p; exact p
  | exc x h =>
    rw [e1] at p
    intro cls dd H2 s2 q2 ev2 sr2 xr
    exact p cls dd σ H2 s2 q2 ev2.le sr2 xr
  | stuck => rw [e1] at p; exact p
end
/-! ### xs.append(e), xs of the body's own; o[i] = e of a cell -/
def mAppend (i : Nat) (e : ME) : MS := fun env h => match env[i]? with
  | some (some (.ol xs)) => (e env h).thenS env fun x h1 => match x with
    | .d d => if xs.length < 100000 then .nx (env.set i (some (.ol (xs ++ [d])))) h1 else .stuck
    | _ => .stuck
  | _ => .stuck
@[simp] def fSetIx (env : Env) (x y z : Vl) (h3 : Hc) : RS := match x, y, z with
  | .d d, .d (.ref n), .d (.int i) => (match h3[n]? with
    | some (.lst xs) => (match ixN xs.length i with
      | some j => .nx env (h3.set n (.lst (xs.set j d)))
      | none => .stuck)
    | _ => .stuck)
  | _, _, _ => .stuck
@[simp] def mSetIx (e o k : ME) : MS := fun env h => (e env h).thenS env fun x h1 => (o env h1).thenS env fun y h2 => (k env h2).thenS env fun z h3 => fSetIx env x y z h3
theorem size_lt {n : Nat} (h : n < 100000) : n < sizeLine := Nat.lt_of_lt_of_le h (by decide)
section
variable {X : Cx} {g : Gi} {B : Bg} {W : WXv} {pos apos cpos : Pos} {e o k : Expr} {m mo mk : ME} {tpos : Pos}
theorem vs_append {i : Nat} (hK : g.K = X.K) (ho : PE X o (tVar i)) (he : PE X e (tE g B W m)) (hbase : attributeBase o "append" X.env (eval o X.env) = eval o X.env := by rfl) (hline : (apos.endLine == cpos.line) = true := by rfl)
    (hfew : ((backTo cpos (starEach [e] X.env)).all (fun x => !x.1) && (backToKw cpos (keywordEach [] X.env)).all (fun x => x.1.isSome) && decide ([e].length + ([] : List Keyword).length + (if ([] : List Keyword).isEmpty then 0 else 1) < 30)) = true := by rfl)
    (hst : starEach [e] X.env = (false, eval e X.env) :: starEach [] X.env := by rfl) (hpl : (backTo cpos (starEach [] X.env)).any (·.1) = false := by rfl)
    (hs : swapsWith (.Call (.Attribute o "append" apos) [e] [] cpos) none pos.line X.env = pure false := by rfl) :
    PS X (.Expr (.Call (.Attribute o "append" apos) [e] [] cpos) pos) (tS g B W (mAppend i m)) := by
  refine ps_imp (ps_expr (pe_bm PySem.F.plainAttrs_list PySem.F.slot_list_append PySem.F.type_list_append mt_append ho (pa_cons he pa_nil hst) hbase hfew hline hst hpl) hs) fun N σ H ⟨env, s, sr, p⟩ => ?_
  unfold mAppend at p
  split at p
  · next xs hx =>
    obtain ⟨v, h1, h2⟩ := sr.slot i _ hx
    obtain ⟨a, vs, rfl, h3, h4, h5⟩ := h2
    refine ⟨.ref a, h1, .inl ⟨rfl, vs, .of h3⟩, ?_⟩
    refine (bindS sr p).mono fun w H1 ⟨s1, x, sr1, l1, r1, p1⟩ => ?_
    obtain ⟨v', h1', h2'⟩ := sr1.slot i _ hx
    rw [h1] at h1'
    cases h1'
    obtain ⟨a', ws, ea, h3', h4', h5'⟩ := h2'
    cases ea
    cases x with
    | d d =>
      have p1 : PostS g B W s1 (if xs.length < 100000 then .nx (env.set i (some (.ol (xs ++ [d])))) s1.h else .stuck) N := p1
      by_cases hl : xs.length < 100000
      · rw [if_pos hl] at p1
        refine ⟨a, ws, w, rfl, rfl, h3', by rw [h5'.length]; exact size_lt hl, ?_⟩
        exact p1 σ _ s1 rfl (Le.refl s1) (sr1.mut hx rfl h1 h4'.f h4'.al h4'.new ⟨a, ws ++ [w], rfl, upd_same, h4', h5'.append (Reps.cons r1 Reps.nil)⟩)
      · rw [if_neg hl] at p1
        exact p1.elim
    | _ => exact p1.elim
  · exact p.elim
theorem vs_setix (he : PE X e (tE g B W m)) (ho : PE X o (tE g B W mo)) (hk : PE X k (tE g B W mk)) (hs : swapsWithSole [.Subscript o k tpos] e pos.line X.env = pure false := by rfl) (hw : swappedStores [.Subscript o k tpos] e X.env = pure none := by rfl)
    (h1 : (assignEach [.Subscript o k tpos] X.env).map (·.2) = [assign (.Subscript o k tpos) X.env] := by rfl)
    (ha : ∀ v, assign (.Subscript o k tpos) X.env v = (do
      let ov ← holding [v] (eval o X.env)
      let iv ← holding [v, ov] (eval k X.env)
      standAt tpos
      holding [v, ov, iv] (setItem ov iv v)
      release [v, ov, iv] []) := by intro _; rfl) : PS X (.Assign [.Subscript o k tpos] e pos) (tS g B W (mSetIx m mo mk)) := by
  refine ps_imp (ps_asg he (pg_sub ho hk set_list ha) hs hw h1) fun N σ H ⟨env, s, sr, p⟩ => ?_
  refine (bindS sr p).mono fun v H1 ⟨s1, x, sr1, l1, r1, p1⟩ => ?_
  -- the value x stays known while o and k are asked
  have two := bind2S (W := W) (N := N) (f := fSetIx env x) sr1 p1
  refine two.mono fun ov H2 q => q.mono fun kv H3 ⟨s3, y, z, sr3, e3, r2, r3, p3⟩ => ?_
  have r1' := r1.evo e3
  unfold fSetIx at p3
  split at p3
  · split at p3
    · next xs hx =>
      split at p3
      · next j hj =>
        obtain ⟨a, rfl, hal⟩ := r2
        obtain ⟨a2, g1, ws, g3, q1⟩ := sr3.good.cell _ _ hx
        rw [hal] at g1
        cases g1
        refine ⟨a, ws, _, j, rfl, r3, g3, by rw [q1.length]; exact hj, ?_⟩
        exact p3 σ _ { s3 with h := s3.h.set _ (.lst (xs.set j _)) } rfl ⟨fun _ _ z => z, fun _ _ z => z, fun _ _ z => z⟩ (sr3.cell hx hal (fun _ z => by cases z) (fun _ z => by cases z) ⟨ws.set j v, upd_same, q1.set r1' j⟩)
      · exact p3.elim
    · exact p3.elim
  · exact p3.elim

/-! ### attributes -/
def putD (f : Str) (d : D) : List (Str × D) → List (Str × D)
  | [] => [(f, d)]
  | (g, x) :: r => if g = f then (g, d) :: r else (g, x) :: putD f d r
def fFld (g : Gi) (f : Str) (x : Vl) (h : Hc) : R Vl := match x with
  | .d (.obj c fs) => if g.fld c f then (match fs.lookup f with
    | some d => .ok (.d d) h
    | none => .stuck) else .stuck
  | .bi c fs => if g.fld c f then (match fs.lookup f with
    | some d => .ok (.d d) h
    | none => .stuck) else .stuck
  | .d (.ref n) => (match h[n]? with
    | some (.ins c fs) => if g.fld c f then (match fs.lookup f with
      | some d => .ok (.d d) h
      | none => .stuck) else .stuck
    | _ => .stuck)
  | _ => .stuck
theorem RepF.lookup {F : Hp} {al : Nat → Option Addr} {f : Str} : ∀ {fs : List (Str × D)} {vs : List (Str × V)} {d : D}, RepF g F al fs vs → fs.lookup f = some d → ∃ v, vs.lookup f = some v ∧ Rep g F al d v
  | [], _, _, _, e => by cases e
  | (k, x) :: r, _, d, ⟨v, rr, h1, h2, h3⟩, e => by
    rw [h1]
    by_cases q : f = k
    · subst q
      rw [List.lookup_cons_self] at e
      cases e
      exact ⟨v, List.lookup_cons_self, h2⟩
    · have nb : (f == k) = false := beq_eq_false_iff_ne.mpr q
      rw [List.lookup_cons, nb] at e
      obtain ⟨w, e1, e2⟩ := h3.lookup e
      exact ⟨w, by rw [List.lookup_cons, nb]; exact e1, e2⟩
theorem RepF.put {F : Hp} {al : Nat → Option Addr} {f : Str} {d : D} {v : V} (hd : Rep g F al d v) : ∀ {fs : List (Str × D)} {vs : List (Str × V)}, RepF g F al fs vs → RepF g F al (putD f d fs) (putF f v vs)
  | [], _, h => by rw [show _ = [] from h]; exact ⟨v, [], rfl, hd, rfl⟩
  | (k, x) :: r, _, ⟨w, rr, h1, h2, h3⟩ => by
    rw [h1]
    unfold putD putF
    by_cases q : k = f
    · rw [if_pos q, if_pos q]
      exact ⟨v, rr, rfl, hd, h3⟩
    · rw [if_neg q, if_neg q]
      exact ⟨w, _, rfl, h2, h3.put hd⟩
theorem RepF.length {F : Hp} {al : Nat → Option Addr} : ∀ {fs : List (Str × D)} {vs : List (Str × V)}, RepF g F al fs vs → vs.length = fs.length
  | [], _, h => by rw [show _ = [] from h]; rfl
  | (k, x) :: r, _, ⟨w, rr, h1, h2, h3⟩ => by rw [h1, List.length_cons, List.length_cons, h3.length]
theorem ve_fld (G : GiOk g) (hK : g.K = X.K) {f : Str} (ho : PE X o (tE g B W mo)) (hb : attributeBase o f X.env (eval o X.env) = eval o X.env := by rfl) : PE X (.Attribute o f pos) (tE g B W (m1 (fFld g f) mo)) := by
  refine pe_imp (pe_fld ho hb) fun σ H Q ⟨env, s, sr, p⟩ => ?_
  refine (bindE (Q := Q) sr p).mono fun v H1 ⟨s1, x, sr1, _, r1, p1⟩ => ?_
  have fin : ∀ {c : Nat} {fs : List (Str × D)} {a dx : Addr} {vs : List (Str × V)}, H1 a = some (.ins (g.ca c) dx vs) → RepF g s1.F s1.al fs vs → PostE g B W env s1 σ H1 (if g.fld c f then (match fs.lookup f with
      | some d => .ok (.d d) s1.h
      | none => .stuck) else .stuck) Q → v = .ref a → ∃ (a C dx : Addr) (fs : List (Str × V)) (w : V), v = .ref a ∧ H1 a = some (.ins C dx fs) ∧ Cls X.K C ∧ NoAttr X.K C f ∧ fs.lookup f = some w ∧ Q w H1 := by
    intro c fs a dx vs ha hr pp ev
    by_cases hc : g.fld c f = true
    · rw [if_pos hc] at pp
      cases e : fs.lookup f with
      | none => rw [e] at pp; exact pp.elim
      | some d =>
        rw [e] at pp
        obtain ⟨w, e1, e2⟩ := hr.lookup e
        obtain ⟨k1, k2⟩ := G.fld c f hc
        exact ⟨a, g.ca c, dx, vs, w, ev, ha, hK ▸ (G.cls c k1).cl, hK ▸ k2, e1, PostE.pure sr1 pp e2⟩
    · rw [if_neg hc] at pp
      exact pp.elim
  unfold fFld at p1
  split at p1
  · obtain ⟨a, dx, vs, rfl, h2, h3⟩ := r1
    exact fin (sr1.good.fle _ _ h2) h3 p1 rfl
  · obtain ⟨a, dx, vs, rfl, h2, _, h3⟩ := r1
    exact fin h2 h3 p1 rfl
  · next n =>
    split at p1
    · next c fs hx =>
      obtain ⟨a, rfl, hal⟩ := r1
      obtain ⟨a2, g1, dx, vs, h2, h3⟩ := sr1.good.cell n _ hx
      rw [hal] at g1
      cases g1
      exact fin h2 h3 p1 rfl
    · exact p1.elim
  · exact p1.elim
/-- self.f = e, in self's own __init__ (self in slot i) -/
def mSetFld (g : Gi) (i : Nat) (f : Str) (e : ME) : MS := fun env h => (e env h).thenS env fun x h1 => match x, env[i]? with
  | .d d, some (some (.oi c fs)) => if g.fld c f && decide (fs.length < 1000) then .nx (env.set i (some (.oi c (putD f d fs)))) h1 else .stuck
  | _, _ => .stuck
theorem vs_setfld {i : Nat} (G : GiOk g) (hK : g.K = X.K) {f : Str} (ho : PE X o (tVar i)) (he : PE X e (tE g B W m)) (hs : swapsWith e (some (.Attribute o f tpos)) pos.line X.env = pure false := by rfl) :
    PS X (.Assign [.Attribute o f tpos] e pos) (tS g B W (mSetFld g i f m)) := by
  refine ps_imp (ps_fld ho he hs) fun N σ H ⟨env, s, sr, p⟩ => ?_
  refine (bindS sr p).mono fun v H1 ⟨s1, x, sr1, l1, r1, p1⟩ => ?_
  split at p1
  · next d c fs hx =>
    split at p1
    · next hcl =>
      obtain ⟨hc, hl⟩ := Bool.and_eq_true_iff.mp hcl
      obtain ⟨w, h1, h2⟩ := sr1.slot i _ hx
      obtain ⟨a, dx, vs, rfl, h3, h4, h5, h6⟩ := h2
      obtain ⟨k1, k2⟩ := G.fld c f hc
      refine ⟨_, h1, a, g.ca c, dx, vs, rfl, h3, hK ▸ (G.cls c k1).cl, hK ▸ k2, by rw [h5.length]; exact of_decide_eq_true hl, ?_⟩
      exact p1 σ _ s1 rfl (Le.refl s1) (sr1.mut hx rfl h1 h4.f h4.al h4.new ⟨a, dx, _, rfl, upd_same, h4, h5.put r1, h6⟩)
    · exact p1.elim
  · exact p1.elim
end
end Vi

set_option Elab.async false
set_option linter.all false
set_option maxRecDepth 100000
set_option maxHeartbeats 2000000
namespace Vi
open PySem L2 PyProof.Rows

/-! ### defs: a promise that also knows that nothing is being shown (guards) -/
structure FnG (P : Program) (w : World) (K : PySem.W.Frag) (mg : Str → Option Value) (base : Heap) (k : Nat) (f : Addr) (fd : FuncData) (ps : List Str) (sp : Sp) : Prop where
  len : ∀ vs H Q E, sp vs H Q E → vs.length = ps.length
  run : ∀ (A : Around) (outer : List PySem.Env) (s : Shared) (H : Hp) (args : Args) (us : List Value) (vs : List V) (Q : VK) (E : XK), Room k A → A.guards = some [] → Env0 P w K mg base A outer s H → BindsTo s fd args (ps.zip us) → Vals vs us → sp vs H Q E →
    codeAny (model P w) A (.call (.ref f) args) (CR (L2.CX P w) outer P w H s Q E) s
theorem FnG.mono {P : Program} {w : World} {K : PySem.W.Frag} {mg : Str → Option Value} {base : Heap} {j k : Nat} {f : Addr} {fd : FuncData} {ps : List Str} {sp : Sp} (F : FnG P w K mg base j f fd ps sp) (h : j ≤ k) : FnG P w K mg base k f fd ps sp :=
  ⟨F.len, fun A outer s H args us vs Q E hr => F.run A outer s H args us vs Q E (hr.mono h)⟩
theorem fn_G {P : Program} {w : World} {K : PySem.W.Frag} {mg : Str → Option Value} {base : Heap} {x qual : Str} {params : Arguments} {body : List Stmt} {scope : Scope} {dvs : List V} {kws : List (Str × V)} {f : Addr} {fd : FuncData} {N ps : List Str} {k : Nat} {sp : Sp}
    (F : FunD K x qual params body scope dvs kws f fd) (S : FnScope N ps scope) (len : ∀ vs H Q E, sp vs H Q E → vs.length = ps.length)
    (hbody : ∀ (cdv : Value) (A : Around) (outer : List PySem.Env) (s : Shared) (H : Hp) (vs : List V) (Q : VK) (E : XK), Room k (A.deeper (envOfC qual scope s.heap.objs.size f cdv)) → A.guards = some [] → sp vs H Q E →
      ∃ t, PSs (cxOf (L2.CX P w) P w K mg base N qual scope f cdv A outer s H E) body t ∧ t { nx := fun _ H' => Q .non H', rt := Q } (start N vs) H) : FnG P w K mg base (k + 1) f fd ps sp := by
  obtain ⟨oc, od, dV, kV, doc, pm, an, cdv, ct, osl, rfl, lk, hcd, _, _⟩ := F.ex
  refine ⟨len, ?_⟩
  intro A outer s H args us vs Q E room gds e0 bnd rv want
  have many := len _ _ _ _ want
  have inK : K.In s.heap := e0.mod.kin.keeps fun b o e => (e0.bs b o e).1
  have free : s.heap.NoLimit := e0.mod.nolimit.keeps fun b o e => (e0.bs b o e).1
  have kinds : ∀ y ∈ ps.zip us, scope.names.lookup y.1 = some .local ∨ (scope.names.lookup y.1 = some .cell ∧ ((cellsFrom (s.heap.objs.size + 1) scope.names []).lookup y.1).isSome = true) := by
    rintro ⟨n, v⟩ hy
    rcases S.par n (List.of_mem_zip hy).1 with q | q
    · exact .inl q
    · exact .inr ⟨q, PySem.W.cellsFrom_some _ _ _ (.inl q)⟩
  refine codeAny_call_function room.depth (inK _ _ lk) rfl S.co S.gen rfl (PySem.W.codeRec_of inK hcd) (bnd _ _ _ _ ?_)
  refine wpAny_newFunctionEnv_cells S.kind kinds ?_
  intro env he s1 x
  subst he
  refine ⟨free.keeps x.toInCall.keep, codeAny_func ?_⟩
  obtain ⟨t, ht, hq⟩ := hbody cdv A outer s H vs Q E (room.deeper _) gds want
  have I : Inv (cxOf (L2.CX P w) P w K mg base N qual scope f cdv A outer s H E) [] (start N vs) H s1 := inv_start S room.hd e0 many rv x
  have fin : ∀ {s' : Shared} {σ' : L2.St} {H' : Hp} {v : V} {u : Value}, Inv (cxOf (L2.CX P w) P w K mg base N qual scope f cdv A outer s H E) [] σ' H' s' → RelV v u → Q v H' → CE outer P w H s Q u s' := by
    intro s' σ' H' v u J r q
    exact ⟨v, H', J.os, J.bare, J.base, J.hok, r, q⟩
  refine wpAny_mono (ht.run [] s1 (start N vs) H _ I hq) ?_ fun e s' hs => hs
  intro fl s' hs
  cases fl with
  | ret u =>
    obtain ⟨v, σ', H', J, r, q⟩ := hs
    exact fin J r q
  | next =>
    obtain ⟨σ', H', J, q⟩ := hs
    exact fin (v := V.non) (u := Value.none) J rfl q
  | brk => exact (hs.choose_spec.choose_spec.2).elim
  | cont => exact (hs.choose_spec.choose_spec.2).elim

/-! ### promises over data -/
abbrev Fn := List D → Hc → R D
def PostF (g : Gi) (s : Sta) (H : Hp) : R D → VK → XK → Prop
  | .ok d h, Q, _ => ∀ (v : V) (H' : Hp) (s' : Sta), s'.h = h → Evo s H s' H' → Good g s' H' → Rep g s'.F s'.al d v → Q v H'
  | .exc x h, _, E => ∀ (cls : Value) (dd : Option Addr) (H' : Hp) (s' : Sta), s'.h = h → Evo s H s' H' → Good g s' H' → XRep g s' H' x cls dd → E cls dd H'
  | .stuck, _, _ => False
def spD (g : Gi) (n : Nat) (F : Fn) : Sp := fun vs H Q E => ∃ (s : Sta) (ds : List D), vs.length = n ∧ Good g s H ∧ Reps g s.F s.al ds vs ∧ PostF g s H (F ds s.h) Q E
@[simp] def fCall (F : Fn) (dd : List D) (xs : List Vl) (h : Hc) : R Vl := match datas xs with
  | some ds => (F (ds ++ dd) h).bind fun d h' => .ok (.d d) h'
  | none => .stuck
/-- a def as it may be called in a body -/
structure VFn (X : Cx) (g : Gi) (x : Str) (n : Nat) (dd : List D) (F : Fn) : Prop where
  ex : ∃ (k : Nat) (f : Addr) (fd : FuncData) (ps : List Str) (dvs : List V) (ds : List Value), FnG X.prog X.w X.K X.mg X.base k f fd ps (spD g ps.length F) ∧ Room k X.A ∧ X.mg x = some (.ref f) ∧ PySem.W.keepIn X.K (.ref f) = true ∧
    Binds X.K fd ps ds ∧ Vals dvs ds ∧ (∀ F al, Reps g F al dd dvs) ∧ n + dvs.length = ps.length
section
variable {X : Cx} {g : Gi} {B : Bg} {W : WXv} {env : Env} {s s' : Sta} {σ : L2.St} {H H' : Hp}
theorem SR.call (sr : SR g B env s σ H) (e : Evo s H s' H') (gd : Good g s' H') : SR g B env s' σ H' :=
  ⟨gd, sr.evo.trans e, sr.len, fun i sl h => by
    obtain ⟨v, h1, h2⟩ := sr.slot i sl h
    exact ⟨v, h1, h2.evo e⟩, sr.sep⟩
theorem run_G {CXE : L2.St → XK} {k : Nat} {f : Addr} {fd : FuncData} {ps : List Str} {sp : Sp} {dvs : List V} {ds : List Value} {pins : List (Addr × Obj)} {σ : L2.St} {H : Hp} {s : Shared} {Q : VK} {us : List Value} {vs : List V}
    (F : FnG X.prog X.w X.K X.mg X.base k f fd ps sp) (hr : Room k X.A) (hg : X.A.guards = some []) (hb : Binds X.K fd ps ds) (hd : Vals dvs ds) (hx : PassesAt (L2.CX X.prog X.w) X σ (CXE σ))
    (I : Inv X pins σ H s) (r : Vals vs us) (h : sp (vs ++ dvs) H Q (CXE σ)) : wpAny (model X.prog X.w) X.A (call (.ref f) us) (EP X pins σ Q) X.xe s := by
  have r2 : Vals (vs ++ dvs) (us ++ ds) := r.append hd
  have hl : (us ++ ds).length = ps.length := by rw [← r2.length]; exact F.len _ _ _ _ h
  refine wpAny_call (codeAny_mono (F.run X.A X.stack s H ⟨us, []⟩ (us ++ ds) (vs ++ dvs) Q (CXE σ) hr hg I.env0 (hb s us I.kIn hl) r2 h) ?_)
  intro r s' hq
  cases r with
  | error e => exact hx pins H s e s' I hq
  | ok fl =>
    cases fl with
    | ret u => exact I.after hq
    | next => exact False.elim hq
    | brk => exact False.elim hq
    | cont => exact False.elim hq
/-- the promise of a callee, from what is wanted of the call's result -/
theorem spD_of {n : Nat} {F : Fn} {ds : List D} {vs : List V} {s : Sta} {H : Hp} {σ : L2.St} {Q : VK} (sr : SR g B env s σ H) (hl : vs.length = n) (r : Reps g s.F s.al ds vs) (p : PostE g B W env s σ H ((F ds s.h).bind fun d h' => .ok (.d d) h') Q) : spD g n F vs H Q (fun cls d H' => W cls d σ H') := by
  refine ⟨s, ds, hl, sr.good, r, ?_⟩
  cases e : F ds s.h with
  | ok d h =>
    rw [e] at p
    intro v H' s' e1 ev gd rr
    exact p v H' s' e1 ev (sr.call ev gd) rr
  | exc x h =>
    rw [e] at p
    intro cls dd H' s' e1 ev gd xr
    exact p cls dd H' s' e1 ev (sr.call ev gd) xr
  | stuck =>
    rw [e] at p
    exact p
end
section
variable {X : Cx} {g : Gi} {B : Bg} {W : WXv} {pos p : Pos} {e : Expr} {es : List Expr} {A : MA} {F : Fn} {dd : List D} {n : Nat} {x : Str}
theorem datas_length : ∀ {xs : List Vl} {ds : List D}, datas xs = some ds → ds.length = xs.length
  | [], _, e => by
    have e : some [] = some _ := e
    cases e
    rfl
  | .d x :: r, ds, e => by
    have e : (datas r).map (x :: ·) = some ds := e
    cases q : datas r with
    | none => rw [q] at e; cases e
    | some l =>
      rw [q] at e
      have e : x :: l = ds := Option.some.inj e
      rw [← e, List.length_cons, List.length_cons, datas_length q]
  | .tl _ :: _, _, e => by cases e
  | .bl _ :: _, _, e => by cases e
  | .bi _ _ :: _, _, e => by cases e
theorem VlReps.length {env : Env} {σ : L2.St} {s : Sta} {H : Hp} : ∀ {xs : List Vl} {vs : List V}, VlReps g B env σ s H xs vs → vs.length = xs.length
  | _, _, .nil => rfl
  | _, _, .cons _ b => by rw [List.length_cons, List.length_cons, b.length]
/-- n arguments are written -/
@[simp] def fCallN (n : Nat) (F : Fn) (dd : List D) (xs : List Vl) (h : Hc) : R Vl := if xs.length = n then fCall F dd xs h else .stuck
theorem ve_call (V : VFn X g x n dd F) (hgd : X.A.guards = some []) (tk : Takes X W) (hg : Gl X x) (ha : PA X (e :: es) (tA g B W A)) (hdb : (x == ("__debug__" : Str)) = false := by decide)
    (he : starEach (e :: es) X.env = (false, eval e X.env) :: starEach es X.env := by rfl) (hpl : (backTo pos (starEach es X.env)).any (·.1) = false := by rfl) :
    PE X (.Call (.Name x p) (e :: es) [] pos) (tE g B W (mA1 (fCallN n F dd) A)) := by
  obtain ⟨k, f, fd, ps, dvs, ds, FG, hr, hm, hk, hb, hd, hdd, hn⟩ := V.ex
  refine ⟨fun pins s σ H Q I h => ?_⟩
  refine wpAny_Call_Name_kw (ld_glob I hg hm ?_ hdb)
  obtain ⟨env, st, sr, pp⟩ := h
  have hA := (bindA (Q := Q) sr pp)
  refine PySem.W.callWith_K (h₀ := X.base) I.ok.mod.kin hk (thn (ha.run pos pins s σ H _ I hA) fun us s1 ⟨vs, H1, I1, r, st1, xs, sr1, ev1, r1, p1⟩ => ⟨I1.kIn, ?_⟩) he hpl
  unfold fCallN at p1
  by_cases hl : xs.length = n
  · rw [if_pos hl] at p1
    unfold fCall at p1
    cases e1 : datas xs with
    | none => rw [e1] at p1; exact p1.elim
    | some dl =>
      rw [e1] at p1
      have rr := (r1.datas e1).append (hdd st1.F st1.al)
      exact run_G (CXE := fun σ => WE W σ) FG hr hgd hb hd (passAt tk σ) I1 r (spD_of sr1 (by rw [List.length_append, r1.length, hl]; exact hn) rr p1)
  · rw [if_neg hl] at p1
    exact p1.elim
theorem ve_call0 (V : VFn X g x 0 dd F) (hgd : X.A.guards = some []) (tk : Takes X W) (hg : Gl X x) (hdb : (x == ("__debug__" : Str)) = false := by decide) :
    PE X (.Call (.Name x p) [] [] pos) (tE g B W (mA1 (fCallN 0 F dd) maNil)) := by
  obtain ⟨k, f, fd, ps, dvs, ds, FG, hr, hm, hk, hb, hd, hdd, hn⟩ := V.ex
  refine ⟨fun pins s σ H Q I h => ?_⟩
  refine wpAny_Call_Name_kw (ld_glob I hg hm ?_ hdb)
  obtain ⟨env, st, sr, pp⟩ := h
  have pp : PostE g B W env st σ H ((F dd st.h).bind fun d h' => .ok (.d d) h') Q := pp
  refine PySem.W.callWith_K0 I.kIn hk ?_
  exact run_G (us := []) (CXE := fun σ => WE W σ) FG hr hgd hb hd (passAt tk σ) I .nil (spD_of sr (by rw [List.nil_append]; omega) (hdd st.F st.al) pp)
end
end Vi

set_option Elab.async false
set_option linter.all false
set_option maxRecDepth 100000
set_option maxHeartbeats 2000000
namespace Vi
open PySem L2 PyProof.Rows

/-- what a body may use -/
structure Bd (X : Cx) (g : Gi) (W : WXv) : Prop where
  G : GiOk g
  K : g.K = X.K
  calm : X.calm = true
  gd : X.A.guards = some []
  tk : Takes X W
  ps : PassesOwn (model X.prog X.w) X.A X.env X.xe
  un : X.A.units + 64 < cLine
/-! ### a def's mirror -/
@[simp] def mkEnv (n : Nat) (ds : List D) : Env := ds.map (fun d => some (.d d)) ++ List.replicate (n - ds.length) none
def fnOf (N n : Nat) (m : MS) : Fn := fun ds h => if ds.length = n then (match m (mkEnv N ds) h with
  | .nx _ h => .ok .non h
  | .ret d h => .ok d h
  | .exc _ x h => .exc x h
  | _ => .stuck) else .stuck
theorem mkEnv_get {N : Nat} {ds : List D} {i : Nat} {sl : Sl} (h : (mkEnv N ds)[i]? = some (some sl)) : ∃ d, ds[i]? = some d ∧ sl = .d d := by
  unfold mkEnv at h
  by_cases hi : i < ds.length
  · rw [List.getElem?_append_left (by rw [List.length_map]; exact hi), List.getElem?_map, List.getElem?_eq_getElem hi] at h
    cases h
    exact ⟨_, List.getElem?_eq_getElem hi, rfl⟩
  · rw [List.getElem?_append_right (by rw [List.length_map]; omega), List.getElem?_replicate] at h
    split at h <;> cases h
theorem start_sr {g : Gi} {s : Sta} {H : Hp} {N : List Str} {ds : List D} {vs : List V} (gd : Good g s H) (r : Reps g s.F s.al ds vs) : SR g ⟨s, H, 0, 0, 0, 0⟩ (mkEnv N.length ds) s (L2.start N vs) H := by
  refine ⟨gd, Evo.refl s H, ?_, fun i sl h => ?_, fun i j sl sl' v hij h1 h2 o1 => ?_⟩
  · unfold mkEnv L2.start
    rw [List.length_append, List.length_append, List.length_map, List.length_map, List.length_replicate, List.length_replicate, r.length]
  · obtain ⟨d, e1, rfl⟩ := mkEnv_get h
    obtain ⟨v, e2, r2⟩ := r.get e1
    refine ⟨v, ?_, r2⟩
    unfold L2.start
    have hi : i < vs.length := (List.getElem?_eq_some_iff.mp e2).1
    rw [List.getElem?_append_left (by rw [List.length_map]; exact hi), List.getElem?_map, e2]
    rfl
  · obtain ⟨d, _, rfl⟩ := mkEnv_get h1
    cases o1
/-- THE RULE for a def: its body's mirror is its function -/
theorem fn_D {P : Program} {w : World} {g : Gi} {mg : Str → Option Value} {base : Heap} {x qual : Str} {params : Arguments} {body : List Stmt} {scope : Scope} {dvs : List V} {kws : List (Str × V)} {f : Addr} {fd : FuncData} {N ps : List Str} {k : Nat} {m : MS}
    (G : GiOk g) (F : FunD g.K x qual params body scope dvs kws f fd) (S : FnScope N ps scope)
    (hbody : ∀ (cdv : Value) (A : Around) (outer : List PySem.Env) (s : Shared) (H : Hp) (E : XK) (B : Bg), Room k (cxOf (L2.CX P w) P w g.K mg base N qual scope f cdv A outer s H E).A → Bd (cxOf (L2.CX P w) P w g.K mg base N qual scope f cdv A outer s H E) g (fun cls d _ H => E cls d H) →
      PSs (cxOf (L2.CX P w) P w g.K mg base N qual scope f cdv A outer s H E) body (tS g B (fun cls d _ H => E cls d H) m)) :
    FnG P w g.K mg base (k + 1) f fd ps (spD g ps.length (fnOf N.length ps.length m)) := by
  refine fn_G F S (fun vs H Q E h => ?_) ?_
  · obtain ⟨_, _, hl, _⟩ := h
    exact hl
  · intro cdv A outer s H vs Q E hr gds h
    obtain ⟨st, ds, hl, gd, r, p⟩ := h
    have hb := hbody cdv A outer s H E ⟨st, H, 0, 0, 0, 0⟩ hr ⟨G, rfl, rfl, gds, takes_of rfl rfl rfl rfl, passes_of rfl, hr.units⟩
    refine ⟨_, hb, mkEnv N.length ds, st, start_sr gd r, ?_⟩
    have hl2 : ds.length = ps.length := by rw [← r.length]; exact hl
    unfold fnOf at p
    rw [if_pos hl2] at p
    cases e : m (mkEnv N.length ds) st.h with
    | nx env h =>
      rw [e] at p
      intro σ' H' s' e1 _ sr
      exact p .non H' s' e1 sr.evo sr.good rfl
    | ret d h =>
      rw [e] at p
      intro v H' s' e1 ev gd' rr
      exact p v H' s' e1 ev gd' rr
    | exc env x h =>
      rw [e] at p
      intro cls dd σ' H' s' e1 _ sr xr
      exact p cls dd H' s' e1 sr.evo sr.good xr
    | brk env h => rw [e] at p; exact p.elim
    | cnt env h => rw [e] at p; exact p.elim
    | stuck => rw [e] at p; exact p.elim

/-! ### methods -/
/-- a method of the class c (an instance that never changes, or one in a cell) -/
structure VMeth (X : Cx) (g : Gi) (c : Nat) (m : Str) (n : Nat) (dd : List D) (F : Fn) : Prop where
  ex : ∃ (k : Nat) (f : Addr) (fd : FuncData) (ps : List Str) (dvs : List V) (ds : List Value), FnG X.prog X.w X.K X.mg X.base k f fd ps (spD g ps.length F) ∧ Room k X.A ∧ Meth X.K (g.ca c) m f ∧
    Binds X.K fd ps ds ∧ Vals dvs ds ∧ (∀ F al, Reps g F al dd dvs) ∧ (n + 1) + dvs.length = ps.length
  cl : g.isC c = true
def ins? (c : Nat) (x : Vl) (h : Hc) : Option (List (Str × D)) := match x with
  | .d (.obj c' fs) => if c' = c then some fs else none
  | .d (.ref n) => (match h[n]? with
    | some (.ins c' fs) => if c' = c then some fs else none
    | _ => none)
  | _ => none
def fMeth (c : Nat) (m : Str) (n : Nat) (F : Fn) (dd : List D) (o : Vl) (xs : List Vl) (h : Hc) : R Vl := match o with
  | .d od => if xs.length = n then (match datas xs with
    | some ds => (F (od :: (ds ++ dd)) h).bind fun d h' => .ok (.d d) h'
    | none => .stuck) else .stuck
  | _ => .stuck
/-- o.m(..): o is looked at first -/
def mMeth (c : Nat) (m : Str) (n : Nat) (F : Fn) (dd : List D) (o : ME) (a : MA) : ME := fun env h => (o env h).bind fun x h1 => match ins? c x h1 with
  | some fs => if (fs.lookup m).isNone then (a env h1).bind fun xs h2 => fMeth c m n F dd x xs h2 else .stuck
  | none => .stuck
theorem RepF.none {g : Gi} {F : Hp} {al : Nat → Option Addr} {f : Str} : ∀ {fs : List (Str × D)} {vs : List (Str × V)}, RepF g F al fs vs → fs.lookup f = none → vs.lookup f = none
  | [], _, h, _ => by rw [show _ = [] from h]; rfl
  | (k, x) :: r, _, ⟨v, rr, h1, h2, h3⟩, e => by
    rw [h1]
    by_cases q : f = k
    · subst q
      rw [List.lookup_cons_self] at e
      cases e
    · have nb : (f == k) = false := beq_eq_false_iff_ne.mpr q
      rw [List.lookup_cons, nb] at e
      rw [List.lookup_cons, nb]
      exact h3.none e
section
variable {X : Cx} {g : Gi} {B : Bg} {W : WXv} {env : Env} {s s' : Sta} {σ : L2.St} {H H' : Hp}
theorem ins_rep {c : Nat} {x : Vl} {v : V} {fs : List (Str × D)} (gd : Good g s H) (r : VlRep g B env σ s H x v) (e : ins? c x s.h = some fs) : ∃ a dx vs od, v = .ref a ∧ x = .d od ∧ H a = some (.ins (g.ca c) dx vs) ∧ RepF g s.F s.al fs vs := by
  unfold ins? at e
  split at e
  · split at e
    · next hc =>
      cases e
      subst hc
      obtain ⟨a, dx, vs, rfl, h2, h3⟩ := r
      exact ⟨a, dx, vs, _, rfl, rfl, gd.fle _ _ h2, h3⟩
    · cases e
  · split at e
    · next c' fs' hx =>
      split at e
      · next hc =>
        cases e
        subst hc
        obtain ⟨a, rfl, hal⟩ := r
        obtain ⟨a2, g1, dx, vs, h2, h3⟩ := gd.cell _ _ hx
        rw [hal] at g1
        cases g1
        exact ⟨a, dx, vs, _, rfl, rfl, h2, h3⟩
      · cases e
    · cases e
  · cases e
end
section
variable {X : Cx} {g : Gi} {B : Bg} {W : WXv} {pos p apos : Pos} {e o : Expr} {es : List Expr} {A : MA} {F : Fn} {dd : List D} {n c : Nat} {x m : Str} {mo : ME}
theorem ve_meth {pl : Sem Bool} (b : Bd X g W) (V : VMeth X g c m n dd F) (ho : PE X o (tE g B W mo)) (ha : PA X (e :: es) (tA g B W A))
    (hst : starEach (e :: es) X.env = (false, eval e X.env) :: starEach es X.env := by rfl) (hpl : (backTo pos (starEach es X.env)).any (·.1) = false := by rfl)
    (ht : eval (.Call (.Attribute o m apos) (e :: es) [] pos) X.env = (do
      let ov ← eval o X.env
      standAt apos.atName
      let (f, first) ← holding [ov] (getMethod ov m pl)
      callWith pos f first (backTo pos (starEach (e :: es) X.env)) (backToKw pos (keywordEach [] X.env))) := by rfl) :
    PE X (.Call (.Attribute o m apos) (e :: es) [] pos) (tE g B W (mMeth c m n F dd mo A)) := by
  obtain ⟨k, f, fd, ps, dvs, ds, FG, hr, hm, hb, hd, hdd, hn⟩ := V.ex
  refine ⟨fun pins s σ H Q I h => ?_⟩
  obtain ⟨env, st, sr, pp⟩ := h
  refine PySem.W.methodCall_KW (pl := pl) (thn (ho.run pins s σ H _ I (bindE (Q := Q) sr pp)) fun u s1 ⟨v, H1, I1, rx, st1, ox, sr1, ev1, r1, p1⟩ => ?_) ht
  cases ei : ins? c ox st1.h with
  | none => simp only [ei] at p1; exact p1.elim
  | some fs =>
    simp only [ei] at p1
    obtain ⟨a, dx, vs, od, rfl, ex, hH, hf⟩ := ins_rep sr1.good r1 ei
    subst ex
    obtain rfl : u = Value.ref a := rx
    by_cases hl : (fs.lookup m).isNone = true
    · rw [if_pos hl] at p1
      refine getmeth_ok I1 hH (b.K ▸ (b.G.cls c V.cl).cl) hm (hf.none (Option.isNone_iff_eq_none.mp hl)) ?_
      refine PySem.W.callWith_K (first := [.ref a]) (h₀ := X.base) I1.ok.mod.kin hm.kp (thn (ha.run pos pins s1 σ H1 _ I1 (bindA (Q := Q) sr1 p1)) fun us s2 ⟨ws, H2, I2, r, st2, xs, sr2, ev2, r2, p2⟩ => ⟨I2.kIn, ?_⟩) hst hpl
      have p2 : PostE g B W env st2 σ H2 (if xs.length = n then (match datas xs with
        | some ds => (F (od :: (ds ++ dd)) st2.h).bind fun d h' => .ok (.d d) h'
        | none => .stuck) else .stuck) Q := p2
      by_cases hx : xs.length = n
      · rw [if_pos hx] at p2
        cases ed : datas xs with
        | none => rw [ed] at p2; exact p2.elim
        | some dl =>
          rw [ed] at p2
          have ro : Rep g st2.F st2.al od (.ref a) := ev2.rep (show Rep g st1.F st1.al od (.ref a) from r1)
          have rr : Reps g st2.F st2.al (od :: (dl ++ dd)) ((.ref a :: ws) ++ dvs) := Reps.cons ro ((r2.datas ed).append (hdd st2.F st2.al))
          exact run_G (us := .ref a :: us) (vs := .ref a :: ws) (CXE := fun σ => WE W σ) FG hr b.gd hb hd (passAt b.tk σ) I2 (.cons rfl r) (spD_of sr2 (by rw [List.length_append, List.length_cons, r2.length, hx]; exact hn) rr p2)
      · rw [if_neg hx] at p2
        exact p2.elim
    · rw [if_neg hl] at p1
      exact p1.elim
theorem ve_meth0 {pl : Sem Bool} (b : Bd X g W) (V : VMeth X g c m 0 dd F) (ho : PE X o (tE g B W mo))
    (ht : eval (.Call (.Attribute o m apos) [] [] pos) X.env = (do
      let ov ← eval o X.env
      standAt apos.atName
      let (f, first) ← holding [ov] (getMethod ov m pl)
      callWith pos f first (backTo pos (starEach [] X.env)) (backToKw pos (keywordEach [] X.env))) := by rfl) :
    PE X (.Call (.Attribute o m apos) [] [] pos) (tE g B W (mMeth c m 0 F dd mo maNil)) := by
  obtain ⟨k, f, fd, ps, dvs, ds, FG, hr, hm, hb, hd, hdd, hn⟩ := V.ex
  refine ⟨fun pins s σ H Q I h => ?_⟩
  obtain ⟨env, st, sr, pp⟩ := h
  refine PySem.W.methodCall_KW (pl := pl) (thn (ho.run pins s σ H _ I (bindE (Q := Q) sr pp)) fun u s1 ⟨v, H1, I1, rx, st1, ox, sr1, ev1, r1, p1⟩ => ?_) ht
  cases ei : ins? c ox st1.h with
  | none => simp only [ei] at p1; exact p1.elim
  | some fs =>
    simp only [ei] at p1
    obtain ⟨a, dx, vs, od, rfl, ex, hH, hf⟩ := ins_rep sr1.good r1 ei
    subst ex
    obtain rfl : u = Value.ref a := rx
    by_cases hl : (fs.lookup m).isNone = true
    · rw [if_pos hl] at p1
      refine getmeth_ok I1 hH (b.K ▸ (b.G.cls c V.cl).cl) hm (hf.none (Option.isNone_iff_eq_none.mp hl)) ?_
      have p1 : PostE g B W env st1 σ H1 ((F (od :: dd) st1.h).bind fun d h' => .ok (.d d) h') Q := p1
      refine PySem.W.callWith_K0 (first := [.ref a]) I1.kIn hm.kp ?_
      have rr : Reps g st1.F st1.al (od :: dd) ([.ref a] ++ dvs) := Reps.cons (show Rep g st1.F st1.al od (.ref a) from r1) (hdd st1.F st1.al)
      exact run_G (us := [.ref a]) (vs := [.ref a]) (CXE := fun σ => WE W σ) FG hr b.gd hb hd (passAt b.tk σ) I1 (.cons rfl .nil) (spD_of sr1 (by rw [List.length_append]; exact hn) rr p1)
    · rw [if_neg hl] at p1
      exact p1.elim
end

/-! ### making an instance -/
abbrev FnI := List D → Hc → R (List (Str × D))
def initOf (N n : Nat) (c : Nat) (m : MS) : FnI := fun ds h => if ds.length = n then (match m (some (.oi c []) :: mkEnv N ds) h with
  | .nx (some (.oi c' fs) :: _) h => if c' = c then .ok fs h else .stuck
  | .exc _ x h => .exc x h
  | _ => .stuck) else .stuck
/-- __init__'s promise: what was ahead of the instance is (s, H0) -/
def spI (g : Gi) (c n : Nat) (F : FnI) : Sp := fun vs H Q E => ∃ (s : Sta) (ds : List D) (H0 : Hp) (x dx : Addr) (ws : List V), vs = .ref x :: ws ∧ ws.length = n ∧ H0 x = none ∧ H0 dx = none ∧ dx ≠ x ∧ H = upd (upd H0 dx (.own x)) x (.ins (g.ca c) dx []) ∧ Good g s H0 ∧ Reps g s.F s.al ds ws ∧
  (match F ds s.h with
    | .ok fs h => ∀ (H' : Hp) (s' : Sta), s'.h = h → Evo s H0 s' H' → Good g s' H' → (∃ dx vs, H' x = some (.ins (g.ca c) dx vs) ∧ s'.F x = none ∧ (∀ n, s'.al n ≠ some x) ∧ RepF g s'.F s'.al fs vs) → Q .non H'
    | .exc y h => ∀ (cls : Value) (dd : Option Addr) (H' : Hp) (s' : Sta), s'.h = h → Evo s H0 s' H' → Good g s' H' → XRep g s' H' y cls dd → E cls dd H'
    | .stuck => False)
theorem Good.add {g : Gi} {s : Sta} {H : Hp} {p : Addr} {o : HO} (gd : Good g s H) (hp : H p = none) : Good g s (upd H p o) ∧ Evo s H s (upd H p o) := by
  have sr : SR g ⟨s, H, 0, 0, 0, 0⟩ [] s [] H := ⟨gd, Evo.refl s H, rfl, fun i sl h => (by cases h), fun i j sl sl' v _ h => (by cases h)⟩
  obtain ⟨a, b⟩ := sr.new (o := o) hp
  exact ⟨a.good, b⟩
theorem own_free {g : Gi} {s : Sta} {H : Hp} {p : Addr} (gd : Good g s H) (hp : H p = none) : s.F p = none ∧ ∀ n, s.al n ≠ some p := by
  have sr : SR g ⟨s, H, 0, 0, 0, 0⟩ [] s [] H := ⟨gd, Evo.refl s H, rfl, fun i sl h => (by cases h), fun i j sl sl' v _ h => (by cases h)⟩
  exact ⟨(sr.own_new hp).f, (sr.own_new hp).al⟩
theorem fn_I {P : Program} {w : World} {g : Gi} {mg : Str → Option Value} {base : Heap} {x qual : Str} {params : Arguments} {body : List Stmt} {scope : Scope} {dvs : List V} {kws : List (Str × V)} {f : Addr} {fd : FuncData} {nm nm' : Str} {N ps : List Str} {k c : Nat} {m : MS}
    (G : GiOk g) (F : FunD g.K x qual params body scope dvs kws f fd) (S : FnScope (nm :: N) (nm' :: ps) scope)
    (hbody : ∀ (cdv : Value) (A : Around) (outer : List PySem.Env) (s : Shared) (H : Hp) (E : XK) (B : Bg), Room k (cxOf (L2.CX P w) P w g.K mg base (nm :: N) qual scope f cdv A outer s H E).A → Bd (cxOf (L2.CX P w) P w g.K mg base (nm :: N) qual scope f cdv A outer s H E) g (fun cls d _ H => E cls d H) →
      PSs (cxOf (L2.CX P w) P w g.K mg base (nm :: N) qual scope f cdv A outer s H E) body (tS g B (fun cls d _ H => E cls d H) m)) :
    FnG P w g.K mg base (k + 1) f fd (nm' :: ps) (spI g c ps.length (initOf N.length ps.length c m)) := by
  refine fn_G F S (fun vs H Q E h => ?_) ?_
  · obtain ⟨_, _, _, _, _, ws, rfl, hl, _⟩ := h
    rw [List.length_cons, List.length_cons, hl]
  · intro cdv A outer s H vs Q E hr gds h
    obtain ⟨st, ds, H0, x, dx, ws, rfl, hl, hx, hdx, hne, rfl, gd, r, p⟩ := h
    have hb := hbody cdv A outer s (upd (upd H0 dx (.own x)) x (.ins (g.ca c) dx [])) E ⟨st, H0, x, 0, 0, 0⟩ hr ⟨G, rfl, rfl, gds, takes_of rfl rfl rfl rfl, passes_of rfl, hr.units⟩
    obtain ⟨gd1, ev1⟩ := gd.add (o := .own x) hdx
    have hx1 : upd H0 dx (.own x) x = none := by rw [upd_ne hne.symm]; exact hx
    obtain ⟨gd2, ev2⟩ := gd1.add (o := .ins (g.ca c) dx []) hx1
    obtain ⟨fx, ax⟩ := own_free gd hx
    have s0 := start_sr (N := N) gd r
    have sr : SR g ⟨st, H0, x, 0, 0, 0⟩ (some (.oi c []) :: mkEnv N.length ds) st (L2.start (nm :: N) (.ref x :: ws)) (upd (upd H0 dx (.own x)) x (.ins (g.ca c) dx [])) := by
      have es : L2.start (nm :: N) (.ref x :: ws) = some (.ref x) :: L2.start N ws := by
        unfold L2.start
        rw [List.length_cons, List.length_cons, Nat.add_sub_add_right]
        rfl
      rw [es]
      refine ⟨gd2, ev1.trans ev2, by rw [List.length_cons, List.length_cons, s0.len], fun i sl h => ?_, fun i j sl sl' v hij h1 h2 o1 o2 => ?_⟩
      · cases i with
        | zero =>
          cases h
          exact ⟨_, rfl, x, dx, [], rfl, upd_same, ⟨fx, ax, hx⟩, rfl, rfl⟩
        | succ i =>
          have h : (mkEnv N.length ds)[i]? = some (some sl) := h
          obtain ⟨v, h1, h2⟩ := s0.slot i sl h
          obtain ⟨d, _, rfl⟩ := mkEnv_get h
          exact ⟨v, h1, h2⟩
      · cases i with
        | succ i =>
          obtain ⟨d, _, rfl⟩ := mkEnv_get (show (mkEnv N.length ds)[i]? = some (some sl) from h1)
          cases o1
        | zero =>
          cases j with
          | zero => exact absurd rfl hij
          | succ j =>
            obtain ⟨d, _, rfl⟩ := mkEnv_get (show (mkEnv N.length ds)[j]? = some (some sl') from h2)
            cases o2
    refine ⟨_, hb, _, st, sr, ?_⟩
    have hl2 : ds.length = ps.length := by rw [← r.length]; exact hl
    unfold initOf at p
    rw [if_pos hl2] at p
    cases e : m (some (.oi c []) :: mkEnv N.length ds) st.h with
    | nx env h =>
      rw [e] at p
      intro σ' H' s' e1 _ sr'
      cases env with
      | nil => exact p.elim
      | cons a rest =>
        cases a with
        | none => exact p.elim
        | some sl =>
          cases sl with
          | d y => exact p.elim
          | ol y => exact p.elim
          | xc c' fs => exact p.elim
          | oi c' fs =>
            by_cases hc : c' = c
            · subst hc
              simp only [if_pos] at p
              obtain ⟨v, _, a', dx', vs', _, g2, g3, g4, g5⟩ := sr'.slot 0 (.oi c' fs) rfl
              have g5 : a' = x := g5
              subst g5
              exact p H' s' e1 sr'.evo sr'.good ⟨dx', vs', g2, g3.f, g3.al, g4⟩
            · simp only [if_neg hc] at p
    | ret d h => rw [e] at p; exact p.elim
    | exc env y h =>
      rw [e] at p
      intro cls dd σ' H' s' e1 _ sr' xr
      exact p cls dd H' s' e1 sr'.evo sr'.good xr
    | brk env h => rw [e] at p; exact p.elim
    | cnt env h => rw [e] at p; exact p.elim
    | stuck => rw [e] at p; exact p.elim
end Vi

set_option Elab.async false
set_option linter.all false
set_option maxRecDepth 100000
set_option maxHeartbeats 2000000
namespace Vi
open PySem L2 PyProof.Rows

structure VMake (X : Cx) (g : Gi) (c n : Nat) (dd : List D) (F : FnI) : Prop where
  ex : ∃ (k : Nat) (f : Addr) (fd : FuncData) (ps : List Str) (q : Str) (dvs : List V) (ds : List Value), FnG X.prog X.w X.K X.mg X.base k f fd (q :: ps) (spI g c ps.length F) ∧ Room (k + 1) X.A ∧ Mk X.K (g.ca c) f ∧
    Binds X.K fd (q :: ps) ds ∧ Vals dvs ds ∧ (∀ F al, Reps g F al dd dvs) ∧ n + dvs.length = ps.length
/-- C(..): the instance never changes behind its __init__ -/
def fMake (c n : Nat) (F : FnI) (dd : List D) (xs : List Vl) (h : Hc) : R Vl := if xs.length = n then (match datas xs with
  | some ds => (F (ds ++ dd) h).bind fun fs h' => .ok (.d (.obj c fs)) h'
  | none => .stuck) else .stuck
theorem under_guards {A : Around} {C : Addr} {us : List Value} {kw : List (Str × Value)} : (A.under (.builtin "type.__call__" ⟨.ref C :: us, kw⟩)).guards = A.guards := by
  first | rfl | simp [Around.under, Code.guards, pushGuards]
theorem Evo.frz {s s' : Sta} {H H' : Hp} {a : Addr} {o : HO} (e : Evo s H s' H') (hf : s'.F a = none) (hn : ∀ n, s'.al n ≠ some a) (hb : H a = none) : Evo s H (s'.frz a o) H' := evo_frz (B := ⟨s, H, 0, 0, 0, 0⟩) hf hn hb e
section
variable {X : Cx} {g : Gi} {B : Bg} {W : WXv} {pos p : Pos} {e : Expr} {es : List Expr} {A : MA} {F : FnI} {dd : List D} {n c : Nat} {x : Str}
theorem run_makeG {pins : List (Addr × Obj)} {σ : L2.St} {H : Hp} {s : Shared} {Q : VK} {us : List Value} {ws : List V} {env : Env} {st : Sta} {dl : List D} (b : Bd X g W) (V : VMake X g c n dd F) (I : Inv X pins σ H s) (r : Vals ws us)
    (sr : SR g B env st σ H) (rr : Reps g st.F st.al dl ws) (hl : ws.length = n) (p1 : PostE g B W env st σ H ((F (dl ++ dd) st.h).bind fun fs h' => .ok (.d (.obj c fs)) h') Q) :
    wpAny (model X.prog X.w) X.A (call (.ref (g.ca c)) us) (EP X pins σ Q) X.xe s := by
  obtain ⟨k, f, fd, ps, q, dvs, ds, FG, hr, M, hb, hd, hdd, hn⟩ := V.ex
  have nx : H (s.heap.objs.size + 1) = none := I.hok.fresh (Nat.le_succ _)
  have nd : H s.heap.objs.size = none := I.hok.fresh (Nat.le_refl _)
  have nn : s.heap.objs.size ≠ s.heap.objs.size + 1 := Nat.ne_of_lt (Nat.lt_succ_self _)
  have I2 := Inv.made (C := g.ca c) I
  have r2 : Vals (L2.V.ref (s.heap.objs.size + 1) :: (ws ++ dvs)) (Value.ref (s.heap.objs.size + 1) :: (us ++ ds)) := .cons rfl (r.append hd)
  have hsp : spI g c ps.length F (L2.V.ref (s.heap.objs.size + 1) :: (ws ++ dvs)) (upd (upd H s.heap.objs.size (.own (s.heap.objs.size + 1))) (s.heap.objs.size + 1) (.ins (g.ca c) s.heap.objs.size []))
      (fun v H2 => v = .non ∧ Q (.ref (s.heap.objs.size + 1)) H2) (fun cls d H' => W cls d σ H') := by
    refine ⟨st, dl ++ dd, H, _, _, ws ++ dvs, rfl, by rw [List.length_append, hl]; exact hn, nx, nd, nn, rfl, sr.good, rr.append (hdd _ _), ?_⟩
    cases eF : F (dl ++ dd) st.h with
    | ok fs h =>
      rw [eF] at p1
      rintro H' s' e1 ev gd ⟨dx, vs, g1, g2, g3, g4⟩
      refine ⟨rfl, ?_⟩
      have ev2 := ev.frz (o := .ins (g.ca c) dx vs) g2 g3 nx
      exact p1 (.ref (s.heap.objs.size + 1)) H' (s'.frz (s.heap.objs.size + 1) (.ins (g.ca c) dx vs)) e1 ev2 (sr.call ev2 (gd.frz g1 g2 g3)) ⟨_, dx, vs, rfl, upd_same, g4.mono (frz_le g2) fun _ _ z => z⟩
    | exc y h =>
      rw [eF] at p1
      intro cls dd' H' s' e1 ev gd xr
      exact p1 cls dd' H' s' e1 ev (sr.call ev gd) xr
    | stuck =>
      rw [eF] at p1
      exact p1
  have hl2 : (Value.ref (s.heap.objs.size + 1) :: us ++ ds).length = (q :: ps).length := by
    have e := r2.length
    rw [FG.len _ _ _ _ hsp] at e
    exact e.symm
  refine wpAny_call (make_map (f := f) I.kIn M.makes M.init (beq_iff_eq.mp M.fn) (codeAny_mono (FG.run _ X.stack _ _ ⟨Value.ref (s.heap.objs.size + 1) :: us, []⟩ (Value.ref (s.heap.objs.size + 1) :: (us ++ ds)) _ _ _ (hr.make (g.ca c) us [])
    (under_guards.trans b.gd) (I2.env0.make (g.ca c) us []) (hb _ (Value.ref (s.heap.objs.size + 1) :: us) I2.kIn hl2) r2 hsp) ?_))
  intro res s' hq
  cases res with
  | error e => exact passAt b.tk σ pins _ _ e s' I2 hq
  | ok fl =>
    cases fl with
    | ret u =>
      obtain ⟨v, H', I3, rv, ev, q3⟩ := I2.after hq
      subst ev
      exact ⟨rv, ⟨L2.V.ref (s.heap.objs.size + 1), H', I3, rfl, q3⟩⟩
    | next => exact False.elim hq
    | brk => exact False.elim hq
    | cont => exact False.elim hq
theorem ve_make (b : Bd X g W) (V : VMake X g c n dd F) (hg : Gl X x) (hm : X.mg x = some (.ref (g.ca c))) (ha : PA X (e :: es) (tA g B W A)) (hdb : (x == ("__debug__" : Str)) = false := by decide)
    (he : starEach (e :: es) X.env = (false, eval e X.env) :: starEach es X.env := by rfl) (hpl : (backTo pos (starEach es X.env)).any (·.1) = false := by rfl) :
    PE X (.Call (.Name x p) (e :: es) [] pos) (tE g B W (mA1 (fMake c n F dd) A)) := by
  have kp : PySem.W.keepIn X.K (.ref (g.ca c)) = true := by
    obtain ⟨k, f, fd, ps, q, dvs, ds, FG, hr, M, _⟩ := V.ex
    exact M.kp
  refine ⟨fun pins s σ H Q I h => ?_⟩
  refine wpAny_Call_Name_kw (ld_glob I hg hm ?_ hdb)
  obtain ⟨env, st, sr, pp⟩ := h
  refine PySem.W.callWith_K (h₀ := X.base) I.ok.mod.kin kp (thn (ha.run pos pins s σ H _ I (bindA (Q := Q) sr pp)) fun us s1 ⟨vs, H1, I1, r, st1, xs, sr1, ev1, r1, p1⟩ => ⟨I1.kIn, ?_⟩) he hpl
  unfold fMake at p1
  by_cases hl : xs.length = n
  · rw [if_pos hl] at p1
    cases e1 : datas xs with
    | none => rw [e1] at p1; exact p1.elim
    | some dl =>
      rw [e1] at p1
      exact run_makeG b V I1 r sr1 (r1.datas e1) (by rw [r1.length, hl]) p1
  · rw [if_neg hl] at p1
    exact p1.elim
theorem ve_make0 (b : Bd X g W) (V : VMake X g c 0 dd F) (hg : Gl X x) (hm : X.mg x = some (.ref (g.ca c))) (hdb : (x == ("__debug__" : Str)) = false := by decide) :
    PE X (.Call (.Name x p) [] [] pos) (tE g B W (mA1 (fMake c 0 F dd) maNil)) := by
  have kp : PySem.W.keepIn X.K (.ref (g.ca c)) = true := by
    obtain ⟨k, f, fd, ps, q, dvs, ds, FG, hr, M, _⟩ := V.ex
    exact M.kp
  refine ⟨fun pins s σ H Q I h => ?_⟩
  refine wpAny_Call_Name_kw (ld_glob I hg hm ?_ hdb)
  obtain ⟨env, st, sr, pp⟩ := h
  exact PySem.W.callWith_K0 I.kIn kp (run_makeG (us := []) (ws := []) (dl := []) b V I .nil sr rfl rfl pp)
end
/-! ### properties -/
structure VProp (X : Cx) (g : Gi) (c : Nat) (f : Str) (F : Fn) : Prop where
  ex : ∃ (k : Nat) (p q : Addr) (fd : FuncData) (ps : List Str), FnG X.prog X.w X.K X.mg X.base k q fd ps (spD g ps.length F) ∧ Room (k + 1) X.A ∧ PropOf X.K (g.ca c) f p q ∧ Binds X.K fd ps [] ∧ ps.length = 1
  cl : g.isC c = true
/-- e.f by the getter of the class c -/
def fProp (c : Nat) (F : Fn) (x : Vl) (h : Hc) : R Vl := match ins? c x h, x with
  | some _, .d od => (match F [od] h with
    | .ok d h' => .ok (.d d) h'
    | _ => .stuck)
  | _, _ => .stuck
section
variable {X : Cx} {g : Gi} {B : Bg} {W : WXv} {pos : Pos} {e : Expr} {F : Fn} {c : Nat} {f : Str} {m : ME}
theorem ve_prop (b : Bd X g W) (V : VProp X g c f F) (he : PE X e (tE g B W m)) (hab : attributeBase e f X.env (eval e X.env) = eval e X.env := by rfl) : PE X (.Attribute e f pos) (tE g B W (m1 (fProp c F) m)) := by
  obtain ⟨k, p, q, fd, ps, FG, hr, hp, hb, hps⟩ := V.ex
  have cl : Cls X.K (g.ca c) := b.K ▸ (b.G.cls c V.cl).cl
  refine ⟨fun pins s σ H Q I h => ?_⟩
  obtain ⟨env, st, sr, pp⟩ := h
  refine attr_of hab (thn (he.run pins s σ H _ I (bindE (Q := Q) sr pp)) fun u s1 ⟨v, H1, I1, rx, st1, ox, sr1, ev1, r1, p1⟩ => ?_)
  unfold fProp at p1
  split at p1
  · next fs od ei =>
    obtain ⟨a, dx, vs, od', rfl, ex, hH, hf⟩ := ins_rep sr1.good r1 ei
    cases ex
    obtain rfl : u = Value.ref a := rx
    obtain ⟨mA, O, _, _, _, _⟩ := ins_get I1.hok hH
    obtain ⟨od2, J, _⟩ := O.look
    obtain ⟨rest, hrec⟩ := hp.rec_
    have I2 := I1.tok (s1.toks + 1)
    have hc : (PySem.W.clsIn X.K (g.ca c)).isSome = true := by
      obtain ⟨cd, hc, _⟩ := PySem.W.any_some cl.hd
      rw [hc]
      rfl
    have hsp : spD g ps.length F [.ref a] H1 Q (fun _ _ _ => False) := by
      refine ⟨st1, [od], hps.symm, sr1.good, Reps.cons (show Rep g st1.F st1.al od (.ref a) from r1) Reps.nil, ?_⟩
      cases eF : F [od] st1.h with
      | ok d h =>
        rw [eF] at p1
        intro v H' s' e1 ev gd rr
        exact p1 v H' s' e1 ev (sr1.call ev gd) rr
      | exc y h => rw [eF] at p1; exact p1.elim
      | stuck => rw [eF] at p1; exact p1.elim
    refine PySem.W.get_bind I1.kIn J (PySem.W.plainGet_of (cl.get f)).1 (PySem.W.findObj_data hc hp.at_ hp.get hp.tak) (PySem.W.plainGet_of (cl.get f)).2 (wpAny_call (PySem.W.prop_get (s := { s1 with toks := s1.toks + 1 }) I1.kIn hrec ?_))
    refine codeAny_mono (FG.run X.A.in1 X.stack { s1 with toks := s1.toks + 1 } H1 ⟨[.ref a], []⟩ [.ref a] [.ref a] Q (fun _ _ _ => False) hr.in1 b.gd I2.env0.in1 (by
      have z := hb { s1 with toks := s1.toks + 1 } [.ref a] I2.kIn (by rw [hps]; rfl)
      simpa using z) (.cons rfl .nil) hsp) ?_
    intro r s' hq
    cases r with
    | error er =>
      obtain ⟨_, _, _, _, _, _, _, _, _, _, _, _, ff⟩ := hq
      exact ff.elim
    | ok fl =>
      cases fl with
      | ret u =>
        obtain ⟨v, H', I3, rv, q3⟩ := I2.after hq
        show wpAny _ _ (handedOut u) _ _ _
        rw [PySem.W.handedOut_of (handed_of rv)]
        exact wpAny_pure ⟨v, H', I3, rv, q3⟩
      | next => exact False.elim hq
      | brk => exact False.elim hq
      | cont => exact False.elim hq
  · exact p1.elim
end
end Vi

set_option Elab.async false
set_option linter.all false
set_option maxRecDepth 100000
set_option maxHeartbeats 2000000
namespace Vi
open PySem L2 PyProof.Rows

/-! ### own exceptions with an own __init__ -/
/-- __init__'s promise: its fields, as the arguments give them -/
def spE (C : Addr) (n : Nat) (fs : List L2.V → List (Str × L2.V)) : Sp := fun vs H Q _ => ∃ (a : Addr) (ws : List L2.V) (H0 : Hp), vs = .ref a :: ws ∧ ws.length = n ∧ H0 a = none ∧ H = upd H0 a (exo a C none) ∧
  ∀ (dx : Addr) (H2 : Hp), H0 dx = none → dx ≠ a → H2 a = some (exo a C (some dx)) → H2 dx = some (exd dx (fs ws)) → (∀ b, b ≠ a → b ≠ dx → H2 b = H0 b) → Q .non H2
structure VExc (X : Cx) (g : Gi) (x : Str) (c n : Nat) (mk : List D → List (Str × D)) : Prop where
  ex : ∃ (k : Nat) (fI : Addr) (fd : FuncData) (ps : List Str) (fs : List L2.V → List (Str × L2.V)), OexC X.K (g.ca c) ∧ PySem.W.findIn X.K (.ref (g.ca c)) "__init__" = some (some (.ref fI)) ∧ PySem.W.typeIn X.K (.ref fI) = some (.type "function") ∧
    FnOk X.prog X.w X.K X.mg X.base (L2.CX X.prog X.w) k fI fd ps (spE (g.ca c) n fs) ∧ Room (k + 1) X.A ∧ Binds X.K fd ps [] ∧ X.mg x = some (.ref (g.ca c)) ∧ n ≤ 1000 ∧
    (∀ F al ds ws, Reps g F al ds ws → ds.length = n → RepF g F al (mk ds) (fs ws))
def mRaise (c n : Nat) (mk : List D → List (Str × D)) (A : MA) : MS := fun env h => (A env h).thenS env fun xs h' => if xs.length = n then (match datas xs with
  | some ds => .exc env (.obj c (mk ds)) h'
  | none => .stuck) else .stuck
section
variable {X : Cx} {g : Gi} {B : Bg} {W : WXv} {pos p pos' : Pos} {e : Expr} {es : List Expr} {A : MA} {n c : Nat} {x : Str} {mk : List D → List (Str × D)}
theorem vs_raise (b : Bd X g W) (w : VExc X g x c n mk) (hg : Gl X x) (ha : PA X (e :: es) (tA g B W A)) (hdb : (x == ("__debug__" : Str)) = false := by decide)
    (he : starEach (e :: es) X.env = (false, eval e X.env) :: starEach es X.env := by rfl) (hpl : (backTo pos' (starEach es X.env)).any (·.1) = false := by rfl) :
    PS X (.Raise (some (.Call (.Name x p) (e :: es) [] pos')) none pos) (tS g B W (mRaise c n mk A)) := by
  obtain ⟨k, fI, fd, ps, fs, T, iC, tI, F1, hr, hb, hm, hn, hmk⟩ := w.ex
  refine ps_imp (ps_raise b.calm b.tk (pmk_oex (dvs := []) (ds := []) (sp := spE (g.ca c) n fs) T iC tI F1 hr hb .nil (passes_call (E := fun _ _ _ => False) b.tk fun _ _ _ _ z => z.elim) hg hm ha hdb he hpl)) fun N σ H ⟨env, st, sr, pp⟩ => ?_
  refine tA.mono (bindSA (N := N) sr pp) ?_
  rintro vs H1 ⟨s1, xs, sr1, le1, r1, p1⟩
  by_cases hl : xs.length = n
  · rw [if_pos hl] at p1
    cases e1 : datas xs with
    | none => rw [e1] at p1; exact p1.elim
    | some ds =>
      rw [e1] at p1
      refine ⟨by rw [r1.length, hl]; exact hn, fun a ea => ⟨a, vs ++ [], H1, rfl, by rw [List.append_nil, r1.length, hl], ea, rfl, fun dx H2 nd ne h1 h2 hk => ⟨rfl, dx, _, h1, h2, nd, ?_⟩⟩⟩
      have eH : upd (del H2 a) dx (.xd (fs (vs ++ []))) = upd H1 dx (.xd (fs (vs ++ []))) := by
        funext z
        by_cases q1 : z = dx
        · rw [q1, upd_same, upd_same]
        · rw [upd_ne q1, upd_ne q1]
          by_cases q2 : z = a
          · rw [q2, del_same, ea]
          · rw [del_ne q2, hk z q2 q1]
      rw [eH]
      obtain ⟨sr2, ev2⟩ := sr1.new (o := .xd (fs (vs ++ []))) nd
      refine p1 (.ref (g.ca c)) (some dx) σ _ s1 rfl (Le.refl _) sr2 ⟨dx, _, rfl, rfl, upd_same, (sr1.own_new nd).al, ?_⟩
      rw [List.append_nil]
      exact hmk _ _ _ _ (r1.datas e1) (by rw [datas_length e1, hl])
  · rw [if_neg hl] at p1
    exact p1.elim
end
/-- an __init__ of two stores: self.f1 = p, self.f2 = 'l' -/
theorem fn_E {P : Program} {w : World} {K : PySem.W.Frag} {mg : Str → Option Value} {base : Heap} {x qual : Str} {params : Arguments} {scope : Scope} {f : Addr} {fd : FuncData} {k : Nat} {C : Addr} {self p1 f1 f2 lit : Str} {q1 q2 q3 q4 q5 q6 q7 q4' : Pos} {j : Nat}
    (F : FunD K x qual params [.Assign [.Attribute (.Name self q1) f1 q2] (.Name p1 q3) q4, .Assign [.Attribute (.Name self q5) f2 q6] (.Constant (.str lit) j q7) q4'] scope [] [] f fd) (S : FnScope [self, p1] [self, p1] scope)
    (T : OexC K C) (n1 : PySem.W.findIn K (.ref C) f1 = some none) (n2 : PySem.W.findIn K (.ref C) f2 = some none)
    (v0 : Vis scope self) (v1 : Vis scope p1)
    (d0 : (self == ("__debug__" : Str)) = false) (d0c : (self == ("__classdict__" : Str)) = false) (d1 : (p1 == ("__debug__" : Str)) = false) (d1c : (p1 == ("__classdict__" : Str)) = false) :
    FnOk P w K mg base (L2.CX P w) (k + 1) f fd [self, p1] (spE C 1 fun ws => match ws with
      | [v] => [(f2, .str lit), (f1, v)]
      | _ => []) := by
  refine F.ok S (fun vs H Q E h => ?_) ?_
  · obtain ⟨a, ws, H0, rfl, hl, _⟩ := h
    rw [List.length_cons, hl]
    rfl
  · intro cdv A outer s H vs Q E hr h
    obtain ⟨a, ws, H0, rfl, hl, ha, rfl, q⟩ := h
    obtain ⟨v, rfl⟩ : ∃ v, ws = [v] := by
      cases ws with
      | nil => cases hl
      | cons v r => cases r with
        | nil => exact ⟨v, rfl⟩
        | cons _ _ => cases hl
    refine ⟨_, pss_cons (ps_ost (pe_var (i := 0) rfl v0 d0 d0c) (pe_var (i := 1) rfl v1 d1 d1c)) (pss_cons (ps_ost (pe_var (i := 0) rfl v0 d0 d0c) pe_str) pss_nil), ?_⟩
    refine ⟨v, rfl, .ref a, rfl, a, C, rfl, T, n1, .inl ⟨upd_same, fun dx hd ne => ?_⟩⟩
    have hd0 : H0 dx = none := by rw [upd_ne ne] at hd; exact hd
    refine ⟨.ref a, rfl, a, C, rfl, T, n2, .inr ⟨dx, [(f1, v)], upd_same, ?_, Nat.le_of_ble_eq_true rfl, ?_⟩⟩
    · rw [upd_ne ne, upd_same]
    · refine q dx _ hd0 ne ?_ upd_same fun z z1 z2 => ?_
      · rw [upd_ne ne.symm, upd_same]
      · rw [upd_ne z2, upd_ne z1, upd_ne z2, upd_ne z1]
end Vi

set_option Elab.async false
set_option linter.all false
set_option maxRecDepth 100000
set_option maxHeartbeats 2000000
namespace Vi
open PySem PySem.W PySem.Calls L2 PyProof.Rows

/-! ### isinstance of a caught error that has its dict -/
section
variable {prog : Program} {w : World} {A : Around} {E : Value → Shared → Prop} {s : Shared} {K : Frag} {x Dc : Addr} {ox od : Obj}
theorem cls_of_exc {Q : Option Value → Shared → Prop} (C : L2.ExcC K Dc) (X : K.In s.heap) (I : InstAt s.heap x ox Dc (some od)) (q : Q (some (.ref Dc)) { s with toks := s.toks + 1 }) :
    wpAny (model prog w) A (getAttr? (.ref x) "__class__") Q E s := by
  obtain ⟨hga, hgt, hsub, hdct, ha, hn, htk, hm⟩ := C
  have hcs : (clsIn K Dc).isSome = true := by
    obtain ⟨cd, hc, _⟩ := any_some hdct
    rw [hc]
    rfl
  have hf := findObj_data (od := od) hcs ha hn htk
  obtain ⟨h0, gs, dr, tk, oss⟩ := s
  have ty := I.type (M := model prog w)
  have l1 := looks_findIn (M := model prog w) X hga
  have l2 := looks_findIn (M := model prog w) X hgt
  have l3 := looks_find (M := model prog w) X I hf
  have ne : (Value.builtin "BaseException.__getattribute__" == Value.builtin "object.__getattribute__") = false := by decide +kernel
  have g0 : (onTheHeap (Value.ref Dc) && Value.builtin "BaseException.__getattribute__" == Value.builtin "object.__getattribute__") = false := by
    rw [ne]
    rfl
  have g1 : (false && onTheHeap (Value.builtin "BaseException.__getattribute__")) = false := rfl
  unfold getAttr? getAttrBy? getAttrBy
  refine wpAny_bind (wpAny_mkText (wpAny_bind ?_))
  refine wpAny_attempt (wpAny_holding (wpAny_bind (ty.at ?_)))
  refine wpAny_bind (l1.at ?_)
  show wpAny _ _ (if (onTheHeap (Value.ref Dc) &&
    Value.builtin "BaseException.__getattribute__" == Value.builtin "object.__getattribute__") = true then _ else _) _ _ _
  rw [g0, if_neg (by decide)]
  unfold getAttrByItsOwn hookBefore
  refine wpAny_bind ?_
  rw [if_pos (show onTheHeap (Value.ref Dc) = true by rfl)]
  refine l2.at (wpAny_bind (wpAny_attempt (wpAny_holding ?_)))
  unfold callGetattribute
  rw [g1, if_neg (by decide)]
  unfold boundAndCalled
  rw [F.excAttr_ValueError.ga.bind (.ref x)]
  refine wpAny_bind (wpAny_pure ?_)
  show wpAny _ _ (call (.builtin "BaseException.__getattribute__") [.ref x, .str "__class__" tk]) _ _ _
  refine wpAny_call ?_
  refine codeAny_call_builtin F.excAttr_ValueError.ga.plain F.entry_bexc_ga ?_
  have sb : Looks (model prog w) h0 (isInstance (.ref x) (.type "BaseException")) true := ty.andThen (looks_subIn X hsub)
  refine @check_slot (model prog w) _ _ ⟨h0, gs, dr, tk + 1, oss⟩ "BaseException.__getattribute__" "BaseException"
    "__getattribute__" (.ref x) [.str "__class__" tk] [] _ (by decide +kernel) (by decide +kernel) sb (F.args_bexc_ga (.ref x) (.str "__class__" tk)) ?_
  unfold Builtin.«object.__getattribute__»
  refine wpAny_bind (wpAny_of_eq (a := ((Value.ref x : Value), [Value.str "__class__" tk])) (by first | rfl | (simp only [slotArgs]; rfl)) ?_)
  refine wpAny_bind (wpAny_pure (wpAny_bind (ty.at (wpAny_bind (l3.at ?_)))))
  show wpAny _ _ (holding [Value.builtin "object.__class__"] (call (.builtin "getset_descriptor.__get__") _) >>= ret) _ _ _
  refine wpAny_bind (wpAny_holding (wpAny_call ?_))
  refine class_get (s := ⟨h0, gs, dr, tk + 1, oss⟩) (ox := ox) (od := some od) X I hm ?_
  refine wpAny_pure ?_
  show wpAny _ _ (handedOut (.ref Dc)) _ _ _
  rw [handedOut_of (v := .ref Dc) rfl]
  first
    | exact wpAny_pure (wpAny_pure q)
    | exact wpAny_pure q
    | exact wpAny_pure (wpAny_bind (wpAny_pure (wpAny_pure q)))
theorem kit_exc (C : L2.ExcC K Dc) : KitX K (.ref x) (.ref Dc) (fun h => InstAt h x ox Dc (some od)) := by
  obtain ⟨cd, hc, _⟩ := any_some C.hd
  unfold clsIn at hc
  split at hc
  · rename_i c' d' cd' sl' ho
    refine ⟨fun _ _ _ I => I.type, fun _ _ X _ => ?_, fun h tp dd its n sl X htp => Bool.eq_false_iff.mpr fun q => ?_, fun X I k => cls_of_exc C X I k⟩
    · intro A' Q' E' s' k q
      unfold isType loadHead
      exact wpAny_bind (wpAny_loadPart (k _ _ (X _ _ ho)) (wpAny_pure q))
    · obtain rfl : Dc = tp := Value.ref.inj (beq_iff_eq.mp q)
      cases (X _ _ ho).symm.trans htp
  · cases hc
end
theorem ty_val {g : Gi} (t : Ty) : ∀ u, RelV (t.v g) u → u = t.val g := fun u r => by
  cases t with
  | bt n => exact r
  | own c => exact r
/-! ### the except suite -/
/-- the context of a suite that holds an exception of the class c -/
structure Su (X : Cx) (g : Gi) (B : Bg) : Prop where
  ex : ∃ (X0 : Cx) (oe : Obj) (pn : List (Addr × Obj)), X = X0.suite B.xa ((B.xa, oe) :: pn) ∧ Zc (.ref (g.ca B.xcl)) (some B.xd) oe ∧ (∃ vs, oe.data = .fields vs)
  G : GiOk g
  K : g.K = X.K
/-- the classes of errors: their fields may be read, isinstance may ask -/
structure XcOk (g : Gi) (xs : Nat → Bool) (no : Nat → Str → Bool) : Prop where
  xf : ∀ c, xs c = true → XfC g.K (g.ca c) ∧ L2.ExcC g.K (g.ca c)
  no : ∀ c f, no c f = true → PySem.W.findIn g.K (.ref (g.ca c)) f = some none
def mIsX (g : Gi) (xs : Nat → Bool) (t : Ty) (i : Nat) : ME := fun env h => match env[i]? with
  | some (some (.xc c _)) => if xs c then (match g.isi (.own c) t with
    | some b => .ok (.d (.bl b)) h
    | none => .stuck) else .stuck
  | _ => .stuck
def mXf (xs : Nat → Bool) (no : Nat → Str → Bool) (f : Str) (i : Nat) : ME := fun env h => match env[i]? with
  | some (some (.xc c fs)) => if xs c && no c f then (match fs.lookup f with
    | some d => .ok (.d d) h
    | none => .stuck) else .stuck
  | _ => .stuck
section
variable {X : Cx} {g : Gi} {B : Bg} {W : WXv} {pos p : Pos} {x : Str} {xs : Nat → Bool} {no : Nat → Str → Bool} {c : Expr}
theorem isx_call (S : Su X g B) (T : L2.ExcC X.K (g.ca B.xcl)) {σ : L2.St} {H : Hp} {s : Shared} {pins : List (Addr × Obj)} {Q : VK} {v : L2.V} {cv : Value} {us : List Value} {b : Bool} (I : Inv X pins σ H s) (r : Vals [.ref B.xa, v] us) (hcv : ∀ u, RelV v u → u = cv)
    {vs : List (Str × L2.V)} (hd : H B.xd = some (.xd vs)) (e : PySem.W.kitOne X.K (.ref (g.ca B.xcl)) cv = some b) (q : Q (.bl b) H) : wpAny (model X.prog X.w) X.A (PySem.call (.builtin "isinstance") us) (EP X pins σ Q) X.xe s := by
  obtain ⟨X0, oe, pn, rfl, hz, hv⟩ := S.ex
  cases r with
  | cons rx rr =>
    cases rr with
    | cons rt rr =>
      cases rr
      cases rx
      have ec := hcv _ rt
      subst ec
      obtain ⟨hget, _⟩ := I.pin (B.xa, oe) (List.mem_append.mpr (.inl List.mem_cons_self))
      obtain ⟨ws, hw⟩ := hv
      have hx : ObjOk X0.prog X0.w H s.heap B.xd (.xd vs) := I.hok _ _ hd
      obtain ⟨mA, hns, hr⟩ := hx
      obtain ⟨oD, ho, _⟩ := lookIn_ns hns
      have J : PySem.W.InstAt s.heap B.xa oe (g.ca B.xcl) (some oD) := ⟨hget, hz.1, by unfold PySem.W.notCls; rw [hw] <;> rfl, by rw [hz.2]; exact ho⟩
      exact PySem.W.kia_one (kit_exc T) I.kIn J e (fun z => nomatch z) fun tk => ⟨.bl b, H, I.kept (t' := tk) fun _ _ z => z, rfl, q⟩
theorem ve_isx (S : Su X g B) (o : XcOk g xs no) (t : Ty) (i : Nat) (hN : X.N[i]? = some x) (hv : Vis X.env.scope x) (hg : Gl X "isinstance") (hm : X.mg "isinstance" = none) (hc : PE X c (tC (t.v g)))
    (hd : (x == ("__debug__" : Str)) = false := by decide) (hcd : (x == ("__classdict__" : Str)) = false := by decide)
    (hs : starEach [.Name x p, c] X.env = (false, eval (.Name x p) X.env) :: starEach [c] X.env := by rfl) (hpl : (backTo pos (starEach [c] X.env)).any (·.1) = false := by rfl) (hs2 : starEach [c] X.env = (false, eval c X.env) :: starEach [] X.env := by rfl) :
    PE X (.Call (.Name "isinstance" p1) [.Name x p, c] [] pos) (tE g B W (mIsX g xs t i)) := by
  have call : CallR X (.builtin "isinstance") (fun ws H Q => ∃ (v : L2.V) (cv : Value) (b : Bool) (vs : List (Str × L2.V)), ws = [.ref B.xa, v] ∧ (∀ u, RelV v u → u = cv) ∧ L2.ExcC X.K (g.ca B.xcl) ∧ H B.xd = some (.xd vs) ∧ PySem.W.kitOne X.K (.ref (g.ca B.xcl)) cv = some b ∧ Q (.bl b) H) := by
    intro pins s σ H ws us Q I r ⟨v, cv, b, vs, e1, e2, T, e3, e4, q⟩
    subst e1
    exact isx_call S T I r e2 e3 e4 q
  refine pe_imp (pe_callB call hg hm (by decide +kernel) (pa_cons (pe_var hN hv hd hcd) (pa_cons hc pa_nil hs2) hs) (by decide) (by decide) hs hpl) fun σ H Q ⟨env, s, sr, pp⟩ => ?_
  unfold mIsX at pp
  split at pp
  · next c' fs he =>
    split at pp
    · next hx =>
      split at pp
      · next b hb =>
        obtain ⟨v, h1, h2⟩ := sr.slot i _ he
        obtain ⟨rfl, rfl, vs, h3, h4, h5⟩ := h2
        exact ⟨_, h1, t.v g, t.val g, b, vs, rfl, ty_val t, S.K ▸ (o.xf _ hx).2, h3, S.K ▸ S.G.isi _ _ _ hb, PostE.pure sr pp rfl⟩
      · exact pp.elim
    · exact pp.elim
  · exact pp.elim
theorem ve_xf (S : Su X g B) (o : XcOk g xs no) (f : Str) (i : Nat) (hN : X.N[i]? = some x) (hv : Vis X.env.scope x) (hd : (x == ("__debug__" : Str)) = false := by decide) (hcd : (x == ("__classdict__" : Str)) = false := by decide)
    (hb : attributeBase (.Name x p) f X.env (eval (.Name x p) X.env) = eval (.Name x p) X.env := by rfl) : PE X (.Attribute (.Name x p) f pos) (tE g B W (mXf xs no f i)) := by
  obtain ⟨X0, oe, pn, rfl, hz, hw⟩ := S.ex
  refine ⟨fun pins s σ H Q I h => ?_⟩
  obtain ⟨env, st, sr, pp⟩ := h
  unfold mXf at pp
  split at pp
  · next c' fs he =>
    split at pp
    · next hx =>
      obtain ⟨hx1, hx2⟩ := Bool.and_eq_true_iff.mp hx
      split at pp
      · next d hl =>
        obtain ⟨v, h1, h2⟩ := sr.slot i _ he
        obtain ⟨rfl, rfl, vs, h3, h4, h5⟩ := h2
        obtain ⟨w, w1, w2⟩ := h5.lookup hl
        exact (pe_xf (cls := .ref (g.ca B.xcl)) (d := some B.xd) (S.K ▸ (o.xf _ hx1).1) (S.K ▸ o.no _ _ hx2) hz hw (pe_var hN hv hd hcd) hb).run pins s σ H Q I ⟨.ref B.xa, h1, rfl, rfl, B.xd, vs, w, rfl, h3, w1, PostE.pure sr pp w2⟩
      · exact pp.elim
    · exact pp.elim
  · exact pp.elim
end
end Vi

set_option Elab.async false
set_option linter.all false
set_option maxRecDepth 100000
set_option maxHeartbeats 2000000
namespace Vi
open PySem L2 PyProof.Rows

def noX (env : Env) : Bool := env.all fun o => match o with
  | some (.xc _ _) => false
  | _ => true
/-- behind the suite: the name is gone -/
def unX (i : Nat) : RS → RS
  | .nx env h => if noX (env.set i none) then .nx (env.set i none) h else .stuck
  | .brk env h => if noX (env.set i none) then .brk (env.set i none) h else .stuck
  | .cnt env h => if noX (env.set i none) then .cnt (env.set i none) h else .stuck
  | .ret d h => .ret d h
  | .exc _ _ _ => .stuck
  | .stuck => .stuck
def mTry (i : Nat) (cat : Nat → Option Bool) (mb ms : MS) : MS := fun env h => match mb env h with
  | .exc env' (.obj c fs) h' => (match cat c with
    | some true => if noX (env'.set i none) && decide (i < env'.length) then unX i (ms (env'.set i (some (.xc c fs))) h') else .stuck
    | some false => .exc env' (.obj c fs) h'
    | none => .stuck)
  | .exc _ _ _ => .stuck
  | r => r
theorem noX_get {env : Env} (h : noX env = true) {i : Nat} {sl : Sl} (e : env[i]? = some (some sl)) : ∀ c fs, sl ≠ .xc c fs := fun c fs q => by
  subst q
  have m := List.mem_of_getElem? e
  have z := List.all_eq_true.mp h _ m
  cases z
section
variable {g : Gi} {B : Bg} {W : WXv} {env : Env} {s s' : Sta} {σ : L2.St} {H H' : Hp} {i : Nat}
abbrev Bg.catch (B : Bg) (a d : Addr) (c : Nat) : Bg := { B with xa := a, xd := d, xcl := c }
theorem SlRep.bg {a d : Addr} {c : Nat} {sl : Sl} {v : L2.V} (n : ∀ c fs, sl ≠ .xc c fs) : SlRep g B s H sl v ↔ SlRep g (B.catch a d c) s H sl v := by
  cases sl with
  | d x => exact Iff.rfl
  | ol xs => exact ⟨fun ⟨a, vs, h1, h2, h3, h4⟩ => ⟨a, vs, h1, h2, ⟨h3.f, h3.al, h3.new⟩, h4⟩, fun ⟨a, vs, h1, h2, h3, h4⟩ => ⟨a, vs, h1, h2, ⟨h3.f, h3.al, h3.new⟩, h4⟩⟩
  | oi c fs => exact ⟨fun ⟨a, dx, vs, h1, h2, h3, h4⟩ => ⟨a, dx, vs, h1, h2, ⟨h3.f, h3.al, h3.new⟩, h4⟩, fun ⟨a, dx, vs, h1, h2, h3, h4⟩ => ⟨a, dx, vs, h1, h2, ⟨h3.f, h3.al, h3.new⟩, h4⟩⟩
  | xc c fs => exact absurd rfl (n c fs)
theorem SR.unset (sr : SR g B env s σ H) : SR g B (env.set i none) s (σ.set i none) H := by
  have f : ∀ {j : Nat} {sl : Sl}, (env.set i none)[j]? = some (some sl) → i ≠ j ∧ env[j]? = some (some sl) := fun {j sl} h => by
    by_cases e : i = j
    · subst e
      by_cases hi : i < env.length
      · rw [List.getElem?_set_self hi] at h
        cases h
      · rw [List.getElem?_eq_none (by rw [List.length_set]; omega)] at h
        cases h
    · rw [List.getElem?_set_ne e] at h
      exact ⟨e, h⟩
  refine ⟨sr.good, sr.evo, by rw [List.length_set, List.length_set]; exact sr.len, fun j sl h => ?_, fun j k sl1 sl2 u hjk h1 h2 o1 o2 h3 h4 => ?_⟩
  · obtain ⟨e, h⟩ := f h
    rw [List.getElem?_set_ne e]
    exact sr.slot j sl h
  · obtain ⟨e1, h1⟩ := f h1
    obtain ⟨e2, h2⟩ := f h2
    rw [List.getElem?_set_ne e1] at h3
    rw [List.getElem?_set_ne e2] at h4
    exact sr.sep j k sl1 sl2 u hjk h1 h2 o1 o2 h3 h4
theorem SR.bg {a d : Addr} {c : Nat} (n : noX env = true) (sr : SR g B env s σ H) : SR g (B.catch a d c) env s σ H :=
  ⟨sr.good, sr.evo, sr.len, fun j sl h => by
    obtain ⟨v, h1, h2⟩ := sr.slot j sl h
    exact ⟨v, h1, (SlRep.bg (noX_get n h)).mp h2⟩, sr.sep⟩
theorem SR.unbg {a d : Addr} {c : Nat} (n : noX env = true) (sr : SR g (B.catch a d c) env s σ H) : SR g B env s σ H :=
  ⟨sr.good, sr.evo, sr.len, fun j sl h => by
    obtain ⟨v, h1, h2⟩ := sr.slot j sl h
    exact ⟨v, h1, (SlRep.bg (noX_get n h)).mpr h2⟩, sr.sep⟩
theorem SR.setX {c : Nat} {fs : List (Str × D)} {v : L2.V} (hi : i < env.length) (sr : SR g B (env.set i none) s (σ.set i none) H) (r : SlRep g B s H (.xc c fs) v) : SR g B (env.set i (some (.xc c fs))) s (σ.set i (some v)) H := by
  have f : ∀ {j : Nat} {sl : Sl}, i ≠ j → (env.set i (some (.xc c fs)))[j]? = some (some sl) → (env.set i none)[j]? = some (some sl) := fun {j sl} e h => by
    rw [List.getElem?_set_ne e] at h
    rw [List.getElem?_set_ne e]
    exact h
  have hl : (env.set i none).length = (σ.set i none).length := sr.len
  rw [List.length_set, List.length_set] at hl
  refine ⟨sr.good, sr.evo, by rw [List.length_set, List.length_set]; exact hl, fun j sl h => ?_, fun j k sl1 sl2 u hjk h1 h2 o1 o2 h3 h4 => ?_⟩
  · by_cases e : i = j
    · subst e
      rw [List.getElem?_set_self hi] at h
      cases h
      exact ⟨v, List.getElem?_set_self (hl ▸ hi), r⟩
    · have z := sr.slot j sl (f e h)
      rw [List.getElem?_set_ne e] at z
      rw [List.getElem?_set_ne e]
      exact z
  · have ne : ∀ {j : Nat} {sl : Sl}, (env.set i (some (.xc c fs)))[j]? = some (some sl) → sl.own = true → i ≠ j := fun {j sl} h o e => by
      subst e
      rw [List.getElem?_set_self hi] at h
      cases h
      cases o
    have n1 := ne h1 o1
    have n2 := ne h2 o2
    refine sr.sep j k sl1 sl2 u hjk (f n1 h1) (f n2 h2) o1 o2 ?_ ?_
    · rw [List.getElem?_set_ne n1] at h3
      rw [List.getElem?_set_ne n1]
      exact h3
    · rw [List.getElem?_set_ne n2] at h4
      rw [List.getElem?_set_ne n2]
      exact h4
end
/-- which classes the clause takes -/
structure Catch (X : Cx) (g : Gi) (x : Str) (cat : Nat → Option Bool) : Prop where
  ex : ∃ cv : Value, Names X x cv ∧ ∀ c b, cat c = some b → PySem.W.exmOne X.K (.ref (g.ca c)) cv = some b
section
variable {X : Cx} {g : Gi} {B : Bg} {W : WXv} {x n : Str} {i : Nat} {body suite : List Stmt} {b₀ : Stmt} {np pos pos' : Pos} {mb ms : MS} {cat : Nat → Option Bool}
theorem vs_try (b : Bd X g W) (hs : X.stack = X.env :: X.outer) (hf : X.env.frame = some X.env.locals) (hN : X.N.Nodup) (hi : X.N[i]? = some n) (hln : X.env.kindOf n = some .local) (C : Catch X g x cat)
    (hb : ∀ (W' : WXv) (pn : List (Addr × Obj)) (xe : Value → Shared → Prop), Bd (X.tr pn xe) g W' → PSs (X.tr pn xe) body (tS g B W' mb))
    (hsu : ∀ (a d : Addr) (c : Nat) (oe : Obj) (pn : List (Addr × Obj)), Su (X.suite a ((a, oe) :: pn)) g (B.catch a d c) → PSs (X.suite a ((a, oe) :: pn)) (b₀ :: suite) (tS g (B.catch a d c) (fun _ _ _ _ => False) ms)) :
    PS X (.Try body [.ExceptHandler (some (.Name x np)) (some n) (b₀ :: suite) pos'] [] [] pos) (tS g B W (mTry i cat mb ms)) := by
  obtain ⟨cv, hc, hcat⟩ := C.ex
  refine ps_imp (ps_try_as (tb := fun W' => tS g B W' mb) (ts := fun a cls d N σ H => ∃ (c : Nat) (dd : Addr), cls = .ref (g.ca c) ∧ d = some dd ∧ tS g (B.catch a dd c) (fun _ _ _ _ => False) ms N σ H) (Wout := W) hs hf hN hi hln hc b.tk
    (fun W' pn xe tk ps => hb W' pn xe ⟨b.G, b.K, b.calm, b.gd, tk, ps, b.un⟩) fun a oe cls d pn hz hv => ⟨fun pins s σ H N I h => ?_⟩) fun N σ H ⟨env, st, sr, pp⟩ => ⟨env, st, sr, ?_⟩
  · obtain ⟨c, dd, rfl, rfl, h⟩ := h
    exact (hsu a dd c oe pn ⟨⟨X, oe, pn, rfl, hz, hv⟩, b.G, b.K⟩).run pins s σ H N I h
  · unfold mTry at pp
    cases e : mb env st.h with
    | nx env' h => rw [e] at pp; exact pp
    | ret d h => rw [e] at pp; exact pp
    | brk env' h => rw [e] at pp; exact pp
    | cnt env' h => rw [e] at pp; exact pp
    | stuck => rw [e] at pp; exact pp.elim
    | exc env' y h =>
      rw [e] at pp
      cases y with
      | obj c fs =>
        intro cls dd σ' H' s' e1 le sr' xr
        obtain ⟨d, vs, rfl, rfl, hd, hal, hr⟩ := xr
        cases ec : cat c with
        | none => simp only [ec] at pp; exact pp.elim
        | some q =>
          cases q with
          | false =>
            simp only [ec] at pp
            exact ⟨false, hcat c false ec, fun z => (by cases z), fun _ => pp (.ref (g.ca c)) (some d) σ' H' s' e1 le sr' ⟨d, vs, rfl, rfl, hd, hal, hr⟩⟩
          | true =>
            simp only [ec] at pp
            by_cases hq : (noX (env'.set i none) && decide (i < env'.length)) = true
            · rw [if_pos hq] at pp
              obtain ⟨q1, q2⟩ := Bool.and_eq_true_iff.mp hq
              refine ⟨true, hcat c true ec, fun _ a ha => ⟨c, d, rfl, rfl, ?_⟩, fun z => (by cases z)⟩
              refine ⟨_, s', (sr'.unset.bg (a := a) (d := d) (c := c) q1).setX (of_decide_eq_true q2) ⟨rfl, rfl, vs, hd, hal, hr⟩, ?_⟩
              rw [e1]
              have back : ∀ {env2 : Env} {σ2 : L2.St} {H2 : Hp} {s2 : Sta}, noX (env2.set i none) = true → SR g (B.catch a d c) env2 s2 σ2 H2 → SR g B (env2.set i none) s2 (σ2.set i none) H2 := fun n2 sr2 => SR.unbg (a := a) (d := d) (c := c) n2 sr2.unset
              cases em : ms (env'.set i (some (.xc c fs))) h with
              | nx env2 h2 =>
                rw [em] at pp
                unfold unX at pp
                by_cases n2 : noX (env2.set i none) = true
                · simp only [if_pos n2] at pp
                  exact fun σ2 H2 s2 e2 le2 sr2 => pp (σ2.set i none) H2 s2 e2 (le.trans le2) (back n2 sr2)
                · simp only [if_neg n2] at pp
                  exact pp.elim
              | brk env2 h2 =>
                rw [em] at pp
                unfold unX at pp
                by_cases n2 : noX (env2.set i none) = true
                · simp only [if_pos n2] at pp
                  exact fun σ2 H2 s2 e2 le2 sr2 => pp (σ2.set i none) H2 s2 e2 (le.trans le2) (back n2 sr2)
                · simp only [if_neg n2] at pp
                  exact pp.elim
              | cnt env2 h2 =>
                rw [em] at pp
                unfold unX at pp
                by_cases n2 : noX (env2.set i none) = true
                · simp only [if_pos n2] at pp
                  exact fun σ2 H2 s2 e2 le2 sr2 => pp (σ2.set i none) H2 s2 e2 (le.trans le2) (back n2 sr2)
                · simp only [if_neg n2] at pp
                  exact pp.elim
              | ret dr h2 =>
                rw [em] at pp
                exact pp
              | exc env2 y2 h2 => rw [em] at pp; exact pp.elim
              | stuck => rw [em] at pp; exact pp.elim
            · rw [if_neg hq] at pp
              exact pp.elim
      | _ => exact pp.elim
end
end Vi

set_option Elab.async false
set_option linter.all false
set_option maxRecDepth 100000
set_option maxHeartbeats 2000000
namespace Vi
open PySem L2 PyProof.Rows

/-! ### self.f among targets -/
def gtF (g : Gi) (i : Nat) (f : Str) : TgF := fun d env => match env[i]? with
  | some (some (.oi c fs)) => if g.fld c f && decide (fs.length < 1000) then some (env.set i (some (.oi c (putD f d fs)))) else none
  | _ => none
def gAttr (K : PySem.W.Frag) (f : Str) (to : TE) : TG := fun y σ H Q => to σ H fun x H1 => ∃ (a C dx : Addr) (fs : List (Str × L2.V)), x = .ref a ∧ H1 a = some (.ins C dx fs) ∧ Cls K C ∧ NoAttr K C f ∧ fs.length < 1000 ∧ Q σ (upd H1 a (.ins C dx (putF f y fs)))
section
variable {X : Cx} {g : Gi} {pos : Pos} {o : Expr} {to : TE} {f : Str}
theorem pg_attr (ho : PE X o to) : PG X (.Attribute o f pos) (gAttr X.K f to) := by
  refine ⟨fun pins s σ H y u Q I r h => ?_⟩
  rw [assign_Attribute]
  refine wpAny_bind (wpAny_holding (thn (ho.run pins s σ H _ I h) fun ov s2 ⟨x, H2, I2, rx, a, C, dx, fs, ex, ea, c, n, l, q2⟩ => ?_))
  subst ex
  obtain rfl : ov = Value.ref a := rx
  refine wpAny_bind (wpAny_standAt (wpAny_bind (wpAny_holding ?_)))
  exact setattr_ok I2 ea c n l r fun s3 I3 => wpAny_release ⟨σ, _, I3, q2⟩
theorem vg_attr {i : Nat} (G : GiOk g) (hK : g.K = X.K) (ho : PE X o (tVar i)) : TgV X g (.Attribute o f pos) (gtF g i f) := by
  refine ⟨_, pg_attr ho, fun B env env' s σ H d v Q sr r e k => ?_⟩
  unfold gtF at e
  split at e
  · next c fs hx =>
    split at e
    · next hcl =>
      obtain ⟨hc, hl⟩ := Bool.and_eq_true_iff.mp hcl
      cases e
      obtain ⟨w, h1, h2⟩ := sr.slot i _ hx
      obtain ⟨a, dx, vs, rfl, h3, h4, h5, h6⟩ := h2
      obtain ⟨k1, k2⟩ := G.fld c f hc
      exact ⟨_, h1, a, g.ca c, dx, vs, rfl, h3, hK ▸ (G.cls c k1).cl, hK ▸ k2, by rw [h5.length]; exact of_decide_eq_true hl, k σ _ (sr.mut hx rfl h1 h4.f h4.al h4.new ⟨a, dx, _, rfl, upd_same, h4, h5.put r, h6⟩)⟩
    · cases e
  · cases e
end
end Vi

set_option Elab.async false
set_option linter.all false
set_option maxRecDepth 100000
set_option maxHeartbeats 2000000
namespace Vi
open PySem L2 PyProof.Rows

/-! ### own operations -/
/-- a special method of the class c, with n parameters -/
structure VOp (X : Cx) (g : Gi) (c : Nat) (name : Str) (n : Nat) (F : Fn) : Prop where
  ex : ∃ (k : Nat) (f : Addr) (fd : FuncData) (ps : List Str), FnG X.prog X.w X.K X.mg X.base k f fd ps (spD g ps.length F) ∧ Room (k + 1) X.A ∧ PySem.W.findIn X.K (.ref (g.ca c)) name = some (some (.ref f)) ∧ PySem.W.isFn X.K (.ref f) = true ∧ Binds X.K fd ps [] ∧ ps.length = n ∧ PySem.W.fnIn X.K f = true
  sf : PySem.W.selfFirst X.K (g.ca c) = true
/-- of which classes the operation is known -/
abbrev Tbl := Nat → Option Fn
def VOps (X : Cx) (g : Gi) (name : Str) (n : Nat) (T : Tbl) : Prop := ∀ c F, T c = some F → VOp X g c name n F
def NNI (v : L2.V) : Prop := ∀ u, RelV v u → u ≠ .notImplemented
theorem rep_nni {g : Gi} {F : Hp} {al : Nat → Option Addr} {d : D} {v : L2.V} (h : Rep g F al d v) : NNI v := fun u r e => by
  subst e
  have key : ∀ a : Addr, ¬ RelV (.ref a) .notImplemented := fun a z => by cases z
  cases d with
  | non => rw [show v = _ from h] at r; cases r
  | bl b => rw [show v = _ from h] at r; cases r
  | int i => rw [show v = _ from h] at r; obtain ⟨_, z⟩ := r; cases z
  | str x => rw [show v = _ from h] at r; obtain ⟨_, z⟩ := r; cases z
  | tup xs => obtain ⟨a, vs, rfl, _⟩ := h; exact key a r
  | xtup xs => obtain ⟨a, o, vs, rfl, _⟩ := h; exact key a r
  | lst xs => obtain ⟨a, vs, rfl, _⟩ := h; exact key a r
  | kl xs => obtain ⟨a, vs, rfl, _⟩ := h; exact key a r
  | ref n => obtain ⟨a, rfl, _⟩ := h; exact key a r
  | obj c fs => obtain ⟨a, dx, vs, rfl, _⟩ := h; exact key a r
  | cls c => rw [show v = _ from h] at r; exact key _ r
  | dK kvs => obtain ⟨a, vs, rfl, _⟩ := h; exact key a r
  | dT kvs => obtain ⟨a, vs, rfl, _⟩ := h; exact key a r
theorem nni_back {v : L2.V} {u : Value} {Q : Value → Shared → Prop} {s : Shared} (n : NNI v) (r : RelV v u) (q : Q u s) : PySem.W.CmpBack Q u s := by
  have z := n u r
  cases u <;> first | exact absurd rfl z | exact q
section
variable {X : Cx} {g : Gi} {B : Bg} {W : WXv} {env : Env} {st : Sta} {σ : L2.St} {H : Hp} {s : Shared} {pins : List (Addr × Obj)} {c n : Nat} {name : Str} {F : Fn} {Q : VK}
theorem PostE.nni {r : R D} (p : PostE g B W env st σ H (r.bind fun d h' => .ok (.d d) h') Q) : PostE g B W env st σ H (r.bind fun d h' => .ok (.d d) h') (fun v H' => Q v H' ∧ NNI v) := by
  cases r with
  | ok d h => exact fun v H' s' e1 ev sr vr => ⟨p v H' s' e1 ev sr vr, rep_nni (show Rep g s'.F s'.al d v from vr)⟩
  | exc x h => exact p
  | stuck => exact p
/-- the call of the def, at A -/
theorem run_op {f : Addr} {k : Nat} {fd : FuncData} {ps : List Str} {A : Around} {ds : List D} {vs : List L2.V} {us : List Value} (b : Bd X g W) (FG : FnG X.prog X.w X.K X.mg X.base k f fd ps (spD g ps.length F)) (hA : A = X.A ∨ A = X.A.in1) (hr : Room (k + 1) X.A) (hb : Binds X.K fd ps [])
    (I : Inv X pins σ H s) (r : Vals vs us) (hl : vs.length = ps.length) (sr : SR g B env st σ H) (rr : Reps g st.F st.al ds vs) (p : PostE g B W env st σ H ((F ds st.h).bind fun d h' => .ok (.d d) h') Q) :
    wpAny (model X.prog X.w) A (call (.ref f) us) (EP X pins σ Q) X.xe s := by
  have sp := spD_of sr hl rr p
  have bt : BindsTo s fd ⟨us, []⟩ (ps.zip us) := by
    have z := hb s us I.kIn (by rw [List.append_nil, ← r.length]; exact hl)
    rwa [List.append_nil] at z
  have go : codeAny (model X.prog X.w) A (.call (.ref f) ⟨us, []⟩) (CR (L2.CX X.prog X.w) X.stack X.prog X.w H s Q (fun cls d H' => W cls d σ H')) s := by
    rcases hA with rfl | rfl
    · exact FG.run _ X.stack s H ⟨us, []⟩ us vs Q _ (hr.mono (Nat.le_succ k)) b.gd I.env0 bt r sp
    · exact FG.run _ X.stack s H ⟨us, []⟩ us vs Q _ hr.in1 b.gd I.env0.in1 bt r sp
  refine wpAny_call (codeAny_mono go fun r s' hq => ?_)
  cases r with
  | error e => exact passAt b.tk σ pins H s e s' I hq
  | ok fl =>
    cases fl with
    | ret u => exact I.after hq
    | next => exact False.elim hq
    | brk => exact False.elim hq
    | cont => exact False.elim hq
theorem obj_at (G : GiOk g) (sr : SR g B env st σ H) (I : Inv X pins σ H s) {fs : List (Str × D)} {v : L2.V} {u : Value} (h : VlRep g B env σ st H (.d (.obj c fs)) v) (r : RelV v u) : ∃ a ox od, v = .ref a ∧ u = .ref a ∧ PySem.W.InstAt s.heap a ox (g.ca c) (some od) := by
  obtain ⟨a, dx, vs, rfl, h2, _⟩ := h
  obtain rfl : u = Value.ref a := r
  obtain ⟨mA, O, _⟩ := ins_get I.hok (sr.good.fle _ _ h2)
  obtain ⟨od, J, _⟩ := O.look
  exact ⟨a, _, od, rfl, rfl, J⟩
end
/-! a two-place operation that may look at everything -/
def OpW (X : Cx) (g : Gi) (W : WXv) (f : Value → Value → Sem Value) (F : Vl → Vl → Hc → R Vl) : Prop :=
  ∀ (B : Bg) (env : Env) (st : Sta) (σ : L2.St) (H : Hp) (s : Shared) (pins : List (Addr × Obj)) (x y : Vl) (v w : L2.V) (u1 u2 : Value) (Q : VK), Inv X pins σ H s → RelV v u1 → RelV w u2 → SR g B env st σ H → VlRep g B env σ st H x v → VlRep g B env σ st H y w →
    PostE g B W env st σ H (F x y st.h) Q → wpAny (model X.prog X.w) X.A (f u1 u2) (EP X pins σ Q) X.xe s
theorem OpV.w {X : Cx} {g : Gi} {W : WXv} {f : Value → Value → Sem Value} {F : Vl → Vl → Hc → R Vl} (h : OpV X g f F) : OpW X g W f F := by
  obtain ⟨r, h1, h2⟩ := h
  intro B env st σ H s pins x y v w u1 u2 Q I r1 r2 sr rx ry p
  exact h1 pins s σ H v w u1 u2 Q I r1 r2 (h2 B W env st σ H x y v w Q sr rx ry p)
def fOps (T : Tbl) (F0 : Vl → Vl → Hc → R Vl) (x y : Vl) (h : Hc) : R Vl := match x with
  | .d (.obj c fs) => (match T c, y with
    | some F, .d (.obj c2 gs) => if c2 = c then (F [.obj c fs, .obj c2 gs] h).bind fun d h' => .ok (.d d) h' else .stuck
    | _, _ => .stuck)
  | _ => F0 x y h
/-- e1 == e2, where own classes know of it: nf says which types may stand at the right -/
def fEqs (g : Gi) (T : Tbl) (nf : Nat → Ty → Bool) (F0 : Vl → Vl → Hc → R Vl) (x y : Vl) (h : Hc) : R Vl := match x with
  | .d (.obj c fs) => (match T c, y with
    | some F, .d yd => (match yd.ty g with
      | some t => if nf c t then (F [.obj c fs, yd] h).bind fun d h' => .ok (.d d) h' else .stuck
      | none => .stuck)
    | _, _ => .stuck)
  | _ => F0 x y h
section
variable {X : Cx} {g : Gi} {W : WXv} {T : Tbl}
theorem o_ops {op : Operator} {F0 : Vl → Vl → Hc → R Vl} (b : Bd X g W) (V : VOps X g (PySem.dunder op.info.2) 2 T) (h0 : OpV X g (binaryOp op) F0) : OpW X g W (binaryOp op) (fOps T F0) := by
  intro B env st σ H s pins x y v w u1 u2 Q I r1 r2 sr rx ry p
  unfold fOps at p
  split at p
  · next c fs =>
    split at p
    · next F c2 gs hT =>
      split at p
      · next hc =>
        subst hc
        obtain ⟨k, f, fd, ps, FG, hr, hs, hf, hb, hn, _⟩ := (V c2 F hT).ex
        obtain ⟨a, ox, od, rfl, rfl, J⟩ := obj_at b.G sr I rx r1
        obtain ⟨a2, ox2, od2, rfl, rfl, J2⟩ := obj_at b.G sr I ry r2
        obtain ⟨m, hF⟩ := I.fr
        refine PySem.W.binop_K hF I.ok.mod.kin J J2.type (V c2 F hT).sf hs hf ?_
        refine wpAny_mono (run_op (vs := [.ref a, .ref a2]) b FG (.inl rfl) hr hb I (.cons rfl (.cons rfl .nil)) hn.symm sr (Reps.cons rx (Reps.cons ry Reps.nil)) (PostE.nni p)) (fun u s' ⟨v, H', I', rv, q, n⟩ => nni_back n rv ⟨v, H', I', rv, q⟩) fun _ _ z => z
      · exact p.elim
    · exact p.elim
  · obtain ⟨r, q1, q2⟩ := h0
    exact q1 pins s σ H v w u1 u2 Q I r1 r2 (q2 B W env st σ H x y v w Q sr rx ry p)
theorem o_eqs {nf : Nat → Ty → Bool} {F0 : Vl → Vl → Hc → R Vl} (b : Bd X g W) (V : VOps X g "__eq__" 2 T) (hnf : ∀ c t, nf c t = true → PySem.W.notFirst X.K (g.ca c) (t.val g) = true) (h0 : OpV X g (compareOp .Eq) F0) : OpW X g W (compareOp .Eq) (fEqs g T nf F0) := by
  intro B env st σ H s pins x y v w u1 u2 Q I r1 r2 sr rx ry p
  unfold fEqs at p
  split at p
  · next c fs =>
    split at p
    · next F yd hT =>
      split at p
      · next t ht =>
        split at p
        · next hc =>
          obtain ⟨k, f, fd, ps, FG, hr, hs, hf, hb, hn, _⟩ := (V c F hT).ex
          obtain ⟨a, ox, od, rfl, rfl, J⟩ := obj_at b.G sr I rx r1
          obtain ⟨m, hF⟩ := I.fr
          have ty : TyX X.K H w (t.val g) := b.K ▸ Vl.tyX (x := .d yd) b.G sr.good ry (ty_up ht)
          obtain ⟨P, Z, pz, _⟩ := kit_of I r2 ty
          refine PySem.W.cmp_K (op := .Eq) (tb := t.val g) (by have := b.un; omega) hF I.ok.mod.kin J (Z.ty _ _ I.kIn pz) (hnf c t hc) hs hf ?_
          refine wpAny_mono (run_op (vs := [.ref a, w]) b FG (.inl rfl) hr hb I (.cons rfl (.cons r2 .nil)) hn.symm sr (Reps.cons rx (Reps.cons ry Reps.nil)) (PostE.nni p)) (fun u s' ⟨v, H', I', rv, q, n⟩ => nni_back n rv ⟨v, H', I', rv, q⟩) fun _ _ z => z
        · exact p.elim
      · exact p.elim
    · exact p.elim
  · obtain ⟨r, q1, q2⟩ := h0
    exact q1 pins s σ H v w u1 u2 Q I r1 r2 (q2 B W env st σ H x y v w Q sr rx ry p)
end
section
variable {X : Cx} {g : Gi} {B : Bg} {W : WXv} {pos : Pos} {a b : Expr} {ma mb : ME}
theorem ve_binW {op : Operator} {F : Vl → Vl → Hc → R Vl} (ho : OpW X g W (binaryOp op) F) (ha : PE X a (tE g B W ma)) (hb : PE X b (tE g B W mb)) : PE X (.BinOp a op b pos) (tE g B W (m2 F ma mb)) := by
  refine ⟨fun pins s σ H Q I ⟨env, st, sr, p⟩ => ?_⟩
  exact wpAny_BinOp (binT (R := fun v w H2 => ∃ s2 x y, SR g B env s2 σ H2 ∧ Evo st H s2 H2 ∧ VlRep g B env σ s2 H2 x v ∧ VlRep g B env σ s2 H2 y w ∧ PostE g B W env s2 σ H2 (F x y s2.h) Q) ha hb I (bind2E (Q := Q) sr p)
    fun v u s2 x y H2 I2 rx ry ⟨st2, x', y', sr2, _, r1, r2, p2⟩ => ho B env st2 σ H2 s2 pins x' y' x y v u Q I2 rx ry sr2 r1 r2 p2)
theorem ve_cmpW {op : CmpOp} {F : Vl → Vl → Hc → R Vl} (ho : OpW X g W (compareOp op) F) (ha : PE X a (tE g B W ma)) (hb : PE X b (tE g B W mb)) (hm : behindInMarks op b = false) : PE X (.Compare a [op] [b] pos) (tE g B W (m2 F ma mb)) := by
  refine ⟨fun pins s σ H Q I ⟨env, st, sr, p⟩ => ?_⟩
  exact wpAny_Compare1 (binT (R := fun v w H2 => ∃ s2 x y, SR g B env s2 σ H2 ∧ Evo st H s2 H2 ∧ VlRep g B env σ s2 H2 x v ∧ VlRep g B env σ s2 H2 y w ∧ PostE g B W env s2 σ H2 (F x y s2.h) Q) ha hb I (bind2E (Q := Q) sr p)
    fun v u s2 x y H2 I2 rx ry ⟨st2, x', y', sr2, _, r1, r2, p2⟩ => ho B env st2 σ H2 s2 pins x' y' x y v u Q I2 rx ry sr2 r1 r2 p2) hm
theorem vt_cmpW {op : CmpOp} {F : Vl → Vl → Hc → R Vl} (ho : OpW X g W (compareOp op) F) (ha : PE X a (tE g B W ma)) (hb : PE X b (tE g B W mb)) (hm : behindInMarks op b = false) : PT X (.Compare a [op] [b] pos) (tT g B W (asB (m2 F ma mb))) := by
  refine ⟨fun pins s σ H Q I h => ?_⟩
  obtain ⟨env, st, sr, p⟩ := tE_asB h
  refine wpAny_isTrue_Compare1 (thn (ha.run pins s σ H _ I (bind2E sr p)) fun v s1 ⟨x, H1, I1, r1, q1⟩ => thn (hb.run pins s1 σ H1 _ I1 q1) fun u s2 ⟨y, H2, I2, r2, st2, x', y', sr2, _, rx, ry, p2⟩ =>
    thn (ho B env st2 σ H2 s2 pins x' y' x y v u _ I2 r1 r2 sr2 rx ry p2) fun c s3 ⟨z, H3, I3, r3, k, e, q3⟩ => ?_) hm
  subst e
  cases r3
  exact wpAny_truthy_bool ⟨H3, I3, q3⟩
def fNegs (T : Tbl) (x : Vl) (h : Hc) : R Vl := match x with
  | .d (.obj c fs) => (match T c with
    | some F => (F [.obj c fs] h).bind fun d h' => .ok (.d d) h'
    | none => .stuck)
  | _ => fNeg x h
theorem ve_negs {T : Tbl} (d : Bd X g W) (V : VOps X g "__neg__" 1 T) (ha : PE X a (tE g B W ma)) : PE X (.UnaryOp .USub a pos) (tE g B W (m1 (fNegs T) ma)) := by
  refine ⟨fun pins s σ H Q I ⟨env, st, sr, p⟩ => ?_⟩
  refine UnaryOp_ (thn (ha.run pins s σ H _ I (bindE (Q := Q) sr p)) fun u s1 ⟨v, H1, I1, r1, st1, x, sr1, _, rx, p1⟩ => ?_)
  unfold fNegs at p1
  split at p1
  · next c fs =>
    split at p1
    · next F hT =>
      obtain ⟨k, f, fd, ps, FG, hr, hs, hf, hb, hn, _⟩ := (V c F hT).ex
      obtain ⟨a, ox, od, rfl, rfl, J⟩ := obj_at d.G sr1 I1 rx r1
      obtain ⟨m, hF⟩ := I1.fr
      exact PySem.W.ksp_neg hF I1.ok.mod.kin J hs hf (run_op (vs := [.ref a]) d FG (.inl rfl) hr hb I1 (.cons rfl .nil) hn.symm sr1 (Reps.cons rx Reps.nil) p1)
    · exact p1.elim
  · refine un_neg pins s1 σ H1 v u Q I1 r1 ?_
    unfold fNeg at p1
    split at p1
    · exact ⟨_, rx, PostE.pure sr1 p1 rfl⟩
    · exact p1.elim
/-- abs -/
def fAbss (T : Tbl) (xs : List Vl) (h : Hc) : R Vl := match xs with
  | [.d (.obj c fs)] => (match T c with
    | some F => (F [.obj c fs] h).bind fun d h' => .ok (.d d) h'
    | none => .stuck)
  | _ => fAbs xs h
theorem ve_abss {T : Tbl} {p : Pos} (d : Bd X g W) (V : VOps X g "__abs__" 1 T) (hg : Gl X "abs") (hm : X.mg "abs" = none) (ha : PA X [a] (tA g B W A))
    (he : starEach [a] X.env = (false, eval a X.env) :: starEach [] X.env := by rfl) (hpl : (backTo pos (starEach [] X.env)).any (·.1) = false := by rfl) : PE X (.Call (.Name "abs" p) [a] [] pos) (tE g B W (mA1 (fAbss T) A)) := by
  refine ⟨fun pins s σ H Q I ⟨env, st, sr, pp⟩ => ?_⟩
  refine wpAny_Call_Name_kw (ld_blt (u := .builtin "abs") I hg hm (by decide +kernel) ?_ (by decide) (by decide))
  refine PyProof.Rows.callWith_builtin1 (thn (ha.run pos pins s σ H _ I (bindA (Q := Q) sr pp)) fun us s1 ⟨vs, H1, I1, r1, st1, xs, sr1, _, rx, p1⟩ => ?_) he hpl
  unfold fAbss at p1
  split at p1
  · next c fs =>
    split at p1
    · next F hT =>
      obtain ⟨k, f, fd, ps, FG, hr, hs, hf, hb, hn, _⟩ := (V c F hT).ex
      obtain ⟨v, rfl, rv⟩ := rx.one
      cases r1 with
      | cons r1 rr =>
        cases rr
        obtain ⟨a, ox, od, rfl, rfl, J⟩ := obj_at d.G sr1 I1 rv r1
        refine PySem.Calls.call_function_entry kind_abs plain_abs entry_abs (args_abs _) ?_
        unfold Builtin.«abs»
        refine wpAny_bind (m := oneArg "abs" _) (wpAny_pure ?_)
        refine wpAny_bind (m := callSpecial? (.ref a) (Str.ofString "__abs__")) ?_
        refine PySem.W.special_fn I1.kIn J hs (beq_iff_eq.mp hf) ?_
        refine wpAny_mono (run_op (A := X.A.in1) (vs := [.ref a]) d FG (.inr rfl) hr hb I1 (.cons rfl .nil) hn.symm sr1 (Reps.cons rv Reps.nil) p1) (fun u s' q => ?_) fun _ _ z => z
        exact wpAny_pure ⟨_, rfl, q⟩
    · exact p1.elim
  · obtain ⟨r, q1, q2⟩ := (c_abs : CallV X g (.builtin "abs") fAbs)
    exact q1 pins s1 σ H1 vs us Q I1 r1 (q2 B W env st1 σ H1 xs vs Q sr1 rx p1)
end
end Vi

set_option Elab.async false
set_option linter.all false
set_option maxRecDepth 100000
set_option maxHeartbeats 2000000
namespace Vi
open PySem L2 PyProof.Rows

/-! ### classmethods, and a class in a slot that is called -/
structure VCMet (X : Cx) (g : Gi) (c : Nat) (m : Str) (n : Nat) (dd : List D) (F : Fn) : Prop where
  ex : ∃ (k : Nat) (p f : Addr) (mc : Value) (fd : FuncData) (ps : List Str) (dvs : List L2.V) (ds : List Value), FnG X.prog X.w X.K X.mg X.base k f fd ps (spD g ps.length F) ∧ Room k X.A ∧ ClX.CRead X.K (g.ca c) mc ∧ ClX.CMet X.K (g.ca c) mc m p f ∧
    Binds X.K fd ps ds ∧ Vals dvs ds ∧ (∀ F al, Reps g F al dd dvs) ∧ (n + 1) + dvs.length = ps.length
def mCMet (c : Nat) (n : Nat) (F : Fn) (dd : List D) (o : ME) (a : MA) : ME := fun env h => (o env h).bind fun x h1 => match x with
  | .d (.cls c') => if c' = c then (a env h1).bind fun xs h2 => (if xs.length = n then (match datas xs with
    | some ds => (F (.cls c :: (ds ++ dd)) h2).bind fun d h' => .ok (.d d) h'
    | none => .stuck) else .stuck) else .stuck
  | _ => .stuck
section
variable {X : Cx} {g : Gi} {B : Bg} {W : WXv} {pos p apos : Pos} {e o : Expr} {es : List Expr} {A : MA} {F : Fn} {dd : List D} {n c : Nat} {x m : Str} {mo : ME}
theorem ve_cmeth {pl : Sem Bool} (b : Bd X g W) (V : VCMet X g c m n dd F) (ho : PE X o (tE g B W mo)) (ha : PA X (e :: es) (tA g B W A))
    (hst : starEach (e :: es) X.env = (false, eval e X.env) :: starEach es X.env := by rfl) (hpl : (backTo pos (starEach es X.env)).any (·.1) = false := by rfl)
    (ht : eval (.Call (.Attribute o m apos) (e :: es) [] pos) X.env = (do
      let ov ← eval o X.env
      standAt apos.atName
      let (f, first) ← holding [ov] (getMethod ov m pl)
      callWith pos f first (backTo pos (starEach (e :: es) X.env)) (backToKw pos (keywordEach [] X.env))) := by rfl) :
    PE X (.Call (.Attribute o m apos) (e :: es) [] pos) (tE g B W (mCMet c n F dd mo A)) := by
  obtain ⟨k, q, f, mc, fd, ps, dvs, ds, FG, hr, cr, cm, hb, hd, hdd, hn⟩ := V.ex
  refine ⟨fun pins s σ H Q I ⟨env, st, sr, pp⟩ => ?_⟩
  refine PySem.W.methodCall_KW (pl := pl) (thn (ho.run pins s σ H _ I (bindE (Q := Q) sr pp)) fun u s1 ⟨v, H1, I1, rx, st1, ox, sr1, ev1, r1, p1⟩ => ?_) ht
  split at p1
  · next c' =>
    split at p1
    · next hc =>
      subst hc
      obtain rfl : v = .ref (g.ca c') := r1
      obtain rfl : u = Value.ref (g.ca c') := rx
      refine ClX.getmethcm_ok I1 cr cm fun s2 I2 => ?_
      refine ClX.callwith_cm I2 (ClX.base_none I1 (Nat.le_refl _)) cm.fi (thn (ha.run pos _ s2 σ H1 _ I2 (bindA (Q := Q) sr1 p1)) fun us s3 ⟨vs, H2, I3, rv, st2, xs, sr2, ev2, r2, p2⟩ => ⟨⟨ClX.pin_at I3, I3.kIn⟩, ?_⟩) hst hpl
      by_cases hx : xs.length = n
      · rw [if_pos hx] at p2
        cases ed : datas xs with
        | none => rw [ed] at p2; exact p2.elim
        | some dl =>
          rw [ed] at p2
          have rr : Reps g st2.F st2.al (.cls c' :: (dl ++ dd)) ((.ref (g.ca c') :: vs) ++ dvs) := Reps.cons (show Rep g st2.F st2.al (.cls c') (.ref (g.ca c')) from rfl) ((r2.datas ed).append (hdd st2.F st2.al))
          have sp := spD_of sr2 (n := ps.length) (by rw [List.length_append, List.length_cons, r2.length, hx]; exact hn) rr p2
          have rA : Vals ((.ref (g.ca c') :: vs) ++ dvs) ((.ref (g.ca c') :: us) ++ ds) := (show Vals (L2.V.ref (g.ca c') :: vs) (.ref (g.ca c') :: us) from .cons rfl rv).append hd
          have hl : ((Value.ref (g.ca c') :: us) ++ ds).length = ps.length := by
            rw [← rA.length]
            exact FG.len _ _ _ _ sp
          refine thn (Q := EP X ((s1.heap.objs.size, PySem.W.methodObj (.ref f) (.ref (g.ca c'))) :: pins) σ Q) (wpAny_call (PySem.W.method_call (ClX.pin_at I3) ?_)) fun _ _ y => ClX.unpinE y
          refine codeAny_mono (FG.run X.A X.stack s3 H2 ⟨.ref (g.ca c') :: us, []⟩ _ _ Q (fun cls d H' => W cls d σ H') hr b.gd I3.env0 (hb s3 (.ref (g.ca c') :: us) I3.kIn hl) rA sp) fun r s' hq => ?_
          cases r with
          | error e => exact passAt b.tk σ _ H2 s3 e s' I3 hq
          | ok fl =>
            cases fl with
            | ret u => exact I3.after hq
            | next => exact False.elim hq
            | brk => exact False.elim hq
            | cont => exact False.elim hq
      · rw [if_neg hx] at p2
        exact p2.elim
    · exact p1.elim
  · exact p1.elim
/-- x(..), x a slot that holds the class c -/
def mMakeL (i c n : Nat) (F : FnI) (dd : List D) (a : MA) : ME := fun env h => match env[i]? with
  | some (some (.d (.cls c'))) => if c' = c then (a env h).bind (fMake c n F dd) else .stuck
  | _ => .stuck
theorem ve_makeL {i : Nat} {F : FnI} (b : Bd X g W) (V : VMake X g c n dd F) (hN : X.N[i]? = some x) (hv : Vis X.env.scope x) (ha : PA X (e :: es) (tA g B W A)) (hdb : (x == ("__debug__" : Str)) = false := by decide) (hcd : (x == ("__classdict__" : Str)) = false := by decide)
    (he : starEach (e :: es) X.env = (false, eval e X.env) :: starEach es X.env := by rfl) (hpl : (backTo pos (starEach es X.env)).any (·.1) = false := by rfl) :
    PE X (.Call (.Name x p) (e :: es) [] pos) (tE g B W (mMakeL i c n F dd A)) := by
  have kp : PySem.W.keepIn X.K (.ref (g.ca c)) = true := by
    obtain ⟨k, f, fd, ps, q, dvs, ds, FG, hr, M, _⟩ := V.ex
    exact M.kp
  refine ⟨fun pins s σ H Q I ⟨env, st, sr, pp⟩ => ?_⟩
  unfold mMakeL at pp
  split at pp
  · next c' hx =>
    split at pp
    · next hc =>
      subst hc
      obtain ⟨v, h1, h2⟩ := sr.slot i _ hx
      obtain rfl : v = .ref (g.ca c') := h2
      refine wpAny_Call_Name_kw (thn ((pe_var (pos := p) hN hv hdb hcd).run pins s σ H (fun v H1 => v = .ref (g.ca c') ∧ H1 = H) I ⟨.ref (g.ca c'), h1, rfl, rfl⟩) fun u s1 ⟨v, H1, I1, r1, q1⟩ => ?_)
      obtain ⟨rfl, rfl⟩ := q1
      cases r1
      refine PySem.W.callWith_K (h₀ := X.base) I1.ok.mod.kin kp (thn (ha.run pos pins s1 σ _ _ I1 (bindA (Q := Q) sr pp)) fun us s2 ⟨vs, H2, I2, r, st1, xs, sr1, ev1, r1, p1⟩ => ⟨I2.kIn, ?_⟩) he hpl
      unfold fMake at p1
      by_cases hl : xs.length = n
      · rw [if_pos hl] at p1
        cases e1 : datas xs with
        | none => rw [e1] at p1; exact p1.elim
        | some dl =>
          rw [e1] at p1
          exact run_makeG b V I2 r sr1 (r1.datas e1) (by rw [r1.length, hl]) p1
      · rw [if_neg hl] at p1
        exact p1.elim
    · exact pp.elim
  · exact pp.elim
end
end Vi

set_option Elab.async false
set_option linter.all false
set_option maxRecDepth 100000
set_option maxHeartbeats 2000000
namespace Vi
open PySem L2 PyProof.Rows

/-! ### repr of data -/
/-- what may be shown -/
def shwB (d : PyData) : Bool := d.showable && (decide (d.depth ≤ 60) && decide (d.shown.length ≤ sizeLine))
mutual
theorem hasDict_toP : ∀ d : D, (toP d).hasDict = false
  | .non => by simp only [toP, PyData.hasDict]
  | .bl _ => by simp only [toP, PyData.hasDict]
  | .int _ => by simp only [toP, PyData.hasDict]
  | .str _ => by simp only [toP, PyData.hasDict]
  | .tup xs => by simp only [toP, PyData.hasDict]; exact hasDict_toPs xs
  | .xtup xs => by simp only [toP, PyData.hasDict]; exact hasDict_toPs xs
  | .lst xs => by simp only [toP, PyData.hasDict]; exact hasDict_toPs xs
  | .kl xs => by simp only [toP, PyData.hasDict]; exact hasDict_toPs xs
  | .ref _ => by simp only [toP, PyData.hasDict]
  | .obj _ _ => by simp only [toP, PyData.hasDict]
  | .cls _ => by simp only [toP, PyData.hasDict]
  | .dK _ => by simp only [toP, PyData.hasDict]
  | .dT _ => by simp only [toP, PyData.hasDict]
theorem hasDict_toPs : ∀ d : List D, PyData.hasDictAll (toPs d) = false
  | [] => by simp only [toPs, PyData.hasDictAll]
  | x :: r => by simp only [toPs, PyData.hasDictAll, hasDict_toP x, hasDict_toPs r, Bool.or_false]
end
def fRepr (xs : List Vl) (h : Hc) : R Vl := match xs with
  | [x] => (match x.dat? with
    | some d => if shwB (toP d) then .ok (.d (.str (toP d).shown)) h else .stuck
    | none => .stuck)
  | _ => .stuck
def rRepr (K : PySem.W.Frag) : List L2.V → Hp → VK → Prop := fun xs H Q => ∃ (v : L2.V) (d : PyData), xs = [v] ∧ Dp K H v d ∧ d.hasDict = false ∧ shwB d = true ∧ Q (.str d.shown) H
theorem call_repr {X : Cx} (hg : X.A.guards = some []) (hu : X.A.units + 64 < cLine) : CallR X (.builtin "repr") (rRepr X.K) := by
  intro pins s σ H xs us Q I r h
  obtain ⟨v, d, rfl, dp, hd, hs, q⟩ := h
  obtain ⟨s1, hs⟩ := Bool.and_eq_true_iff.mp hs
  obtain ⟨s2, s3⟩ := Bool.and_eq_true_iff.mp hs
  have s2 := of_decide_eq_true s2
  have s3 := of_decide_eq_true s3
  cases r with
  | cons r rr =>
    cases rr
    have all : ∀ (u : Tok) (tk : Tok), EP X pins σ Q (.str d.shown u) { s with toks := tk } := fun u tk => ⟨.str d.shown, H, I.tok _, ⟨_, rfl⟩, q⟩
    cases dp with
    | non => cases r; exact PySem.P.repr_of_none (all _ _)
    | bl b => cases r; exact PySem.P.repr_of_bool (all _ _)
    | int i =>
      obtain ⟨t, rfl⟩ := r
      have z : i.natAbs.log2 < 1920 := of_decide_eq_true (by simpa only [PyData.showable] using s1)
      exact PySem.P.repr_of_int z (all _ _)
    | str x =>
      obtain ⟨t, rfl⟩ := r
      exact PySem.P.repr_of_str (all _ _) s3
    | @lst a ys ds h1 h2 =>
      cases r
      obtain ⟨as, rd⟩ := Dp.reads I (.list ds) (.ref a) (.ref a) (.lst h1 h2) rfl
      exact repr_of_reads' rd s1 (PyData.noDict_hsm hd) hg (by omega) (fun _ _ e => e) (fun h' u tk k => ⟨.str (PyData.list ds).shown, H, I.kept (t' := tk) k, ⟨_, rfl⟩, q⟩) s3
    | @tup a ys ds h1 h2 =>
      cases r
      obtain ⟨as, rd⟩ := Dp.reads I (.tuple ds) (.ref a) (.ref a) (.tup h1 h2) rfl
      exact repr_of_reads' rd s1 (PyData.noDict_hsm hd) hg (by omega) (fun _ _ e => e) (fun h' u tk k => ⟨.str (PyData.tuple ds).shown, H, I.kept (t' := tk) k, ⟨_, rfl⟩, q⟩) s3
theorem c_repr {X : Cx} {g : Gi} {W : WXv} (b : Bd X g W) : CallV X g (.builtin "repr") fRepr := by
  refine ⟨_, call_repr b.gd b.un, fun B W env s σ H xs vs Q sr r p => ?_⟩
  unfold fRepr at p
  split at p
  · next x =>
    obtain ⟨v, rfl, rv⟩ := r.one
    cases e : x.dat? with
    | none => rw [e] at p; exact p.elim
    | some d =>
      rw [e] at p
      by_cases hs : shwB (toP d) = true
      · simp only [if_pos hs] at p
        exact ⟨v, toP d, rfl, b.K ▸ VlRep.dp' sr.good rv e, hasDict_toP d, hs, PostE.pure sr p rfl⟩
      · simp only [if_neg hs] at p
        exact p.elim
  · exact p.elim
end Vi

set_option Elab.async false
set_option linter.all false
set_option maxRecDepth 100000
set_option maxHeartbeats 2000000
namespace Vi
open PySem L2 PyProof.Rows

/-! ### list comprehensions -/
def wipeE (env : Env) : List Nat → Env
  | [] => env
  | v :: vs => (wipeE env vs).set v none
theorem wipe_set {σ : L2.St} {i : Nat} {o : Option L2.V} : ∀ {vs : List Nat}, i ∈ vs → wipe (σ.set i o) vs = wipe σ vs := fun {vs} => by
  have key : ∀ vs : List Nat, wipe (σ.set i o) vs = if i ∈ vs then wipe σ vs else (wipe σ vs).set i o := fun vs => by
    induction vs with
    | nil => rw [if_neg (by simp)]; rfl
    | cons v vs ih =>
      show (wipe (σ.set i o) vs).set v none = _
      rw [ih]
      by_cases e : i = v
      · subst e
        rw [if_pos (List.mem_cons_self ..)]
        by_cases h : i ∈ vs
        · rw [if_pos h]; rfl
        · rw [if_neg h, List.set_set]; rfl
      · by_cases h : i ∈ vs
        · rw [if_pos h, if_pos (List.mem_cons_of_mem _ h)]; rfl
        · have h2 : i ∉ v :: vs := fun z => by
            rcases List.mem_cons.mp z with z | z
            · exact e z
            · exact h z
          rw [if_neg h, if_neg h2]
          show ((wipe σ vs).set i o).set v none = ((wipe σ vs).set v none).set i o
          rw [List.set_comm _ _ e]
  intro h
  rw [key vs, if_pos h]
/-- targets of a comprehension: they only store into the block's own slots -/
def CgQ (g : Gi) (own : List Nat) (t : TG) (T : TgF) : Prop :=
  ∀ (B : Bg) (env env' : Env) (s : Sta) (σ : L2.St) (H : Hp) (d : D) (v : L2.V) (Q : L2.St → Hp → Prop), SR g B env s σ H → Rep g s.F s.al d v → T d env = some env' → (∀ σ', wipe σ' own = wipe σ own → SR g B env' s σ' H → Q σ' H) → t v σ H Q
def CgsQ (g : Gi) (own : List Nat) (t : TGs) (T : List D → Env → Option Env) : Prop :=
  ∀ (B : Bg) (env env' : Env) (s : Sta) (σ : L2.St) (H : Hp) (ds : List D) (vs : List L2.V) (Q : L2.St → Hp → Prop), SR g B env s σ H → Reps g s.F s.al ds vs → T ds env = some env' → (∀ σ', wipe σ' own = wipe σ own → SR g B env' s σ' H → Q σ' H) → t vs σ H Q
section
variable {g : Gi} {own : List Nat}
theorem cg_name {i : Nat} (ho : i ∈ own) : CgQ g own (gName i) (gtN i) :=
  fun B env env' s σ H d v Q sr r e k => by
    have e : env.set i (some (.d d)) = env' := Option.some.inj e
    exact k _ (wipe_set ho) (e ▸ sr.set r)
theorem cg_nil : CgsQ g own gNil gtNil := fun B env env' s σ H ds vs Q sr r e k => by
  cases ds with
  | nil =>
    have e : env = env' := Option.some.inj e
    exact ⟨r, k _ rfl (e ▸ sr)⟩
  | cons _ _ => cases e
theorem cg_cons {t : TG} {u : TGs} {T : TgF} {U : List D → Env → Option Env} (q1 : CgQ g own t T) (q2 : CgsQ g own u U) : CgsQ g own (gCons t u) (gtCons T U) := by
  intro B env env' s σ H ds vs Q sr r e k
  cases ds with
  | nil => cases e
  | cons d ds =>
    obtain ⟨v, vr, ev, r1, r2⟩ := r
    have e : (T d env).bind (fun env1 => U ds env1) = some env' := e
    cases e1 : T d env with
    | none => rw [e1] at e; cases e
    | some env1 =>
      rw [e1] at e
      exact ⟨v, vr, ev, q1 B env env1 s σ H d v _ sr r1 e1 fun σ1 w1 sr1 => q2 B env1 env' s σ1 H ds vr Q sr1 r2 e fun σ2 w2 => k σ2 (w2.trans w1)⟩
theorem cg_tup {K : PySem.W.Frag} (hK : g.K = K) {n : Nat} {t : TGs} {U : List D → Env → Option Env} (q1 : CgsQ g own t U) : CgQ g own (gTup K n t) (gtT n U) := by
  intro B env env' s σ H d v Q sr r e k
  cases d with
  | tup ds =>
    obtain ⟨a, vs, rfl, h2, h3⟩ := r
    have e : (if ds.length = n then U ds env else none) = some env' := e
    by_cases hl : ds.length = n
    · rw [if_pos hl] at e
      exact ⟨a, vs, rfl, hK ▸ sr.good.sqT h2.sq, h3.length.trans hl, q1 B env env' s σ H ds vs Q sr h3 e k⟩
    · rw [if_neg hl] at e
      cases e
  | _ => cases e
end
section
variable {g : Gi} {B : Bg} {env : Env} {s s' s1 : Sta} {σ : L2.St} {H H' H1 : Hp}
theorem SR.wipe (sr : SR g B env s σ H) : ∀ vs : List Nat, SR g B (wipeE env vs) s (L2.wipe σ vs) H
  | [] => sr
  | v :: vs => (SR.wipe sr vs).unset
theorem Good.updO {p : Addr} {o : HO} (gd : Good g s H) (hf : s.F p = none) (hn : ∀ n, s.al n ≠ some p) : Good g s (upd H p o) := by
  refine ⟨fun a u h => ?_, gd.inj, fun n a h => ?_, fun n c h => ?_, gd.zed.keep rfl rfl (fun _ _ h => h) fun n a o h1 h2 => by rw [upd_ne (fun e => hn n (by rw [← e]; exact h1))]; exact h2⟩
  · have ne : a ≠ p := fun e => by rw [e, hf] at h; cases h
    rw [upd_ne ne]
    exact gd.fle a u h
  · obtain ⟨h1, h2, u, h3⟩ := gd.dom n a h
    have ne : a ≠ p := fun e => hn n (by rw [← e]; exact h)
    exact ⟨h1, h2, u, by rw [upd_ne ne]; exact h3⟩
  · obtain ⟨a, h1, h2⟩ := gd.cell n c h
    have ne : a ≠ p := fun e => hn n (by rw [← e]; exact h1)
    refine ⟨a, h1, ?_⟩
    exact h2.mv (fun o h3 => by rw [upd_ne ne]; exact h3) (fun _ _ h => h) fun _ _ h => h
theorem Evo.updO {p : Addr} {o : HO} (e : Evo s1 H1 s H) (hp : H1 p = none) : Evo s1 H1 s (upd H p o) := ⟨e.f, e.al, fun a u h n => by
  obtain ⟨h1, h2, h3⟩ := e.oth a u h n
  exact ⟨by rw [upd_ne (ne_of_none h hp)]; exact h1, h2, h3⟩, e.len, e.z⟩
/-- where the items come from: a list that is frozen or someone's own, a tuple -/
def Src (K : PySem.W.Frag) (b : Bool) (a : Addr) (vs : List L2.V) (s : Sta) (H : Hp) : Prop := match b with
  | true => StL K s a vs ∨ (H a = some (.lst vs) ∧ ∀ n, s.al n ≠ some a)
  | false => SqT K s.F a vs
theorem Src.evo {K : PySem.W.Frag} {b : Bool} {a : Addr} {vs : List L2.V} (e : Evo s H s' H') (h : Src K b a vs s H) : Src K b a vs s' H' := by
  cases b with
  | true =>
    rcases h with h | ⟨h1, h2⟩
    · exact .inl (h.le e.le)
    · obtain ⟨g1, _, g3⟩ := e.oth _ _ h1 h2
      exact .inr ⟨g1, g3⟩
  | false => exact sqT_mono e.f h
theorem Good.sqL' {K : PySem.W.Frag} {a : Addr} {vs : List L2.V} (gd : Good g s H) (h : SqL K s.F a vs) : SqL K H a vs := sqL_mono gd.fle h
end
def compL (o : Bool) (T : TgF) (mt : MB) (me : ME) : List D → List D → Env → Hc → R Vl
  | [], acc, _, h => .ok (Vl.ofL o acc) h
  | x :: r, acc, env, h => match T x env with
    | none => .stuck
    | some env1 => (match mt env1 h with
      | .ok b h1 => if b then (match me env1 h1 with
        | .ok (.d y) h2 => if acc.length < 16000000 then compL o T mt me r (acc ++ [y]) env h2 else .stuck
        | _ => .stuck) else compL o T mt me r acc env h1
      | _ => .stuck)
/-- tests: none, one -/
def mYes : MB := fun _ h => .ok true h
section
variable {X : Cx} {g : Gi} {B : Bg}
theorem vts_nil : PTs X [] (tT g B (fun _ _ _ _ => False) mYes) := ⟨fun pins s σ H Q I ⟨env, st, sr, p⟩ => (pts_nil (X := X)).run pins s σ H Q I (PostB.pure sr p)⟩
theorem vts_one {c : Expr} {m : MB} (h : PT X c (tT g B (fun _ _ _ _ => False) m)) : PTs X [c] (tT g B (fun _ _ _ _ => False) m) := pts_one h
end
/-- the loop's state: D is the new list -/
def CInv (g : Gi) (B : Bg) (W : WXv) (env : Env) (s1 : Sta) (σ : L2.St) (H1 : Hp) (own : List Nat) (o : Bool) (T : TgF) (mt : MB) (me : ME) (Q : VK) (Dn : Addr) (rest : List D) (H : Hp) : Prop :=
  ∃ (s' : Sta) (acc : List D) (vs : List L2.V), Good g s' H ∧ Evo s1 H1 s' H ∧ H Dn = some (.lst vs) ∧ s'.F Dn = none ∧ (∀ n, s'.al n ≠ some Dn) ∧ Reps g s'.F s'.al acc vs ∧ PostE g B W env s1 σ H1 (compL o T mt me rest acc (wipeE env own) s'.h) Q
section
variable {g : Gi} {B : Bg} {W : WXv} {env : Env} {s1 : Sta} {σ : L2.St} {H1 H : Hp} {own : List Nat} {o : Bool} {T : TgF} {mt : MB} {me : ME} {Q : VK} {Dn : Addr}
theorem comp_start {xs : List D} (sr : SR g B env s1 σ H1) (hD : H1 Dn = none) (p : PostE g B W env s1 σ H1 (compL o T mt me xs [] (wipeE env own) s1.h) Q) : CInv g B W env s1 σ H1 own o T mt me Q Dn xs (upd H1 Dn (.lst [])) := by
  obtain ⟨gd, ev⟩ := sr.good.add (o := .lst []) hD
  obtain ⟨f, a⟩ := own_free sr.good hD
  exact ⟨s1, [], [], gd, ev, upd_same, f, a, Reps.nil, p⟩
theorem comp_end (sr : SR g B env s1 σ H1) (hD : H1 Dn = none) (c : CInv g B W env s1 σ H1 own o T mt me Q Dn [] H) : Q (.ref Dn) H := by
  obtain ⟨s', acc, vs, gd, ev, hH, hf, ha, rr, p⟩ := c
  have hb : B.H Dn = none := by
    cases e : B.H Dn with
    | none => rfl
    | some u =>
      by_cases hn : ∀ n, B.s.al n ≠ some Dn
      · have z := (sr.evo.oth Dn u e hn).1
        rw [hD] at z
        cases z
      · have hn2 : ∃ n, B.s.al n = some Dn := Classical.byContradiction fun h => hn fun n z => h ⟨n, z⟩
        obtain ⟨n, h⟩ := hn2
        obtain ⟨_, _, u2, h3⟩ := sr.good.dom n Dn (sr.evo.al n Dn h)
        rw [hD] at h3
        cases h3
  have p : PostE g B W env s1 σ H1 (.ok (Vl.ofL o acc) s'.h) Q := p
  have sr2 := sr.call ev gd
  cases o with
  | true =>
    refine p (.ref Dn) H s' rfl ev sr2 ⟨Dn, vs, rfl, hH, ⟨hf, ha, hb⟩, fun i sl h1 h2 h3 => ?_, rr⟩
    obtain ⟨v, e1, e2⟩ := sr.slot i sl h1
    obtain ⟨a, u, rfl, h4⟩ := e2.there h2
    rw [h3] at e1
    cases e1
    rw [hD] at h4
    cases h4
  | false =>
    have ev2 := ev.frz (o := .lst vs) hf ha hD
    refine p (.ref Dn) H (s'.frz Dn (.lst vs)) rfl ev2 (sr.call ev2 (gd.frz hH hf ha)) ⟨Dn, vs, rfl, upd_same, rr.mono (frz_le hf) fun _ _ z => z⟩
/-- one turn -/
theorem comp_turn {t : TG} {d : D} {rest : List D} {v : L2.V} (q1 : CgQ g own t T)
    (sr : SR g B env s1 σ H1) (hD : H1 Dn = none) (c : CInv g B W env s1 σ H1 own o T mt me Q Dn (d :: rest) H) (rv : ∀ s', Evo s1 H1 s' H → Rep g s'.F s'.al d v) :
    t v (wipe σ own) H fun σ2 H2 => wipe σ2 own = wipe σ own ∧ tT g B (fun _ _ _ _ => False) mt σ2 H2 fun b H3 =>
      if b = true then tE g B (fun _ _ _ _ => False) me σ2 H3 fun y H4 => ∃ acc, H4 Dn = some (.lst acc) ∧ acc.length < sizeLine ∧ CInv g B W env s1 σ H1 own o T mt me Q Dn rest (upd H4 Dn (.lst (acc ++ [y])))
      else CInv g B W env s1 σ H1 own o T mt me Q Dn rest H3 := by
  obtain ⟨s', acc, vs, gd, ev, hH, hf, ha, rr, p⟩ := c
  have p : PostE g B W env s1 σ H1 (match T d (wipeE env own) with
    | none => .stuck
    | some env1 => (match mt env1 s'.h with
      | .ok b h1 => if b then (match me env1 h1 with
        | .ok (.d y) h2 => if acc.length < 16000000 then compL o T mt me rest (acc ++ [y]) (wipeE env own) h2 else .stuck
        | _ => .stuck) else compL o T mt me rest acc (wipeE env own) h1
      | _ => .stuck)) Q := p
  have ww : wipe (wipe σ own) own = wipe σ own := by
    have key : ∀ (l : List Nat), (∀ i ∈ l, i ∈ own) → wipe (wipe σ l) own = wipe σ own := fun l => by
      induction l with
      | nil => intro _; rfl
      | cons i l ih =>
        intro h
        show wipe ((wipe σ l).set i none) own = _
        rw [wipe_set (h i (List.mem_cons_self ..)), ih fun j hj => h j (List.mem_cons_of_mem _ hj)]
    exact key own fun _ h => h
  cases e1 : T d (wipeE env own) with
  | none => rw [e1] at p; exact p.elim
  | some env1 =>
    simp only [e1] at p
    refine q1 B (wipeE env own) env1 s' (wipe σ own) H d v _ ((sr.wipe own).call ev gd) (rv s' ev) e1 fun σ2 hw sr2 => ⟨hw.trans ww, env1, s', sr2, ?_⟩
    cases e2 : mt env1 s'.h with
    | ok b h1 =>
      simp only [e2] at p
      intro H3 s3 q3 ev3 sr3
      obtain ⟨k1, k2, k3⟩ := ev3.oth Dn _ hH ha
      cases b with
      | true =>
        rw [if_pos rfl] at p ⊢
        refine ⟨env1, s3, sr3, ?_⟩
        rw [q3]
        cases e3 : me env1 h1 with
        | ok y h2 =>
          rw [e3] at p
          cases y with
          | d y =>
            have p : PostE g B W env s1 σ H1 (if acc.length < 16000000 then compL o T mt me rest (acc ++ [y]) (wipeE env own) h2 else .stuck) Q := p
            by_cases hl : acc.length < 16000000
            · rw [if_pos hl] at p
              intro w H4 s4 q4 ev4 sr4 rw4
              obtain ⟨l1, l2, l3⟩ := ev4.oth Dn _ k1 k3
              have evA := (ev.trans ev3).trans ev4
              refine ⟨vs, l1, by rw [rr.length, sizeLine_eq]; omega, s4, acc ++ [y], vs ++ [w], sr4.good.updO (l2 (k2 hf (fun _ z => nomatch z)) (fun _ z => nomatch z)) l3, evA.updO hD, upd_same, l2 (k2 hf (fun _ z => nomatch z)) (fun _ z => nomatch z), l3, ?_, by rw [q4]; exact p⟩
              exact ((ev3.trans ev4).reps rr).append (Reps.cons (show Rep g s4.F s4.al y w from rw4) Reps.nil)
            · rw [if_neg hl] at p
              exact p.elim
          | _ => exact p.elim
        | exc x h => rw [e3] at p; exact p.elim
        | stuck => rw [e3] at p; exact p.elim
      | false =>
        simp only [Bool.false_eq_true, if_false] at p ⊢
        exact ⟨s3, acc, vs, sr3.good, ev.trans ev3, k1, k2 hf (fun _ z => nomatch z), k3, ev3.reps rr, by rw [q3]; exact p⟩
    | exc x h => simp only [e2] at p; exact p.elim
    | stuck => simp only [e2] at p; exact p.elim
end

theorem Bd.blk {X : Cx} {g : Gi} {W : WXv} {s : Shared} {H : Hp} {scope : Scope} {cenv : PySem.Env} {fp : List Addr} (b : Bd X g W) : Bd (X.blk s H scope cenv fp) g (fun _ _ _ _ => False) :=
  ⟨b.G, b.K, b.calm, b.gd, fun u s' ⟨_, _, _, _, _, _, _, _, _, _, _, _, _, _, _, _, w⟩ => w.elim, PassesOwn.never, b.un⟩
def seqC? (h : Hc) : Vl → Option (Bool × List D)
  | .d (.lst xs) => some (true, xs)
  | .d (.kl xs) => some (true, xs)
  | .d (.tup xs) => some (false, xs)
  | .d (.xtup xs) => some (false, xs)
  | .tl xs => some (true, xs)
  | .bl xs => some (true, xs)
  | .d (.ref n) => (match h[n]? with
    | some (.frz c) => (match c.bare with
      | .lst xs => some (true, xs)
      | _ => none)
    | _ => none)
  | _ => none
def mComp (o : Bool) (own : List Nat) (T : TgF) (mt : MB) (me src : ME) : ME := fun env h => (src env h).bind fun x h1 => match seqC? h1 x with
  | some (_, xs) => compL o T mt me xs [] (wipeE env own) h1
  | none => .stuck
def mCompR (o : Bool) (own : List Nat) (T : TgF) (mt : MB) (me : ME) (a : MA) : ME := fun env h => (a env h).bind fun xs h1 => match xs with
  | [.d (.int j)] => if -(2 ^ 62) ≤ j ∧ j < 2 ^ 62 then compL o T mt me (rangeD 0 j.toNat) [] (wipeE env own) h1 else .stuck
  | _ => .stuck
def mCompR2 (o : Bool) (own : List Nat) (T : TgF) (mt : MB) (me : ME) (a : MA) : ME := fun env h => (a env h).bind fun xs h1 => match xs with
  | [.d (.int i), .d (.int j)] => if -(2 ^ 62) ≤ i ∧ i < 2 ^ 62 ∧ -(2 ^ 62) ≤ j ∧ j < 2 ^ 62 then compL o T mt me (rangeD i (j - i).toNat) [] (wipeE env own) h1 else .stuck
  | _ => .stuck
theorem src_of {g : Gi} {B : Bg} {env : Env} {s1 : Sta} {σ : L2.St} {H1 : Hp} {x : Vl} {v : L2.V} {b : Bool} {xs : List D} (gd : Good g s1 H1) (r : VlRep g B env σ s1 H1 x v) (e : seqC? s1.h x = some (b, xs)) : ∃ a vs, v = .ref a ∧ Src g.K b a vs s1 H1 ∧ Reps g s1.F s1.al xs vs := by
  unfold seqC? at e
  split at e
  · cases e
    obtain ⟨a, vs, h1, h2, h3⟩ := r
    exact ⟨a, vs, h1, .inl (.inl (.of h2)), h3⟩
  · cases e
    obtain ⟨a, vs, h1, h2, h3⟩ := r
    exact ⟨a, vs, h1, .inl (.inl h2), h3⟩
  · cases e
    obtain ⟨a, vs, h1, h2, h3⟩ := r
    exact ⟨a, vs, h1, h2.sq, h3⟩
  · cases e
    obtain ⟨a, o, vs, h1, h2, _, h3⟩ := r
    exact ⟨a, vs, h1, .inl (.inr ⟨o, h2⟩), h3⟩
  · cases e
    obtain ⟨a, vs, h1, h2, h3, _, h4⟩ := r
    exact ⟨a, vs, h1, .inr ⟨h2, h3.al⟩, h4⟩
  · cases e
    obtain ⟨a, vs, h1, h2, h3, h4⟩ := r
    exact ⟨a, vs, h1, .inr ⟨h2, h3.al⟩, h4⟩
  · next n =>
    split at e
    · next c ec =>
      split at e
      · next ys eb =>
        cases e
        obtain ⟨a, vs, h1, h2, h3, h4⟩ := frz_lst gd r ec eb
        exact ⟨a, vs, h1, .inl (.inr ⟨n, h2, h3⟩), h4⟩
      · cases e
    · cases e
  · cases e
section
variable {X : Cx} {g : Gi} {B : Bg} {W : WXv} {own : List Nat} {o : Bool} {T : TgF} {mt : MB} {me m : ME} {t : TG} {σ : L2.St} {H : Hp} {Q : VK}
theorem lc_of (hK : g.K = X.K) (q1 : CgQ g own t T) (h : tE g B W (mComp o own T mt me m) σ H Q) :
    tLc (fun σ H R => iList X.K (tE g B W m) σ H R ∨ iTup X.K (tE g B W m) σ H R) t (tT g B (fun _ _ _ _ => False) mt) (tE g B (fun _ _ _ _ => False) me) own σ H Q := by
  obtain ⟨env, s, sr, p⟩ := h
  have p : PostE g B W env s σ H ((m env s.h).bind fun x h1 => match seqC? h1 x with
    | some (_, xs) => compL o T mt me xs [] (wipeE env own) h1
    | none => .stuck) Q := p
  cases em : m env s.h with
  | ok x h1 =>
    rw [em] at p
    have p : PostE g B W env s σ H (match seqC? h1 x with
      | some (_, xs) => compL o T mt me xs [] (wipeE env own) h1
      | none => .stuck) Q := p
    cases es : seqC? h1 x with
    | none => rw [es] at p; exact p.elim
    | some q =>
      obtain ⟨bb, xs⟩ := q
      rw [es] at p
      have p : PostE g B W env s σ H (compL o T mt me xs [] (wipeE env own) h1) Q := p
      cases bb with
      | true =>
        refine .inl ⟨env, s, sr, ?_⟩
        rw [em]
        intro v H1 s1 e1 ev sr1 vr
        obtain ⟨a, vs, rfl, hsrc, hr⟩ := src_of sr1.good vr (by rw [e1]; exact es)
        have sq : ∀ {s' : Sta} {H' : Hp}, Good g s' H' → Evo s1 H1 s' H' → SqL X.K H' a vs := fun gd e2 => by
          rcases hsrc.evo e2 with z | ⟨z, _⟩
          · exact hK ▸ z.sqL gd
          · exact .of z
        refine ⟨a, rfl, ⟨vs, sq sr1.good (Evo.refl _ _)⟩, fun Dn hD => lc_list (xs := vs) (fun i H => CInv g B W env s1 σ H1 own o T mt me Q Dn (xs.drop i) H) ?_ (fun i H _ c => ?_) (fun i y H hi c => ?_) (fun H c => ?_)⟩
        · exact comp_start sr1 hD (by rw [e1]; exact PostE.later ev p)
        · obtain ⟨s', _, _, gd, e2, _⟩ := c
          exact sq gd e2
        · have hl : i < xs.length := by
            rw [← hr.length]
            exact (List.getElem?_eq_some_iff.mp hi).1
          obtain ⟨y', ey, ry⟩ := hr.get (List.getElem?_eq_getElem hl)
          rw [hi] at ey
          cases ey
          rw [List.drop_eq_getElem_cons hl] at c
          exact comp_turn q1 sr1 hD c fun s' e2 => e2.rep ry
        · rw [hr.length, List.drop_length] at c
          exact comp_end sr1 hD c
      | false =>
        refine .inr ⟨env, s, sr, ?_⟩
        rw [em]
        intro v H1 s1 e1 ev sr1 vr
        obtain ⟨a, vs, rfl, hsrc, hr⟩ := src_of sr1.good vr (by rw [e1]; exact es)
        have sq : ∀ {s' : Sta} {H' : Hp}, Good g s' H' → Evo s1 H1 s' H' → SqT X.K H' a vs := fun gd e2 => hK ▸ gd.sqT (show SqT g.K _ a vs from hsrc.evo e2)
        refine ⟨a, rfl, ⟨vs, sq sr1.good (Evo.refl _ _)⟩, fun Dn hD => lc_tup (xs := vs) (fun i H => CInv g B W env s1 σ H1 own o T mt me Q Dn (xs.drop i) H) ?_ (fun i H _ c => ?_) (fun i y H hi c => ?_) (fun H c => ?_)⟩
        · exact comp_start sr1 hD (by rw [e1]; exact PostE.later ev p)
        · obtain ⟨s', _, _, gd, e2, _⟩ := c
          exact sq gd e2
        · have hl : i < xs.length := by
            rw [← hr.length]
            exact (List.getElem?_eq_some_iff.mp hi).1
          obtain ⟨y', ey, ry⟩ := hr.get (List.getElem?_eq_getElem hl)
          rw [hi] at ey
          cases ey
          rw [List.drop_eq_getElem_cons hl] at c
          exact comp_turn q1 sr1 hD c fun s' e2 => e2.rep ry
        · rw [hr.length, List.drop_length] at c
          exact comp_end sr1 hD c
  | exc x h1 =>
    rw [em] at p
    refine .inl ⟨env, s, sr, ?_⟩
    rw [em]
    exact p
  | stuck =>
    rw [em] at p
    exact p.elim
theorem lc_rangeOf {env : Env} {s1 : Sta} {lo : Int} {n : Nat} (q1 : CgQ g own t T) (sr1 : SR g B env s1 σ H) (p : PostE g B W env s1 σ H (compL o T mt me (rangeD lo n) [] (wipeE env own) s1.h) Q) (Dn : Addr) (hD : H Dn = none) :
    ∃ W' : Nat → Nat → Hp → Prop, (∃ m, W' 0 m (upd H Dn (.lst []))) ∧ ∀ i m H, W' i m H →
      ((Itr lo n).stop i H ∧ Q (.ref Dn) H) ∨ ((Itr lo n).go i H ∧ ∃ Nx : Hp → Prop, (∀ H', Nx H' → ∃ m', m' < m ∧ W' (i + 1) m' H') ∧ ∀ x H', (Itr lo n).yld i H x H' → t x (wipe σ own) H' fun σ2 H2 => wipe σ2 own = wipe σ own ∧ tT g B (fun _ _ _ _ => False) mt σ2 H2 fun b H3 =>
        if b = true then tE g B (fun _ _ _ _ => False) me σ2 H3 fun y H4 => ∃ acc, H4 Dn = some (.lst acc) ∧ acc.length < sizeLine ∧ Nx (upd H4 Dn (.lst (acc ++ [y]))) else Nx H3) := by
  refine lc_range (fun i H' => CInv g B W env s1 σ H own o T mt me Q Dn ((rangeD lo n).drop i) H') ?_ (fun i H' hi c => ?_) (fun H' c => ?_)
  · exact comp_start sr1 hD p
  · have hl : i < (rangeD lo n).length := by rw [rangeD_len]; exact hi
    rw [List.drop_eq_getElem_cons hl, rangeD_get] at c
    exact comp_turn q1 sr1 hD c fun s' e2 => (show Rep g s'.F s'.al (.int (lo + (i : Nat))) (.int (lo + (i : Nat))) from rfl)
  · rw [show (rangeD lo n).drop n = [] from List.drop_eq_nil_of_le (by rw [rangeD_len]; exact Nat.le_refl _)] at c
    exact comp_end sr1 hD c
end
section
variable {X : Cx} {g : Gi} {B : Bg} {W : WXv} {own : List (Str × Nat)} {o : Bool} {T : TgF} {mt : MB} {me m : ME} {t : TG} {elt tg iter : Expr} {ifs : List Expr} {scope : Scope} {pos p' rp : Pos} {ma : MA}
theorem ve_lc (o : Bool) (b : Bd X g W) (hN : X.N.Nodup) (he : PE X iter (tE g B W m)) (ok : BlkOk X.N X.env.scope scope own) (q1 : CgQ g (own.map (·.2)) t T)
    (hg : ∀ (s : Shared) (H : Hp) (C : Addr) (cl : List (Str × Addr)) (fp : List Addr), PG (X.blk s H scope (compEnvC scope cl C X.env) fp) tg t)
    (ht : ∀ (s : Shared) (H : Hp) (C : Addr) (cl : List (Str × Addr)) (fp : List Addr), PTs (X.blk s H scope (compEnvC scope cl C X.env) fp) ifs (tT g B (fun _ _ _ _ => False) mt))
    (hel : ∀ (s : Shared) (H : Hp) (C : Addr) (cl : List (Str × Addr)) (fp : List Addr), PE (X.blk s H scope (compEnvC scope cl C X.env) fp) elt (tE g B (fun _ _ _ _ => False) me)) (hs : ∀ x, foldedSetIterable iter X.env x = pure x := by intro _; rfl) :
    PE X (.ListComp elt [⟨tg, iter, ifs, 0⟩] scope pos) (tE g B W (mComp o (own.map (·.2)) T mt me m)) :=
  pe_imp (pe_lc b.calm hN (pi_or (pi_list (tg := tg) he) (pi_tup he)) ok hg ht hel hs) fun σ H Q h => lc_of b.K q1 h
theorem vs_setLc (o : Bool) {i : Nat} {y : Str} {py spos : Pos} (b : Bd X g W) (hN : X.N.Nodup) (hy : X.N[i]? = some y) (hyl : X.env.scope.names.lookup y = some .local) (hsw : swapsWith (.ListComp elt [⟨tg, iter, ifs, 0⟩] scope pos) (some (.Name y py)) spos.line X.env = pure true)
    (he : PE X iter (tE g B W m)) (ok : BlkOk X.N X.env.scope scope own) (q1 : CgQ g (own.map (·.2)) t T)
    (hg : ∀ (s : Shared) (H : Hp) (C : Addr) (cl : List (Str × Addr)) (fp : List Addr), PG (X.blk s H scope (compEnvC scope cl C X.env) fp) tg t)
    (ht : ∀ (s : Shared) (H : Hp) (C : Addr) (cl : List (Str × Addr)) (fp : List Addr), PTs (X.blk s H scope (compEnvC scope cl C X.env) fp) ifs (tT g B (fun _ _ _ _ => False) mt))
    (hel : ∀ (s : Shared) (H : Hp) (C : Addr) (cl : List (Str × Addr)) (fp : List Addr), PE (X.blk s H scope (compEnvC scope cl C X.env) fp) elt (tE g B (fun _ _ _ _ => False) me)) (hs : ∀ x, foldedSetIterable iter X.env x = pure x := by intro _; rfl) :
    PS X (.Assign [.Name y py] (.ListComp elt [⟨tg, iter, ifs, 0⟩] scope pos) spos) (tS g B W (mSet i (mComp o (own.map (·.2)) T mt me m))) := by
  refine ps_imp (ps_setLc b.calm hN hy hyl hsw (pi_or (pi_list (tg := tg) he) (pi_tup he)) ok hg ht hel hs) fun N σ H ⟨env, s, sr, p⟩ => ?_
  refine lc_of (W := W) (o := o) b.K q1 ?_
  exact (bindS sr p).mono fun v H1 ⟨s1, x, sr1, l1, r1, p1⟩ => setPost sr1 r1 p1
theorem range1_of {σ : L2.St} {H : Hp} {Q : VK} (q1 : CgQ g (own.map (·.2)) t T) (h : tE g B W (mCompR o (own.map (·.2)) T mt me ma) σ H Q) :
    tLc (iRng1 (tA g B W ma)) t (tT g B (fun _ _ _ _ => False) mt) (tE g B (fun _ _ _ _ => False) me) (own.map (·.2)) σ H Q := by
  obtain ⟨env, s, sr, p⟩ := h
  refine (bindA (Q := Q) sr p).mono fun vs H1 ⟨s1, xs, sr1, _, r1, p1⟩ => ?_
  split at p1
  · next j =>
    obtain ⟨v, rfl, r⟩ := r1.one
    split at p1
    · next hj =>
      have r : v = .int j := r
      exact ⟨j, by rw [r], hj.1, hj.2, fun Dn hD => lc_rangeOf q1 sr1 p1 Dn hD⟩
    · exact p1.elim
  · exact p1.elim
theorem range2_of {σ : L2.St} {H : Hp} {Q : VK} (q1 : CgQ g (own.map (·.2)) t T) (h : tE g B W (mCompR2 o (own.map (·.2)) T mt me ma) σ H Q) :
    tLc (iRng2 (tA g B W ma)) t (tT g B (fun _ _ _ _ => False) mt) (tE g B (fun _ _ _ _ => False) me) (own.map (·.2)) σ H Q := by
  obtain ⟨env, s, sr, p⟩ := h
  refine (bindA (Q := Q) sr p).mono fun vs H1 ⟨s1, xs, sr1, _, r1, p1⟩ => ?_
  split at p1
  · next i j =>
    obtain ⟨v, w, rfl, r, r'⟩ := r1.two
    split at p1
    · next hj =>
      have r : v = .int i := r
      have r' : w = .int j := r'
      exact ⟨i, j, by rw [r, r'], hj, fun Dn hD => lc_rangeOf q1 sr1 p1 Dn hD⟩
    · exact p1.elim
  · exact p1.elim
theorem ve_lcR (o : Bool) {a : Expr} (b : Bd X g W) (hN : X.N.Nodup) (hgr : Gl X "range") (hm : X.mg "range" = none) (ha : PA X [a] (tA g B W ma)) (ok : BlkOk X.N X.env.scope scope own) (q1 : CgQ g (own.map (·.2)) t T)
    (hg : ∀ (s : Shared) (H : Hp) (C : Addr) (cl : List (Str × Addr)) (fp : List Addr), PG (X.blk s H scope (compEnvC scope cl C X.env) fp) tg t)
    (ht : ∀ (s : Shared) (H : Hp) (C : Addr) (cl : List (Str × Addr)) (fp : List Addr), PTs (X.blk s H scope (compEnvC scope cl C X.env) fp) ifs (tT g B (fun _ _ _ _ => False) mt))
    (hel : ∀ (s : Shared) (H : Hp) (C : Addr) (cl : List (Str × Addr)) (fp : List Addr), PE (X.blk s H scope (compEnvC scope cl C X.env) fp) elt (tE g B (fun _ _ _ _ => False) me))
    (hst : starEach [a] X.env = [(false, eval a X.env)] := by rfl) (hs : ∀ x, foldedSetIterable (.Call (.Name "range" p') [a] [] rp) X.env x = pure x := by intro _; rfl) :
    PE X (.ListComp elt [⟨tg, .Call (.Name "range" p') [a] [] rp, ifs, 0⟩] scope pos) (tE g B W (mCompR o (own.map (·.2)) T mt me ma)) :=
  pe_imp (pe_lc b.calm hN (pi_range1 (tg := tg) hgr hm ha hst) ok hg ht hel hs) fun σ H Q h => range1_of q1 h
theorem vs_setLcR (o : Bool) {i : Nat} {y : Str} {py spos : Pos} {a : Expr} (b : Bd X g W) (hN : X.N.Nodup) (hy : X.N[i]? = some y) (hyl : X.env.scope.names.lookup y = some .local) (hsw : swapsWith (.ListComp elt [⟨tg, .Call (.Name "range" p') [a] [] rp, ifs, 0⟩] scope pos) (some (.Name y py)) spos.line X.env = pure true)
    (hgr : Gl X "range") (hm : X.mg "range" = none) (ha : PA X [a] (tA g B W ma)) (ok : BlkOk X.N X.env.scope scope own) (q1 : CgQ g (own.map (·.2)) t T)
    (hg : ∀ (s : Shared) (H : Hp) (C : Addr) (cl : List (Str × Addr)) (fp : List Addr), PG (X.blk s H scope (compEnvC scope cl C X.env) fp) tg t)
    (ht : ∀ (s : Shared) (H : Hp) (C : Addr) (cl : List (Str × Addr)) (fp : List Addr), PTs (X.blk s H scope (compEnvC scope cl C X.env) fp) ifs (tT g B (fun _ _ _ _ => False) mt))
    (hel : ∀ (s : Shared) (H : Hp) (C : Addr) (cl : List (Str × Addr)) (fp : List Addr), PE (X.blk s H scope (compEnvC scope cl C X.env) fp) elt (tE g B (fun _ _ _ _ => False) me))
    (hst : starEach [a] X.env = [(false, eval a X.env)] := by rfl) (hs : ∀ x, foldedSetIterable (.Call (.Name "range" p') [a] [] rp) X.env x = pure x := by intro _; rfl) :
    PS X (.Assign [.Name y py] (.ListComp elt [⟨tg, .Call (.Name "range" p') [a] [] rp, ifs, 0⟩] scope pos) spos) (tS g B W (mSet i (mCompR o (own.map (·.2)) T mt me ma))) := by
  refine ps_imp (ps_setLc b.calm hN hy hyl hsw (pi_range1 (tg := tg) hgr hm ha hst) ok hg ht hel hs) fun N σ H ⟨env, s, sr, p⟩ => ?_
  refine range1_of (W := W) (o := o) q1 ?_
  exact (bindS sr p).mono fun v H1 ⟨s1, x, sr1, l1, r1, p1⟩ => setPost sr1 r1 p1
end
end Vi

set_option Elab.async false
set_option linter.all false
set_option maxRecDepth 100000
set_option maxHeartbeats 2000000
namespace Vi
open PySem L2 PyProof.Rows

/-! ### a new cell that a def hands out -/
def mRetC (m : ME) : MS := fun env h => (m env h).thenS env fun x h1 => match x with
  | .tl xs => .ret (.ref h1.length) (h1 ++ [.lst xs])
  | _ => .stuck
def Sta.addC (s : Sta) (a : Addr) (c : Cell) : Sta := { F := s.F, al := fun n => if n = s.h.length then some a else s.al n, h := s.h ++ [c], z := s.z }
section
variable {g : Gi} {B : Bg} {W : WXv} {env : Env} {s : Sta} {σ : L2.St} {H : Hp}
theorem addC_le {a : Addr} {c : Cell} (gd : Good g s H) : Le s (s.addC a c) := ⟨fun _ _ h => h, fun n b h => by
  show (if n = s.h.length then some a else s.al n) = some b
  have := (gd.dom n b h).1
  rw [if_neg (by omega)]
  exact h, fun _ _ h => h⟩
theorem addC_at {a : Addr} {c d : Cell} {n : Nat} (h : (s.addC a c).h[n]? = some d) : (n < s.h.length ∧ s.h[n]? = some d) ∨ (n = s.h.length ∧ d = c) := by
  have h : (s.h ++ [c])[n]? = some d := h
  by_cases e : n < s.h.length
  · rw [List.getElem?_append_left e] at h
    exact .inl ⟨e, h⟩
  · rw [List.getElem?_append_right (by omega)] at h
    have e2 : n = s.h.length := by
      have := (List.getElem?_eq_some_iff.mp h).1
      simp at this
      omega
    subst e2
    rw [Nat.sub_self] at h
    cases h
    exact .inr ⟨rfl, rfl⟩
theorem addC_goodC {a : Addr} {c : Cell} (gd : Good g s H) (hc : CellRep g s H a c) (hx : ∃ o, H a = some o) (hf : s.F a = none) (hn : ∀ n, s.al n ≠ some a) (nf : ∀ c0, c ≠ .frz c0) : Good g (s.addC a c) H := by
  have le := addC_le (a := a) (c := c) gd
  have cases_ : ∀ {n : Nat} {b : Addr}, (s.addC a c).al n = some b → (n = s.h.length ∧ b = a) ∨ (n ≠ s.h.length ∧ s.al n = some b) := fun {n b} h => by
    have h : (if n = s.h.length then some a else s.al n) = some b := h
    by_cases e : n = s.h.length
    · rw [if_pos e] at h
      cases h
      exact .inl ⟨e, rfl⟩
    · rw [if_neg e] at h
      exact .inr ⟨e, h⟩
  have zed : ZOk (s.addC a c) H := ⟨fun m o h => by
      obtain ⟨b, c0, h1, h2, h3⟩ := gd.zed.at_ m o h
      refine ⟨b, c0, le.al _ _ h1, h2, ?_⟩
      show (s.h ++ [c])[m]? = _
      rw [List.getElem?_append_left (List.getElem?_eq_some_iff.mp h3).1]
      exact h3, fun m c0 h => by
      rcases addC_at h with ⟨_, h⟩ | ⟨_, h⟩
      · exact gd.zed.of m c0 h
      · exact absurd h.symm (nf _)⟩
  refine ⟨gd.fle, fun n m b h1 h2 => ?_, fun n b h => ?_, fun n d h => ?_, zed⟩
  · rcases cases_ h1 with ⟨e1, rfl⟩ | ⟨e1, k1⟩
    · rcases cases_ h2 with ⟨e2, _⟩ | ⟨_, k2⟩
      · rw [e1, e2]
      · exact absurd k2 (hn m)
    · rcases cases_ h2 with ⟨e2, rfl⟩ | ⟨_, k2⟩
      · exact absurd k1 (hn n)
      · exact gd.inj n m b k1 k2
  · have hl : (s.addC a c).h.length = s.h.length + 1 := by
      show (s.h ++ [c]).length = _
      rw [List.length_append]
      rfl
    rcases cases_ h with ⟨e1, rfl⟩ | ⟨_, k1⟩
    · exact ⟨by omega, hf, hx⟩
    · obtain ⟨h1, h2, h3⟩ := gd.dom n b k1
      exact ⟨by omega, h2, h3⟩
  · rcases addC_at h with ⟨_, h⟩ | ⟨rfl, rfl⟩
    · obtain ⟨b, h1, h2⟩ := gd.cell n d h
      exact ⟨b, le.al _ _ h1, h2.mv (fun _ z => z) le.f le.al⟩
    · exact ⟨a, if_pos rfl, hc.mv (fun _ z => z) le.f le.al⟩
theorem addC_good {a : Addr} {xs : List D} {vs : List L2.V} (gd : Good g s H) (ha : H a = some (.lst vs)) (hf : s.F a = none) (hn : ∀ n, s.al n ≠ some a) (r : Reps g s.F s.al xs vs) : Good g (s.addC a (.lst xs)) H :=
  addC_goodC gd ⟨vs, ha, r⟩ ⟨_, ha⟩ hf hn fun _ z => by cases z
theorem addC_evo {s0 : Sta} {H0 : Hp} {a : Addr} {c : Cell} (gd : Good g s H) (ev : Evo s0 H0 s H) (hb : H0 a = none) : Evo s0 H0 (s.addC a c) H := by
  have le := addC_le (a := a) (c := c) gd
  refine ⟨ev.f, fun n b h => le.al _ _ (ev.al n b h), fun b o h n => ?_, ?_, ?_⟩
  · obtain ⟨h1, h2, h3⟩ := ev.oth b o h n
    refine ⟨h1, h2, fun m z => ?_⟩
    have z : (if m = s.h.length then some a else s.al m) = some b := z
    by_cases e : m = s.h.length
    · rw [if_pos e] at z
      cases z
      rw [hb] at h
      cases h
    · rw [if_neg e] at z
      exact h3 m z
  · show _ ≤ (s.h ++ [c]).length
    rw [List.length_append]
    exact Nat.le_trans ev.len (Nat.le_add_right _ _)
  · exact ev.z
end
section
variable {X : Cx} {g : Gi} {B : Bg} {W : WXv} {pos : Pos} {e : Expr} {m : ME}
theorem vs_retC (he : PE X e (tE g B W m)) : PS X (.Return (some e) pos) (tS g B W (mRetC m)) := by
  refine ps_imp (ps_ret he) fun N σ H ⟨env, s, sr, p⟩ => ?_
  refine (bindS sr p).mono fun v H1 ⟨s1, x, sr1, l1, r1, p1⟩ => ?_
  cases x with
  | tl xs =>
    obtain ⟨a, vs, rfl, h1, h2, h3, h4⟩ := r1
    exact p1 (.ref a) H1 (s1.addC a (.lst xs)) rfl (addC_evo sr1.good sr1.evo h2.new) (addC_good sr1.good h1 h2.f h2.al h4) ⟨a, rfl, if_pos rfl⟩
  | d _ => exact p1.elim
  | bl _ => exact p1.elim
  | bi _ _ => exact p1.elim
end

/-! ### a slot's list is given free: nobody changes it any more -/
def frzE (i : Nat) (env : Env) : Env := match env[i]? with
  | some (some (.ol xs)) => env.set i (some (.d (.lst xs)))
  | _ => env
section
variable {g : Gi} {B : Bg} {W : WXv} {env : Env} {s : Sta} {σ : L2.St} {H : Hp}
theorem SR.frzS (i : Nat) (sr : SR g B env s σ H) : ∃ s', s'.h = s.h ∧ Le s s' ∧ SR g B (frzE i env) s' σ H := by
  unfold frzE
  split
  · next xs hx =>
    obtain ⟨v, h1, h2⟩ := sr.slot i _ hx
    obtain ⟨a, vs, rfl, h3, h4, h5⟩ := h2
    have hi : i < env.length := (List.getElem?_eq_some_iff.mp hx).1
    have fl := frz_le (o := HO.lst vs) h4.f
    refine ⟨s.frz a (.lst vs), rfl, ⟨fl, fun _ _ z => z, fun _ _ z => z⟩, sr.good.frz h3 h4.f h4.al, evo_frz h4.f h4.al h4.new sr.evo, by rw [List.length_set]; exact sr.len, fun j sl h => ?_, fun j k sl1 sl2 u hjk q1 q2 o1 o2 q3 q4 => ?_⟩
    · by_cases e : i = j
      · subst e
        rw [List.getElem?_set_self hi] at h
        cases h
        exact ⟨_, h1, a, vs, rfl, upd_same, h5.mono fl fun _ _ z => z⟩
      · rw [List.getElem?_set_ne e] at h
        obtain ⟨v, g1, g2⟩ := sr.slot j sl h
        refine ⟨v, g1, ?_⟩
        have ownF : ∀ {b : Addr}, OwnA B s b → b ≠ a → OwnA B (s.frz a (.lst vs)) b := fun {b} ow ne => ⟨by
          show upd s.F a (.lst vs) b = none
          rw [upd_ne ne]
          exact ow.f, ow.al, ow.new⟩
        cases sl with
        | d x => exact Rep.mono fl (fun _ _ z => z) g2
        | ol ys =>
          obtain ⟨b, ws, rfl, k1, k2, k3⟩ := g2
          have ne : b ≠ a := fun q => by subst q; exact sr.sep i j _ _ (.ref b) e hx h rfl rfl h1 g1
          exact ⟨b, ws, rfl, k1, ownF k2 ne, k3.mono fl fun _ _ z => z⟩
        | oi c fs =>
          obtain ⟨b, dx, ws, rfl, k1, k2, k3, k4⟩ := g2
          have ne : b ≠ a := fun q => by subst q; exact sr.sep i j _ _ (.ref b) e hx h rfl rfl h1 g1
          exact ⟨b, dx, ws, rfl, k1, ownF k2 ne, k3.mono fl (fun _ _ z => z), k4⟩
        | xc c fs =>
          obtain ⟨k1, k2, ws, k3, k4, k5⟩ := g2
          exact ⟨k1, k2, ws, k3, k4, k5.mono fl fun _ _ z => z⟩
    · have f : ∀ {j : Nat} {sl : Sl}, (env.set i (some (.d (.lst xs))))[j]? = some (some sl) → sl.own = true → env[j]? = some (some sl) := fun {j sl} h o => by
        by_cases e : i = j
        · subst e
          rw [List.getElem?_set_self hi] at h
          cases h
          cases o
        · rw [List.getElem?_set_ne e] at h
          exact h
      exact sr.sep j k sl1 sl2 u hjk (f q1 o1) (f q2 o2) o1 o2 q3 q4
  · exact ⟨s, rfl, Le.refl s, sr⟩
end
def mFrz (i : Nat) (m : MS) : MS := fun env h => m (frzE i env) h
theorem vss_frz {X : Cx} {g : Gi} {B : Bg} {W : WXv} {sts : List Stmt} {m : MS} (i : Nat) (h : PSs X sts (tS g B W m)) : PSs X sts (tS g B W (mFrz i m)) :=
  pss_imp h fun N σ H ⟨env, s, sr, p⟩ => by
    obtain ⟨s', e1, le, sr'⟩ := sr.frzS i
    exact ⟨frzE i env, s', sr', by rw [e1]; exact PostS.later le p⟩

/-! ### x[k] = e, x a slot's own list -/
def fSetIxO (i : Nat) (env : Env) (xs : List D) (x z : Vl) (h3 : Hc) : RS := match x, z with
  | .d d, .d (.int k) => (match ixN xs.length k with
    | some j => .nx (env.set i (some (.ol (xs.set j d)))) h3
    | none => .stuck)
  | _, _ => .stuck
def mSetIxO (i : Nat) (e k : ME) : MS := fun env h => match env[i]? with
  | some (some (.ol xs)) => (e env h).thenS env fun x h1 => (k env h1).thenS env fun z h3 => fSetIxO i env xs x z h3
  | _ => .stuck
section
variable {X : Cx} {g : Gi} {B : Bg} {W : WXv} {pos tpos : Pos} {e o k : Expr} {m mk : ME}
theorem vs_setixO {i : Nat} (he : PE X e (tE g B W m)) (ho : PE X o (tVar i)) (hk : PE X k (tE g B W mk)) (hs : swapsWithSole [.Subscript o k tpos] e pos.line X.env = pure false := by rfl) (hw : swappedStores [.Subscript o k tpos] e X.env = pure none := by rfl)
    (h1 : (assignEach [.Subscript o k tpos] X.env).map (·.2) = [assign (.Subscript o k tpos) X.env] := by rfl)
    (ha : ∀ v, assign (.Subscript o k tpos) X.env v = (do
      let ov ← holding [v] (eval o X.env)
      let iv ← holding [v, ov] (eval k X.env)
      standAt tpos
      holding [v, ov, iv] (setItem ov iv v)
      release [v, ov, iv] []) := by intro _; rfl) : PS X (.Assign [.Subscript o k tpos] e pos) (tS g B W (mSetIxO i m mk)) := by
  refine ps_imp (ps_asg he (pg_sub ho hk set_list ha) hs hw h1) fun N σ H ⟨env, s, sr, p⟩ => ?_
  unfold mSetIxO at p
  split at p
  · next xs hx =>
    obtain ⟨v0, g1, g2⟩ := sr.slot i _ hx
    obtain ⟨a, vs, rfl, g3, g4, g5⟩ := g2
    refine (bindS sr p).mono fun v H1 ⟨s1, x, sr1, l1, r1, p1⟩ => ⟨.ref a, g1, ?_⟩
    -- the value stays known while the place is asked
    refine ⟨env, s1, sr1, ?_⟩
    cases q : mk env s1.h with
    | ok z h2 =>
      rw [q] at p1
      intro kv H3 s3 e3 ev3 sr3 r3
      have p1 : PostS g B W s1 (fSetIxO i env xs x z h2) N := p1
      unfold fSetIxO at p1
      split at p1
      · next d =>
        split at p1
        · next j hj =>
          obtain ⟨v1, f1, f2⟩ := sr3.slot i _ hx
          rw [g1] at f1
          cases f1
          obtain ⟨a', ws, ea, f3, f4, f5⟩ := f2
          cases ea
          refine ⟨a, ws, _, j, rfl, r3, f3, by rw [f5.length]; exact hj, ?_⟩
          have rd := ev3.rep (show Rep g s1.F s1.al _ v from r1)
          exact p1 σ _ s3 e3 ev3.le (sr3.mut hx rfl g1 f4.f f4.al f4.new ⟨a, _, rfl, upd_same, f4, f5.set rd j⟩)
        · exact p1.elim
      · exact p1.elim
    | exc y h2 =>
      rw [q] at p1
      intro cls dd H3 s3 e3 ev3 sr3 xr
      exact p1 cls dd σ H3 s3 e3 ev3.le sr3 xr
    | stuck =>
      rw [q] at p1
      exact p1.elim
  · exact p.elim
end
end Vi

set_option Elab.async false
set_option linter.all false
set_option maxRecDepth 100000
set_option maxHeartbeats 2000000
namespace Vi
open PySem L2 PyProof.Rows

/-! ### the head's hook: any checks of the written part, and the defs, each at an address that is told by a path -/
structure DefV where
  pth : PySem.W.Frag → Addr
  name : Str
  qual : Str
  params : Arguments
  body : List Stmt
  scope : Scope
  dfl : List He.Dv := []
def fnAt (K : PySem.W.Frag) (a : Addr) : He.FnW :=
  match K.lookup a with
  | some ⟨_, _, .func z, _⟩ =>
    some (z.name, z.qualname, z.params, z.body, z.scope, z.globals, z.closure, z.builtins)
  | _ => none
def DefV.want (d : DefV) : He.FnW :=
  some (d.name, d.qual, d.params, .stmts d.body, d.scope, mainGlobals, [], builtinsNs)
def DefV.dv (K : PySem.W.Frag) (d : DefV) : List L2.V :=
  d.dfl.map (He.Dv.v K)
def DefV.good (K : PySem.W.Frag) (d : DefV) : Bool :=
  PySem.W.keepIn K (.ref (d.pth K)) &&
  (match K.lookup (d.pth K) with
  | some ⟨_, _, .func z, _⟩ =>
    PySem.W.codeIn K z.code d.qual && He.dflB K z.defaults (d.dv K)
  | _ => false)
theorem DefV.fun_ {K : PySem.W.Frag} {d : DefV} (e : fnAt K (d.pth K) = d.want) (c : d.good K = true) : ∃ fd, FunD K d.name d.qual d.params d.body d.scope (d.dv K) [] (d.pth K) fd := by
  obtain ⟨kp, c2⟩ := Bool.and_eq_true_iff.mp c
  unfold fnAt at e
  cases q : K.lookup (d.pth K) with
  | none => rw [q] at c2; cases c2
  | some o =>
    obtain ⟨oc, od, dt, osl⟩ := o
    rw [q] at c2 e
    cases dt with
    | func z =>
      obtain ⟨z1, z2, z3, z4, z5, z6, z7, z8, z9, z10, z11, z12, z13, z14, z15⟩ := z
      have e2 : (some (z1, z2, z3, z4, z5, z6, z7, z15) : He.FnW) = d.want := e
      unfold DefV.want at e2
      simp only [Option.some.injEq, Prod.mk.injEq] at e2
      obtain ⟨p1, p2, p3, p4, p5, p6, p7, p8⟩ := e2
      subst p1 p2 p3 p4 p5 p6 p7 p8
      have c3 : (PySem.W.codeIn K z13 d.qual && He.dflB K z8 (d.dv K)) = true := c2
      obtain ⟨k1, k2⟩ := Bool.and_eq_true_iff.mp c3
      exact ⟨_, ⟨oc, od, z8, z9, z10, z11, z12, z13, z14, osl, rfl, q, k1, He.dflB_ok k2, .inl rfl⟩, kp⟩
    | _ => cases c2
/-- what the names reach, from some roots -/
def reach (g : Addr → Option Obj) (roots : List Addr) : Nat → List Addr
  | 0 => roots
  | n + 1 => He.growD g (reach g roots n)
abbrev AlV : Type := Bool × List He.FnW
def obsV (ck : List (PySem.W.Frag → Bool)) (fn : List DefV) (K : PySem.W.Frag) : AlV :=
  ((ck.all fun f => f K) && (fn.all fun d => d.good K), fn.map fun d => fnAt K (d.pth K))
def wantV (fn : List DefV) : AlV := (true, fn.map DefV.want)
def SaysV (ck : List (PySem.W.Frag → Bool)) (fn : List DefV) (K : PySem.W.Frag) : Prop := obsV ck fn K = wantV fn
def obsVG (n : Nat) (ck : List (PySem.W.Frag → Bool)) (fn : List DefV) (g : Addr → Option Obj) : AlV :=
  obsV ck fn (He.frG g (reach g [mainGlobals, cStatics] n))
def hookV (n : Nat) (ck : List (PySem.W.Frag → Bool)) (fn : List DefV) : PySem.W.Hook where
  α := AlV
  obs := fun s => obsVG n ck fn s.heap.get?
  val := fun _ => wantV fn
  says := fun _ h => ∃ K : PySem.W.Frag, K.In h ∧ SaysV ck fn K
  of := fun _ _ e => ⟨_, He.frG_in, e⟩
  keeps := fun _ _ _ ⟨K, i, c⟩ k => ⟨K, PySem.W.Frag.In.keeps i k, c⟩
theorem obsVG_eq {n : Nat} {ck : List (PySem.W.Frag → Bool)} {fn : List DefV} {g : Addr → Option Obj} {s : Shared} (h : ∀ a, g a = s.heap.get? a) : obsVG n ck fn g = (hookV n ck fn).obs s := by
  rw [show g = s.heap.get? from funext h] <;> rfl
section
variable {ck : List (PySem.W.Frag → Bool)} {fn : List DefV} {K : PySem.W.Frag}
theorem SaysV.fact (c : SaysV ck fn K) (i : Nat) {f : PySem.W.Frag → Bool} (h : ck[i]? = some f := by rfl) : f K = true := by
  have c1 := (Bool.and_eq_true_iff.mp (congrArg Prod.fst c)).1
  exact List.all_eq_true.mp c1 f (List.mem_of_getElem? h)
theorem SaysV.fun_ (c : SaysV ck fn K) (i : Nat) {d : DefV} (h : fn[i]? = some d := by rfl) : ∃ fd, FunD K d.name d.qual d.params d.body d.scope (d.dv K) [] (d.pth K) fd := by
  have c2 := (Bool.and_eq_true_iff.mp (congrArg Prod.fst c)).2
  have e : fn.map (fun d => fnAt K (d.pth K)) = fn.map DefV.want := congrArg Prod.snd c
  have e2 := congrArg (fun l => l[i]?) e
  simp only [List.getElem?_map, h, Option.map_some] at e2
  exact DefV.fun_ (Option.some.inj e2) (List.all_eq_true.mp c2 d (List.mem_of_getElem? h))
end
/-! ### checks -/
def recFn (K : PySem.W.Frag) (a : Addr) (n : String) : Addr := match PySem.W.recIn K a n with
  | some (.ref f :: _) => f
  | _ => 0
def eqv (a b : Option (Option Value)) : Bool := decide (a = b)
theorem eqv_ok {a b : Option (Option Value)} (h : eqv a b = true) : a = b := of_decide_eq_true h
/-- paths -/
abbrev pG (x : Str) : PySem.W.Frag → Addr := fun K => He.ga K x
abbrev pM (c m : Str) : PySem.W.Frag → Addr := fun K => He.ma K (He.ga K c) m
abbrev pP (c m : Str) : PySem.W.Frag → Addr := fun K => recFn K (He.ma K (He.ga K c) m) "property"
abbrev pC (c m : Str) : PySem.W.Frag → Addr := fun K => recFn K (He.ma K (He.ga K c) m) "classmethod"
def kIcls (c : Str) (K : PySem.W.Frag) : Bool :=
  (He.Fa.cls c).ok K && (eqv (PySem.W.findIn K (.ref (He.ga K c)) "__class__") (some (some (.builtin "object.__class__"))) &&
  (decide (PySem.W.mroIn K (He.ga K c) (.type "object") = some true) && PySem.W.selfFirst K (He.ga K c)))
theorem kIcls_ok {c : Str} {K : PySem.W.Frag} (h : kIcls c K = true) : ClsOk K (He.ga K c) ∧ PySem.W.selfFirst K (He.ga K c) = true := by
  obtain ⟨h1, h⟩ := Bool.and_eq_true_iff.mp h
  obtain ⟨h2, h⟩ := Bool.and_eq_true_iff.mp h
  obtain ⟨h3, h4⟩ := Bool.and_eq_true_iff.mp h
  exact ⟨⟨He.cls_ok h1, eqv_ok h2, of_decide_eq_true h3⟩, h4⟩
def kProp (c f : Str) (K : PySem.W.Frag) : Bool :=
  eqv (PySem.W.findIn K (.ref (He.ga K c)) f) (some (some (.ref (He.ma K (He.ga K c) f)))) &&
  (eqv (PySem.W.specialIn K (.ref (He.ma K (He.ga K c) f)) "__get__") (some (some (.builtin "property.__get__"))) &&
  (decide (PySem.W.takesIn K (.ref (He.ma K (He.ga K c) f)) = some true) &&
  (match PySem.W.recIn K (He.ma K (He.ga K c) f) "property" with
  | some (.ref _ :: _) => true
  | _ => false)))
theorem kProp_ok {c f : Str} {K : PySem.W.Frag} (h : kProp c f K = true) : PropOf K (He.ga K c) f (He.ma K (He.ga K c) f) (pP c f K) := by
  obtain ⟨h1, h⟩ := Bool.and_eq_true_iff.mp h
  obtain ⟨h2, h⟩ := Bool.and_eq_true_iff.mp h
  obtain ⟨h3, h4⟩ := Bool.and_eq_true_iff.mp h
  refine ⟨eqv_ok h1, eqv_ok h2, of_decide_eq_true h3, ?_⟩
  show ∃ rest, _ = some (Value.ref (recFn K _ "property") :: rest)
  unfold recFn
  split at h4
  · next f rest e => exact ⟨rest, e⟩
  · cases h4
def isGet (r : Option PySem.W.CFound) (g a o t : Value) : Bool := match r with
  | some (.get g' a' o' t') => decide (g' = g) && (decide (a' = a) && (decide (o' = o) && decide (t' = t)))
  | _ => false
theorem isGet_ok {r : Option PySem.W.CFound} {g a o t : Value} (h : isGet r g a o t = true) : r = some (.get g a o t) := by
  unfold isGet at h
  split at h
  · obtain ⟨h1, h⟩ := Bool.and_eq_true_iff.mp h
    obtain ⟨h2, h⟩ := Bool.and_eq_true_iff.mp h
    obtain ⟨h3, h4⟩ := Bool.and_eq_true_iff.mp h
    rw [of_decide_eq_true h1, of_decide_eq_true h2, of_decide_eq_true h3, of_decide_eq_true h4]
  · cases h
def kCmet (c m : Str) (K : PySem.W.Frag) : Bool :=
  PySem.W.readsIn K (He.ga K c) (.type "type") && (eqv (PySem.W.specialIn K (.ref (He.ga K c)) "__getattribute__") (some (some (.builtin "type.__getattribute__"))) &&
  (isGet (PySem.W.findCls K (.ref (He.ga K c)) (.type "type") m) (.builtin "classmethod.__get__") (.ref (He.ma K (He.ga K c) m)) .none (.ref (He.ga K c)) &&
  (PySem.W.fnIn K (pC c m K) &&
  (match PySem.W.recIn K (He.ma K (He.ga K c) m) "classmethod" with
  | some (.ref _ :: _) => true
  | _ => false))))
theorem kCmet_ok {c m : Str} {K : PySem.W.Frag} (h : kCmet c m K = true) : ClX.CRead K (He.ga K c) (.type "type") ∧ ClX.CMet K (He.ga K c) (.type "type") m (He.ma K (He.ga K c) m) (pC c m K) := by
  obtain ⟨h1, h⟩ := Bool.and_eq_true_iff.mp h
  obtain ⟨h2, h⟩ := Bool.and_eq_true_iff.mp h
  obtain ⟨h3, h⟩ := Bool.and_eq_true_iff.mp h
  obtain ⟨h4, h5⟩ := Bool.and_eq_true_iff.mp h
  refine ⟨⟨h1, eqv_ok h2⟩, isGet_ok h3, ?_, h4⟩
  show ∃ rest, _ = some (Value.ref (recFn K _ "classmethod") :: rest)
  unfold recFn
  split at h5
  · next f rest e => exact ⟨rest, e⟩
  · cases h5
/-- a special method: where it stands, a function -/
def kOp (c m : Str) (K : PySem.W.Frag) : Bool := (He.Fa.meth c m).ok K
/-- isinstance: t asks of u -/
def kKit (t u : PySem.W.Frag → Value) (b : Bool) (K : PySem.W.Frag) : Bool := decide (PySem.W.kitOne K (t K) (u K) = some b)
def kNotFirst (c : Str) (t : PySem.W.Frag → Value) (K : PySem.W.Frag) : Bool := PySem.W.notFirst K (He.ga K c) (t K)
def kCatch (c x : Str) (b : Bool) (K : PySem.W.Frag) : Bool := decide (PySem.W.exmOne K (.ref (He.ga K c)) (.ref (He.ga K x)) = some b)
def kObjGet (K : PySem.W.Frag) : Bool :=
  eqv (PySem.W.specialIn K (.builtin "object.__class__") "__get__") (some (some (.builtin "getset_descriptor.__get__"))) &&
  decide (PySem.W.takesIn K (.builtin "object.__class__") = some true)
/-- an own error class, with an own __init__ -/
def kExo (c : Str) (K : PySem.W.Frag) : Bool :=
  (match K.lookup (He.ga K c) with
  | some ⟨.type "type", _, .cls cd, sl⟩ => (match cd.mro, sl.toList with
    | .ref C' :: bm, [_, _, _, _, some (.builtin n), _] =>
      C' == He.ga K c && (n == "ValueError.__new__" && (!cd.hasDel && (cd.hasDict && PySem.HandSPX.refsVE bm)))
    | _, _ => false)
  | _ => false) &&
  (eqv (PySem.W.findIn K (.ref (He.ga K c)) "__setattr__") (some (some (.builtin "object.__setattr__"))) &&
  (decide (PySem.W.subIn K (.ref (He.ga K c)) (.type "BaseException") = some true) &&
  (decide (PySem.W.typeIn K (.ref (He.ga K c)) = some (.type "type")) && PySem.W.keepIn K (.ref (He.ga K c)))))
theorem kExo_ok {c : Str} {K : PySem.W.Frag} (h : kExo c K = true) : OexC K (He.ga K c) := by
  obtain ⟨h1, h⟩ := Bool.and_eq_true_iff.mp h
  obtain ⟨h2, h⟩ := Bool.and_eq_true_iff.mp h
  obtain ⟨h3, h⟩ := Bool.and_eq_true_iff.mp h
  obtain ⟨h4, h5⟩ := Bool.and_eq_true_iff.mp h
  refine ⟨?_, eqv_ok h2, of_decide_eq_true h3, of_decide_eq_true h4, h5⟩
  split at h1
  · next dd cd sl ho =>
    split at h1
    · next C' bm k0 k1 k2 k3 n k5 hm hs =>
      simp only [Bool.and_eq_true, beq_iff_eq, Bool.not_eq_true'] at h1
      obtain ⟨rfl, rfl, hdel, hdic, hve⟩ := h1
      obtain ⟨nm, bs, mro, ns, qn, hd, sn, sub, ab, col, del⟩ := cd
      dsimp only at hm hdel hdic
      subst hdel hdic
      have hsl : sl = #[k0, k1, k2, k3, some (.builtin "ValueError.__new__"), k5] := by
        obtain ⟨l⟩ := sl
        simp only at hs
        rw [hs]
      subst hsl
      rw [hm] at ho
      exact ⟨nm, qn, ns, bs, bm, sn, sub, ab, col, dd, k0, k1, k2, k3, k5, ho, hve⟩
    · cases h1
  · cases h1
/-- .. its fields may be read, isinstance may ask -/
def kXc (c : Str) (K : PySem.W.Frag) : Bool :=
  xfB K (He.ga K c) && (eqv (PySem.W.findIn K (.ref (He.ga K c)) "__class__") (some (some (.builtin "object.__class__"))) &&
  (decide (PySem.W.mroIn K (He.ga K c) (.type "object") = some true) && kObjGet K))
theorem kXc_ok {c : Str} {K : PySem.W.Frag} (h : kXc c K = true) : XfC K (He.ga K c) ∧ L2.ExcC K (He.ga K c) := by
  obtain ⟨h1, h⟩ := Bool.and_eq_true_iff.mp h
  obtain ⟨h2, h⟩ := Bool.and_eq_true_iff.mp h
  obtain ⟨h3, h⟩ := Bool.and_eq_true_iff.mp h
  obtain ⟨h4, h5⟩ := Bool.and_eq_true_iff.mp h
  have x := xfB_ok h1
  exact ⟨x, x.ga, x.gg, x.exC, x.hdC, eqv_ok h2, eqv_ok h4, of_decide_eq_true h5, of_decide_eq_true h3⟩
end Vi

set_option Elab.async false
set_option linter.all false
set_option maxRecDepth 100000
set_option maxHeartbeats 2000000
namespace Vi
open PySem L2 PyProof.Rows

/-! ### a program's own types: what is asked of them, in tables -/
structure PD where
  nm : List Str
  cls : List Nat
  fld : List (Nat × Str)
  isi : List ((Ty × Ty) × Bool)
  xcs : List Nat
  xno : List (Nat × Str)
  nf : List (Nat × Ty)
  kcs : List (List D)
mutual
/-- the same data, as written in the module's own constants -/
def sameD : D → D → Bool
  | .non, .non => true
  | .bl a, .bl b => a == b
  | .int a, .int b => decide (a = b)
  | .str a, .str b => decide (a = b)
  | .tup xs, .tup ys => sameDs xs ys
  | _, _ => false
def sameDs : List D → List D → Bool
  | [], [] => true
  | x :: xs, y :: ys => sameD x y && sameDs xs ys
  | _, _ => false
end
def PD.ca (P : PD) (K : PySem.W.Frag) (c : Nat) : Addr := He.ga K (P.nm.getD c Str.empty)
def PD.val (P : PD) (K : PySem.W.Frag) : Ty → Value
  | .bt n => .type n
  | .own c => .ref (P.ca K c)
def PD.gi (P : PD) (K : PySem.W.Frag) : Gi where
  K := K
  ca := P.ca K
  isC := fun c => decide (c ∈ P.cls)
  fld := fun c f => decide ((c, f) ∈ P.fld)
  isi := fun t u => P.isi.lookup (t, u)
  kc := fun ds => P.kcs.any fun es => sameDs es ds
def PD.ok (P : PD) (K : PySem.W.Frag) : Bool :=
  (P.cls.all fun c => kIcls (P.nm.getD c Str.empty) K) && ((P.fld.all fun p => decide (p.1 ∈ P.cls) && eqv (PySem.W.findIn K (.ref (P.ca K p.1)) p.2) (some none)) &&
  (kObjGet K && ((P.isi.all fun e => decide (PySem.W.kitOne K (P.val K e.1.1) (P.val K e.1.2) = some e.2)) &&
  ((P.xcs.all fun c => kXc (P.nm.getD c Str.empty) K) && ((P.xno.all fun p => eqv (PySem.W.findIn K (.ref (P.ca K p.1)) p.2) (some none)) &&
  P.nf.all fun p => PySem.W.notFirst K (P.ca K p.1) (P.val K p.2))))))
theorem PD.val_eq {P : PD} {K : PySem.W.Frag} (t : Ty) : t.val (P.gi K) = P.val K t := by cases t <;> rfl
theorem mem_of_lookup {α β : Type} [BEq α] [LawfulBEq α] {a : α} {b : β} : ∀ {l : List (α × β)}, l.lookup a = some b → (a, b) ∈ l
  | [], h => by cases h
  | (c, d) :: r, h => by
    rw [List.lookup_cons] at h
    cases e : (a == c) with
    | true =>
      rw [e] at h
      cases h
      rw [eq_of_beq e]
      exact List.mem_cons_self ..
    | false =>
      rw [e] at h
      exact List.mem_cons_of_mem _ (mem_of_lookup h)
section
variable {P : PD} {K : PySem.W.Frag}
theorem PD.giOk (h : P.ok K = true) : GiOk (P.gi K) := by
  obtain ⟨h1, h⟩ := Bool.and_eq_true_iff.mp h
  obtain ⟨h2, h⟩ := Bool.and_eq_true_iff.mp h
  obtain ⟨h3, h⟩ := Bool.and_eq_true_iff.mp h
  obtain ⟨h4, h⟩ := Bool.and_eq_true_iff.mp h
  obtain ⟨k1, k2⟩ := Bool.and_eq_true_iff.mp h3
  refine ⟨fun c hc => (kIcls_ok (List.all_eq_true.mp h1 c (of_decide_eq_true hc))).1, fun c f hf => ?_, eqv_ok k1, of_decide_eq_true k2, fun t u b e => ?_⟩
  · obtain ⟨g1, g2⟩ := Bool.and_eq_true_iff.mp (List.all_eq_true.mp h2 (c, f) (of_decide_eq_true hf))
    exact ⟨g1, eqv_ok g2⟩
  · have z := of_decide_eq_true (List.all_eq_true.mp h4 _ (mem_of_lookup e))
    rw [PD.val_eq, PD.val_eq]
    exact z
theorem PD.sf (h : P.ok K = true) {c : Nat} (hc : c ∈ P.cls) : PySem.W.selfFirst K (P.ca K c) = true :=
  (kIcls_ok (List.all_eq_true.mp (Bool.and_eq_true_iff.mp h).1 c hc)).2
theorem PD.xcOk (h : P.ok K = true) : XcOk (P.gi K) (fun c => decide (c ∈ P.xcs)) (fun c f => decide ((c, f) ∈ P.xno)) := by
  obtain ⟨_, h⟩ := Bool.and_eq_true_iff.mp h
  obtain ⟨_, h⟩ := Bool.and_eq_true_iff.mp h
  obtain ⟨_, h⟩ := Bool.and_eq_true_iff.mp h
  obtain ⟨_, h⟩ := Bool.and_eq_true_iff.mp h
  obtain ⟨h5, h⟩ := Bool.and_eq_true_iff.mp h
  obtain ⟨h6, h⟩ := Bool.and_eq_true_iff.mp h
  exact ⟨fun c hc => kXc_ok (List.all_eq_true.mp h5 c (of_decide_eq_true hc)), fun c f hf => eqv_ok (List.all_eq_true.mp h6 (c, f) (of_decide_eq_true hf))⟩
theorem PD.nfOk (h : P.ok K = true) : ∀ c t, decide ((c, t) ∈ P.nf) = true → PySem.W.notFirst K ((P.gi K).ca c) (t.val (P.gi K)) = true := fun c t e => by
  obtain ⟨_, h⟩ := Bool.and_eq_true_iff.mp h
  obtain ⟨_, h⟩ := Bool.and_eq_true_iff.mp h
  obtain ⟨_, h⟩ := Bool.and_eq_true_iff.mp h
  obtain ⟨_, h⟩ := Bool.and_eq_true_iff.mp h
  obtain ⟨_, h⟩ := Bool.and_eq_true_iff.mp h
  obtain ⟨_, h7⟩ := Bool.and_eq_true_iff.mp h
  rw [PD.val_eq]
  exact List.all_eq_true.mp h7 (c, t) (of_decide_eq_true e)
end
/-! ### defs that are ready -/
structure Rdy (P : Program) (w : World) (K : PySem.W.Frag) (mg : Str → Option Value) (base : Heap) (g : Gi) (x : Str) (k n : Nat) (dd : List D) (F : Fn) : Prop where
  ex : ∃ (f : Addr) (fd : FuncData) (ps : List Str) (dvs : List L2.V) (ds : List Value), FnG P w K mg base k f fd ps (spD g ps.length F) ∧ mg x = some (.ref f) ∧ PySem.W.keepIn K (.ref f) = true ∧
    Binds K fd ps ds ∧ Vals dvs ds ∧ (∀ F al, Reps g F al dd dvs) ∧ n + dvs.length = ps.length
theorem Rdy.v {X : Cx} {g : Gi} {x : Str} {k j n : Nat} {dd : List D} {F : Fn} (h : Rdy X.prog X.w X.K X.mg X.base g x k n dd F) (hr : Room j X.A) (hj : k ≤ j) : VFn X g x n dd F := by
  obtain ⟨f, fd, ps, dvs, ds, h1, h2, h3, h4, h5, h6, h7⟩ := h.ex
  exact ⟨k, f, fd, ps, dvs, ds, h1, hr.mono hj, h2, h3, h4, h5, h6, h7⟩
/-- a method, a special method -/
structure RdyM (P : Program) (w : World) (K : PySem.W.Frag) (mg : Str → Option Value) (base : Heap) (g : Gi) (c : Nat) (m : Str) (k n : Nat) (dd : List D) (F : Fn) : Prop where
  ex : ∃ (f : Addr) (fd : FuncData) (ps : List Str) (dvs : List L2.V) (ds : List Value), FnG P w K mg base k f fd ps (spD g ps.length F) ∧ Meth K (g.ca c) m f ∧
    Binds K fd ps ds ∧ Vals dvs ds ∧ (∀ F al, Reps g F al dd dvs) ∧ (n + 1) + dvs.length = ps.length ∧ PySem.W.fnIn K f = true
  cl : g.isC c = true
theorem RdyM.v {X : Cx} {g : Gi} {c : Nat} {m : Str} {k j n : Nat} {dd : List D} {F : Fn} (h : RdyM X.prog X.w X.K X.mg X.base g c m k n dd F) (hr : Room j X.A) (hj : k ≤ j) : VMeth X g c m n dd F := by
  obtain ⟨f, fd, ps, dvs, ds, h1, h2, h3, h4, h5, h6, _⟩ := h.ex
  exact ⟨⟨k, f, fd, ps, dvs, ds, h1, hr.mono hj, h2, h3, h4, h5, h6⟩, h.cl⟩
theorem RdyM.op {X : Cx} {g : Gi} {c : Nat} {m : Str} {k j n : Nat} {F : Fn} (h : RdyM X.prog X.w X.K X.mg X.base g c m k n [] F) (sf : PySem.W.selfFirst X.K (g.ca c) = true) (hr : Room j X.A) (hj : k + 1 ≤ j) : VOp X g c m (n + 1) F := by
  obtain ⟨f, fd, ps, dvs, ds, h1, h2, h3, h4, h5, h6, h7⟩ := h.ex
  have z := h5 (fun _ => none) (fun _ => none)
  obtain rfl : dvs = [] := z
  cases h4
  exact ⟨⟨k, f, fd, ps, h1, hr.mono hj, h2.at_, h2.fn, h3, h6.symm, h7⟩, sf⟩
structure RdyP (P : Program) (w : World) (K : PySem.W.Frag) (mg : Str → Option Value) (base : Heap) (g : Gi) (c : Nat) (m : Str) (k : Nat) (F : Fn) : Prop where
  ex : ∃ (p q : Addr) (fd : FuncData) (ps : List Str), FnG P w K mg base k q fd ps (spD g ps.length F) ∧ PropOf K (g.ca c) m p q ∧ Binds K fd ps [] ∧ ps.length = 1
  cl : g.isC c = true
theorem RdyP.v {X : Cx} {g : Gi} {c : Nat} {m : Str} {k j : Nat} {F : Fn} (h : RdyP X.prog X.w X.K X.mg X.base g c m k F) (hr : Room j X.A) (hj : k + 1 ≤ j) : VProp X g c m F := by
  obtain ⟨p, q, fd, ps, h1, h2, h3, h4⟩ := h.ex
  exact ⟨⟨k, p, q, fd, ps, h1, hr.mono hj, h2, h3, h4⟩, h.cl⟩
structure RdyI (P : Program) (w : World) (K : PySem.W.Frag) (mg : Str → Option Value) (base : Heap) (g : Gi) (c : Nat) (k n : Nat) (dd : List D) (F : FnI) : Prop where
  ex : ∃ (f : Addr) (fd : FuncData) (ps : List Str) (q : Str) (dvs : List L2.V) (ds : List Value), FnG P w K mg base k f fd (q :: ps) (spI g c ps.length F) ∧ Mk K (g.ca c) f ∧
    Binds K fd (q :: ps) ds ∧ Vals dvs ds ∧ (∀ F al, Reps g F al dd dvs) ∧ n + dvs.length = ps.length
theorem RdyI.v {X : Cx} {g : Gi} {c : Nat} {k j n : Nat} {dd : List D} {F : FnI} (h : RdyI X.prog X.w X.K X.mg X.base g c k n dd F) (hr : Room j X.A) (hj : k + 1 ≤ j) : VMake X g c n dd F := by
  obtain ⟨f, fd, ps, q, dvs, ds, h1, h2, h3, h4, h5, h6⟩ := h.ex
  exact ⟨k, f, fd, ps, q, dvs, ds, h1, hr.mono hj, h2, h3, h4, h5, h6⟩
structure RdyC (P : Program) (w : World) (K : PySem.W.Frag) (mg : Str → Option Value) (base : Heap) (g : Gi) (c : Nat) (m : Str) (k n : Nat) (dd : List D) (F : Fn) : Prop where
  ex : ∃ (p f : Addr) (mc : Value) (fd : FuncData) (ps : List Str) (dvs : List L2.V) (ds : List Value), FnG P w K mg base k f fd ps (spD g ps.length F) ∧ ClX.CRead K (g.ca c) mc ∧ ClX.CMet K (g.ca c) mc m p f ∧
    Binds K fd ps ds ∧ Vals dvs ds ∧ (∀ F al, Reps g F al dd dvs) ∧ (n + 1) + dvs.length = ps.length
theorem RdyC.v {X : Cx} {g : Gi} {c : Nat} {m : Str} {k j n : Nat} {dd : List D} {F : Fn} (h : RdyC X.prog X.w X.K X.mg X.base g c m k n dd F) (hr : Room j X.A) (hj : k ≤ j) : VCMet X g c m n dd F := by
  obtain ⟨p, f, mc, fd, ps, dvs, ds, h1, h2, h3, h4, h5, h6, h7⟩ := h.ex
  exact ⟨k, p, f, mc, fd, ps, dvs, ds, h1, hr.mono hj, h2, h3, h4, h5, h6, h7⟩
structure RdyE (P : Program) (w : World) (K : PySem.W.Frag) (mg : Str → Option Value) (base : Heap) (g : Gi) (x : Str) (c k n : Nat) (mk : List D → List (Str × D)) : Prop where
  ex : ∃ (fI : Addr) (fd : FuncData) (ps : List Str) (fs : List L2.V → List (Str × L2.V)), OexC K (g.ca c) ∧ PySem.W.findIn K (.ref (g.ca c)) "__init__" = some (some (.ref fI)) ∧ PySem.W.typeIn K (.ref fI) = some (.type "function") ∧
    FnOk P w K mg base (L2.CX P w) k fI fd ps (spE (g.ca c) n fs) ∧ Binds K fd ps [] ∧ mg x = some (.ref (g.ca c)) ∧ n ≤ 1000 ∧
    (∀ F al ds ws, Reps g F al ds ws → ds.length = n → RepF g F al (mk ds) (fs ws))
theorem RdyE.v {X : Cx} {g : Gi} {x : Str} {c k j n : Nat} {mk : List D → List (Str × D)} (h : RdyE X.prog X.w X.K X.mg X.base g x c k n mk) (hr : Room j X.A) (hj : k + 1 ≤ j) : VExc X g x c n mk := by
  obtain ⟨fI, fd, ps, fs, h1, h2, h3, h4, h5, h6, h7, h8⟩ := h.ex
  exact ⟨k, fI, fd, ps, fs, h1, h2, h3, h4, hr.mono hj, h5, h6, h7, h8⟩
end Vi

set_option Elab.async false
set_option linter.all false
set_option maxRecDepth 100000
set_option maxHeartbeats 2000000
namespace Vi
open PySem L2 PyProof.Rows

/-! ### the law's end -/
/-- the law's function keeps its promise at a heap that holds nothing but the script -/
def Says1 (F : Fn) (n : Nat) : Prop := ∀ ns : List Int, ns.length ≤ n → ∃ h, F [.kl (ns.map D.int)] [] = .ok (.bl true) h
theorem reps_ints {g : Gi} {F : Hp} {al : Nat → Option Addr} : ∀ ns : List Int, Reps g F al (ns.map D.int) (ns.map L2.V.int)
  | [] => rfl
  | n :: r => ⟨_, _, rfl, rfl, reps_ints r⟩
theorem entry_sp {g : Gi} {K : PySem.W.Frag} (hK : g.K = K) {F : Fn} {n : Nat} {ns : List Int} {H : Hp} {a : Addr} (h : Says1 F n) (hl : ns.length ≤ n) (hS : SqL K H a (ns.map L2.V.int)) :
    spD g 1 F [.ref a] H (fun v _ => v = .bl true) (fun _ _ _ => False) := by
  obtain ⟨h', e⟩ := h ns hl
  refine ⟨⟨H, fun _ => none, [], fun _ => none⟩, [.kl (ns.map D.int)], rfl, ⟨fun _ _ z => z, fun _ _ _ z => (by cases z), fun _ _ z => (by cases z), fun n c z => (by cases z), ⟨fun _ _ z => (by cases z), fun _ _ z => (by cases z)⟩⟩, ⟨_, _, rfl, ⟨a, _, rfl, hK ▸ hS, reps_ints ns⟩, rfl⟩, ?_⟩
  rw [e]
  intro v H' s' _ _ _ r
  exact r
section
variable {P : Program} {w : World} {K : PySem.W.Frag} {mg mb : Str → Option Value} {k : Nat} {fa a : Addr} {fd : FuncData} {x : Str} {sp : Sp} {s1 : Shared} {vs : List Value} {ns : List Int}
theorem guards0 : callerA.guards = some [] := rfl
theorem run_law (KX : K.In s1.heap) (hns : s1.heap.Ns mainGlobals mg) (hb : s1.heap.Ns builtinsNs mb) (hbb : ∀ x : Str, x ≠ "__name__" → mb x = bootBuiltins x) (hlim : s1.heap.NoLimit) (hg : s1.gens = #[])
    (ha : s1.heap.get? a = some { cls := .type "list", data := .seq vs.toArray }) (hi : IntsAre vs ns) (hl : ns.length ≤ sizeLine) (hr : Room k callerA)
    (F : ∀ base : Heap, K.In base → base.Ns mainGlobals mg → FnG P w K mg base k fa fd [x] sp) (bd : ∀ (s : Shared) (u : Value), BindsTo s fd ⟨[u], []⟩ [(x, u)])
    (hsp : ∀ H : Hp, SqL K H a (ns.map L2.V.int) → sp [.ref a] H (fun v _ => v = .bl true) fun _ _ _ => False) :
    codeAny (model P w) callerA (.call (.ref fa) ⟨[.ref a], []⟩) (fun r s' => r = .ok (.ret (.bool true)) ∧ OldK s1.heap s'.heap ∧ s'.os = s1.os ∧ AllBare s'.gens) s1 := by
  have rv := vals_ints hi
  have lenV := hi.length
  -- H: nothing, or the script alone
  have core : ∀ (H : Hp) (hO : Only H) (hS : SqL K H a (ns.map L2.V.int)) (ok : HOk P w H s1.heap) (only : ∀ b u, H b = some u → b = a) (nk : ∀ u, H a = some u → K.lookup a = none),
      codeAny (model P w) callerA (.call (.ref fa) ⟨[.ref a], []⟩) (fun r s' => r = .ok (.ret (.bool true)) ∧ OldK s1.heap s'.heap ∧ s'.os = s1.os ∧ AllBare s'.gens) s1 := by
    intro H hO hS ok only nk
    have below : ∀ {b : Addr} {o : Obj}, s1.heap.get? b = some o → H b = none → (hidT s1.heap H).get? b = some o := fun e n => hidT_get e n
    have free : ∀ {b : Addr} {o : Obj}, K.lookup b = some o → H b = none := fun {b o} e => by
      cases q : H b with
      | none => rfl
      | some u =>
        obtain rfl := only b u q
        rw [nk u q] at e
        cases e
    have noDict : ∀ {b : Addr} {o : Obj} {es : Array DictEntry} {ep : Nat}, s1.heap.get? b = some o → o.data = .dict es ep → H b = none := fun {b o es ep} e d => by
      cases q : H b with
      | none => rfl
      | some u =>
        obtain rfl := only b u q
        rw [ha] at e
        cases e
        cases (show Data.seq vs.toArray _ = Data.dict es ep from d)
    have ns' : ∀ {b : Addr} {m : Str → Option Value}, s1.heap.Ns b m → (hidT s1.heap H).Ns b m := fun ⟨o, es, ep, e, d, r⟩ => ⟨o, es, ep, below e (noDict e d), d, r⟩
    have kin : K.In (hidT s1.heap H) := fun b o e => below (KX b o e) (free e)
    have md : Mod K mg (hidT s1.heap H) := by
      refine ⟨kin, ns' hns, ⟨mb, ns' hb, hbb⟩, ?_⟩
      obtain ⟨mc, l1, l2⟩ := hlim
      exact ⟨mc, ns' l1, l2⟩
    have e0 : Env0 P w K mg (hidT s1.heap H) callerA [] s1 H :=
      ⟨rfl, md, fun b o e => of_hidT e, Nat.le_of_eq (hidT_size _ _), trivial, fun b z => (by cases z), ok, .of_eq hg⟩
    have go := (F _ kin (ns' hns)).run callerA [] s1 H ⟨[.ref a], []⟩ [.ref a] [.ref a] _ (fun _ _ _ => False) hr guards0 e0 (bd s1 (.ref a)) (.cons rfl .nil) (hsp H hS)
    refine codeAny_mono go fun r s' h => ?_
    cases r with
    | error e =>
      obtain ⟨_, _, _, _, _, _, _, _, _, _, _, _, z⟩ := h
      exact z.elim
    | ok fl =>
      cases fl with
      | next => exact h.elim
      | brk => exact h.elim
      | cont => exact h.elim
      | ret u =>
        obtain ⟨v, H', os, bare, un, ok', rr, q⟩ := h
        obtain rfl : v = .bl true := q
        obtain rfl : u = Value.bool true := rr
        refine ⟨rfl, OldK.of_keep fun b o e => ?_, os, bare⟩
        rcases hO b with z | ⟨ob, xs, z⟩
        · exact un.keep b o e z (fun y => (by cases y)) (fun y => (by cases y))
        · obtain ⟨e1, _⟩ := ok b _ z
          obtain ⟨e2, _⟩ := ok' b _ (un.frzs b ob _ z)
          rw [e] at e1
          cases e1
          exact e2
  cases hk : K.lookup a with
  | some o =>
    obtain rfl : o = { cls := .type "list", data := .seq vs.toArray } := Option.some.inj ((KX a o hk).symm.trans ha)
    refine core (fun _ => none) (fun _ => .inl rfl) (.inr ⟨_, vs.toArray, _, hk, rfl, rfl, rfl, ?_, by simpa using rv⟩) (fun b u z => (by cases z)) (fun b u z => (by cases z)) fun u z => (by cases z)
    rw [List.size_toArray, lenV]
    exact hl
  | none =>
    let o : HO := .frz { cls := .type "list", data := .seq vs.toArray } (.lst (ns.map L2.V.int))
    have at_ : ∀ {b : Addr} {u : HO}, (if b = a then some o else none) = some u → b = a ∧ u = o := fun {b u} z => by
      by_cases hb : b = a
      · rw [if_pos hb] at z
        exact ⟨hb, (Option.some.inj z).symm⟩
      · rw [if_neg hb] at z
        cases z
    refine core (fun b => if b = a then some o else none) (fun b => ?_) (.inl (.inr ⟨_, if_pos rfl⟩)) (fun b u z => ?_) (fun b u z => (at_ z).1) fun _ _ => hk
    · by_cases hb : b = a
      · exact .inr ⟨_, _, if_pos hb⟩
      · exact .inl (if_neg hb)
    · obtain ⟨rfl, rfl⟩ := at_ z
      exact ⟨ha, by rw [List.length_map]; exact hl, vs, _, rv, ha⟩
end
theorem walk_G {l : PySem.W.OpenLaw} {n k : Nat} {q : Program} {loose : List Str} {XP : (Str → Option Value) → Heap → Prop} {YP : World → Heap → Prop} {d : DefRec} {x : Str} {F : Fn}
    (hn : l.most = some n) (hn2 : n ≤ sizeLine) (hdf : d.params.defaults = []) (hr : Room k callerA) (says : Says1 F n)
    (T : ∀ (w : World) (mg : Str → Option Value) (fa : Addr) (h : Heap), YP w h → h.Ns mainGlobals mg → mg d.name = some (.ref fa) →
      ∃ (K : PySem.W.Frag) (fd : FuncData) (g : Gi), g.K = K ∧ K.In h ∧ (∀ (s : Shared) (u : Value), BindsTo s fd ⟨[u], []⟩ [(x, u)]) ∧
        ∀ base : Heap, K.In base → base.Ns mainGlobals mg → FnG l.prog w K mg base k fa fd [x] (spD g 1 F)) :
    PySem.W.WalkO q loose XP YP l.row.toRowW d [] (fun f vs => PySem.call f vs) := by
  refine Att.attach_call hn hdf fun w s0 s1 mg mb fa o pm cd doc a vs ns G Y ho hd hcd hmg hobj hints hlen hg => ?_
  obtain ⟨K, fd, g, hK, KX, bd, tf⟩ := T w mg fa _ Y G.T.g hmg
  exact run_law KX G.T.g G.T.b G.T.builtins G.T.nolimit hg hobj hints (Nat.le_trans hlen hn2) hr tf bd fun H hS => entry_sp hK says hlen hS
end Vi

set_option Elab.async false
set_option linter.all false
set_option maxRecDepth 100000
set_option maxHeartbeats 2000000
namespace Vi
open PySem L2 PyProof.Rows
/-! ### small words for the printed proofs -/
theorem bt_isinstance : bootBuiltins "isinstance" = some (.builtin "isinstance") := by decide +kernel
theorem bt_len : bootBuiltins "len" = some (.builtin "len") := by decide +kernel
theorem bt_abs : bootBuiltins "abs" = some (.builtin "abs") := by decide +kernel
theorem bt_sum : bootBuiltins "sum" = some (.builtin "sum") := by decide +kernel
theorem bt_max : bootBuiltins "max" = some (.builtin "max") := by decide +kernel
theorem bt_min : bootBuiltins "min" = some (.builtin "min") := by decide +kernel
theorem bt_repr : bootBuiltins "repr" = some (.builtin "repr") := by decide +kernel
theorem bt_int : bootBuiltins "int" = some (.type "int") := by decide +kernel
theorem bt_bool : bootBuiltins "bool" = some (.type "bool") := by decide +kernel
theorem bt_str : bootBuiltins "str" = some (.type "str") := by decide +kernel
theorem bt_list : bootBuiltins "list" = some (.type "list") := by decide +kernel
theorem bt_tuple : bootBuiltins "tuple" = some (.type "tuple") := by decide +kernel
theorem bt_dict : bootBuiltins "dict" = some (.type "dict") := by decide +kernel
theorem bt_ValueError : bootBuiltins "ValueError" = some (.type "ValueError") := by decide +kernel
/-- a builtin's value is what K says -/
def kGlobB (x id : Str) (n : String) (K : PySem.W.Frag) : Bool := eqv (PySem.W.nsIn K mainGlobals x) (some (some (.builtin n)))
/-- exceptions of two fields -/
def mkE (f1 f2 lit : Str) : List D → List (Str × D) := fun ds => match ds with
  | [v] => [(f2, .str lit), (f1, v)]
  | _ => []
theorem mkE_ok {g : Gi} {f1 f2 lit : Str} : ∀ (F : Hp) (al : Nat → Option Addr) (ds : List D) (ws : List L2.V), Reps g F al ds ws → ds.length = 1 → RepF g F al (mkE f1 f2 lit ds) ((fun ws => match ws with
      | [v] => [(f2, .str lit), (f1, v)]
      | _ => ([] : List (Str × L2.V))) ws) := by
  intro F al ds ws r hl
  match ds, hl with
  | [d], _ =>
    obtain ⟨v, r', e1, e2, e3⟩ := r
    have e3 : r' = [] := e3
    subst e3
    subst e1
    exact ⟨.str lit, [(f1, v)], rfl, rfl, v, [], rfl, e2, rfl⟩
section
variable {P : Program} {w : World} {K : PySem.W.Frag} {mg : Str → Option Value} {base : Heap} {g : Gi}
/-- what a printed proof stands on -/
structure Gnd (PDx : PD) (ck : List (PySem.W.Frag → Bool)) (fn : List DefV) (K : PySem.W.Frag) (mg : Str → Option Value) (base : Heap) : Prop where
  S : SaysV ck fn K
  X : K.In base
  G : base.Ns mainGlobals mg
  ok : PDx.ok K = true
theorem rdy_of {f : Addr} {x : Str} {fd : FuncData} {ps : List Str} {qual : Str} {params : Arguments} {body : List Stmt} {scope : Scope} {nm : Str} {k : Nat} {F : Fn} (FD : FunD K nm qual params body scope [] [] f fd) (FG : FnG P w K mg base k f fd ps (spD g ps.length F)) (hm : mg x = some (.ref f))
    (hb : ∀ (kV doc pm : Value) (an : Option Addr) (cdv ct : Value) (us : List Value), us.length = ps.length → bindArgs (PySem.W.fnOf nm qual params body scope .none kV doc pm an cdv ct) ⟨us, []⟩ = pure (ps.zip us)) {n : Nat} (hn : n = ps.length) : Rdy P w K mg base g x k n [] F :=
  ⟨f, fd, ps, [], [], FG, hm, FD.kp, FD.bindsN hb, .nil, fun _ _ => rfl, by rw [hn]; rfl⟩
theorem FunD.fnIn {f : Addr} {fd : FuncData} {qual : Str} {params : Arguments} {body : List Stmt} {scope : Scope} {nm : Str} (FD : FunD K nm qual params body scope [] [] f fd) : PySem.W.fnIn K f = true := by
  obtain ⟨oc, od, dV, kV, doc, pm, an, cdv, ct, osl, _, lk, _⟩ := FD.ex
  unfold PySem.W.fnIn
  rw [lk]
theorem rdyM_of {f : Addr} {c : Nat} {m : Str} {fd : FuncData} {ps : List Str} {qual : Str} {params : Arguments} {body : List Stmt} {scope : Scope} {nm : Str} {k : Nat} {F : Fn} (FD : FunD K nm qual params body scope [] [] f fd) (FG : FnG P w K mg base k f fd ps (spD g ps.length F)) (hm : Meth K (g.ca c) m f) (hc : g.isC c = true)
    (hb : ∀ (kV doc pm : Value) (an : Option Addr) (cdv ct : Value) (us : List Value), us.length = ps.length → bindArgs (PySem.W.fnOf nm qual params body scope .none kV doc pm an cdv ct) ⟨us, []⟩ = pure (ps.zip us)) {n : Nat} (hn : n + 1 = ps.length) : RdyM P w K mg base g c m k n [] F :=
  ⟨⟨f, fd, ps, [], [], FG, hm, FD.bindsN hb, .nil, fun _ _ => rfl, by rw [← hn]; rfl, Vi.FunD.fnIn FD⟩, hc⟩
theorem rdyP_of {p f : Addr} {c : Nat} {m : Str} {fd : FuncData} {ps : List Str} {qual : Str} {params : Arguments} {body : List Stmt} {scope : Scope} {nm : Str} {k : Nat} {F : Fn} (FD : FunD K nm qual params body scope [] [] f fd) (FG : FnG P w K mg base k f fd ps (spD g ps.length F)) (hm : PropOf K (g.ca c) m p f) (hc : g.isC c = true)
    (hb : ∀ (kV doc pm : Value) (an : Option Addr) (cdv ct : Value) (us : List Value), us.length = ps.length → bindArgs (PySem.W.fnOf nm qual params body scope .none kV doc pm an cdv ct) ⟨us, []⟩ = pure (ps.zip us)) (hn : ps.length = 1) : RdyP P w K mg base g c m k F :=
  ⟨⟨p, f, fd, ps, FG, hm, FD.bindsN hb, hn⟩, hc⟩
theorem rdyC_of {p f : Addr} {c : Nat} {m : Str} {mc : Value} {fd : FuncData} {ps : List Str} {qual : Str} {params : Arguments} {body : List Stmt} {scope : Scope} {nm : Str} {k : Nat} {F : Fn} (FD : FunD K nm qual params body scope [] [] f fd) (FG : FnG P w K mg base k f fd ps (spD g ps.length F)) (hm : ClX.CRead K (g.ca c) mc ∧ ClX.CMet K (g.ca c) mc m p f)
    (hb : ∀ (kV doc pm : Value) (an : Option Addr) (cdv ct : Value) (us : List Value), us.length = ps.length → bindArgs (PySem.W.fnOf nm qual params body scope .none kV doc pm an cdv ct) ⟨us, []⟩ = pure (ps.zip us)) {n : Nat} (hn : n + 1 = ps.length) : RdyC P w K mg base g c m k n [] F :=
  ⟨p, f, mc, fd, ps, [], [], FG, hm.1, hm.2, FD.bindsN hb, .nil, fun _ _ => rfl, by rw [← hn]; rfl⟩
end
end Vi

set_option Elab.async false
set_option linter.all false
set_option maxRecDepth 100000
set_option maxHeartbeats 2000000
namespace Vi
open PySem L2

/-! ### reckoning with mirrors: simp goes from left to right, a continuation is not looked at before its value is there -/
def RS.seq (r : RS) (b : MS) : RS := match r with
  | .nx e h => b e h
  | r => r
@[simp] theorem mSeq_eq (a b : MS) (env : Env) (h : Hc) : mSeq a b env h = (a env h).seq b := by
  unfold mSeq RS.seq
  cases a env h <;> rfl
@[simp] theorem RS.seq_nx (e : Env) (h : Hc) (b : MS) : (RS.nx e h).seq b = b e h := rfl
@[simp] theorem RS.seq_ret (d : D) (h : Hc) (b : MS) : (RS.ret d h).seq b = .ret d h := rfl
@[simp] theorem RS.seq_brk (e : Env) (h : Hc) (b : MS) : (RS.brk e h).seq b = .brk e h := rfl
@[simp] theorem RS.seq_cnt (e : Env) (h : Hc) (b : MS) : (RS.cnt e h).seq b = .cnt e h := rfl
@[simp] theorem RS.seq_exc (e : Env) (x : D) (h : Hc) (b : MS) : (RS.exc e x h).seq b = .exc e x h := rfl
@[simp] theorem RS.seq_stuck (b : MS) : RS.stuck.seq b = .stuck := rfl
/-- what waits: it is not looked at before that for which it waits is there -/
class Kn (κ : Type) where k : κ
def ap {γ κ β : Type} (F : γ → κ → β) (r : γ) [i : Kn κ] : β := F r i.k
def RS.seqU (r : RS) (b : MS) (_ : Unit) : RS := r.seq b
@[simp ↓] theorem RS.seq_ap (r : RS) (b : MS) : r.seq b = @ap RS MS (Unit → RS) RS.seqU r ⟨b⟩ () := (rfl)
@[simp] theorem RS.seq_nx_ap (e : Env) (h : Hc) (b : MS) : @ap RS MS (Unit → RS) RS.seqU (.nx e h) ⟨b⟩ () = b e h := (rfl)
@[simp] theorem RS.seq_ret_ap (d : D) (h : Hc) (b : MS) : @ap RS MS (Unit → RS) RS.seqU (.ret d h) ⟨b⟩ () = .ret d h := (rfl)
@[simp] theorem RS.seq_brk_ap (e : Env) (h : Hc) (b : MS) : @ap RS MS (Unit → RS) RS.seqU (.brk e h) ⟨b⟩ () = .brk e h := (rfl)
@[simp] theorem RS.seq_cnt_ap (e : Env) (h : Hc) (b : MS) : @ap RS MS (Unit → RS) RS.seqU (.cnt e h) ⟨b⟩ () = .cnt e h := (rfl)
@[simp] theorem RS.seq_exc_ap (e : Env) (x : D) (h : Hc) (b : MS) : @ap RS MS (Unit → RS) RS.seqU (.exc e x h) ⟨b⟩ () = .exc e x h := (rfl)
@[simp] theorem RS.seq_stuck_ap (b : MS) : @ap RS MS (Unit → RS) RS.seqU .stuck ⟨b⟩ () = .stuck := (rfl)
@[simp] theorem R.thenS_ok {α : Type} (a : α) (h : Hc) (env : Env) (k : α → Hc → RS) : (R.ok a h).thenS env k = k a h := rfl
@[simp] theorem R.thenS_exc {α : Type} (x : D) (h : Hc) (env : Env) (k : α → Hc → RS) : (R.exc x h : R α).thenS env k = .exc env x h := rfl
@[simp] theorem R.thenS_stuck {α : Type} (env : Env) (k : α → Hc → RS) : (R.stuck : R α).thenS env k = .stuck := rfl
def R.thenU {α : Type} (r : R α) (p : Env × (α → Hc → RS)) (_ : Unit) : RS := r.thenS p.1 p.2
@[simp ↓] theorem R.thenS_ap {α : Type} (r : R α) (env : Env) (k : α → Hc → RS) : r.thenS env k = @ap (R α) (Env × (α → Hc → RS)) (Unit → RS) R.thenU r ⟨(env, k)⟩ () := (rfl)
@[simp] theorem R.thenS_ok_ap {α : Type} (a : α) (h : Hc) (env : Env) (k : α → Hc → RS) : @ap (R α) (Env × (α → Hc → RS)) (Unit → RS) R.thenU (.ok a h) ⟨(env, k)⟩ () = k a h := (rfl)
@[simp] theorem R.thenS_exc_ap {α : Type} (x : D) (h : Hc) (env : Env) (k : α → Hc → RS) : @ap (R α) (Env × (α → Hc → RS)) (Unit → RS) R.thenU (.exc x h) ⟨(env, k)⟩ () = .exc env x h := (rfl)
@[simp] theorem R.thenS_stuck_ap {α : Type} (env : Env) (k : α → Hc → RS) : @ap (R α) (Env × (α → Hc → RS)) (Unit → RS) R.thenU .stuck ⟨(env, k)⟩ () = .stuck := (rfl)
def R.bindU {α β : Type} (r : R α) (k : α → Hc → R β) (_ : Unit) : R β := r.bind k
@[simp ↓] theorem R.bind_ap {α β : Type} (r : R α) (k : α → Hc → R β) : r.bind k = @ap (R α) (α → Hc → R β) (Unit → R β) R.bindU r ⟨k⟩ () := (rfl)
@[simp] theorem R.bind_ok_ap {α β : Type} (a : α) (h : Hc) (k : α → Hc → R β) : @ap (R α) (α → Hc → R β) (Unit → R β) R.bindU (.ok a h) ⟨k⟩ () = k a h := (rfl)
@[simp] theorem R.bind_exc_ap {α β : Type} (x : D) (h : Hc) (k : α → Hc → R β) : @ap (R α) (α → Hc → R β) (Unit → R β) R.bindU (.exc x h) ⟨k⟩ () = .exc x h := (rfl)
@[simp] theorem R.bind_stuck_ap {α β : Type} (k : α → Hc → R β) : @ap (R α) (α → Hc → R β) (Unit → R β) R.bindU .stuck ⟨k⟩ () = .stuck := (rfl)
/-- a def's end -/
def RS.fin : RS → R D
  | .nx _ h => .ok .non h
  | .ret d h => .ok d h
  | .exc _ x h => .exc x h
  | _ => .stuck
theorem fnOf_eq (N n : Nat) (m : MS) (ds : List D) (h : Hc) (e : ds.length = n) : fnOf N n m ds h = (m (mkEnv N ds) h).fin := by
  unfold fnOf RS.fin
  refine (if_pos e).trans ?_
  cases m (mkEnv N ds) h <;> rfl
@[simp] theorem RS.fin_nx (e : Env) (h : Hc) : (RS.nx e h).fin = .ok .non h := rfl
@[simp] theorem RS.fin_ret (d : D) (h : Hc) : (RS.ret d h).fin = .ok d h := rfl
@[simp] theorem RS.fin_exc (e : Env) (x : D) (h : Hc) : (RS.exc e x h).fin = .exc x h := rfl
/-- a choice: the branches wait for the question -/
def pick {α : Type} (c : Bool) (a b : α) : α := if c then a else b
@[simp] theorem pick_t {α : Type} (a b : α) : pick true a b = a := rfl
@[simp] theorem pick_f {α : Type} (a b : α) : pick false a b = b := rfl
def pickU {α : Type} (c : Bool) (p : α × α) (_ : Unit) : α := pick c p.1 p.2
@[simp ↓] theorem pick_ap {α : Type} (c : Bool) (a b : α) : pick c a b = @ap Bool (α × α) (Unit → α) pickU c ⟨(a, b)⟩ () := (rfl)
@[simp] theorem pick_t_ap {α : Type} (a b : α) : @ap Bool (α × α) (Unit → α) pickU true ⟨(a, b)⟩ () = a := (rfl)
@[simp] theorem pick_f_ap {α : Type} (a b : α) : @ap Bool (α × α) (Unit → α) pickU false ⟨(a, b)⟩ () = b := (rfl)
section
variable (env : Env) (h : Hc)
@[simp] theorem mIfS_eq (c : MB) (a b : MS) : mIfS c a b env h = (c env h).thenS env fun x h1 => pick x (a env h1) (b env h1) := rfl
@[simp] theorem tAndM_eq (a b : MB) : tAndM a b env h = (a env h).bind fun x h1 => pick x (b env h1) (.ok false h1) := rfl
@[simp] theorem tOrM_eq (a b : MB) : tOrM a b env h = (a env h).bind fun x h1 => pick x (.ok true h1) (b env h1) := rfl
@[simp] theorem mIf_eq (c : MB) (a b : ME) : mIf c a b env h = (c env h).bind fun x h1 => pick x (a env h1) (b env h1) := rfl
end
@[simp] theorem mVar_d (i : Nat) (env : Env) (h : Hc) (x : D) (e : env[i]? = some (some (.d x))) : mVar i env h = .ok (.d x) h := by unfold mVar; rw [e]
@[simp] theorem mVar_o (i : Nat) (env : Env) (h : Hc) (x : List D) (e : env[i]? = some (some (.ol x))) : mVar i env h = .ok (.bl x) h := by unfold mVar; rw [e]
@[simp] theorem fEq_int (neg : Bool) (a b : Int) (h : Hc) : fEq neg (.d (.int a)) (.d (.int b)) h = .ok (.d (.bl (if neg then !decide (a = b) else decide (a = b)))) h := rfl
@[simp] theorem fLen_tup (xs : List D) (h : Hc) : fLen [.d (.tup xs)] h = .ok (.d (.int xs.length)) h := rfl
@[simp] theorem fLen_lst (xs : List D) (h : Hc) : fLen [.d (.lst xs)] h = .ok (.d (.int xs.length)) h := rfl
@[simp] theorem fIx_tup (xs : List D) (i : Int) (h : Hc) : fIx (.d (.tup xs)) (.d (.int i)) h = (match atI xs i with
  | some d => .ok (.d d) h
  | none => .stuck) := rfl
@[simp] theorem fIx_lst (xs : List D) (i : Int) (h : Hc) : fIx (.d (.lst xs)) (.d (.int i)) h = (match atI xs i with
  | some d => .ok (.d d) h
  | none => .stuck) := rfl
def RS.again (r : RS) (k : MS) : RS := match r with
  | .nx e h => k e h
  | .cnt e h => k e h
  | .brk e h => .nx e h
  | r => r
@[simp] theorem RS.again_nx (e : Env) (h : Hc) (k : MS) : (RS.nx e h).again k = k e h := rfl
@[simp] theorem RS.again_cnt (e : Env) (h : Hc) (k : MS) : (RS.cnt e h).again k = k e h := rfl
@[simp] theorem RS.again_brk (e : Env) (h : Hc) (k : MS) : (RS.brk e h).again k = .nx e h := rfl
@[simp] theorem RS.again_ret (d : D) (h : Hc) (k : MS) : (RS.ret d h).again k = .ret d h := rfl
@[simp] theorem RS.again_exc (e : Env) (x : D) (h : Hc) (k : MS) : (RS.exc e x h).again k = .exc e x h := rfl
def RS.againU (r : RS) (k : MS) (_ : Unit) : RS := r.again k
@[simp ↓] theorem RS.again_ap (r : RS) (k : MS) : r.again k = @ap RS MS (Unit → RS) RS.againU r ⟨k⟩ () := (rfl)
@[simp] theorem RS.again_nx_ap (e : Env) (h : Hc) (k : MS) : @ap RS MS (Unit → RS) RS.againU (.nx e h) ⟨k⟩ () = k e h := (rfl)
@[simp] theorem RS.again_cnt_ap (e : Env) (h : Hc) (k : MS) : @ap RS MS (Unit → RS) RS.againU (.cnt e h) ⟨k⟩ () = k e h := (rfl)
@[simp] theorem RS.again_brk_ap (e : Env) (h : Hc) (k : MS) : @ap RS MS (Unit → RS) RS.againU (.brk e h) ⟨k⟩ () = .nx e h := (rfl)
@[simp] theorem RS.again_ret_ap (d : D) (h : Hc) (k : MS) : @ap RS MS (Unit → RS) RS.againU (.ret d h) ⟨k⟩ () = .ret d h := (rfl)
@[simp] theorem RS.again_exc_ap (e : Env) (x : D) (h : Hc) (k : MS) : @ap RS MS (Unit → RS) RS.againU (.exc e x h) ⟨k⟩ () = .exc e x h := (rfl)
theorem mWhile_succ (n : Nat) (c : MB) (b : MS) (env : Env) (h : Hc) : mWhile (n + 1) c b env h = (c env h).thenS env fun x h1 => pick x ((b env h1).again (mWhile n c b)) (.nx env h1) := by
  show (c env h).thenS env _ = _
  congr 1
  funext x h1
  cases x with
  | false => rfl
  | true =>
    show (match b env h1 with
      | .nx e h2 => mWhile n c b e h2
      | .cnt e h2 => mWhile n c b e h2
      | .brk e h2 => .nx e h2
      | .ret d h2 => .ret d h2
      | .exc e x h2 => .exc e x h2
      | .stuck => .stuck) = (b env h1).again _
    cases b env h1 <;> rfl
/-- a for loop's turn -/
theorem forL_cons (T : TgF) (b : MS) (x : D) (r : List D) (env : Env) (h : Hc) : forL T b (x :: r) env h = (match T x env with
    | none => .stuck
    | some env1 => (b env1 h).again (forL T b r)) := by
  show (match T x env with
    | none => RS.stuck
    | some env1 => (match b env1 h with
      | .nx e h2 => forL T b r e h2
      | .cnt e h2 => forL T b r e h2
      | .brk e h2 => .nx e h2
      | .ret d h2 => .ret d h2
      | .exc e x h2 => .exc e x h2
      | .stuck => .stuck)) = _
  cases T x env with
  | none => rfl
  | some env1 =>
    dsimp only
    cases b env1 h <;> rfl
theorem forL_nil (T : TgF) (b : MS) (env : Env) (h : Hc) : forL T b [] env h = .nx env h := rfl
@[simp] theorem fAdd_int (o : Bool) (a b : Int) (h : Hc) : fAdd o (.d (.int a)) (.d (.int b)) h = .ok (.d (.int (a + b))) h := rfl
@[simp] theorem fSum_kl (xs : List D) (h : Hc) : fSum [.d (.kl xs)] h = (match ints? xs with
      | some ns => .ok (.d (.int ns.sum)) h
      | none => .stuck) := rfl
@[simp] theorem fList_kl (o : Bool) (xs : List D) (h : Hc) : fList o [.d (.kl xs)] h = .ok (Vl.ofL o xs) h := rfl
@[simp] theorem ints_map : ∀ ns : List Int, ints? (ns.map D.int) = some ns
  | [] => rfl
  | n :: r => by
    show (ints? (r.map D.int)).map (n :: ·) = _
    rw [ints_map r]
    rfl
end Vi

set_option Elab.async false
set_option linter.all false
set_option maxRecDepth 100000
set_option maxHeartbeats 2000000
namespace Vi
open PySem L2

/-! ### in, not in -/
/-- flat data -/
def vOf : D → Option V
  | .non => some .non
  | .bl b => some (.bl b)
  | .int i => some (.int i)
  | .str x => some (.str x)
  | _ => none
def vOfs : List D → Option (List V)
  | [] => some []
  | x :: r => match vOf x, vOfs r with
    | some v, some vs => some (v :: vs)
    | _, _ => none
theorem vOf_rep {g : Gi} {F : Hp} {al : Nat → Option Addr} {d : D} {v u : V} (r : Rep g F al d v) (e : vOf d = some u) : v = u ∧ flatV u = true := by
  cases d <;> cases e <;> exact ⟨r, rfl⟩
theorem vOfs_reps {g : Gi} {F : Hp} {al : Nat → Option Addr} : ∀ {ds : List D} {vs us : List V}, Reps g F al ds vs → vOfs ds = some us → vs = us ∧ us.all flatV = true
  | [], vs, us, r, e => by
    cases e
    exact ⟨r, rfl⟩
  | d :: ds, vs, us, r, e => by
    obtain ⟨v, ws, rfl, r1, r2⟩ := r
    unfold vOfs at e
    split at e
    · next u us' e1 e2 =>
      cases e
      obtain ⟨rfl, f1⟩ := vOf_rep r1 e1
      obtain ⟨rfl, f2⟩ := vOfs_reps r2 e2
      exact ⟨rfl, by rw [List.all_cons, f1, f2]; rfl⟩
    · cases e
/-- i is a part of the text j -/
def hasSub (j i : PySem.Str) : Bool := !(Builtin.Str.occurrences j i 0 j.length 1).isEmpty
def seq? (h : Hc) (x : Vl) : Option (List D) := match lst? h x with
  | some xs => some xs
  | none => tup? x
def nB (neg b : Bool) : D := .bl (if neg then !b else b)
def fInS (neg : Bool) (x y : Vl) (h : Hc) : R Vl := match x, seq? h y with
  | .d d, some ys => (match vOf d, vOfs ys with
    | some u, some us => .ok (.d (nB neg (inV u us))) h
    | _, _ => (match x.dat?, y.dat? with
      | some d, some (.lst ds) => if shp d && shp (.lst ds) then .ok (.d (nB neg (ds.any fun z => eqD z d))) h else .stuck
      | _, _ => .stuck))
  | _, _ => .stuck
def fIn (neg : Bool) (x y : Vl) (h : Hc) : R Vl := match x, y with
  | .d (.str a), .d (.str b) => .ok (.d (nB neg (hasSub b a))) h
  | x, y => fInS neg x y h
theorem VlRep.seq {g : Gi} {B : Bg} {env : Env} {s : Sta} {σ : L2.St} {H : Hp} {x : Vl} {v : V} {xs : List D} (gd : Good g s H) (h : VlRep g B env σ s H x v) (e : seq? s.h x = some xs) : ∃ a vs, v = .ref a ∧ (SqL g.K H a vs ∨ SqT g.K H a vs) ∧ Reps g s.F s.al xs vs := by
  unfold seq? at e
  split at e
  · next ys e1 =>
    cases e
    obtain ⟨a, vs, h1, h2, h3⟩ := h.lst gd e1
    exact ⟨a, vs, h1, .inl h2, h3⟩
  · obtain ⟨a, vs, h1, h2, h3⟩ := h.tup gd e
    exact ⟨a, vs, h1, .inr h2, h3⟩
theorem toPs_map : ∀ ds : List D, toPs ds = ds.map toP
  | [] => by simp [toPs]
  | d :: ds => by simp [toPs, toPs_map ds]
theorem any_eqD (ds : List D) (d : D) : ((toPs ds).any fun z => PyData.eqv z (toP d)) = ds.any fun z => eqD z d := by
  rw [toPs_map, List.any_map]
  rfl
section
variable {X : Cx} {g : Gi}
theorem o_in (hK : g.K = X.K) (hu : X.A.units + 65 < cLine) : OpV X g (compareOp .In) (fIn false) := by
  refine ⟨_, OpR.or (OpR.or op_in_str op_in_seq) (op_inD hu), fun B W env s σ H x y v w Q sr r1 r2 p => ?_⟩
  unfold fIn at p
  split at p
  · next a b =>
    obtain rfl : v = .str a := r1
    obtain rfl : w = .str b := r2
    exact .inl (.inl ⟨a, b, rfl, rfl, PostE.pure sr p rfl⟩)
  · unfold fInS at p
    split at p
    · next d ys e1 _ =>
      split at p
      · next u us e2 e3 =>
        obtain ⟨a, vs, rfl, h1, h2⟩ := r2.seq sr.good e1
        obtain ⟨rfl, f1⟩ := vOf_rep r1 e2
        obtain ⟨rfl, f2⟩ := vOfs_reps h2 e3
        exact .inl (.inr ⟨a, _, rfl, hK ▸ h1, f1, f2, PostE.pure sr p rfl⟩)
      · split at p
        · next d' ds e4 e5 =>
          split at p
          · next hs =>
            obtain ⟨h1, h2⟩ := Bool.and_eq_true_iff.mp hs
            refine .inr ⟨_, toPs ds, hK ▸ r1.dp' sr.good e4, ?_, h1, ?_, ?_⟩
            · have q := r2.dp' sr.good e5
              simp only [toP] at q
              exact hK ▸ q
            · unfold shp at h2
              simp only [toP] at h2
              exact h2
            · rw [any_eqD]
              exact PostE.pure sr p rfl
          · exact p.elim
        · exact p.elim
    · exact p.elim
theorem o_nin (hK : g.K = X.K) (hu : X.A.units + 65 < cLine) : OpV X g (compareOp .NotIn) (fIn true) := by
  refine ⟨_, OpR.or (OpR.or op_notin_str op_notIn_seq) (op_notInD hu), fun B W env s σ H x y v w Q sr r1 r2 p => ?_⟩
  unfold fIn at p
  split at p
  · next a b =>
    obtain rfl : v = .str a := r1
    obtain rfl : w = .str b := r2
    exact .inl (.inl ⟨a, b, rfl, rfl, PostE.pure sr p rfl⟩)
  · unfold fInS at p
    split at p
    · next d ys e1 _ =>
      split at p
      · next u us e2 e3 =>
        obtain ⟨a, vs, rfl, h1, h2⟩ := r2.seq sr.good e1
        obtain ⟨rfl, f1⟩ := vOf_rep r1 e2
        obtain ⟨rfl, f2⟩ := vOfs_reps h2 e3
        exact .inl (.inr ⟨a, _, rfl, hK ▸ h1, f1, f2, PostE.pure sr p rfl⟩)
      · split at p
        · next d' ds e4 e5 =>
          split at p
          · next hs =>
            obtain ⟨h1, h2⟩ := Bool.and_eq_true_iff.mp hs
            refine .inr ⟨_, toPs ds, hK ▸ r1.dp' sr.good e4, ?_, h1, ?_, ?_⟩
            · have q := r2.dp' sr.good e5
              simp only [toP] at q
              exact hK ▸ q
            · unfold shp at h2
              simp only [toP] at h2
              exact h2
            · rw [any_eqD]
              exact PostE.pure sr p rfl
          · exact p.elim
        · exact p.elim
    · exact p.elim

/-! ### is None -/
def fIsN (neg : Bool) (x y : Vl) (h : Hc) : R Vl := match y with
  | .d .non => (match x with
    | .d .non => .ok (.d (nB neg true)) h
    | .d (.cls _) => .stuck
    | _ => .ok (.d (nB neg false)) h)
  | _ => .stuck
theorem isN_val {g : Gi} {B : Bg} {env : Env} {s : Sta} {σ : L2.St} {H : Hp} {x : Vl} {v : V} (r : VlRep g B env σ s H x v) (n : x ≠ .d .non) : v ≠ .non := by
  intro e
  subst e
  cases x with
  | d d =>
    cases d with
    | non => exact n rfl
    | bl _ => cases r
    | int _ => cases r
    | str _ => cases r
    | tup _ => obtain ⟨_, _, h, _⟩ := r; cases h
    | xtup _ => obtain ⟨_, _, _, h, _⟩ := r; cases h
    | lst _ => obtain ⟨_, _, h, _⟩ := r; cases h
    | kl _ => obtain ⟨_, _, h, _⟩ := r; cases h
    | ref _ => obtain ⟨_, h, _⟩ := r; cases h
    | obj _ _ => obtain ⟨_, _, _, h, _⟩ := r; cases h
    | cls _ => cases r
    | dK _ => obtain ⟨_, _, h, _⟩ := r; cases h
    | dT _ => obtain ⟨_, _, h, _⟩ := r; cases h
  | tl _ => obtain ⟨_, _, h, _⟩ := r; cases h
  | bl _ => obtain ⟨_, _, h, _⟩ := r; cases h
  | bi _ _ => obtain ⟨_, _, _, h, _⟩ := r; cases h
theorem o_is : OpV X g (compareOp .Is) (fIsN false) := by
  refine ⟨_, op_isN, fun B W env s σ H x y v w Q sr r1 r2 p => ?_⟩
  unfold fIsN at p
  split at p
  · obtain rfl : w = .non := r2
    split at p
    · obtain rfl : v = .non := r1
      exact ⟨rfl, PostE.pure sr p rfl⟩
    · exact p.elim
    · next n1 n2 =>
      have := isN_val r1 n1
      refine ⟨rfl, ?_⟩
      rw [decide_eq_false this]
      exact PostE.pure sr p rfl
  · exact p.elim
theorem o_isnot : OpV X g (compareOp .IsNot) (fIsN true) := by
  refine ⟨_, op_notN, fun B W env s σ H x y v w Q sr r1 r2 p => ?_⟩
  unfold fIsN at p
  split at p
  · obtain rfl : w = .non := r2
    split at p
    · obtain rfl : v = .non := r1
      exact ⟨rfl, PostE.pure sr p rfl⟩
    · exact p.elim
    · next n1 n2 =>
      have := isN_val r1 n1
      refine ⟨rfl, ?_⟩
      rw [decide_eq_false this]
      exact PostE.pure sr p rfl
  · exact p.elim

/-! ### all, any of a list of truths -/
def bools? : List D → Option (List Bool)
  | [] => some []
  | .bl b :: r => (bools? r).map (b :: ·)
  | _ => none
theorem Reps.bools {F : Hp} {al : Nat → Option Addr} : ∀ (ds : List D) {vs : List V} {bs : List Bool}, Reps g F al ds vs → bools? ds = some bs → vs = bs.map V.bl
  | [], vs, bs, r, e => by
    cases e
    exact r
  | d :: ds, vs, bs, r, e => by
    obtain ⟨v, ws, rfl, r1, r2⟩ := r
    cases d with
    | bl b =>
      unfold bools? at e
      cases e2 : bools? ds with
      | none => rw [e2] at e; cases e
      | some bs' =>
        rw [e2] at e
        cases e
        rw [Reps.bools ds r2 e2]
        obtain rfl : v = .bl b := r1
        rfl
    | _ => cases e
def fAll (any : Bool) (xs : List Vl) (h : Hc) : R Vl := match xs with
  | [x] => (match lst? h x with
    | some ys => (match bools? ys with
      | some bs => .ok (.d (.bl (if any then bs.any id else bs.all id))) h
      | none => .stuck)
    | none => .stuck)
  | _ => .stuck
theorem c_all (hK : g.K = X.K) (hc : X.calm = true) : CallV X g (.builtin "all") (fAll false) := by
  refine ⟨_, cr_all hc, fun B W env s σ H xs vs Q sr r p => ?_⟩
  unfold fAll at p
  split at p
  · obtain ⟨v, rfl, rr⟩ := r.one
    split at p
    · next ys e1 =>
      split at p
      · next bs e2 =>
        obtain ⟨a1, ws, rfl, h1, q1⟩ := rr.lst sr.good e1
        have e3 := Reps.bools _ q1 e2
        subst e3
        exact ⟨a1, bs, rfl, hK ▸ h1, PostE.pure sr p rfl⟩
      · exact p.elim
    · exact p.elim
  · exact p.elim
theorem c_any (hK : g.K = X.K) (hc : X.calm = true) : CallV X g (.builtin "any") (fAll true) := by
  refine ⟨_, cr_any hc, fun B W env s σ H xs vs Q sr r p => ?_⟩
  unfold fAll at p
  split at p
  · obtain ⟨v, rfl, rr⟩ := r.one
    split at p
    · next ys e1 =>
      split at p
      · next bs e2 =>
        obtain ⟨a1, ws, rfl, h1, q1⟩ := rr.lst sr.good e1
        have e3 := Reps.bools _ q1 e2
        subst e3
        exact ⟨a1, bs, rfl, hK ▸ h1, PostE.pure sr p rfl⟩
      · exact p.elim
    · exact p.elim
  · exact p.elim
end
end Vi

set_option Elab.async false
set_option linter.all false
set_option maxRecDepth 100000
set_option maxHeartbeats 2000000
namespace Vi
open PySem L2 PyProof.Rows

/-! ### slices -/
abbrev MO := Env → Hc → R (Option Int)
@[simp] def moN : MO := fun _ h => .ok none h
@[simp] def moS (m : ME) : MO := fun env h => (m env h).bind fun x h1 => match x with
  | .d (.int i) => .ok (some i) h1
  | _ => .stuck
def cutL {α : Type} (xs : List α) (lo hi : Option Int) : List α := (xs.drop (HT.sIx xs.length 0 lo)).take (HT.sIx xs.length xs.length hi - HT.sIx xs.length 0 lo)
def fSl (o : Bool) (x : Vl) (lo hi : Option Int) (h : Hc) : R Vl := match lst? h x with
  | some xs => .ok (Vl.ofL o (cutL xs lo hi)) h
  | none => (match tup? x with
    | some xs => .ok (.d (.tup (cutL xs lo hi))) h
    | none => (match x with
      | .d (.str z) => if z.length ≤ 100000 then .ok (.d (.str (Txt.slice z lo hi))) h else .stuck
      | _ => .stuck))
@[simp] def mSl (o : Bool) (m : ME) (lo hi : MO) : ME := fun env h => (m env h).bind fun x h1 => (lo env h1).bind fun l h2 => (hi env h2).bind fun u h3 => fSl o x l u h3
section
variable (g : Gi) (B : Bg) (W : WXv) (env : Env) (s : Sta) (σ : L2.St) (H : Hp)
def PostO : R (Option Int) → (Option Int → Hp → Prop) → Prop
  | .ok i h, Q => ∀ (H' : Hp) (s' : Sta), s'.h = h → Evo s H s' H' → SR g B env s' σ H' → Q i H'
  | .exc x h, _ => PostX g B W env s σ H x h
  | .stuck, _ => False
end
def tP (g : Gi) (B : Bg) (W : WXv) (m : MO) : TO := fun σ H Q => ∃ env s, SR g B env s σ H ∧ PostO g B W env s σ H (m env s.h) Q
section
variable {X : Cx} {g : Gi} {B : Bg} {W : WXv} {pos p2 : Pos} {e e1 e2 : Expr} {m ma mb : ME} {lo hi : Option Expr} {ml mh : MO}
theorem vo_none : PO X none (tP g B W moN) := ⟨fun pins s σ H Q I h => by
  obtain ⟨env, st, sr, p⟩ := h
  exact po_none.run pins s σ H Q I (p H st rfl (Evo.refl st H) sr)⟩
theorem po_imp {X : Cx} {e : Option Expr} {t t' : TO} (h : PO X e t) (i : ∀ σ H Q, t' σ H Q → t σ H Q) : PO X e t' := ⟨fun pins s σ H Q I q => h.run pins s σ H Q I (i σ H Q q)⟩
theorem vo_some (h : PE X e (tE g B W m)) : PO X (some e) (tP g B W (moS m)) := by
  refine po_imp (po_some h) fun σ H Q ⟨env, s, sr, p⟩ => ?_
  refine ⟨env, s, sr, ?_⟩
  unfold moS at p
  cases e1 : m env s.h with
  | ok x h1 =>
    rw [e1] at p
    intro v H1 s1 q1 ev1 sr1 r1
    cases x with
    | d d =>
      cases d with
      | int i => exact ⟨i, r1, p H1 s1 q1 ev1 sr1⟩
      | _ => exact p.elim
    | _ => exact p.elim
  | exc x h => rw [e1] at p; exact p
  | stuck => rw [e1] at p; exact p
theorem bindO {f : Vl → Option Int → Option Int → Hc → R Vl} {env : Env} {s : Sta} {σ : L2.St} {H : Hp} {Q : VK} (sr : SR g B env s σ H) (p : PostE g B W env s σ H ((m env s.h).bind fun x h1 => (ml env h1).bind fun l h2 => (mh env h2).bind fun u h3 => f x l u h3) Q) :
    tE g B W m σ H fun v H1 => tP g B W ml σ H1 fun l H2 => tP g B W mh σ H2 fun u H3 => ∃ s3 x, SR g B env s3 σ H3 ∧ Evo s H s3 H3 ∧ VlRep g B env σ s3 H3 x v ∧ PostE g B W env s3 σ H3 (f x l u s3.h) Q := by
  refine ⟨env, s, sr, ?_⟩
  cases e1 : m env s.h with
  | ok x h1 =>
    rw [e1] at p
    intro v H1 s1 q1 ev1 sr1 r1
    refine ⟨env, s1, sr1, ?_⟩
    rw [q1]
    have p : PostE g B W env s σ H ((ml env h1).bind fun l h2 => (mh env h2).bind fun u h3 => f x l u h3) Q := p
    cases e2 : ml env h1 with
    | ok l h2 =>
      rw [e2] at p
      intro H2 s2 q2 ev2 sr2
      refine ⟨env, s2, sr2, ?_⟩
      rw [q2]
      have p : PostE g B W env s σ H ((mh env h2).bind fun u h3 => f x l u h3) Q := p
      cases e3 : mh env h2 with
      | ok u h3 =>
        rw [e3] at p
        intro H3 s3 q3 ev3 sr3
        refine ⟨s3, x, sr3, (ev1.trans ev2).trans ev3, (r1.evo ev2).evo ev3, ?_⟩
        rw [q3]
        exact PostE.later ((ev1.trans ev2).trans ev3) p
      | exc y h =>
        rw [e3] at p
        intro cls dd H3 s3 q3 ev3 sr3 xr
        exact p cls dd H3 s3 q3 ((ev1.trans ev2).trans ev3) sr3 xr
      | stuck => rw [e3] at p; exact p
    | exc y h =>
      rw [e2] at p
      intro cls dd H2 s2 q2 ev2 sr2 xr
      exact p cls dd H2 s2 q2 (ev1.trans ev2) sr2 xr
    | stuck => rw [e2] at p; exact p
  | exc y h => rw [e1] at p; exact p
  | stuck => rw [e1] at p; exact p
theorem cutL_whole {α : Type} {xs : List α} {lo hi : Option Int} (h : HT.sIx xs.length 0 lo = 0 ∧ HT.sIx xs.length xs.length hi = xs.length) : cutL xs lo hi = xs := by
  unfold cutL
  rw [h.1, h.2, List.drop_zero]
  exact List.take_of_length_le (by omega)
theorem ve_slice (o : Bool) (hK : g.K = X.K) (he : PE X e (tE g B W m)) (hl : PO X lo (tP g B W ml)) (hh : PO X hi (tP g B W mh)) : PE X (.Subscript e (.Slice lo hi none p2) pos) (tE g B W (mSl o m ml mh)) := by
  refine pe_imp (pe_slice (SlR.or (SlR.or sl_list sl_tupA) C8.sl_txt) he hl hh) fun σ H Q ⟨env, s, sr, p⟩ => ?_
  refine (bindO sr p).mono fun v H1 q1 => ?_
  obtain ⟨env1, s1, sr1, q1⟩ := q1
  refine ⟨env1, s1, sr1, ?_⟩
  revert q1
  cases ml env1 s1.h with
  | exc x h => exact fun q => q
  | stuck => exact fun q => q
  | ok l h =>
    intro q1 H2 s2 e2 ev2 sr2
    obtain ⟨env3, s3, sr3, q3⟩ := q1 H2 s2 e2 ev2 sr2
    refine ⟨env3, s3, sr3, ?_⟩
    revert q3
    cases mh env3 s3.h with
    | exc x h => exact fun q => q
    | stuck => exact fun q => q
    | ok u h =>
      intro q3 H4 s4 e4 ev4 sr4
      obtain ⟨s5, x, sr5, ev5, r5, p5⟩ := q3 H4 s4 e4 ev4 sr4
      unfold fSl at p5
      split at p5
      · next xs ex =>
        obtain ⟨a, vs, rfl, h1, h2⟩ := r5.lst sr5.good ex
        refine .inl (.inl ⟨a, vs, rfl, hK ▸ h1, fun q hq => ?_⟩)
        have hc : Reps g s5.F s5.al (cutL xs l u) (cutV vs l u) := by
          unfold cutL cutV
          rw [h2.length]
          exact (h2.drop _).take _
        exact PostE.newLO sr5 p5 hc hq
      · split at p5
        · next xs ex =>
          obtain ⟨a, vs, rfl, h1, h2⟩ := r5.tup sr5.good ex
          have hc : Reps g s5.F s5.al (cutL xs l u) (cutV vs l u) := by
            unfold cutL cutV
            rw [h2.length]
            exact (h2.drop _).take _
          refine .inl (.inr ⟨a, vs, rfl, hK ▸ h1, fun hw => ?_, fun hw q hq => PostE.newT sr5 p5 hc hq⟩)
          rw [h2.length] at hw
          rw [cutL_whole hw] at p5
          obtain rfl := tup?_eq ex
          exact PostE.pure sr5 p5 r5
        · split at p5
          · next z _ _ =>
            split at p5
            · next hz => exact .inr ⟨z, r5, size_of hz, PostE.pure sr5 p5 rfl⟩
            · exact p5.elim
          · exact p5.elim
/-! ### xs[::-1] -/
def rRevL (K : PySem.W.Frag) : V → Hp → VK → Prop := fun x H Q => ∃ a xs, x = .ref a ∧ SqL K H a xs ∧ ∀ p, H p = none → Q (.ref p) (upd H p (.lst xs.reverse))
theorem pe_revsl {te : TE} {j} {p3 p4 : Pos} (he : PE X e te) :
    PE X (.Subscript e (.Slice none none (some (.UnaryOp .USub (.Constant (.int 1) j p3) p4)) p2) pos) (fun σ H Q => te σ H fun x H1 => rRevL X.K x H1 Q) := by
  refine ⟨fun pins s σ H Q I h => ?_⟩
  refine Subscript_ (thn (he.run pins s σ H _ I h) fun v s1 ⟨x, H1, I1, r1, q1⟩ => ?_)
  obtain ⟨a, xs, rfl, hx, q⟩ := q1
  have hk : PE X (.UnaryOp .USub (.Constant (.int 1) j p3) p4) (fun σ H Q => Q (.int (-1)) H) := pe_imp (pe_un un_neg pe_int) fun σ H Q h => ⟨1, rfl, h⟩
  have hpart : PO X (some (.UnaryOp .USub (.Constant (.int 1) j p3) p4)) (fun σ H Q => Q (some (-1)) H) := po_imp (po_some hk) fun σ H Q h => ⟨-1, rfl, h⟩
  refine wpAny_Slice (thn (po_none.run pins s1 σ H1 (fun l H' => l = none ∧ H' = H1) I1 ⟨rfl, rfl⟩) fun vl s2 ⟨l, H2, I2, pl, el, e2⟩ => thn (po_none.run pins s2 σ H2 (fun l H' => l = none ∧ H' = H1) I2 ⟨rfl, e2⟩) fun vu s3 ⟨u, H3, I3, pu, eu, e3⟩ => thn (hpart.run pins s3 σ H3 (fun l H' => l = some (-1) ∧ H' = H1) I3 ⟨rfl, e3⟩) fun vk s4 ⟨w, H4, I4, pk, ew, e4⟩ => ?_)
  subst el eu ew e4
  have I5 : Inv X pins σ H4 { s4 with heap := s4.heap.push { cls := .type "slice", data := .fields #[vl, vu, vk] } } := I4.kept (t' := s4.toks) fun b ob q => Heap.get?_push_of_some _ q
  cases r1
  obtain ⟨its, r, ht, hz⟩ := I5.list hx
  have hlen := r.length
  show wpAny (model X.prog X.w) X.A (subscriptTail e (.Slice none none (some (.UnaryOp .USub (.Constant (.int 1) j p3) p4)) p2) (.ref a) (.ref s4.heap.objs.size)) (EP X pins σ Q) X.xe { s4 with heap := s4.heap.push { cls := .type "slice", data := .fields #[vl, vu, vk] } }
  refine tail_any (ops := [.ref a, .ref s4.heap.objs.size]) ht.isList.typeIs slot_list_getitem.lookup ?_ (by with_unfolding_all rfl)
  refine wpAny_getItem_list_slice ht.isList (Heap.IsSliceOf.new ..) pl pu pk (by simp) ?_ (by rw [List.size_toArray] <;> omega)
  rw [PySem.W.krv_pick]
  refine ⟨.ref _, _, I5.laid (t' := s4.toks) (o := .lst xs.reverse) (fun b ob q => Heap.get?_push_of_some _ q) (Nat.le_refl _) ?_, rfl, q _ (I5.hok.fresh (Nat.le_refl _))⟩
  exact ⟨by rw [List.length_reverse]; exact hz, _, 0, Vals.reverse r, Heap.get?_push_size _ rfl⟩
def fRev (o : Bool) (x : Vl) (h : Hc) : R Vl := match lst? h x with
  | some xs => .ok (Vl.ofL o xs.reverse) h
  | none => .stuck
theorem Reps.reverse {F : Hp} {al : Nat → Option Addr} : ∀ {ds : List D} {vs : List V}, Reps g F al ds vs → Reps g F al ds.reverse vs.reverse
  | [], vs, r => by
    cases r
    rfl
  | d :: ds, vs, r => by
    obtain ⟨v, ws, rfl, r1, r2⟩ := r
    rw [List.reverse_cons, List.reverse_cons]
    exact (Reps.reverse r2).append (Reps.cons r1 Reps.nil)
theorem ve_revsl (o : Bool) {j} {p3 p4 : Pos} (hK : g.K = X.K) (he : PE X e (tE g B W m)) : PE X (.Subscript e (.Slice none none (some (.UnaryOp .USub (.Constant (.int 1) j p3) p4)) p2) pos) (tE g B W (m1 (fRev o) m)) := by
  refine pe_imp (pe_revsl he) fun σ H Q ⟨env, s, sr, p⟩ => ?_
  refine (bindE (Q := Q) sr p).mono fun v H1 ⟨s1, x, sr1, _, r1, p1⟩ => ?_
  unfold fRev at p1
  split at p1
  · next xs ex =>
    obtain ⟨a, vs, rfl, h1, h2⟩ := r1.lst sr1.good ex
    exact ⟨a, vs, rfl, hK ▸ h1, fun q hq => PostE.newLO sr1 p1 h2.reverse hq⟩
  · exact p1.elim
end
end Vi

set_option Elab.async false
set_option linter.all false
set_option maxRecDepth 100000
set_option maxHeartbeats 2000000
namespace Vi
open PySem L2 PyProof.Rows

/-! ### a new cell -/
section
variable {g : Gi} {B : Bg} {W : WXv} {env : Env} {s : Sta} {σ : L2.St} {H : Hp}
theorem SR.addC {p : Addr} {o : HO} {c : Cell} (sr : SR g B env s σ H) (hp : H p = none) (hc : CellRep g s (upd H p o) p c) (nf : ∀ c0, c ≠ .frz c0) :
    SR g B env (s.addC p c) σ (upd H p o) ∧ Evo s H (s.addC p c) (upd H p o) := by
  obtain ⟨sr1, ev1⟩ := sr.new (o := o) hp
  have ow := sr.own_new hp
  have le := addC_le (a := p) (c := c) sr.good
  have gd := addC_goodC sr1.good hc ⟨o, upd_same⟩ ow.f ow.al nf
  refine ⟨⟨gd, addC_evo sr1.good sr1.evo ow.new, sr.len, fun i sl h => ?_, sr.sep⟩, addC_evo sr1.good ev1 hp⟩
  obtain ⟨v, h1, h2⟩ := sr.slot i sl h
  refine ⟨v, h1, ?_⟩
  have al' : ∀ {a : Addr} {u : HO}, H a = some u → (∀ n, s.al n ≠ some a) → ∀ n, (s.addC p c).al n ≠ some a := fun {a u} ha hn n z => by
    have z : (if n = s.h.length then some p else s.al n) = some a := z
    by_cases e : n = s.h.length
    · rw [if_pos e] at z
      cases z
      rw [hp] at ha
      cases ha
    · rw [if_neg e] at z
      exact hn n z
  cases sl with
  | d x => exact h2.mono le.f le.al
  | ol xs =>
    obtain ⟨a, vs, rfl, h3, h4, h5⟩ := h2
    exact ⟨a, vs, rfl, by rw [upd_ne (ne_of_none h3 hp)]; exact h3, ⟨h4.f, al' h3 h4.al, h4.new⟩, h5.mono le.f le.al⟩
  | oi c' fs =>
    obtain ⟨a, dx, vs, rfl, h3, h4, h5, h6⟩ := h2
    exact ⟨a, dx, vs, rfl, by rw [upd_ne (ne_of_none h3 hp)]; exact h3, ⟨h4.f, al' h3 h4.al, h4.new⟩, h5.mono le.f le.al, h6⟩
  | xc c' fs =>
    obtain ⟨h3, h4, vs, h5, h6, h7⟩ := h2
    exact ⟨h3, h4, vs, by rw [upd_ne (ne_of_none h5 hp)]; exact h5, al' h5 h6, h7.mono le.f le.al⟩
theorem PostE.newC {c : Cell} {o : HO} {p : Addr} {Q : VK} (sr : SR g B env s σ H) (h : PostE g B W env s σ H (.ok (.d (.ref s.h.length)) (s.h ++ [c])) Q) (hp : H p = none) (hc : CellRep g s (upd H p o) p c) (nf : ∀ c0, c ≠ .frz c0) : Q (.ref p) (upd H p o) := by
  obtain ⟨sr1, ev⟩ := sr.addC hp hc nf
  exact h _ _ _ rfl ev sr1 ⟨p, rfl, if_pos rfl⟩
end

/-! ### {} -/
@[simp] def mNewT : ME := fun _ h => .ok (.d (.ref h.length)) (h ++ [.dT []])
@[simp] def mNewK : ME := fun _ h => .ok (.d (.ref h.length)) (h ++ [.dK []])
section
variable {X : Cx} {g : Gi} {B : Bg} {W : WXv} {pos : Pos}
theorem ve_newT : PE X (.Dict [] [] pos) (tE g B W mNewT) :=
  pe_imp pe_dnewT fun σ H Q ⟨env, s, sr, p⟩ q hq => PostE.newC sr p hq ⟨[], upd_same, rfl⟩ fun _ z => by cases z
theorem ve_newK : PE X (.Dict [] [] pos) (tE g B W mNewK) :=
  pe_imp pe_dnewK fun σ H Q ⟨env, s, sr, p⟩ q hq => PostE.newC sr p hq ⟨[], upd_same, rfl⟩ fun _ z => by cases z
end

/-! ### what a dict tells -/
inductive DV where
  | k (kvs : List (Key × D)) | t (kvs : List (List Key × D))
def dv? (x : Vl) (h : Hc) : Option DV := match x with
  | .d (.dK kvs) => some (.k kvs)
  | .d (.dT kvs) => some (.t kvs)
  | .d (.ref n) => (match h[n]?.map Cell.bare with
    | some (.dK kvs) => some (.k kvs)
    | some (.dT kvs) => some (.t kvs)
    | _ => none)
  | _ => none
def key? : D → Option Key
  | .int i => some (.inl i)
  | .str x => some (.inr x)
  | _ => none
def keys? : List D → Option (List Key)
  | [] => some []
  | x :: r => match key? x, keys? r with
    | some k, some ks => some (k :: ks)
    | _, _ => none
section
variable {κ : Type} [DecidableEq κ]
/-- what stands at a key -/
def getD' : List (κ × D) → κ → Option D
  | [], _ => none
  | (k, d) :: r, q => if k = q then some d else getD' r q
def putD' (kvs : List (κ × D)) (q : κ) (d : D) : List (κ × D) := match getD' kvs q with
  | some _ => kvs.map fun kv => if kv.1 = q then (kv.1, d) else kv
  | none => kvs ++ [(q, d)]
end
section
variable {g : Gi} {F : Hp} {al : Nat → Option Addr}
theorem RepK.get : ∀ {kvs : List (Key × D)} {vs : List (Key × V)} (q : Key), RepK g F al kvs vs → (match getD' kvs q with
    | some d => ∃ v, valV vs q = some v ∧ Rep g F al d v
    | none => valV vs q = none)
  | [], vs, q, r => by
    cases r
    rfl
  | (k, d) :: kvs, vs, q, r => by
    obtain ⟨v, ws, rfl, r1, r2⟩ := r
    unfold getD'
    by_cases e : k = q
    · rw [if_pos e]
      exact ⟨v, valV_pos (p := (k, v)) e, r1⟩
    · rw [if_neg e, valV_neg (p := (k, v)) e]
      exact RepK.get q r2
theorem RepT.get : ∀ {kvs : List (List Key × D)} {vs : List (List Key × V)} (q : List Key), RepT g F al kvs vs → (match getD' kvs q with
    | some d => ∃ v, valV vs q = some v ∧ Rep g F al d v
    | none => valV vs q = none)
  | [], vs, q, r => by
    cases r
    rfl
  | (k, d) :: kvs, vs, q, r => by
    obtain ⟨v, ws, rfl, r1, r2⟩ := r
    unfold getD'
    by_cases e : k = q
    · rw [if_pos e]
      exact ⟨v, valV_pos (p := (k, v)) e, r1⟩
    · rw [if_neg e, valV_neg (p := (k, v)) e]
      exact RepT.get q r2
theorem RepK.repl {q : Key} {d : D} {v : V} (rd : Rep g F al d v) : ∀ {kvs : List (Key × D)} {vs : List (Key × V)}, RepK g F al kvs vs → RepK g F al (kvs.map fun kv => if kv.1 = q then (kv.1, d) else kv) (vs.map fun kv => if kv.1 = q then (kv.1, v) else kv)
  | [], vs, r => by
    cases r
    rfl
  | (k, e) :: kvs, vs, r => by
    obtain ⟨u, ws, rfl, r1, r2⟩ := r
    rw [List.map_cons, List.map_cons]
    by_cases z : k = q
    · rw [if_pos z, if_pos z]
      exact ⟨v, _, rfl, rd, RepK.repl rd r2⟩
    · rw [if_neg z, if_neg z]
      exact ⟨u, _, rfl, r1, RepK.repl rd r2⟩
theorem RepT.repl {q : List Key} {d : D} {v : V} (rd : Rep g F al d v) : ∀ {kvs : List (List Key × D)} {vs : List (List Key × V)}, RepT g F al kvs vs → RepT g F al (kvs.map fun kv => if kv.1 = q then (kv.1, d) else kv) (vs.map fun kv => if kv.1 = q then (kv.1, v) else kv)
  | [], vs, r => by
    cases r
    rfl
  | (k, e) :: kvs, vs, r => by
    obtain ⟨u, ws, rfl, r1, r2⟩ := r
    rw [List.map_cons, List.map_cons]
    by_cases z : k = q
    · rw [if_pos z, if_pos z]
      exact ⟨v, _, rfl, rd, RepT.repl rd r2⟩
    · rw [if_neg z, if_neg z]
      exact ⟨u, _, rfl, r1, RepT.repl rd r2⟩
theorem RepK.snoc {q : Key} {d : D} {v : V} (rd : Rep g F al d v) : ∀ {kvs : List (Key × D)} {vs : List (Key × V)}, RepK g F al kvs vs → RepK g F al (kvs ++ [(q, d)]) (vs ++ [(q, v)])
  | [], vs, r => by
    cases r
    exact ⟨v, [], rfl, rd, rfl⟩
  | (k, e) :: kvs, vs, r => by
    obtain ⟨u, ws, rfl, r1, r2⟩ := r
    exact ⟨u, _, rfl, r1, RepK.snoc rd r2⟩
theorem RepT.snoc {q : List Key} {d : D} {v : V} (rd : Rep g F al d v) : ∀ {kvs : List (List Key × D)} {vs : List (List Key × V)}, RepT g F al kvs vs → RepT g F al (kvs ++ [(q, d)]) (vs ++ [(q, v)])
  | [], vs, r => by
    cases r
    exact ⟨v, [], rfl, rd, rfl⟩
  | (k, e) :: kvs, vs, r => by
    obtain ⟨u, ws, rfl, r1, r2⟩ := r
    exact ⟨u, _, rfl, r1, RepT.snoc rd r2⟩
theorem put_old {κ : Type} [DecidableEq κ] {kvs : List (κ × V)} {k : κ} {v w : V} (h : valV kvs k = some w) : putK kvs k v = kvs.map fun kv => if kv.1 = k then (kv.1, v) else kv := by
  have e := valV_any k kvs
  rw [h] at e
  unfold putK
  exact if_pos e
theorem RepK.put {q : Key} {d : D} {v : V} (rd : Rep g F al d v) {kvs : List (Key × D)} {vs : List (Key × V)} (r : RepK g F al kvs vs) : RepK g F al (putD' kvs q d) (putK vs q v) := by
  have e := r.get q
  unfold putD'
  split at e
  · next d' h =>
    obtain ⟨w, hw, _⟩ := e
    rw [put_old hw]
    exact r.repl rd
  · next h =>
    rw [putK_new v e]
    exact r.snoc rd
theorem RepT.put {q : List Key} {d : D} {v : V} (rd : Rep g F al d v) {kvs : List (List Key × D)} {vs : List (List Key × V)} (r : RepT g F al kvs vs) : RepT g F al (putD' kvs q d) (putK vs q v) := by
  have e := r.get q
  unfold putD'
  split at e
  · next d' h =>
    obtain ⟨w, hw, _⟩ := e
    rw [put_old hw]
    exact r.repl rd
  · next h =>
    rw [putK_new v e]
    exact r.snoc rd
theorem RepK.length : ∀ {kvs : List (Key × D)} {vs : List (Key × V)}, RepK g F al kvs vs → vs.length = kvs.length
  | [], vs, r => by
    cases r
    rfl
  | (k, d) :: kvs, vs, r => by
    obtain ⟨v, ws, rfl, r1, r2⟩ := r
    exact congrArg (· + 1) (RepK.length r2)
theorem RepT.length : ∀ {kvs : List (List Key × D)} {vs : List (List Key × V)}, RepT g F al kvs vs → vs.length = kvs.length
  | [], vs, r => by
    cases r
    rfl
  | (k, d) :: kvs, vs, r => by
    obtain ⟨v, ws, rfl, r1, r2⟩ := r
    exact congrArg (· + 1) (RepT.length r2)
theorem key_rep {d : D} {v : V} {k : Key} (r : Rep g F al d v) (e : key? d = some k) : v = kV k := by
  cases d <;> cases e <;> exact r
theorem keys_rep : ∀ {ds : List D} {vs : List V} {ks : List Key}, Reps g F al ds vs → keys? ds = some ks → vs = ks.map kV
  | [], vs, ks, r, e => by
    cases e
    exact r
  | d :: ds, vs, ks, r, e => by
    obtain ⟨v, ws, rfl, r1, r2⟩ := r
    unfold keys? at e
    split at e
    · next k ks' e1 e2 =>
      cases e
      rw [key_rep r1 e1, keys_rep r2 e2]
      rfl
    · cases e
end
end Vi

set_option Elab.async false
set_option linter.all false
set_option maxRecDepth 100000
set_option maxHeartbeats 2000000
namespace Vi
open PySem L2 PyProof.Rows

/-! ### dicts: what they tell, what is put into them -/
def DvRep (g : Gi) (s : Sta) (H : Hp) (a : Addr) : DV → Prop
  | .k kvs => ∃ vs, H a = some (.dK vs) ∧ RepK g s.F s.al kvs vs
  | .t kvs => ∃ vs, H a = some (.dT vs) ∧ RepT g s.F s.al kvs vs
section
variable {g : Gi} {B : Bg} {W : WXv} {env : Env} {s : Sta} {σ : L2.St} {H : Hp}
theorem VlRep.dv {x : Vl} {v : V} {d : DV} (gd : Good g s H) (r : VlRep g B env σ s H x v) (e : dv? x s.h = some d) : ∃ a, v = .ref a ∧ DvRep g s H a d := by
  unfold dv? at e
  split at e
  · cases e
    obtain ⟨a, vs, h1, h2, h3⟩ := r
    exact ⟨a, h1, vs, gd.fle _ _ h2, h3⟩
  · cases e
    obtain ⟨a, vs, h1, h2, h3⟩ := r
    exact ⟨a, h1, vs, gd.fle _ _ h2, h3⟩
  · next n =>
    obtain ⟨a, rfl, hal⟩ := r
    refine ⟨a, rfl, ?_⟩
    cases e1 : s.h[n]? with
    | none =>
      rw [e1] at e
      cases e
    | some c =>
      rw [e1] at e
      obtain ⟨b, g1, g2⟩ := gd.cell n c e1
      rw [hal] at g1
      cases g1
      have g3 := g2.bare
      have e : (match some c.bare with
        | some (.dK kvs) => some (DV.k kvs)
        | some (.dT kvs) => some (.t kvs)
        | _ => none) = some d := e
      cases ec : c.bare with
      | dK kvs =>
        rw [ec] at e g3
        cases e
        exact g3
      | dT kvs =>
        rw [ec] at e g3
        cases e
        exact g3
      | _ =>
        rw [ec] at e
        cases e
  · cases e
end
/-- what stands at y: none: it cannot be asked here -/
def dGet (kc : List D → Bool) (dv : DV) (y : D) : Option (Option D) := match dv with
  | .k kvs => (key? y).map (getD' kvs)
  | .t kvs => (match y with
    | .tup ds => if kc ds then none else (keys? ds).map (getD' kvs)
    | _ => none)
section
variable {g : Gi} {B : Bg} {W : WXv} {env : Env} {s : Sta} {σ : L2.St} {H : Hp}
theorem dget_of {dv : DV} {a : Addr} {y : D} {w : V} {o : Option D} (gd : Good g s H) (rd : DvRep g s H a dv) (ry : Rep g s.F s.al y w) (e : dGet g.kc dv y = some o) :
    ∃ ov, DGet H a w ov ∧ (match (generalizing := false) o with
      | some d => ∃ v, ov = some v ∧ Rep g s.F s.al d v
      | none => ov = none) := by
  cases dv with
  | k kvs =>
    obtain ⟨vs, h1, h2⟩ := rd
    have e : (key? y).map (getD' kvs) = some o := e
    obtain ⟨k, e1, rfl⟩ := Option.map_eq_some_iff.mp e
    have hw := key_rep ry e1
    subst hw
    exact ⟨_, .k h1, h2.get k⟩
  | t kvs =>
    obtain ⟨vs, h1, h2⟩ := rd
    cases y with
    | tup ds =>
      have e : (if g.kc ds then none else (keys? ds).map (getD' kvs)) = some o := e
      obtain ⟨b, us, rfl, h3, h4⟩ := ry
      by_cases hk : g.kc ds = true
      · rw [if_pos hk] at e
        cases e
      · rw [if_neg hk] at e
        obtain ⟨ks, e1, rfl⟩ := Option.map_eq_some_iff.mp e
        have hu := keys_rep h4 e1
        subst hu
        have hb : H b = some (.tup (ks.map kV)) := by
          rcases h3 with h3 | h3
          · exact gd.fle _ _ h3
          · exact absurd h3.1 hk
        exact ⟨_, .t h1 hb, h2.get ks⟩
    | _ => cases e
end
def fDIx (kc : List D → Bool) (x y : Vl) (h : Hc) : R Vl := match dv? x h, y with
  | some dv, .d y => (match dGet kc dv y with
    | some (some d) => .ok (.d d) h
    | _ => .stuck)
  | _, _ => .stuck
def fIxD (kc : List D → Bool) (x y : Vl) (h : Hc) : R Vl := if (dv? x h).isSome then fDIx kc x y h else fIx x y h
def fDIn (neg : Bool) (kc : List D → Bool) (x y : Vl) (h : Hc) : R Vl := match dv? y h, x with
  | some dv, .d x => (match dGet kc dv x with
    | some o => .ok (.d (nB neg o.isSome)) h
    | none => .stuck)
  | _, _ => .stuck
def fInD (neg : Bool) (kc : List D → Bool) (x y : Vl) (h : Hc) : R Vl := if (dv? y h).isSome then fDIn neg kc x y h else fIn neg x y h
section
variable {X : Cx} {g : Gi} {B : Bg} {W : WXv} {pos apos cpos tpos : Pos} {e a b o k : Expr} {m n1 n2 ma mb mo mk mx : ME}
theorem ve_alt (h1 : PE X e (tE g B W n1)) (h2 : PE X e (tE g B W n2)) (hm : ∀ env h, m env h = n1 env h ∨ m env h = n2 env h) : PE X e (tE g B W m) := ⟨fun pins s σ H Q I h => by
  obtain ⟨env, st, sr, p⟩ := h
  rcases hm env st.h with q | q
  · exact h1.run pins s σ H Q I ⟨env, st, sr, q ▸ p⟩
  · exact h2.run pins s σ H Q I ⟨env, st, sr, q ▸ p⟩⟩
theorem ve_dix (hu : X.A.units + 64 < cLine) (ha : PE X a (tE g B W ma)) (hb : PE X b (tE g B W mb)) (hs : NoSl b) : PE X (.Subscript a b pos) (tE g B W (m2 (fDIx g.kc) ma mb)) := by
  refine pe_imp (pe_dget (by omega) ha hb hs) fun σ H Q ⟨env, s, sr, p⟩ => ?_
  refine (bind2E (Q := Q) sr p).mono fun v H1 q => q.mono fun w H2 ⟨s2, x, y, sr2, _, r1, r2, p2⟩ => ?_
  unfold fDIx at p2
  split at p2
  · next dv y e1 =>
    split at p2
    · next d e2 =>
      obtain ⟨c, rfl, h1⟩ := r1.dv sr2.good e1
      obtain ⟨ov, h2, v, rfl, h3⟩ := dget_of sr2.good h1 r2 e2
      exact ⟨c, v, rfl, h2, PostE.pure sr2 p2 h3⟩
    · exact p2.elim
  · exact p2.elim
theorem ve_ixd (hK : g.K = X.K) (hu : X.A.units + 64 < cLine) (ha : PE X a (tE g B W ma)) (hb : PE X b (tE g B W mb)) (hs : PlainIx b) (hn : NoSl b) : PE X (.Subscript a b pos) (tE g B W (m2 (fIxD g.kc) ma mb)) := by
  refine ve_alt (ve_dix hu ha hb hn) (ve_ix hK ha hb hs) fun env h => ?_
  unfold m2
  cases ma env h with
  | ok x h1 =>
    rw [R.bind_ok, R.bind_ok, R.bind_ok]
    cases mb env h1 with
    | ok y h2 =>
      rw [R.bind_ok, R.bind_ok, R.bind_ok]
      unfold fIxD
      split
      · exact .inl rfl
      · exact .inr rfl
    | _ => exact .inl rfl
  | _ => exact .inl rfl
theorem op_dIn (hu : X.A.units + 64 < cLine) : OpR X (compareOp .In) (fun x y H Q => ∃ a o, y = .ref a ∧ DGet H a x o ∧ Q (.bl o.isSome) H) := by
  intro pins s σ H x y v u Q I rx ry ⟨a, o, e, d, q⟩
  subst e
  cases ry
  exact d_in (by omega) I d rx fun s' I' => ⟨.bl _, H, I', rfl, q⟩
theorem op_dNotIn (hu : X.A.units + 64 < cLine) : OpR X (compareOp .NotIn) (fun x y H Q => ∃ a o, y = .ref a ∧ DGet H a x o ∧ Q (.bl (!o.isSome)) H) := by
  intro pins s σ H x y v u Q I rx ry ⟨a, o, e, d, q⟩
  subst e
  cases ry
  exact d_notIn (by omega) I d rx fun s' I' => ⟨.bl _, H, I', rfl, q⟩
theorem o_ind (hK : g.K = X.K) (hu : X.A.units + 65 < cLine) : OpV X g (compareOp .In) (fInD false g.kc) := by
  obtain ⟨r0, o0, i0⟩ := o_in (X := X) (g := g) hK hu
  refine ⟨_, OpR.or (op_dIn (by omega)) o0, fun B W env s σ H x y v w Q sr r1 r2 p => ?_⟩
  unfold fInD at p
  split at p
  · unfold fDIn at p
    split at p
    · next dv x e1 =>
      split at p
      · next od e2 =>
        obtain ⟨c, rfl, h1⟩ := r2.dv sr.good e1
        obtain ⟨ov, h2, h3⟩ := dget_of sr.good h1 r1 e2
        refine .inl ⟨c, ov, rfl, h2, ?_⟩
        have eo : od.isSome = ov.isSome := by
          cases od with
          | none => rw [show ov = none from h3]; rfl
          | some d => obtain ⟨v, rfl, _⟩ := h3; rfl
        rw [← eo]
        exact PostE.pure sr p rfl
      · exact p.elim
    · exact p.elim
  · exact .inr (i0 B W env s σ H x y v w Q sr r1 r2 p)
theorem o_nind (hK : g.K = X.K) (hu : X.A.units + 65 < cLine) : OpV X g (compareOp .NotIn) (fInD true g.kc) := by
  obtain ⟨r0, o0, i0⟩ := o_nin (X := X) (g := g) hK hu
  refine ⟨_, OpR.or (op_dNotIn (by omega)) o0, fun B W env s σ H x y v w Q sr r1 r2 p => ?_⟩
  unfold fInD at p
  split at p
  · unfold fDIn at p
    split at p
    · next dv x e1 =>
      split at p
      · next od e2 =>
        obtain ⟨c, rfl, h1⟩ := r2.dv sr.good e1
        obtain ⟨ov, h2, h3⟩ := dget_of sr.good h1 r1 e2
        refine .inl ⟨c, ov, rfl, h2, ?_⟩
        have eo : od.isSome = ov.isSome := by
          cases od with
          | none => rw [show ov = none from h3]; rfl
          | some d => obtain ⟨v, rfl, _⟩ := h3; rfl
        rw [← eo]
        exact PostE.pure sr p rfl
      · exact p.elim
    · exact p.elim
  · exact .inr (i0 B W env s σ H x y v w Q sr r1 r2 p)

/-! ### d.get(k), d.get(k, x) -/
def fDGet (kc : List D → Bool) (x y : Vl) (z : D) (h : Hc) : R Vl := match dv? x h, y with
  | some dv, .d y => (match dGet kc dv y with
    | some (some d) => .ok (.d d) h
    | some none => .ok (.d z) h
    | none => .stuck)
  | _, _ => .stuck
def mDGet1 (kc : List D → Bool) (mo mk : ME) : ME := fun env h => (mo env h).bind fun x h1 => if (dv? x h1).isSome then (mk env h1).bind fun y h2 => fDGet kc x y .non h2 else .stuck
def mDGet2 (kc : List D → Bool) (mo mk mx : ME) : ME := fun env h => (mo env h).bind fun x h1 => if (dv? x h1).isSome then (mk env h1).bind fun y h2 => (mx env h2).bind fun z h3 => match z with
  | .d z => fDGet kc x y z h3
  | _ => .stuck else .stuck
theorem DvRep.isD {s : Sta} {H : Hp} {a : Addr} {d : DV} (r : DvRep g s H a d) : IsD H a := by
  cases d with
  | k kvs => obtain ⟨vs, h1, _⟩ := r; exact .inl ⟨vs, .inl h1⟩
  | t kvs => obtain ⟨vs, h1, _⟩ := r; exact .inr ⟨vs, .inl h1⟩
theorem fDGet_post {env : Env} {s : Sta} {σ : L2.St} {H : Hp} {Q : VK} {x y : Vl} {z : D} {a : Addr} {w u : V} (sr : SR g B env s σ H) (r1 : VlRep g B env σ s H x (.ref a)) (r2 : VlRep g B env σ s H y w) (r3 : Rep g s.F s.al z u) (p : PostE g B W env s σ H (fDGet g.kc x y z s.h) Q) :
    ∃ o, DGet H a w o ∧ Q (o.getD u) H := by
  unfold fDGet at p
  split at p
  · next dv y e1 =>
    obtain ⟨c, ec, h1⟩ := r1.dv sr.good e1
    cases ec
    split at p
    · next d e2 =>
      obtain ⟨ov, h2, v, rfl, h3⟩ := dget_of sr.good h1 r2 e2
      exact ⟨_, h2, PostE.pure sr p h3⟩
    · next e2 =>
      obtain ⟨ov, h2, h3⟩ := dget_of sr.good h1 r2 e2
      obtain rfl : ov = none := h3
      exact ⟨_, h2, PostE.pure sr p r3⟩
    · exact p.elim
  · exact p.elim
theorem ve_dget2 (hu : X.A.units + 64 < cLine) (ho : PE X o (tE g B W mo)) (hk : PE X k (tE g B W mk)) (hx : PE X e (tE g B W mx)) (hm : M2 X o "get" apos k e cpos) : PE X (.Call (.Attribute o "get" apos) [k, e] [] cpos) (tE g B W (mDGet2 g.kc mo mk mx)) := by
  refine pe_imp (pe_dget2 (by omega) ho hk hx hm) fun σ H Q ⟨env, s, sr, p⟩ => ?_
  refine (bindE (Q := Q) sr p).mono fun v H1 ⟨s1, x, sr1, ev1, r1, p1⟩ => ?_
  split at p1
  · next hs =>
    obtain ⟨dv, e1⟩ := Option.isSome_iff_exists.mp hs
    obtain ⟨a, rfl, h1⟩ := r1.dv sr1.good e1
    refine ⟨a, rfl, h1.isD, ?_⟩
    refine (bindE (Q := Q) sr1 p1).mono fun w H2 ⟨s2, y, sr2, ev2, r2, p2⟩ => ?_
    refine (bindE (Q := Q) sr2 p2).mono fun u H3 ⟨s3, z, sr3, ev3, r3, p3⟩ => ?_
    cases z with
    | d z => exact fDGet_post sr3 ((r1.evo ev2).evo ev3) (r2.evo ev3) r3 p3
    | _ => exact p3.elim
  · exact p1.elim
theorem ve_dget1 (hu : X.A.units + 64 < cLine) (ho : PE X o (tE g B W mo)) (hk : PE X k (tE g B W mk)) (hm : M1 X o "get" apos k cpos) : PE X (.Call (.Attribute o "get" apos) [k] [] cpos) (tE g B W (mDGet1 g.kc mo mk)) := by
  refine pe_imp (pe_dget1 (by omega) ho hk hm) fun σ H Q ⟨env, s, sr, p⟩ => ?_
  refine (bindE (Q := Q) sr p).mono fun v H1 ⟨s1, x, sr1, ev1, r1, p1⟩ => ?_
  split at p1
  · next hs =>
    obtain ⟨dv, e1⟩ := Option.isSome_iff_exists.mp hs
    obtain ⟨a, rfl, h1⟩ := r1.dv sr1.good e1
    refine ⟨a, rfl, h1.isD, ?_⟩
    refine (bindE (Q := Q) sr1 p1).mono fun w H2 ⟨s2, y, sr2, ev2, r2, p2⟩ => ?_
    exact fDGet_post sr2 (r1.evo ev2) r2 (show Rep g s2.F s2.al .non .non from rfl) p2
  · exact p1.elim

/-! ### d[k] = v, a dict of one's own -/
def dPut (kc : List D → Bool) (c : Cell) (y v : D) : Option Cell := match c with
  | .dK kvs => if kvs.length < 100000 then (key? y).map fun k => .dK (putD' kvs k v) else none
  | .dT kvs => (match y with
    | .tup ds => if kc ds then none else if kvs.length < 100000 then (keys? ds).map fun k => .dT (putD' kvs k v) else none
    | _ => none)
  | _ => none
def fDPut (kc : List D → Bool) (env : Env) (x y z : Vl) (h : Hc) : RS := match x, y, z with
  | .d v, .d (.ref n), .d k => (match h[n]? with
    | some c => (match dPut kc c k v with
      | some c' => .nx env (h.set n c')
      | none => .stuck)
    | none => .stuck)
  | _, _, _ => .stuck
def mDPut (kc : List D → Bool) (e o k : ME) : MS := fun env h => (e env h).thenS env fun x h1 => (o env h1).thenS env fun y h2 => (k env h2).thenS env fun z h3 => fDPut kc env x y z h3
theorem vs_dput (hu : X.A.units + 64 < cLine) (he : PE X e (tE g B W m)) (ho : PE X o (tE g B W mo)) (hk : PE X k (tE g B W mk)) (hs : swapsWith e (some (.Subscript o k tpos)) pos.line X.env = pure false := by rfl) :
    PS X (.Assign [.Subscript o k tpos] e pos) (tS g B W (mDPut g.kc m mo mk)) := by
  refine ps_imp (ps_dput (by omega) ho hk he hs) fun N σ H ⟨env, s, sr, p⟩ => ?_
  refine (bindS sr p).mono fun v H1 ⟨s1, x, sr1, l1, r1, p1⟩ => ?_
  have two := bind2S (W := W) (N := N) (f := fDPut g.kc env x) sr1 p1
  refine two.mono fun ov H2 q => q.mono fun kv H3 ⟨s3, y, z, sr3, e3, r2, r3, p3⟩ => ?_
  have r1' := r1.evo e3
  unfold fDPut at p3
  split at p3
  · next d n k =>
    split at p3
    · next c hc =>
      split at p3
      · next c' hp =>
        obtain ⟨a, rfl, hal⟩ := r2
        obtain ⟨a2, g1, g2⟩ := sr3.good.cell _ _ hc
        rw [hal] at g1
        cases g1
        cases c with
        | dK kvs =>
          obtain ⟨vs, h3, q1⟩ := g2
          unfold dPut at hp
          dsimp only at hp
          split at hp
          · next hl =>
            obtain ⟨kk, ek, rfl⟩ := Option.map_eq_some_iff.mp hp
            have hw := key_rep r3 ek
            subst hw
            refine ⟨a, _, rfl, .k h3 (by rw [q1.length]; exact size_lt hl), ?_⟩
            exact p3 σ _ { s3 with h := s3.h.set _ _ } rfl ⟨fun _ _ z => z, fun _ _ z => z, fun _ _ z => z⟩ (sr3.cell hc hal (fun _ z => by cases z) (fun _ z => by cases z) ⟨_, upd_same, q1.put r1'⟩)
          · cases hp
        | dT kvs =>
          obtain ⟨vs, h3, q1⟩ := g2
          unfold dPut at hp
          dsimp only at hp
          split at hp
          · next ds =>
            split at hp
            · cases hp
            · next hk =>
              split at hp
              · next hl =>
                obtain ⟨kk, ek, rfl⟩ := Option.map_eq_some_iff.mp hp
                obtain ⟨b, us, rfl, h5, h6⟩ := r3
                have hw := keys_rep h6 ek
                subst hw
                have hb : H3 b = some (.tup (kk.map kV)) := by
                  rcases h5 with h5 | h5
                  · exact sr3.good.fle _ _ h5
                  · exact absurd h5.1 hk
                refine ⟨a, _, rfl, .t h3 hb (by rw [q1.length]; exact size_lt hl), ?_⟩
                exact p3 σ _ { s3 with h := s3.h.set _ _ } rfl ⟨fun _ _ z => z, fun _ _ z => z, fun _ _ z => z⟩ (sr3.cell hc hal (fun _ z => by cases z) (fun _ z => by cases z) ⟨_, upd_same, q1.put r1'⟩)
              · cases hp
          · cases hp
        | _ => cases hp
      · exact p3.elim
    · exact p3.elim
  · exact p3.elim
end
end Vi

set_option Elab.async false
set_option linter.all false
set_option maxRecDepth 100000
set_option maxHeartbeats 2000000
namespace Vi
open PySem L2 PyProof.Rows

/-! ### for the time of a statement all cells but the first stand still -/
def Cell.isF : Cell → Bool
  | .frz _ => true
  | _ => false
def ourZ (h : Hc) (n : Nat) : Bool := match h[n]? with
  | some c => n != 0 && !c.isF
  | none => false
def frzOne (i : Nat) (c : Cell) : Cell := if i != 0 && !c.isF then .frz c else c
def frzAll (h : Hc) : Hc := h.mapIdx frzOne
def thawOne (h : Hc) (i : Nat) (c : Cell) : Cell := if ourZ h i then c.bare else c
def thaw (h h2 : Hc) : Hc := h2.mapIdx (thawOne h)
def RS.mapH (f : Hc → Hc) : RS → RS
  | .nx e h => .nx e (f h)
  | .ret d h => .ret d (f h)
  | .brk e h => .brk e (f h)
  | .cnt e h => .cnt e (f h)
  | .exc e x h => .exc e x (f h)
  | .stuck => .stuck
def mFrzd (m : MS) : MS := fun env h => (m env (frzAll h)).mapH (thaw h)
theorem bare_isF : ∀ c : Cell, c.bare.isF = false
  | .lst _ => rfl
  | .ins _ _ => rfl
  | .dK _ => rfl
  | .dT _ => rfl
  | .frz c => bare_isF c
theorem ourZ_of {h : Hc} {n : Nat} {c : Cell} (e : h[n]? = some c) : ourZ h n = (n != 0 && !c.isF) := by
  unfold ourZ
  rw [e]
section
variable {g : Gi} {B : Bg} {W : WXv} {env : Env} {s : Sta} {σ : L2.St} {H : Hp}
def Sta.frzA (s : Sta) (H : Hp) : Sta := { s with h := frzAll s.h, z := fun n => if ourZ s.h n then (s.al n).bind H else s.z n }
def Sta.thawA (s0 s : Sta) : Sta := { s with h := thaw s0.h s.h, z := fun n => if ourZ s0.h n then none else s.z n }
theorem frzA_at {n : Nat} : (frzAll s.h)[n]? = (s.h[n]?).map (frzOne n) := by
  unfold frzAll
  rw [List.getElem?_mapIdx]
theorem zed_not {gd : Good g s H} {n : Nat} {o : HO} (h : s.z n = some o) : ourZ s.h n = false := by
  obtain ⟨a, c, _, _, h3⟩ := gd.zed.at_ n o h
  rw [ourZ_of h3]
  simp [Cell.isF]
theorem good_frzA (gd : Good g s H) : Good g (s.frzA H) H := by
  refine ⟨gd.fle, gd.inj, fun n a h => ?_, fun n c h => ?_, ⟨fun n o h => ?_, fun n c h => ?_⟩⟩
  · obtain ⟨h1, h2, h3⟩ := gd.dom n a h
    refine ⟨?_, h2, h3⟩
    show n < (frzAll s.h).length
    unfold frzAll
    rw [List.length_mapIdx]
    exact h1
  · have h : (frzAll s.h)[n]? = some c := h
    rw [frzA_at] at h
    obtain ⟨d, h1, rfl⟩ := Option.map_eq_some_iff.mp h
    obtain ⟨a, h2, h3⟩ := gd.cell n d h1
    refine ⟨a, h2, ?_⟩
    have h4 : CellRep g (s.frzA H) H a d := CellRep.mv (s := s) (s' := s.frzA H) (H := H) (fun _ z => z) (fun _ _ z => z) (fun _ _ z => z) h3
    unfold frzOne
    split
    · exact h4
    · exact h4
  · have h : (if ourZ s.h n then (s.al n).bind H else s.z n) = some o := h
    by_cases ho : ourZ s.h n = true
    · rw [if_pos ho] at h
      obtain ⟨a, h1, h2⟩ := Option.bind_eq_some_iff.mp h
      unfold ourZ at ho
      split at ho
      · next c hc =>
        refine ⟨a, c, h1, h2, ?_⟩
        show (frzAll s.h)[n]? = _
        rw [frzA_at, hc, Option.map_some]
        unfold frzOne
        rw [if_pos ho]
      · cases ho
    · rw [if_neg ho] at h
      obtain ⟨a, c, h1, h2, h3⟩ := gd.zed.at_ n o h
      refine ⟨a, c, h1, h2, ?_⟩
      show (frzAll s.h)[n]? = _
      rw [frzA_at, h3, Option.map_some]
      unfold frzOne
      simp [Cell.isF]
  · have h : (frzAll s.h)[n]? = some (.frz c) := h
    rw [frzA_at] at h
    obtain ⟨d, h1, h2⟩ := Option.map_eq_some_iff.mp h
    show ∃ o, (if ourZ s.h n then (s.al n).bind H else s.z n) = some o
    by_cases ho : ourZ s.h n = true
    · rw [if_pos ho]
      obtain ⟨a, h3, h4⟩ := gd.cell n d h1
      obtain ⟨_, _, o, h5⟩ := gd.dom n a h3
      exact ⟨o, by rw [h3]; exact h5⟩
    · rw [if_neg ho]
      have hf : ¬ (n != 0 && !d.isF) = true := by
        rw [ourZ_of h1] at ho
        exact ho
      unfold frzOne at h2
      rw [if_neg hf] at h2
      subst h2
      exact gd.zed.of n c h1
theorem evo_frzA {s0 : Sta} {H0 : Hp} (gd : Good g s H) (e : Evo s0 H0 s H) : Evo s0 H0 (s.frzA H) H := by
  refine ⟨e.f, e.al, e.oth, ?_, fun n o h => ?_⟩
  · show s0.h.length ≤ (frzAll s.h).length
    unfold frzAll
    rw [List.length_mapIdx]
    exact e.len
  · have h1 := e.z n o h
    show (if ourZ s.h n then (s.al n).bind H else s.z n) = some o
    rw [zed_not (gd := gd) h1]
    exact h1
theorem SR.frzA (sr : SR g B env s σ H) : SR g B env (s.frzA H) σ H :=
  ⟨good_frzA sr.good, evo_frzA sr.good sr.evo, sr.len, fun i sl h => by
    obtain ⟨v, h1, h2⟩ := sr.slot i sl h
    refine ⟨v, h1, ?_⟩
    cases sl with
    | d x => exact h2
    | ol xs => obtain ⟨a, vs, e1, e2, e3, e4⟩ := h2; exact ⟨a, vs, e1, e2, ⟨e3.f, e3.al, e3.new⟩, e4⟩
    | oi c fs => obtain ⟨a, dx, vs, e1, e2, e3, e4⟩ := h2; exact ⟨a, dx, vs, e1, e2, ⟨e3.f, e3.al, e3.new⟩, e4⟩
    | xc c fs => exact h2, sr.sep⟩
variable {s2 : Sta} {σ2 : L2.St} {H2 : Hp} {env2 : Env}
theorem thaw_at {n : Nat} : (thaw s.h s2.h)[n]? = (s2.h[n]?).map (thawOne s.h n) := by
  unfold thaw
  rw [List.getElem?_mapIdx]
theorem good_thaw (gd : Good g s2 H2) : Good g (s.thawA s2) H2 := by
  refine ⟨gd.fle, gd.inj, fun n a h => ?_, fun n c h => ?_, ⟨fun n o h => ?_, fun n c h => ?_⟩⟩
  · obtain ⟨h1, h2, h3⟩ := gd.dom n a h
    refine ⟨?_, h2, h3⟩
    show n < (thaw s.h s2.h).length
    unfold thaw
    rw [List.length_mapIdx]
    exact h1
  · have h : (thaw s.h s2.h)[n]? = some c := h
    rw [thaw_at] at h
    obtain ⟨d, h1, rfl⟩ := Option.map_eq_some_iff.mp h
    obtain ⟨a, h2, h3⟩ := gd.cell n d h1
    refine ⟨a, h2, ?_⟩
    have h4 : CellRep g (s.thawA s2) H2 a d := CellRep.mv (s := s2) (s' := s.thawA s2) (H := H2) (fun _ z => z) (fun _ _ z => z) (fun _ _ z => z) h3
    unfold thawOne
    split
    · exact h4.bare
    · exact h4
  · have h : (if ourZ s.h n then none else s2.z n) = some o := h
    by_cases ho : ourZ s.h n = true
    · rw [if_pos ho] at h
      cases h
    · rw [if_neg ho] at h
      obtain ⟨a, c, h1, h2, h3⟩ := gd.zed.at_ n o h
      refine ⟨a, c, h1, h2, ?_⟩
      show (thaw s.h s2.h)[n]? = _
      rw [thaw_at, h3, Option.map_some]
      unfold thawOne
      rw [if_neg ho]
  · have h : (thaw s.h s2.h)[n]? = some (.frz c) := h
    rw [thaw_at] at h
    obtain ⟨d, h1, h2⟩ := Option.map_eq_some_iff.mp h
    show ∃ o, (if ourZ s.h n then none else s2.z n) = some o
    unfold thawOne at h2
    by_cases ho : ourZ s.h n = true
    · rw [if_pos ho] at h2
      have := bare_isF d
      rw [h2] at this
      cases this
    · rw [if_neg ho] at h2 ⊢
      subst h2
      exact gd.zed.of n c h1
theorem evo_thaw {s0 : Sta} {H0 : Hp} (gd : Good g s H) (e0 : ∀ n o, s0.z n = some o → s.z n = some o) (e : Evo s0 H0 s2 H2) : Evo s0 H0 (s.thawA s2) H2 := by
  refine ⟨e.f, e.al, e.oth, ?_, fun n o h => ?_⟩
  · show s0.h.length ≤ (thaw s.h s2.h).length
    unfold thaw
    rw [List.length_mapIdx]
    exact e.len
  · show (if ourZ s.h n then none else s2.z n) = some o
    rw [zed_not (gd := gd) (e0 n o h)]
    exact e.z n o h
theorem SR.thawA (sr0 : SR g B env s σ H) (sr : SR g B env2 s2 σ2 H2) : SR g B env2 (s.thawA s2) σ2 H2 :=
  ⟨good_thaw sr.good, evo_thaw sr0.good sr0.evo.z sr.evo, sr.len, fun i sl h => by
    obtain ⟨v, h1, h2⟩ := sr.slot i sl h
    refine ⟨v, h1, ?_⟩
    cases sl with
    | d x => exact h2
    | ol xs => obtain ⟨a, vs, e1, e2, e3, e4⟩ := h2; exact ⟨a, vs, e1, e2, ⟨e3.f, e3.al, e3.new⟩, e4⟩
    | oi c fs => obtain ⟨a, dx, vs, e1, e2, e3, e4⟩ := h2; exact ⟨a, dx, vs, e1, e2, ⟨e3.f, e3.al, e3.new⟩, e4⟩
    | xc c fs => exact h2, sr.sep⟩
theorem le_thaw (gd : Good g s H) (l : Le (s.frzA H) s2) : Le s (s.thawA s2) := ⟨l.f, l.al, fun n o h => by
  have hn := zed_not (gd := gd) h
  have h1 : (s.frzA H).z n = some o := by
    show (if ourZ s.h n then (s.al n).bind H else s.z n) = some o
    rw [hn]
    exact h
  show (if ourZ s.h n then none else s2.z n) = some o
  rw [hn]
  exact l.z n o h1⟩
theorem PostS.thawed {N : Ends} (sr : SR g B env s σ H) : ∀ {r : RS}, PostS g B W s (r.mapH (thaw s.h)) N → PostS g B W (s.frzA H) r N
  | .nx e h, p => fun σ2 H2 s2 eh l sr2 => p σ2 H2 (s.thawA s2) (by rw [← eh]; rfl) (le_thaw sr.good l) (SR.thawA sr sr2)
  | .ret d h, p => fun v H2 s2 eh ev gd r => p v H2 (s.thawA s2) (by rw [← eh]; rfl) (evo_thaw sr.good sr.evo.z ev) (good_thaw gd) r
  | .brk e h, p => fun σ2 H2 s2 eh l sr2 => p σ2 H2 (s.thawA s2) (by rw [← eh]; rfl) (le_thaw sr.good l) (SR.thawA sr sr2)
  | .cnt e h, p => fun σ2 H2 s2 eh l sr2 => p σ2 H2 (s.thawA s2) (by rw [← eh]; rfl) (le_thaw sr.good l) (SR.thawA sr sr2)
  | .exc e x h, p => fun c d σ2 H2 s2 eh l sr2 xr => p c d σ2 H2 (s.thawA s2) (by rw [← eh]; rfl) (le_thaw sr.good l) (SR.thawA sr sr2) (by
      cases x with
      | obj c' fs => exact xr
      | _ => exact xr.elim)
  | .stuck, p => p
end
section
variable {X : Cx} {g : Gi} {B : Bg} {W : WXv} {st : Stmt} {m : MS}
theorem vs_frzd (h : PS X st (tS g B W m)) : PS X st (tS g B W (mFrzd m)) := ps_imp h fun N σ H ⟨env, s, sr, p⟩ => ⟨env, s.frzA H, sr.frzA, p.thawed sr⟩
end
end Vi

set_option Elab.async false
set_option linter.all false
set_option maxRecDepth 100000
set_option maxHeartbeats 2000000
namespace Vi
open PySem L2 PyProof.Rows

/-! ### methods that change a list in a cell -/
section
variable {g : Gi} {B : Bg} {W : WXv} {env : Env} {s : Sta} {σ : L2.St} {H : Hp}
theorem Evo.cell {n : Nat} {c' : Cell} {a : Addr} {o : HO} (ha : s.al n = some a) : Evo s H { s with h := s.h.set n c' } (upd H a o) := by
  refine ⟨fun _ _ h => h, fun _ _ h => h, fun b u h hn => ?_, ?_, fun _ _ h => h⟩
  · have ne : b ≠ a := fun e => hn n (by rw [e]; exact ha)
    exact ⟨by rw [upd_ne ne]; exact h, fun z _ => z, hn⟩
  · show s.h.length ≤ (s.h.set n c').length
    rw [List.length_set]
    exact Nat.le_refl _
end
abbrev LM := List D → List D → Option (List D × D)
/-- a method of lists, and what it does to the items -/
structure MetM (X : Cx) (g : Gi) (name : Str) (id : String) (f : LM) : Prop where
  slot : Slot "list" name id
  ty : typeOf (.builtin id) = pure (.type "method_descriptor")
  ex : ∃ r : V → List V → Hp → VK → Prop, MtR X id r ∧ ∀ (F : Hp) (al : Nat → Option Addr) (H : Hp) (l : Addr) (ws vs : List V) (xs ds xs' : List D) (d : D) (Q : VK), H l = some (.lst ws) → Reps g F al xs ws → Reps g F al ds vs → f xs ds = some (xs', d) →
    (∀ (ws' : List V) (v : V), Reps g F al xs' ws' → Rep g F al d v → Q v (upd H l (.lst ws'))) → r (.ref l) vs H Q
def isLc (h : Hc) : Vl → Option Nat
  | .d (.ref n) => (match h[n]? with
    | some (.lst _) => some n
    | _ => none)
  | _ => none
def fMet (f : LM) (n : Nat) (ys : List Vl) (h : Hc) : R Vl := match datas ys, h[n]? with
  | some ds, some (.lst xs) => (match f xs ds with
    | some (xs', d) => .ok (.d d) (h.set n (.lst xs'))
    | none => .stuck)
  | _, _ => .stuck
def mMetM (f : LM) (mo : ME) (ma : MA) : ME := fun env h => (mo env h).bind fun x h1 => match isLc h1 x with
  | some n => (ma env h1).bind fun ys h2 => fMet f n ys h2
  | none => .stuck
section
variable {X : Cx} {g : Gi} {B : Bg} {W : WXv} {env : Env} {s : Sta} {σ : L2.St} {H : Hp}
theorem isLc_at {x : Vl} {v : V} {n : Nat} (gd : Good g s H) (r : VlRep g B env σ s H x v) (e : isLc s.h x = some n) : ∃ a ws xs, v = .ref a ∧ s.al n = some a ∧ s.h[n]? = some (.lst xs) ∧ H a = some (.lst ws) ∧ Reps g s.F s.al xs ws := by
  unfold isLc at e
  split at e
  · next m =>
    split at e
    · next xs hx =>
      cases e
      obtain ⟨a, rfl, hal⟩ := r
      obtain ⟨b, g1, ws, g2, g3⟩ := gd.cell _ _ hx
      rw [hal] at g1
      cases g1
      exact ⟨a, ws, xs, rfl, hal, hx, g2, g3⟩
    · cases e
  · cases e
theorem fMet_post {name : Str} {id : String} {f : LM} {n : Nat} {a : Addr} {ys : List Vl} {vs : List V} {Q : VK} {r : V → List V → Hp → VK → Prop} (sr : SR g B env s σ H)
    (hr : ∀ (F : Hp) (al : Nat → Option Addr) (H : Hp) (l : Addr) (ws vs : List V) (xs ds xs' : List D) (d : D) (Q : VK), H l = some (.lst ws) → Reps g F al xs ws → Reps g F al ds vs → f xs ds = some (xs', d) →
      (∀ (ws' : List V) (v : V), Reps g F al xs' ws' → Rep g F al d v → Q v (upd H l (.lst ws'))) → r (.ref l) vs H Q)
    (ha : s.al n = some a) (ry : VlReps g B env σ s H ys vs) (p : PostE g B W env s σ H (fMet f n ys s.h) Q) : r (.ref a) vs H Q := by
  unfold fMet at p
  split at p
  · next ds xs e1 e2 =>
    split at p
    · next xs' d ef =>
      obtain ⟨b, g1, ws, g2, g3⟩ := sr.good.cell _ _ e2
      rw [ha] at g1
      cases g1
      refine hr s.F s.al H a ws vs xs ds xs' d Q g2 g3 (ry.datas e1) ef fun ws' v q1 q2 => ?_
      exact p v _ { s with h := s.h.set n (.lst xs') } rfl (Evo.cell ha) (sr.cell e2 ha (fun _ z => by cases z) (fun _ z => by cases z) ⟨ws', upd_same, q1⟩) q2
    · exact p.elim
  · exact p.elim
end
section
variable {X : Cx} {g : Gi} {B : Bg} {W : WXv} {pos apos cpos : Pos} {o e : Expr} {es : List Expr} {mo : ME} {ma : MA} {name : Str} {id : String} {f : LM}
theorem bindEA {b : MA} {env : Env} {s : Sta} {σ : L2.St} {H : Hp} {Q : VK} (sr : SR g B env s σ H) {kk : List Vl → Hc → R Vl} (p : PostE g B W env s σ H ((b env s.h).bind kk) Q) :
    tA g B W b σ H fun vs H2 => ∃ s2 xs, SR g B env s2 σ H2 ∧ Evo s H s2 H2 ∧ VlReps g B env σ s2 H2 xs vs ∧ PostE g B W env s2 σ H2 (kk xs s2.h) Q := by
  refine ⟨env, s, sr, ?_⟩
  cases e : b env s.h with
  | ok x h1 =>
    rw [e] at p
    intro v H1 s1 e1 ev sr1 vr
    refine ⟨s1, x, sr1, ev, vr, ?_⟩
    rw [e1]
    exact PostE.later ev p
  | exc x h1 =>
    rw [e] at p
    exact p
  | stuck =>
    rw [e] at p
    exact p
theorem ve_metM (hK : g.K = X.K) (hm : MetM X g name id f) (ho : PE X o (tE g B W mo)) (ha : PA X (e :: es) (tA g B W ma))
    (hbase : attributeBase o name X.env (eval o X.env) = eval o X.env := by rfl)
    (hfew : ((backTo cpos (starEach (e :: es) X.env)).all (fun x => !x.1) && (backToKw cpos (keywordEach [] X.env)).all (fun x => x.1.isSome) && decide ((e :: es).length + ([] : List Keyword).length + (if ([] : List Keyword).isEmpty then 0 else 1) < 30)) = true := by rfl)
    (hline : (apos.endLine == cpos.line) = true := by rfl) (hs : starEach (e :: es) X.env = (false, eval e X.env) :: starEach es X.env := by rfl) (hplain : (backTo cpos (starEach es X.env)).any (·.1) = false := by rfl) :
    PE X (.Call (.Attribute o name apos) (e :: es) [] cpos) (tE g B W (mMetM f mo ma)) := by
  obtain ⟨r, hr, hf⟩ := hm.ex
  refine pe_imp (pe_bm PySem.F.plainAttrs_list hm.slot hm.ty hr ho ha hbase hfew hline hs hplain) fun σ H Q ⟨env, s, sr, p⟩ => ?_
  refine (bindE (Q := Q) sr p).mono fun v H1 ⟨s1, x, sr1, ev1, r1, p1⟩ => ?_
  split at p1
  · next n en =>
    obtain ⟨a, ws, xs, rfl, hal, hx, h1, h2⟩ := isLc_at sr1.good r1 en
    refine ⟨.inl ⟨rfl, ws, .of h1⟩, ?_⟩
    refine (bindEA sr1 p1).mono fun vs H2 ⟨s2, ys, sr2, ev2, r2, p2⟩ => ?_
    exact fMet_post (name := name) (id := id) sr2 hf (ev2.al _ _ hal) r2 p2
  · exact p1.elim
theorem ve_metM0 (hK : g.K = X.K) (hm : MetM X g name id f) (ho : PE X o (tE g B W mo))
    (hbase : attributeBase o name X.env (eval o X.env) = eval o X.env := by rfl) (hline : (apos.endLine == cpos.line) = true := by rfl) :
    PE X (.Call (.Attribute o name apos) [] [] cpos) (tE g B W (mMetM f mo maNil)) := by
  obtain ⟨r, hr, hf⟩ := hm.ex
  refine pe_imp (pe_bm0 PySem.F.plainAttrs_list hm.slot hm.ty hr ho hbase hline) fun σ H Q ⟨env, s, sr, p⟩ => ?_
  refine (bindE (Q := Q) sr p).mono fun v H1 ⟨s1, x, sr1, ev1, r1, p1⟩ => ?_
  split at p1
  · next n en =>
    obtain ⟨a, ws, xs, rfl, hal, hx, h1, h2⟩ := isLc_at sr1.good r1 en
    refine ⟨.inl ⟨rfl, ws, .of h1⟩, ?_⟩
    exact fMet_post (name := name) (id := id) sr1 hf hal .nil p1
  · exact p1.elim
/-! ### append, clear, reverse -/
def lmAppend : LM := fun xs ds => match ds with
  | [d] => if xs.length < 100000 then some (xs ++ [d], .non) else none
  | _ => none
theorem mm_append : MetM X g "append" "list.append" lmAppend := ⟨PySem.F.slot_list_append, PySem.F.type_list_append, _, mt_append, fun F al H l ws vs xs ds xs' d Q h1 h2 h3 h4 q => by
  unfold lmAppend at h4
  split at h4
  · next y =>
    split at h4
    · next hl =>
      cases h4
      obtain ⟨v, r, rfl, r1, r2⟩ := h3
      cases r2
      exact ⟨l, ws, v, rfl, rfl, h1, by rw [h2.length]; exact size_lt hl, q _ _ (h2.append (Reps.cons r1 Reps.nil)) rfl⟩
    · cases h4
  · cases h4⟩
def lmClear : LM := fun _ ds => match ds with
  | [] => some ([], .non)
  | _ => none
theorem mm_clear : MetM X g "clear" "list.clear" lmClear := ⟨PySem.F.slot_list_clear, PySem.F.type_list_clear, _, mt_clear, fun F al H l ws vs xs ds xs' d Q h1 h2 h3 h4 q => by
  unfold lmClear at h4
  split at h4
  · cases h4
    cases h3
    exact ⟨l, ws, rfl, rfl, h1, q [] _ rfl rfl⟩
  · cases h4⟩
def lmReverse : LM := fun xs ds => match ds with
  | [] => some (xs.reverse, .non)
  | _ => none
theorem mm_reverse : MetM X g "reverse" "list.reverse" lmReverse := ⟨PySem.F.slot_list_reverse, PySem.F.type_list_reverse, _, mt_reverse, fun F al H l ws vs xs ds xs' d Q h1 h2 h3 h4 q => by
  unfold lmReverse at h4
  split at h4
  · cases h4
    cases h3
    exact ⟨l, ws, rfl, rfl, h1, q ws.reverse _ h2.reverse rfl⟩
  · cases h4⟩
end
end Vi

set_option Elab.async false
set_option linter.all false
set_option maxRecDepth 100000
set_option maxHeartbeats 2000000
namespace Vi
open PySem L2 PyProof.Rows

/-! ### cells that nobody knows any more are forgotten as a def ends -/
mutual
def refsD (L : Nat) : D → Bool
  | .ref n => decide (n < L)
  | .tup xs => refsDs L xs
  | .xtup xs => refsDs L xs
  | .lst xs => refsDs L xs
  | .kl xs => refsDs L xs
  | .obj _ fs => refsF L fs
  | .dK kvs => refsK L kvs
  | .dT kvs => refsT L kvs
  | _ => true
def refsDs (L : Nat) : List D → Bool
  | [] => true
  | d :: r => refsD L d && refsDs L r
def refsF (L : Nat) : List (Str × D) → Bool
  | [] => true
  | (_, d) :: r => refsD L d && refsF L r
def refsK (L : Nat) : List (Key × D) → Bool
  | [] => true
  | (_, d) :: r => refsD L d && refsK L r
def refsT (L : Nat) : List (List Key × D) → Bool
  | [] => true
  | (_, d) :: r => refsD L d && refsT L r
end
def alCut (L : Nat) (al : Nat → Option Addr) : Nat → Option Addr := fun n => if n < L then al n else none
section
variable {g : Gi} {F : Hp} {al : Nat → Option Addr} {L : Nat}
mutual
theorem Rep.cut : ∀ {d : D} {v : V}, refsD L d = true → Rep g F al d v → Rep g F (alCut L al) d v
  | .non, _, _, h => h
  | .bl _, _, _, h => h
  | .int _, _, _, h => h
  | .str _, _, _, h => h
  | .tup _, _, e, ⟨a, vs, h1, h2, h3⟩ => ⟨a, vs, h1, h2, Reps.cut (by simpa only [refsD] using e) h3⟩
  | .lst _, _, e, ⟨a, vs, h1, h2, h3⟩ => ⟨a, vs, h1, h2, Reps.cut (by simpa only [refsD] using e) h3⟩
  | .xtup _, _, e, ⟨a, o, vs, h1, h2, h3, h4⟩ => ⟨a, o, vs, h1, h2, h3, Reps.cut (by simpa only [refsD] using e) h4⟩
  | .kl _, _, e, ⟨a, vs, h1, h2, h3⟩ => ⟨a, vs, h1, h2, Reps.cut (by simpa only [refsD] using e) h3⟩
  | .ref n, _, e, ⟨a, h1, h2⟩ => ⟨a, h1, by
    have hn : n < L := of_decide_eq_true (by simpa only [refsD] using e)
    show (if n < L then al n else none) = some a
    rw [if_pos hn]
    exact h2⟩
  | .obj _ _, _, e, ⟨a, dx, vs, h1, h2, h3⟩ => ⟨a, dx, vs, h1, h2, RepF.cut (by simpa only [refsD] using e) h3⟩
  | .cls _, _, _, h => h
  | .dK _, _, e, ⟨a, vs, h1, h2, h3⟩ => ⟨a, vs, h1, h2, RepK.cut (by simpa only [refsD] using e) h3⟩
  | .dT _, _, e, ⟨a, vs, h1, h2, h3⟩ => ⟨a, vs, h1, h2, RepT.cut (by simpa only [refsD] using e) h3⟩
theorem Reps.cut : ∀ {d : List D} {v : List V}, refsDs L d = true → Reps g F al d v → Reps g F (alCut L al) d v
  | [], _, _, h => h
  | _ :: _, _, e, ⟨v, r, h1, h2, h3⟩ => by
    obtain ⟨e1, e2⟩ := Bool.and_eq_true_iff.mp (by simpa only [refsDs] using e)
    exact ⟨v, r, h1, Rep.cut e1 h2, Reps.cut e2 h3⟩
theorem RepF.cut : ∀ {d : List (Str × D)} {v : List (Str × V)}, refsF L d = true → RepF g F al d v → RepF g F (alCut L al) d v
  | [], _, _, h => h
  | (_, _) :: _, _, e, ⟨v, r, h1, h2, h3⟩ => by
    obtain ⟨e1, e2⟩ := Bool.and_eq_true_iff.mp (by simpa only [refsF] using e)
    exact ⟨v, r, h1, Rep.cut e1 h2, RepF.cut e2 h3⟩
theorem RepK.cut : ∀ {d : List (Key × D)} {v : List (Key × V)}, refsK L d = true → RepK g F al d v → RepK g F (alCut L al) d v
  | [], _, _, h => h
  | (_, _) :: _, _, e, ⟨v, r, h1, h2, h3⟩ => by
    obtain ⟨e1, e2⟩ := Bool.and_eq_true_iff.mp (by simpa only [refsK] using e)
    exact ⟨v, r, h1, Rep.cut e1 h2, RepK.cut e2 h3⟩
theorem RepT.cut : ∀ {d : List (List Key × D)} {v : List (List Key × V)}, refsT L d = true → RepT g F al d v → RepT g F (alCut L al) d v
  | [], _, _, h => h
  | (_, _) :: _, _, e, ⟨v, r, h1, h2, h3⟩ => by
    obtain ⟨e1, e2⟩ := Bool.and_eq_true_iff.mp (by simpa only [refsT] using e)
    exact ⟨v, r, h1, Rep.cut e1 h2, RepT.cut e2 h3⟩
end
end
def cellRefs (L : Nat) : Cell → Bool
  | .lst xs => refsDs L xs
  | .ins _ fs => refsF L fs
  | .dK kvs => refsK L kvs
  | .dT kvs => refsT L kvs
  | .frz c => cellRefs L c
def cutH (L : Nat) (h : Hc) : Option Hc := if (h.take L).all (cellRefs L) then some (h.take L) else none
def RS.cut (L : Nat) : RS → RS
  | .nx e h => (match cutH L h with
    | some h2 => .nx (e.map fun _ => none) h2
    | none => .stuck)
  | .ret d h => if refsD L d then (match cutH L h with
    | some h2 => .ret d h2
    | none => .stuck) else .stuck
  | .exc e x h => if refsD L x then (match cutH L h with
    | some h2 => .exc (e.map fun _ => none) x h2
    | none => .stuck) else .stuck
  | _ => .stuck
def mCut (m : MS) : MS := fun env h => (m env h).cut h.length
section
variable {g : Gi} {B : Bg} {W : WXv} {env : Env} {s : Sta} {σ : L2.St} {H : Hp}
def Sta.cut (L : Nat) (s : Sta) : Sta := { F := s.F, al := alCut L s.al, h := s.h.take L, z := fun n => if n < L then s.z n else none }
theorem CellRep.cut {L : Nat} {a : Addr} : ∀ {c : Cell}, cellRefs L c = true → CellRep g s H a c → CellRep g (s.cut L) H a c
  | .lst _, e, ⟨vs, h1, h2⟩ => ⟨vs, h1, h2.cut e⟩
  | .ins _ _, e, ⟨dx, vs, h1, h2⟩ => ⟨dx, vs, h1, h2.cut e⟩
  | .dK _, e, ⟨vs, h1, h2⟩ => ⟨vs, h1, h2.cut e⟩
  | .dT _, e, ⟨vs, h1, h2⟩ => ⟨vs, h1, h2.cut e⟩
  | .frz c, e, h => CellRep.cut (c := c) e h
theorem alCut_some {L n : Nat} {al : Nat → Option Addr} {a : Addr} (h : alCut L al n = some a) : n < L ∧ al n = some a := by
  have h : (if n < L then al n else none) = some a := h
  by_cases e : n < L
  · rw [if_pos e] at h
    exact ⟨e, h⟩
  · rw [if_neg e] at h
    cases h
theorem take_some {L n : Nat} {h : Hc} {c : Cell} (e : (h.take L)[n]? = some c) : n < L ∧ h[n]? = some c := by
  by_cases hn : n < L
  · rw [List.getElem?_take_of_lt hn] at e
    exact ⟨hn, e⟩
  · rw [List.getElem?_take, if_neg hn] at e
    cases e
theorem good_cut {L : Nat} (gd : Good g s H) (hc : (s.h.take L).all (cellRefs L) = true) : Good g (s.cut L) H := by
  refine ⟨gd.fle, fun n m a h1 h2 => gd.inj n m a (alCut_some h1).2 (alCut_some h2).2, fun n a h => ?_, fun n c h => ?_, ⟨fun n o h => ?_, fun n c h => ?_⟩⟩
  · obtain ⟨e, h⟩ := alCut_some h
    obtain ⟨h1, h2, h3⟩ := gd.dom n a h
    refine ⟨?_, h2, h3⟩
    show n < (s.h.take L).length
    rw [List.length_take]
    omega
  · obtain ⟨e, h⟩ := take_some (show (s.h.take L)[n]? = some c from h)
    obtain ⟨a, h1, h2⟩ := gd.cell n c h
    have hm : c ∈ s.h.take L := List.mem_of_getElem? (by rw [List.getElem?_take_of_lt e]; exact h)
    refine ⟨a, ?_, h2.cut (List.all_eq_true.mp hc c hm)⟩
    show (if n < L then s.al n else none) = some a
    rw [if_pos e]
    exact h1
  · have h : (if n < L then s.z n else none) = some o := h
    by_cases e : n < L
    · rw [if_pos e] at h
      obtain ⟨a, c, h1, h2, h3⟩ := gd.zed.at_ n o h
      refine ⟨a, c, ?_, h2, ?_⟩
      · show (if n < L then s.al n else none) = some a
        rw [if_pos e]
        exact h1
      · show (s.h.take L)[n]? = _
        rw [List.getElem?_take_of_lt e]
        exact h3
    · rw [if_neg e] at h
      cases h
  · obtain ⟨e, h⟩ := take_some (show (s.h.take L)[n]? = some (.frz c) from h)
    obtain ⟨o, h1⟩ := gd.zed.of n c h
    exact ⟨o, by
      show (if n < L then s.z n else none) = some o
      rw [if_pos e]
      exact h1⟩
theorem evo_cut {s0 s2 : Sta} {H0 H2 : Hp} {L : Nat} (gd : Good g s H) (e0 : Evo s0 H0 s H) (hL : L = s.h.length) (e : Evo s0 H0 s2 H2) : Evo s0 H0 (s2.cut L) H2 := by
  refine ⟨e.f, fun n a h => ?_, fun a o h hn => ?_, ?_, fun n o h => ?_⟩
  · have hn := (gd.dom n a (e0.al n a h)).1
    show (if n < L then s2.al n else none) = some a
    rw [if_pos (by omega)]
    exact e.al n a h
  · obtain ⟨h1, h2, h3⟩ := e.oth a o h hn
    exact ⟨h1, h2, fun n z => h3 n (alCut_some z).2⟩
  · show s0.h.length ≤ (s2.h.take L).length
    rw [List.length_take]
    have := e.len
    have := e0.len
    omega
  · obtain ⟨a, c, h1, _, h3⟩ := gd.zed.at_ n o (e0.z n o h)
    have hn := (List.getElem?_eq_some_iff.mp h3).1
    show (if n < L then s2.z n else none) = some o
    rw [if_pos (by omega)]
    exact e.z n o h
theorem none_map {env : Env} {i : Nat} {sl : Sl} (h : (env.map fun _ => (none : Option Sl))[i]? = some (some sl)) : False := by
  rw [List.getElem?_map] at h
  cases e : env[i]? with
  | none => rw [e] at h; cases h
  | some x => rw [e] at h; cases h
theorem SR.cut {s2 : Sta} {σ2 : L2.St} {H2 : Hp} {env2 : Env} {L : Nat} (sr : SR g B env s σ H) (hL : L = s.h.length) (sr2 : SR g B env2 s2 σ2 H2) (hc : (s2.h.take L).all (cellRefs L) = true) : SR g B (env2.map fun _ => none) (s2.cut L) σ2 H2 :=
  ⟨good_cut sr2.good hc, evo_cut sr.good sr.evo hL sr2.evo, by rw [List.length_map]; exact sr2.len, fun i sl h => (none_map h).elim, fun i j sl sl' v _ h => (none_map h).elim⟩
theorem cutH_some {L : Nat} {h h2 : Hc} (e : cutH L h = some h2) : (h.take L).all (cellRefs L) = true ∧ h2 = h.take L := by
  unfold cutH at e
  split at e
  · next hc => cases e; exact ⟨hc, rfl⟩
  · cases e
theorem le_cut {s2 : Sta} {L : Nat} (gd : Good g s H) (hL : L = s.h.length) (l : Le s s2) : Le s (s2.cut L) := ⟨l.f, fun n a h => by
    have hn := (gd.dom n a h).1
    show (if n < L then s2.al n else none) = some a
    rw [if_pos (by omega)]
    exact l.al n a h, fun n o h => by
    obtain ⟨a, c, h1, _, h3⟩ := gd.zed.at_ n o h
    have hn := (List.getElem?_eq_some_iff.mp h3).1
    show (if n < L then s2.z n else none) = some o
    rw [if_pos (by omega)]
    exact l.z n o h⟩
theorem PostS.cut {N : Ends} (sr : SR g B env s σ H) : ∀ {r : RS}, PostS g B W s (r.cut s.h.length) N → PostS g B W s r N
  | .nx e h, p => fun σ2 H2 s2 eh l sr2 => by
    unfold RS.cut at p
    dsimp only at p
    split at p
    · next h2 hc =>
      rw [← eh] at hc
      obtain ⟨h1, rfl⟩ := cutH_some hc
      exact p σ2 H2 (s2.cut s.h.length) rfl (le_cut sr.good rfl l) (SR.cut sr rfl sr2 h1)
    · exact p.elim
  | .ret d h, p => fun v H2 s2 eh ev gd r => by
    unfold RS.cut at p
    dsimp only at p
    split at p
    · next hd =>
      split at p
      · next h2 hc =>
        rw [← eh] at hc
        obtain ⟨h1, rfl⟩ := cutH_some hc
        exact p v H2 (s2.cut s.h.length) rfl (evo_cut sr.good sr.evo rfl ev) (good_cut gd h1) (r.cut hd)
      · exact p.elim
    · exact p.elim
  | .exc e x h, p => fun c d σ2 H2 s2 eh l sr2 xr => by
    unfold RS.cut at p
    dsimp only at p
    split at p
    · next hd =>
      split at p
      · next h2 hc =>
        rw [← eh] at hc
        obtain ⟨h1, rfl⟩ := cutH_some hc
        refine p c d σ2 H2 (s2.cut s.h.length) rfl (le_cut sr.good rfl l) (SR.cut sr rfl sr2 h1) ?_
        cases x with
        | obj c' fs =>
          obtain ⟨d', vs, e1, e2, e3, e4, e5⟩ := xr
          exact ⟨d', vs, e1, e2, e3, fun n z => e4 n (alCut_some z).2, e5.cut (by simpa only [refsD] using hd)⟩
        | _ => exact xr.elim
      · exact p.elim
    · exact p.elim
  | .brk _ _, p => p.elim
  | .cnt _ _, p => p.elim
  | .stuck, p => p
end
section
variable {X : Cx} {g : Gi} {B : Bg} {W : WXv} {sts : List Stmt} {m : MS}
theorem vss_cut (h : PSs X sts (tS g B W m)) : PSs X sts (tS g B W (mCut m)) := pss_imp h fun N σ H ⟨env, s, sr, p⟩ => ⟨env, s, sr, p.cut sr⟩
end
end Vi

set_option Elab.async false
set_option linter.all false
set_option maxRecDepth 100000
set_option maxHeartbeats 2000000
namespace Vi
open PySem L2 PyProof.Rows

/-! ### isinstance(x, (A, B)) -/
def isi2 (g : Gi) (u t1 t2 : Ty) : Option Bool := match g.isi u t1 with
  | some true => some true
  | some false => g.isi u t2
  | none => none
def fIsi2 (g : Gi) (t1 t2 : Ty) (x : Vl) (h : Hc) : R Vl := match x.ty g h with
  | some u => (match isi2 g u t1 t2 with
    | some b => .ok (.d (.bl b)) h
    | none => .stuck)
  | none => .stuck
section
variable {X : Cx} {g : Gi} {B : Bg} {W : WXv} {pos p p2 : Pos} {e c1 c2 : Expr} {m : ME} {k : Nat}
theorem isi2_kit (G : GiOk g) {u t1 t2 : Ty} {b : Bool} (h : isi2 g u t1 t2 = some b) : PySem.W.kitAny g.K (u.val g) [t1.val g, t2.val g] = some b := by
  unfold isi2 at h
  split at h
  · next e =>
    cases h
    unfold PySem.W.kitAny
    rw [G.isi _ _ _ e]
  · next e =>
    unfold PySem.W.kitAny
    rw [G.isi _ _ _ e]
    dsimp only
    unfold PySem.W.kitAny
    rw [G.isi _ _ _ h]
    cases b <;> rfl
  · cases h
theorem clsV_ty (g : Gi) : ∀ t : Ty, ClsV (t.v g) (t.val g)
  | .bt n => .ty n
  | .own _ => .own _
theorem ve_isi2 (G : GiOk g) (hK : g.K = X.K) (t1 t2 : Ty) (hg : Gl X "isinstance") (hm : X.mg "isinstance" = none) (he : PE X e (tE g B W m)) (h1 : PE X c1 (tC (t1.v g))) (h2 : PE X c2 (tC (t2.v g)))
    (hs : starEach [e, .Tuple [c1, c2] k p2] X.env = (false, eval e X.env) :: starEach [.Tuple [c1, c2] k p2] X.env := by rfl) (hs2 : starEach [.Tuple [c1, c2] k p2] X.env = (false, eval (.Tuple [c1, c2] k p2) X.env) :: starEach [] X.env := by rfl)
    (hs3 : starEach [c1, c2] X.env = (false, eval c1 X.env) :: starEach [c2] X.env := by rfl) (hs4 : starEach [c2] X.env = (false, eval c2 X.env) :: starEach [] X.env := by rfl)
    (hpl : (backTo pos (starEach [.Tuple [c1, c2] k p2] X.env)).any (·.1) = false := by rfl) :
    PE X (.Call (.Name "isinstance" p) [e, .Tuple [c1, c2] k p2] [] pos) (tE g B W (m1 (fIsi2 g t1 t2) m)) := by
  refine pe_imp (pe_callB call_isiT hg hm (by decide +kernel) (pa_cons he (pa_cons (pe_tup (pa_cons h1 (pa_cons h2 pa_nil hs4) hs3)) pa_nil hs2) hs) (by decide) (by decide) hs hpl) fun σ H Q ⟨env, s, sr, p⟩ => ?_
  refine (bindE (Q := Q) sr p).mono fun v H1 ⟨s1, x, sr1, _, r1, p1⟩ => ?_
  unfold fIsi2 at p1
  split at p1
  · next u e1 =>
    split at p1
    · next b e2 =>
      refine ⟨by show 2 ≤ sizeLine; decide, fun q hq => ?_⟩
      obtain ⟨sr2, ev2⟩ := sr1.new (o := .tup [t1.v g, t2.v g]) hq
      refine ⟨v, q, [t1.v g, t2.v g], u.val g, [t1.val g, t2.val g], b, rfl, upd_same, .cons (clsV_ty g t1) (.cons (clsV_ty g t2) .nil), hK ▸ Vl.tyX G sr2.good (r1.evo ev2) e1, hK ▸ isi2_kit G e2, ?_⟩
      exact p1 _ _ s1 rfl ev2 sr2 rfl
    · exact p1.elim
  · exact p1.elim
end
end Vi

set_option Elab.async false
set_option linter.all false
set_option maxRecDepth 100000
set_option maxHeartbeats 2000000
namespace Vi
open PySem L2 PyProof.Rows

/-! ### the order of numbers, of texts, of tuples of both -/
structure Tot {α : Type} (lt : α → α → Bool) : Prop where
  asym : ∀ x y, lt x y = true → lt y x = false
  tr : ∀ x y z, lt y x = false → lt z y = false → lt z x = false
  tri : ∀ x y, lt x y = false → lt y x = false → x = y
theorem Tot.swo {α : Type} {lt : α → α → Bool} (T : Tot lt) : SrtO.Swo lt := ⟨T.asym, T.tr⟩
theorem Tot.irr {α : Type} {lt : α → α → Bool} (T : Tot lt) (x : α) : lt x x = false := T.swo.refl x
def sLt (a b : PySem.Str) : Bool := decide (a.cps.toList < b.cps.toList)
theorem str_eq {a b : PySem.Str} (h : a.cps.toList = b.cps.toList) : a = b := by
  cases a with
  | mk x =>
    cases b with
    | mk y =>
      have : x = y := Array.toList_inj.mp h
      rw [this]
theorem tot_str : Tot sLt := by
  refine ⟨fun x y h => ?_, fun x y z h1 h2 => ?_, fun x y h1 h2 => ?_⟩
  · have a := of_decide_eq_true (p := x.cps.toList < y.cps.toList) h
    exact decide_eq_false (p := y.cps.toList < x.cps.toList) (List.lt_asymm a)
  · have a := of_decide_eq_false (p := y.cps.toList < x.cps.toList) h1
    have b := of_decide_eq_false (p := z.cps.toList < y.cps.toList) h2
    refine decide_eq_false (p := z.cps.toList < x.cps.toList) ?_
    exact List.not_lt.mpr (List.le_trans (List.not_lt.mp a) (List.not_lt.mp b))
  · have a := of_decide_eq_false (p := x.cps.toList < y.cps.toList) h1
    have b := of_decide_eq_false (p := y.cps.toList < x.cps.toList) h2
    exact str_eq (List.le_antisymm (List.not_lt.mp b) (List.not_lt.mp a))
def kLt : Key → Key → Bool
  | .inl a, .inl b => decide (a < b)
  | .inr a, .inr b => sLt a b
  | .inl _, .inr _ => true
  | .inr _, .inl _ => false
theorem tot_key : Tot kLt := by
  refine ⟨fun x y h => ?_, fun x y z h1 h2 => ?_, fun x y h1 h2 => ?_⟩
  · cases x <;> cases y
    · next a b =>
      have q := of_decide_eq_true (p := a < b) h
      exact decide_eq_false (p := b < a) (by omega)
    · rfl
    · cases h
    · exact tot_str.asym _ _ h
  · cases x <;> cases y <;> cases z <;> first | rfl | (cases h1; done) | (cases h2; done) | skip
    · next a b c =>
      have q := of_decide_eq_false (p := b < a) h1
      have r := of_decide_eq_false (p := c < b) h2
      exact decide_eq_false (p := c < a) (by omega)
    · exact tot_str.tr _ _ _ h1 h2
  · cases x <;> cases y
    · next a b =>
      have q := of_decide_eq_false (p := a < b) h1
      have r := of_decide_eq_false (p := b < a) h2
      rw [show a = b by omega]
    · cases h1
    · cases h2
    · rw [tot_str.tri _ _ h1 h2]
def ksLt : List Key → List Key → Bool
  | [], [] => false
  | [], _ :: _ => true
  | _ :: _, [] => false
  | x :: xs, y :: ys => if x = y then ksLt xs ys else kLt x y
theorem ksLt_asym : ∀ x y : List Key, ksLt x y = true → ksLt y x = false
  | [], [], _ => rfl
  | [], _ :: _, _ => rfl
  | _ :: _, [], h => by cases h
  | x :: xs, y :: ys, h => by
    unfold ksLt at h ⊢
    by_cases e : x = y
    · rw [if_pos e] at h
      rw [if_pos e.symm]
      exact ksLt_asym xs ys h
    · rw [if_neg e] at h
      rw [if_neg fun z => e z.symm]
      exact tot_key.asym _ _ h
theorem ksLt_tri : ∀ x y : List Key, ksLt x y = false → ksLt y x = false → x = y
  | [], [], _, _ => rfl
  | [], _ :: _, h, _ => by cases h
  | _ :: _, [], _, h => by cases h
  | x :: xs, y :: ys, h1, h2 => by
    unfold ksLt at h1 h2
    by_cases e : x = y
    · rw [if_pos e] at h1
      rw [if_pos e.symm] at h2
      rw [e, ksLt_tri xs ys h1 h2]
    · rw [if_neg e] at h1
      rw [if_neg fun z => e z.symm] at h2
      exact absurd (tot_key.tri _ _ h1 h2) e
theorem ksLt_tr : ∀ x y z : List Key, ksLt y x = false → ksLt z y = false → ksLt z x = false
  | [], [], z, _, h2 => h2
  | [], y :: ys, [], _, h2 => by cases h2
  | [], y :: ys, z :: zs, _, _ => rfl
  | x :: xs, [], _, h1, _ => by cases h1
  | x :: xs, y :: ys, [], _, h2 => by cases h2
  | x :: xs, y :: ys, z :: zs, h1, h2 => by
    unfold ksLt at h1 h2 ⊢
    by_cases e1 : y = x
    · subst e1
      rw [if_pos rfl] at h1
      by_cases e2 : z = y
      · rw [if_pos e2] at h2 ⊢
        exact ksLt_tr xs ys zs h1 h2
      · rw [if_neg e2] at h2 ⊢
        exact h2
    · rw [if_neg e1] at h1
      by_cases e2 : z = y
      · subst e2
        rw [if_neg e1]
        exact h1
      · rw [if_neg e2] at h2
        have h3 := tot_key.tr _ _ _ h1 h2
        by_cases e3 : z = x
        · subst e3
          exact absurd (tot_key.tri _ _ h2 h1) e2
        · rw [if_neg e3]
          exact h3
theorem tot_keys : Tot ksLt := ⟨ksLt_asym, ksLt_tr, ksLt_tri⟩
theorem tot_int : Tot fun a b : Int => decide (a < b) := by
  refine ⟨fun x y h => ?_, fun x y z h1 h2 => ?_, fun x y h1 h2 => ?_⟩
  · have a := of_decide_eq_true (p := x < y) h
    exact decide_eq_false (p := y < x) (by omega)
  · have a := of_decide_eq_false (p := y < x) h1
    have b := of_decide_eq_false (p := z < y) h2
    exact decide_eq_false (p := z < x) (by omega)
  · have a := of_decide_eq_false (p := x < y) h1
    have b := of_decide_eq_false (p := y < x) h2
    omega
/-! ### sorting -/
section
variable {α : Type} {lt : α → α → Bool}
def insL (lt : α → α → Bool) (x : α) : List α → List α
  | [] => [x]
  | y :: r => if lt y x then y :: insL lt x r else x :: y :: r
def sortL (lt : α → α → Bool) : List α → List α
  | [] => []
  | x :: r => insL lt x (sortL lt r)
theorem insL_perm (x : α) : ∀ l : List α, (insL lt x l).Perm (x :: l)
  | [] => List.Perm.refl _
  | y :: r => by
    unfold insL
    split
    · exact ((insL_perm x r).cons y).trans (List.Perm.swap x y r)
    · exact List.Perm.refl _
theorem sortL_perm : ∀ l : List α, (sortL lt l).Perm l
  | [] => List.Perm.refl _
  | x :: r => (insL_perm x _).trans ((sortL_perm r).cons x)
theorem insL_srtd (T : Tot lt) (x : α) : ∀ {l : List α}, SrtO.Srtd lt l → SrtO.Srtd lt (insL lt x l)
  | [], _ => List.pairwise_singleton _ _
  | y :: r, h => by
    obtain ⟨h1, h2⟩ := List.pairwise_cons.mp h
    unfold insL
    split
    · next hy =>
      refine List.pairwise_cons.mpr ⟨fun z hz => ?_, insL_srtd T x h2⟩
      rcases List.mem_cons.mp ((insL_perm x r).mem_iff.mp hz) with rfl | hz
      · exact T.asym _ _ hy
      · exact h1 z hz
    · next hy =>
      have hy' : lt y x = false := by simpa using hy
      refine List.pairwise_cons.mpr ⟨fun z hz => ?_, h⟩
      rcases List.mem_cons.mp hz with rfl | hz
      · exact hy'
      · exact T.tr _ _ _ hy' (h1 z hz)
theorem sortL_srtd (T : Tot lt) : ∀ l : List α, SrtO.Srtd lt (sortL lt l)
  | [] => List.Pairwise.nil
  | x :: r => insL_srtd T x (sortL_srtd T r)
/-- there is but one sorted arrangement -/
theorem srtd_uniq (T : Tot lt) : ∀ {l m : List α}, SrtO.Srtd lt l → SrtO.Srtd lt m → l.Perm m → l = m
  | [], m, _, _, p => (List.Perm.nil_eq p)
  | x :: l, [], _, _, p => (List.Perm.eq_nil p)
  | x :: l, y :: m, h1, h2, p => by
    obtain ⟨a1, a2⟩ := List.pairwise_cons.mp h1
    obtain ⟨b1, b2⟩ := List.pairwise_cons.mp h2
    have e : x = y := by
      rcases List.mem_cons.mp (p.mem_iff.mp (List.mem_cons_self ..)) with e | hx
      · exact e
      · rcases List.mem_cons.mp (p.mem_iff.mpr (List.mem_cons_self ..)) with e | hy
        · exact e.symm
        · exact T.tri _ _ (b1 x hx) (a1 y hy)
    subst e
    rw [srtd_uniq T a2 b2 (List.Perm.cons_inv p)]
theorem sortL_of (T : Tot lt) {l m : List α} (h : SrtO.Srtd lt m) (p : m.Perm l) : m = sortL lt l :=
  srtd_uniq T h (sortL_srtd T l) (p.trans (sortL_perm l).symm)
end
end Vi

set_option Elab.async false
set_option linter.all false
set_option maxRecDepth 100000
set_option maxHeartbeats 4000000
namespace Vi
open PySem L2 PyProof.Rows

/-! ### tuples of numbers and texts are compared -/
def kKind : Key → Bool
  | .inl _ => true
  | .inr _ => false
/-- two tuples that can be compared -/
def compat : List Key → List Key → Bool
  | x :: xs, y :: ys => (kKind x == kKind y) && (if x = y then compat xs ys else true)
  | _, _ => true
section
variable {prog : Program} {w : World} {A : Around} {E : Value → Shared → Prop} {s : Shared} {Q : Bool → Shared → Prop}
theorem lex_keys {b fin : Bool} : ∀ {ks js : List Key} {us vs : List Value} (i : Nat), Vals (ks.map kV) us → Vals (js.map kV) vs → compat ks js = true → fin = decide (ks.length < js.length) → Q (ksLt ks js) s → PySem.W.KatLex prog w A b fin Q (us.zip vs) i s
  | [], [], _, _, i, .nil, .nil, _, hf, q => by
    subst hf
    exact PySem.W.kat_nil q
  | [], _ :: _, _, _, i, .nil, .cons _ _, _, hf, q => by
    subst hf
    exact PySem.W.kat_nil q
  | _ :: _, [], _, _, i, .cons _ _, .nil, _, hf, q => by
    subst hf
    exact PySem.W.kat_nil q
  | x :: xs, y :: ys, _, _, i, .cons (b := u) (l₂ := us) ru rus, .cons (b := v) (l₂ := vs) rv rvs, hc, hf, q => by
    have hc : ((kKind x == kKind y) && (if x = y then compat xs ys else true)) = true := hc
    obtain ⟨h1, h2⟩ := Bool.and_eq_true_iff.mp hc
    have q : Q (if x = y then ksLt xs ys else kLt x y) s := q
    have hf2 : fin = decide (xs.length < ys.length) := by
      rw [hf]
      refine decide_eq_decide.mpr ?_
      simp only [List.length_cons]
      omega
    have ih : x = y → PySem.W.KatLex prog w A b fin Q (us.zip vs) (i + 1) s := fun e => by
      rw [if_pos e] at h2 q
      exact lex_keys (i + 1) rus rvs h2 hf2 q
    cases x with
    | inl a =>
      cases y with
      | inl c =>
        obtain ⟨t, rfl⟩ := ru
        obtain ⟨t', rfl⟩ := rv
        refine PySem.W.kat_cons (wpAny_eqBool_int ?_)
        refine PySem.W.kat_go (fun e => ?_) (fun e => ?_)
        · have ea : a = c := by simpa using e
          exact PySem.W.kat_yes (ih (by rw [ea]))
        · have ea : ¬ a = c := by simpa using e
          rw [if_neg (fun z => ea (Sum.inl.inj z))] at q
          exact PySem.W.kat_no (PyProof.Rows.oneLt_any_int q)
      | inr c => cases h1
    | inr a =>
      cases y with
      | inl c => cases h1
      | inr c =>
        obtain ⟨t, rfl⟩ := ru
        obtain ⟨t', rfl⟩ := rv
        refine PySem.W.kat_cons (wpAny_eqBool_str ?_)
        refine PySem.W.kat_go (fun e => ?_) (fun e => ?_)
        · have ea : a = c := by simpa using e
          exact PySem.W.kat_yes (ih (by rw [ea]))
        · have ea : ¬ a = c := by simpa using e
          rw [if_neg (fun z => ea (Sum.inr.inj z))] at q
          exact PySem.W.kat_no (PyProof.Rows.oneLt_any_str q)
end
/-! ### sorted of tuples -/
/-- a tuple of numbers and texts, as it stands in the heap -/
def TupK (h : Heap) (v : Value) (ks : List Key) : Prop := ∃ (a : Addr) (its : List Value), v = .ref a ∧ Vals (ks.map kV) its ∧ IsTup h a its.toArray
theorem TupK.keeps {h h' : Heap} {v : Value} {ks : List Key} (x : TupK h v ks) (k : ∀ b o, h.get? b = some o → o.cls = .type "tuple" → h'.get? b = some o) : TupK h' v ks := by
  obtain ⟨a, its, e, r, o, h1, h2, n, h3⟩ := x
  exact ⟨a, its, e, r, o, k a o h1 h2, h2, n, h3⟩
def compatAll (l : List (List Key)) : Bool := l.all fun x => !x.isEmpty && l.all fun y => compat x y
section
variable {prog : Program} {w : World} {A : Around} {E : Value → Shared → Prop} {s : Shared}
theorem tupK_cmp {b : Bool} {vs : List Value} {k : Value → List Key} (hp : ∀ v ∈ vs, TupK s.heap v (k v)) (hc : ∀ v ∈ vs, ∀ u ∈ vs, compat (k v) (k u) = true) : SrtO.Cmp prog w A s (tuples' b) (fun p => p.1 ∈ vs) (SrtO.lt2 fun v u => ksLt (k v) (k u)) := by
  intro p q m1 m2
  obtain ⟨a, its, e1, r1, o1, g1, _, n1, d1⟩ := hp _ m1
  obtain ⟨c, its2, e2, r2, o2, g2, _, n2, d2⟩ := hp _ m2
  show wpAny (model prog w) A (keyLt' (tuples' b) p.1 q.1) (fun r s' => s' = s ∧ r = ksLt (k p.1) (k q.1)) (fun _ _ => False) s
  have q3 := hc _ m1 _ m2
  generalize k p.1 = ks at r1 q3 ⊢
  generalize k q.1 = js at r2 q3 ⊢
  rw [e1, e2]
  refine PySem.W.kat_lt g1 d1 g2 d2 ?_
  refine lex_keys 0 (by simpa using r1) (by simpa using r2) q3 ?_ ⟨rfl, rfl⟩
  have l1 := r1.length
  have l2 := r2.length
  rw [List.length_map] at l1 l2
  rw [List.size_toArray, List.size_toArray, l1, l2]
theorem kat_of {k : Value → List Key} {kd : Bool} : ∀ {l : List Value}, (∀ v ∈ l, TupK s.heap v (k v)) → (∀ v ∈ l, ∃ x r, k v = x :: r ∧ kKind x = kd) →
    ∃ fs, PySem.W.KatTups s.heap l fs ∧ fs.length = l.length ∧ ∀ f ∈ fs, ∃ x, RelV (kV x) f ∧ kKind x = kd
  | [], _, _ => ⟨[], PySem.W.KatTups.nil, rfl, fun f hf => by cases hf⟩
  | v :: l, h1, h2 => by
    obtain ⟨fs, q1, q2, q3⟩ := kat_of (l := l) (fun u hu => h1 u (List.mem_cons_of_mem _ hu)) fun u hu => h2 u (List.mem_cons_of_mem _ hu)
    obtain ⟨a, its, rfl, r1, o1, g1, c1, n1, d1⟩ := h1 v (List.mem_cons_self ..)
    obtain ⟨x, r, ek, hk⟩ := h2 _ (List.mem_cons_self ..)
    rw [ek] at r1
    cases r1 with
    | @cons _ f _ its' rf rr =>
      refine ⟨f :: fs, PySem.W.KatTups.cons g1 c1 d1 (by simp) q1, by simp [q2], fun g hg => ?_⟩
      rcases List.mem_cons.mp hg with rfl | hg
      · exact ⟨x, rf, hk⟩
      · exact q3 g hg
theorem tupK_sortable {a : Addr} {vs : List Value} {k : Value → List Key} {kd : Bool} (h0 : 0 < vs.length) (hp : ∀ v ∈ vs, TupK s.heap v (k v)) (hk : ∀ v ∈ vs, ∃ x r, k v = x :: r ∧ kKind x = kd)
    (hc : ∀ v ∈ vs, ∀ u ∈ vs, compat (k v) (k u) = true) (ha : ∀ o, s.heap.get? a = some o → o.cls ≠ .type "tuple") : SrtO.SortableO prog w A s a vs fun v u => ksLt (k v) (k u) := by
  intro h' same
  have hp' : ∀ v ∈ vs, TupK h' v (k v) := fun v m => (hp v m).keeps fun b o e c => same b o (fun z => ha o (by rw [← z]; exact e) c) e
  obtain ⟨fs, q1, q2, q3⟩ := kat_of (s := { s with heap := h' }) hp' hk
  refine ⟨tuples' true, fun Q E hq => ?_, tupK_cmp hp' hc⟩
  cases kd with
  | true =>
    refine PySem.W.kat_kind (T := .type "int") q1 (by omega) (fun f m => ?_) (by rfl) ?_
    · obtain ⟨x, rx, kx⟩ := q3 f m
      cases x with
      | inl i =>
        obtain ⟨t, rfl⟩ := rx
        exact PySem.W.Looks.now
      | inr _ => cases kx
    · rw [show (Value.type "int" != Value.type "tuple") = true from by decide +kernel]
      exact hq
  | false =>
    refine PySem.W.kat_kind (T := .type "str") q1 (by omega) (fun f m => ?_) (by rfl) ?_
    · obtain ⟨x, rx, kx⟩ := q3 f m
      cases x with
      | inr i =>
        obtain ⟨t, rfl⟩ := rx
        exact PySem.W.Looks.now
      | inl _ => cases kx
    · rw [show (Value.type "str" != Value.type "tuple") = true from by decide +kernel]
      exact hq
theorem swo_by {β : Type} (k : β → List Key) : SrtO.Swo fun v u : β => ksLt (k v) (k u) := ⟨fun x y h => tot_keys.asym _ _ h, fun x y z h1 h2 => tot_keys.tr _ _ _ h1 h2⟩
end
/-- what sorted asks: a list of tuples (k says what stands in them) that can be compared -/
def rSrtK (K : PySem.W.Frag) : List V → Hp → VK → Prop := fun vs H Q => ∃ (a : Addr) (xs : List V) (k : V → List Key) (kd : Bool), vs = [.ref a] ∧ SqL K H a xs ∧ (∀ x ∈ xs, ∃ t, x = .ref t ∧ SqT K H t ((k x).map kV)) ∧
  (∀ x ∈ xs, ∃ y r, k x = y :: r ∧ kKind y = kd) ∧ (∀ x ∈ xs, ∀ y ∈ xs, compat (k x) (k y) = true) ∧
  ∀ ys p, SrtO.Srtd (fun v u => ksLt (k v) (k u)) ys → ys.Perm xs → H p = none → Q (.ref p) (upd H p (.lst ys))
section
variable {X : Cx}
theorem cr_srtK : CallR X (.builtin "sorted") (rSrtK X.K) := by
  intro pins s σ H vs us Q I r ⟨a, xs, k, kd, e, hs, hx, hk, hc, q⟩
  subst e
  obtain ⟨its, rv, hl, hz⟩ := I.list hs
  rw [Vals.ref1 r]
  obtain ⟨e1, e2⟩ := refs_back rv fun x m => by
    obtain ⟨t, et, _⟩ := hx x m
    exact ⟨t, et⟩
  have mem : ∀ v ∈ its, backV v ∈ xs := fun v hv => by rw [e1]; exact List.mem_map.mpr ⟨v, hv, rfl⟩
  have tk : ∀ v ∈ its, TupK s.heap v (k (backV v)) := fun v hv => by
    obtain ⟨t, rfl⟩ := e2 v hv
    obtain ⟨t', et, ht⟩ := hx _ (mem _ hv)
    cases et
    obtain ⟨js, rj, pj, _⟩ := I.tuple ht
    exact ⟨t, js, rfl, rj, pj⟩
  refine SrtO.sorted_ord (swo_by fun v => k (backV v)) hl.isList (by rw [← rv.length]; exact hz) (fun h2 h₁ a' h3 same => ?_) fun out h1 h2 => ?_
  · refine tupK_sortable (s := { s with heap := h₁ }) (kd := kd) (by omega) (fun v hv => (tk v hv).keeps fun b o e _ => (same b o e).2) (fun v hv => hk _ (mem v hv)) (fun v hv u hu => hc _ (mem v hv) _ (mem u hu)) fun o e => ?_
    rw [h3] at e
    cases e
    exact fun z => absurd (show Value.type "list" = Value.type "tuple" from z) (by decide)
  · have h3 : ∀ u ∈ out, ∃ b, u = Value.ref b := fun u hu => e2 u (h2.perm.mem_iff.mp hu)
    have hp : (out.map backV).Perm xs := by
      rw [e1]
      exact h2.perm.map backV
    obtain ⟨ep, he'⟩ := PyProof.Rows.sortedAll_at s.heap its out.toArray
    refine ⟨.ref _, upd H (s.heap.objs.size + 1) (.lst (out.map backV)), I.laid (t' := s.toks) (fun _ _ => PyProof.Rows.sortedAll_old) (Nat.le_succ _) ⟨?_, out, ep, vals_back h3, he'⟩, rfl, q _ _ (List.pairwise_map.mpr h1) hp (I.hok.fresh (Nat.le_succ _))⟩
    rw [hp.length_eq]
    exact hz
end
end Vi

set_option Elab.async false
set_option linter.all false
set_option maxRecDepth 100000
set_option maxHeartbeats 4000000
namespace Vi
open PySem L2 PyProof.Rows

/-! ### sorted of anything whose items are known -/
section
variable {prog : Program} {w : World} {A : Around} {E : Value → Shared → Prop} {s : Shared}
/-- the items of x are vs -/
def Colls (prog : Program) (w : World) (A : Around) (s : Shared) (x : Value) (vs : List Value) : Prop :=
  ∀ (E : Value → Shared → Prop) (R : List Value → Shared → Prop), (∀ (h' : Heap) (tk : Nat), (∀ b o, s.heap.get? b = some o → h'.get? b = some o) → R vs { s with heap := h', toks := tk }) → wpAny (model prog w) A (collect x) R E s
theorem sorted_src {x : Value} {vs : List Value} {ltv : Value → Value → Bool} {Q : Value → Shared → Prop} (O : SrtO.Swo ltv) (hc : Colls prog w A.in1 s x vs) (hz : vs.length ≤ sizeLine)
    (hS : 2 ≤ vs.length → ∀ (s₁ : Shared) (a : Addr), s₁.heap.get? a = some (seqObj "list" vs.toArray 0) → (∀ b o, s.heap.get? b = some o → b ≠ a ∧ s₁.heap.get? b = some o) → SrtO.SortableO prog w A.in1.in1 s₁ a vs ltv)
    (h : ∀ (out : List Value) (h1 h' : Heap) (tk : Nat), SrtO.Srtd ltv out → SrtO.Stb ltv out vs → (∀ b o, s.heap.get? b = some o → h1.get? b = some o) → (∀ b o, h1.get? b = some o → h'.get? b = some o) → (∃ n, h'.get? h1.objs.size = some (seqObj "list" out.toArray n)) → Q (.ref h1.objs.size) { s with heap := h', toks := tk }) :
    wpAny (model prog w) A (call (.builtin "sorted") [x]) Q E s := by
  refine Calls.call_function_entry kind_sorted plain_sorted entry_sorted (args_sorted1 _) ?_
  unfold Builtin.«sorted»
  refine wpAny_bind (m := checkCount "sorted" 1 1 _) (wpAny_pure ?_)
  refine wpAny_bind (hc _ _ fun h1 tk k1 => ?_)
  refine wpAny_bind (wpAny_newList (items := vs) ?_ hz)
  have hL : (h1.push (seqObj "list" vs.toArray 0)).get? h1.objs.size = some (seqObj "list" vs.toArray 0) := Heap.get?_push_size _ rfl
  have k2 : ∀ b o, s.heap.get? b = some o → b ≠ h1.objs.size ∧ (h1.push (seqObj "list" vs.toArray 0)).get? b = some o := fun b o e => by
    have e1 := k1 b o e
    exact ⟨Nat.ne_of_lt (Heap.lt_size e1), Heap.get?_push_of_some _ e1⟩
  show wpAny _ _ _ _ _ { s with heap := h1.push (seqObj "list" vs.toArray 0), toks := tk }
  refine wpAny_bind (wpAny_holding (wpAny_call_entry slot_list_sort ⟨_, hL, rfl⟩ entry_list_sort
    (SrtO.list_sort_ord (s := { s with heap := h1.push (seqObj "list" vs.toArray 0), toks := tk }) O hL hz (fun h2 => hS h2 { s with heap := h1.push (seqObj "list" vs.toArray 0), toks := tk } _ hL k2) fun out q1 q2 => ⟨_, rfl, ?_⟩) (args_list_sort _)))
  obtain ⟨n, hn⟩ := sortedHeap_at (vs := vs) (out := out.toArray) hL
  refine wpAny_pure ⟨_, rfl, h out h1 _ tk q1 q2 k1 (fun b o e => ?_) ⟨n, hn⟩⟩
  have e2 : (h1.push (seqObj "list" vs.toArray 0)).get? b = some o := Heap.get?_push_of_some _ e
  rw [sortedHeap_old (Nat.ne_of_lt (Heap.lt_size e)) (Heap.lt_size e2)]
  exact e2
end
end Vi

set_option Elab.async false
set_option linter.all false
set_option maxRecDepth 100000
set_option maxHeartbeats 4000000
namespace Vi
open PySem L2 PyProof.Rows

section
variable {prog : Program} {w : World} {A : Around} {s : Shared}
theorem colls_list {l : Addr} {vs : List Value} (hl : s.heap.IsList l vs.toArray) (hz : vs.length ≤ sizeLine) : Colls prog w A s (.ref l) vs := fun E R h => by
  refine collect_list hl (h _ s.toks fun b o e => ?_) hz
  have hb : b ≠ s.heap.objs.size := Nat.ne_of_lt (Heap.lt_size e)
  rw [Heap.get?_update_ne _ _ _ _ hb]
  exact Heap.get?_push_of_some _ e
theorem colls_tup {l : Addr} {vs : List Value} (hl : IsTup s.heap l vs.toArray) (hz : vs.length ≤ sizeLine) : Colls prog w A s (.ref l) vs := fun E R h => by
  obtain ⟨o, g1, g2, n, g3⟩ := hl
  have hn : ∀ b u, s.heap.get? b = some u → ((s.heap.push (seqObj "list" #[] 0)).update s.heap.objs.size (Obj.mapSeq (· ++ vs.toArray))).get? b = some u := fun b u e => by
    have hb : b ≠ s.heap.objs.size := Nat.ne_of_lt (Heap.lt_size e)
    rw [Heap.get?_update_ne _ _ _ _ hb]
    exact Heap.get?_push_of_some _ e
  have fin := h _ s.toks hn
  unfold collect
  refine wpAny_bind (wpAny_runValue (codeAny_builtin entry_proto_collect' ?_))
  show wpAny _ _ (newList [] >>= fun z => again (.builtin "list.__iadd__" ⟨[z, .ref l], []⟩)) _ _ s
  refine wpAny_bind (wpAny_newList (items := []) (wpAny_pure ⟨Code.quiet_builtin _ (by decide +kernel), codeAny_builtin entry_list_iadd' ?_⟩) (Nat.zero_le _))
  show wpAny _ _ (Builtin.List.listExtendWith (.ref s.heap.objs.size) (.ref l) (.ref s.heap.objs.size)) _ _ { s with heap := s.heap.push (seqObj "list" #[] 0) }
  have g4 : (s.heap.push (seqObj "list" #[] 0)).get? l = some o := Heap.get?_push_of_some _ g1
  have new : (s.heap.push (seqObj "list" #[] 0)).get? s.heap.objs.size = some (seqObj "list" #[] 0) := Heap.get?_push_size _ rfl
  unfold Builtin.List.listExtendWith
  refine wpAny_bind (wpAny_typeOf (T := "tuple") ⟨o, g4, g2⟩ ?_)
  have tt : (Value.type "tuple" == Value.type "tuple") = true := rfl
  rw [if_pos (by rw [tt, Bool.or_true])]
  refine wpAny_bind (listItems_at g4 g3 (wpAny_bind (listItems_at (xs := #[]) (n := 0) new rfl ?_)))
  rw [if_neg (by simp)]
  refine wpAny_bind (listUpdate_at (xs := #[]) (n := 0) new rfl ?_ (Nat.zero_le _) (by
    show (#[] ++ vs.toArray).size ≤ sizeLine + 1
    have e1 : vs.toArray.size = vs.length := List.size_toArray ..
    have e2 : (#[] ++ vs.toArray).size = vs.toArray.size := by simp
    omega))
  refine wpAny_pure ?_
  show wpAny (model prog w) A (load s.heap.objs.size >>= fun o => match o.data with
      | .seq xs _ => pure xs.toList
      | _ => unsupported "internal:collect") R E { s with heap := (s.heap.push (seqObj "list" #[] 0)).update s.heap.objs.size (Obj.mapSeq (· ++ vs.toArray)) }
  refine wpAny_bind (wpAny_load (get?_update_seq new _) ?_)
  show wpAny _ _ (pure ((#[] : Array Value) ++ vs.toArray).toList) R E _
  rw [show ((#[] : Array Value) ++ vs.toArray).toList = vs by simp]
  exact wpAny_pure fin
end
/-! ### the items and what they are sorted by -/
def bV (v : Value) : V := (absV v).getD .non
theorem bV_of {x : V} {v : Value} (r : RelV x v) : bV v = x := by
  unfold bV
  rw [r.abs]
  rfl
theorem bV_list : ∀ {xs : List V} {us : List Value}, Vals xs us → us.map bV = xs
  | _, _, .nil => rfl
  | _, _, .cons r t => by
    rw [List.map_cons, bV_of r, bV_list t]
theorem vals_bV : ∀ {us : List Value}, (∀ u ∈ us, RelV (bV u) u) → Vals (us.map bV) us
  | [], _ => .nil
  | u :: us, h => .cons (h u (List.mem_cons_self ..)) (vals_bV fun v hv => h v (List.mem_cons_of_mem _ hv))
theorem rel_bV : ∀ {xs : List V} {us : List Value}, Vals xs us → ∀ u ∈ us, bV u ∈ xs ∧ RelV (bV u) u
  | _, _, .nil, u, h => by cases h
  | _, _, .cons r t, u, h => by
    rcases List.mem_cons.mp h with rfl | h
    · rw [bV_of r]
      exact ⟨List.mem_cons_self .., r⟩
    · obtain ⟨h1, h2⟩ := rel_bV t u h
      exact ⟨List.mem_cons_of_mem _ h1, h2⟩
/-- items that can be sorted: numbers, texts, or tuples of both -/
inductive Mode (K : PySem.W.Frag) (H : Hp) (k : V → List Key) (xs : List V) : Prop where
  | flat (kd : Bool) (h : ∀ x ∈ xs, ∃ y, x = kV y ∧ k x = [y] ∧ kKind y = kd)
  | tup (kd : Bool) (h1 : ∀ x ∈ xs, ∃ t, x = .ref t ∧ SqT K H t ((k x).map kV)) (h2 : ∀ x ∈ xs, ∃ y r, k x = y :: r ∧ kKind y = kd) (h3 : ∀ x ∈ xs, ∀ y ∈ xs, compat (k x) (k y) = true)
section
variable {prog : Program} {w : World} {A : Around} {s : Shared}
theorem ints_of {k : V → List Key} : ∀ {vs : List Value}, (∀ v ∈ vs, ∃ y, RelV (kV y) v ∧ kKind y = true) → ∃ ns, IntsAre vs ns
  | [], _ => ⟨[], .nil⟩
  | v :: vs, h => by
    obtain ⟨ns, q⟩ := ints_of (k := k) (vs := vs) fun u hu => h u (List.mem_cons_of_mem _ hu)
    obtain ⟨y, r, e⟩ := h v (List.mem_cons_self ..)
    cases y with
    | inl i =>
      obtain ⟨t, rfl⟩ := r
      exact ⟨i :: ns, .cons i t q⟩
    | inr _ => cases e
theorem strs_of {k : V → List Key} : ∀ {vs : List Value}, (∀ v ∈ vs, ∃ y, RelV (kV y) v ∧ kKind y = false) → ∃ ns, StrsAre vs ns
  | [], _ => ⟨[], .nil⟩
  | v :: vs, h => by
    obtain ⟨ns, q⟩ := strs_of (k := k) (vs := vs) fun u hu => h u (List.mem_cons_of_mem _ hu)
    obtain ⟨y, r, e⟩ := h v (List.mem_cons_self ..)
    cases y with
    | inr i =>
      obtain ⟨t, rfl⟩ := r
      exact ⟨i :: ns, .cons i t q⟩
    | inl _ => cases e
theorem flat_sortable {a : Addr} {vs : List Value} {k : V → List Key} {kd : Bool} (h2 : 2 ≤ vs.length) (hp : ∀ v ∈ vs, ∃ y, RelV (kV y) v ∧ k (bV v) = [y] ∧ kKind y = kd) : SrtO.SortableO prog w A s a vs fun v u => ksLt (k (bV v)) (k (bV u)) := by
  intro h' _
  refine ⟨oneType', fun Q E hq => ?_, fun p q m1 m2 => ?_⟩
  · match vs, h2, hp with
    | v1 :: v2 :: r, _, hp =>
      cases kd with
      | true =>
        obtain ⟨ns, hi⟩ := ints_of (k := k) fun v hv => by
          obtain ⟨y, q1, _, q3⟩ := hp v hv
          exact ⟨y, q1, q3⟩
        rw [keyKind_ints hi]
        exact wpAny_pure hq
      | false =>
        obtain ⟨ns, hi⟩ := strs_of (k := k) fun v hv => by
          obtain ⟨y, q1, _, q3⟩ := hp v hv
          exact ⟨y, q1, q3⟩
        rw [keyKind_strs hi]
        exact wpAny_pure hq
    | [], h, _ => exact absurd h (by decide)
    | [v], h, _ => exact absurd h (by simp)
  · obtain ⟨x, r1, e1, k1⟩ := hp _ m1
    obtain ⟨y, r2, e2, k2⟩ := hp _ m2
    show wpAny (model prog w) A (keyLt' oneType' p.1 q.1) (fun r s' => s' = { s with heap := h' } ∧ r = ksLt (k (bV p.1)) (k (bV q.1))) (fun _ _ => False) _
    rw [e1, e2, keyLt'_oneType]
    cases x with
    | inl i =>
      cases y with
      | inl j =>
        obtain ⟨t, et⟩ := r1
        obtain ⟨t', et'⟩ := r2
        rw [et, et']
        refine oneLt_int ⟨rfl, ?_⟩
        unfold ksLt
        by_cases e : (Sum.inl i : Key) = .inl j
        · rw [if_pos e]
          cases e
          exact decide_eq_false (Int.lt_irrefl _)
        · rw [if_neg e]
          rfl
      | inr j => rw [← k1] at k2; cases k2
    | inr i =>
      cases y with
      | inr j =>
        obtain ⟨t, et⟩ := r1
        obtain ⟨t', et'⟩ := r2
        rw [et, et']
        refine oneLt_str ⟨rfl, ?_⟩
        unfold ksLt
        by_cases e : (Sum.inr i : Key) = .inr j
        · rw [if_pos e]
          cases e
          exact decide_eq_false (List.lt_irrefl _)
        · rw [if_neg e]
          rfl
      | inl j => rw [← k1] at k2; cases k2
end
/-- where the items stand -/
inductive SrcV (K : PySem.W.Frag) (H : Hp) (a : Addr) (xs : List V) : Prop where
  | lst (h : SqL K H a xs)
  | tup (h : SqT K H a xs)
def rSrt (K : PySem.W.Frag) : List V → Hp → VK → Prop := fun vs H Q => ∃ (a : Addr) (xs : List V) (k : V → List Key), vs = [.ref a] ∧ SrcV K H a xs ∧ Mode K H k xs ∧
  ∀ ys p, SrtO.Srtd (fun v u => ksLt (k v) (k u)) ys → ys.Perm xs → H p = none → Q (.ref p) (upd H p (.lst ys))
section
variable {X : Cx}
theorem cr_srt : CallR X (.builtin "sorted") (rSrt X.K) := by
  intro pins s σ H vs us Q I r ⟨a, xs, k, e, hs, hm, q⟩
  subst e
  obtain ⟨its, rv, hc, hz⟩ : ∃ its : List Value, Vals xs its ∧ (∀ A, Colls X.prog X.w A s (.ref a) its) ∧ xs.length ≤ sizeLine := by
    cases hs with
    | lst hs =>
      obtain ⟨its, rv, hl, hz⟩ := I.list hs
      exact ⟨its, rv, fun A => colls_list hl.isList (by rw [← rv.length]; exact hz), hz⟩
    | tup hs =>
      obtain ⟨its, rv, hl, hz⟩ := I.tuple hs
      exact ⟨its, rv, fun A => colls_tup hl (by rw [← rv.length]; exact hz), hz⟩
  rw [Vals.ref1 r]
  have mem := rel_bV rv
  refine sorted_src (swo_by fun v => k (bV v)) (hc _) (by rw [← rv.length]; exact hz) (fun h2 s₁ a' h3 same => ?_) fun out h1 h' tk q1 q2 k1 k2 q3 => ?_
  · cases hm with
    | flat kd h =>
      refine flat_sortable (kd := kd) h2 fun v hv => ?_
      obtain ⟨m1, m2⟩ := mem v hv
      obtain ⟨y, e1, e2, e3⟩ := h _ m1
      exact ⟨y, by rw [← e1]; exact m2, e2, e3⟩
    | tup kd g1 g2 g3 =>
      refine tupK_sortable (kd := kd) (k := fun v => k (bV v)) (by omega) (fun v hv => ?_) (fun v hv => g2 _ (mem v hv).1) (fun v hv u hu => g3 _ (mem v hv).1 _ (mem u hu).1) fun o e => ?_
      · obtain ⟨m1, m2⟩ := mem v hv
        obtain ⟨t, e1, e2⟩ := g1 _ m1
        rw [e1] at m2
        cases m2
        obtain ⟨js, rj, pj, _⟩ := I.tuple e2
        exact (show TupK s.heap (.ref t) (k (bV (.ref t))) from ⟨t, js, rfl, rj, pj⟩).keeps fun b o e _ => (same b o e).2
      · rw [h3] at e
        cases e
        exact fun z => absurd (show Value.type "list" = Value.type "tuple" from z) (by decide)
  · have hr : ∀ u ∈ out, RelV (bV u) u := fun u hu => (mem u (q2.perm.mem_iff.mp hu)).2
    have hp : (out.map bV).Perm xs := by
      have z := q2.perm.map bV
      rw [bV_list rv] at z
      exact z
    have I1 : Inv X pins σ H { s with heap := h1, toks := tk } := I.kept k1
    refine ⟨.ref h1.objs.size, upd H h1.objs.size (.lst (out.map bV)), I1.laid (t' := tk) k2 (Nat.le_refl _) ⟨?_, out, ?_⟩, rfl, q _ _ (List.pairwise_map.mpr q1) hp (I1.hok.fresh (Nat.le_refl _))⟩
    · rw [hp.length_eq]
      exact hz
    · obtain ⟨n, hn⟩ := q3
      exact ⟨n, vals_bV hr, hn⟩
end
end Vi

set_option Elab.async false
set_option linter.all false
set_option maxRecDepth 100000
set_option maxHeartbeats 4000000
namespace Vi
open PySem L2 PyProof.Rows

/-! ### sorted(xs) -/
def dKey : Key → D
  | .inl i => .int i
  | .inr x => .str x
def tupD (ks : List Key) : D := .tup (ks.map dKey)
def sameKinds : List Key → Bool
  | [] => true
  | k :: r => r.all fun j => kKind j == kKind k
def tupKs? (kc : List D → Bool) : List D → Option (List (List Key))
  | [] => some []
  | .tup ds :: r => if kc ds then none else (match keys? ds, tupKs? kc r with
    | some ks, some kss => some (ks :: kss)
    | _, _ => none)
  | _ => none
def sortD? (kc : List D → Bool) (ds : List D) : Option (List D) := match keys? ds with
  | some ks => if sameKinds ks then some ((sortL kLt ks).map dKey) else none
  | none => (match tupKs? kc ds with
    | some kss => if compatAll kss then some ((sortL ksLt kss).map tupD) else none
    | none => none)
def fSorted (kc : List D → Bool) (o : Bool) (xs : List Vl) (h : Hc) : R Vl := match xs with
  | [x] => (match seq? h x with
    | some ds => (match sortD? kc ds with
      | some es => .ok (Vl.ofL o es) h
      | none => .stuck)
    | none => .stuck)
  | _ => .stuck
theorem ks_one {x y : Key} : ksLt [x] [y] = kLt x y := by
  show (if x = y then ksLt [] [] else kLt x y) = kLt x y
  by_cases e : x = y
  · rw [if_pos e, e]
    exact (tot_key.irr y).symm
  · rw [if_neg e]
theorem insL_one (x : Key) : ∀ l : List Key, insL ksLt [x] (l.map fun k => [k]) = (insL kLt x l).map fun k => [k]
  | [] => rfl
  | y :: r => by
    show (if ksLt [y] [x] then [y] :: insL ksLt [x] (r.map fun k => [k]) else [x] :: [y] :: r.map fun k => [k]) = (if kLt y x then y :: insL kLt x r else x :: y :: r).map fun k => [k]
    rw [ks_one, insL_one x r]
    split <;> rfl
theorem sortL_one : ∀ l : List Key, sortL ksLt (l.map fun k => [k]) = (sortL kLt l).map fun k => [k]
  | [] => rfl
  | x :: r => by
    show insL ksLt [x] (sortL ksLt (r.map fun k => [k])) = (insL kLt x (sortL kLt r)).map fun k => [k]
    rw [sortL_one r, insL_one]
open Classical in
/-- what a value is sorted by, as the heap stands -/
noncomputable def kOf (H : Hp) : V → List Key
  | .int i => [.inl i]
  | .str x => [.inr x]
  | .ref t => if h : ∃ ks : List Key, H t = some (.tup (ks.map kV)) then h.choose else []
  | _ => []
open Classical in
theorem kOf_ref {H : Hp} {t : Addr} {ks : List Key} (h : H t = some (.tup (ks.map kV))) : kOf H (.ref t) = ks := by
  have ex : ∃ ks : List Key, H t = some (.tup (ks.map kV)) := ⟨ks, h⟩
  show (if h : ∃ ks : List Key, H t = some (.tup (ks.map kV)) then h.choose else []) = ks
  rw [dif_pos ex]
  have e := h.symm.trans ex.choose_spec
  injection e with e
  injection e with e
  exact (kVs_inj e).symm
theorem kOf_key (H : Hp) (k : Key) : kOf H (kV k) = [k] := by cases k <;> rfl
section
variable {g : Gi} {F : Hp} {al : Nat → Option Addr}
theorem rep_key (k : Key) : Rep g F al (dKey k) (kV k) := by cases k <;> rfl
theorem keys_all {H : Hp} : ∀ {ds : List D} {vs : List V} {ks : List Key}, Reps g F al ds vs → keys? ds = some ks → (∀ v ∈ vs, ∃ y, v = kV y ∧ kOf H v = [y] ∧ y ∈ ks ∧ Rep g F al (dKey y) v) ∧ vs.map (kOf H) = ks.map fun k => [k] := by
  intro ds vs ks r e
  have hv := keys_rep r e
  subst hv
  refine ⟨fun v hv => ?_, ?_⟩
  · obtain ⟨y, hy, rfl⟩ := List.mem_map.mp hv
    exact ⟨y, rfl, kOf_key H y, hy, rep_key y⟩
  · rw [List.map_map]
    exact List.map_congr_left fun k _ => kOf_key H k
theorem dKeys_of : ∀ {ds : List D} {ks : List Key}, keys? ds = some ks → ds = ks.map dKey
  | [], ks, e => by
    cases e
    rfl
  | d :: ds, ks, e => by
    unfold keys? at e
    split at e
    · next k ks' e1 e2 =>
      cases e
      rw [List.map_cons, ← dKeys_of e2]
      cases d <;> cases e1 <;> rfl
    · cases e
theorem tups_all {H : Hp} (hF : ∀ a o, F a = some o → H a = some o) : ∀ {ds : List D} {vs : List V} {kss : List (List Key)}, Reps g F al ds vs → tupKs? g.kc ds = some kss →
    (∀ v ∈ vs, ∃ t ks, v = .ref t ∧ H t = some (.tup (ks.map kV)) ∧ kOf H v = ks ∧ ks ∈ kss ∧ Rep g F al (tupD ks) v) ∧ vs.map (kOf H) = kss
  | [], vs, kss, r, e => by
    cases e
    cases r
    exact ⟨fun v hv => (by cases hv), rfl⟩
  | d :: ds, vs, kss, r, e => by
    obtain ⟨v, ws, rfl, r1, r2⟩ := r
    cases d with
    | tup es =>
      unfold tupKs? at e
      split at e
      · cases e
      · next hk =>
        split at e
        · next ks kss' e1 e2 =>
          cases e
          obtain ⟨q1, q2⟩ := tups_all hF r2 e2
          obtain ⟨t, us, rfl, h1, h2⟩ := r1
          have hu := keys_rep h2 e1
          subst hu
          have hF' : F t = some (.tup (ks.map kV)) := by
            rcases h1 with h1 | h1
            · exact h1
            · exact absurd h1.1 hk
          have hH := hF _ _ hF'
          have ek := kOf_ref hH
          refine ⟨fun v hv => ?_, by rw [List.map_cons, ek, q2]⟩
          rcases List.mem_cons.mp hv with rfl | hv
          · refine ⟨t, ks, rfl, hH, ek, List.mem_cons_self .., t, _, rfl, .inl hF', ?_⟩
            rw [← dKeys_of e1]
            exact h2
          · obtain ⟨t', ks', g1, g2, g3, g4, g5⟩ := q1 v hv
            exact ⟨t', ks', g1, g2, g3, List.mem_cons_of_mem _ g4, g5⟩
        · cases e
    | _ => cases e
theorem reps_by {k : V → List Key} {f : List Key → D} : ∀ {ys : List V}, (∀ y ∈ ys, Rep g F al (f (k y)) y) → Reps g F al ((ys.map k).map f) ys
  | [], _ => rfl
  | y :: ys, h => ⟨y, ys, rfl, h y (List.mem_cons_self ..), reps_by fun z hz => h z (List.mem_cons_of_mem _ hz)⟩
end
section
variable {X : Cx} {g : Gi}
theorem c_sorted (o : Bool) (hK : g.K = X.K) : CallV X g (.builtin "sorted") (fSorted g.kc o) := by
  refine ⟨_, cr_srt, fun B W env s σ H xs vs Q sr r p => ?_⟩
  unfold fSorted at p
  split at p
  · next x =>
    obtain ⟨v, rfl, rr⟩ := r.one
    split at p
    · next ds e1 =>
      split at p
      · next es e2 =>
        obtain ⟨a, ws, rfl, h1, q1⟩ := rr.seq sr.good e1
        have hsrc : SrcV X.K H a ws := by
          rcases h1 with h1 | h1
          · exact .lst (hK ▸ h1)
          · exact .tup (hK ▸ h1)
        unfold sortD? at e2
        split at e2
        · next ks ek =>
          split at e2
          · next hs =>
            cases e2
            obtain ⟨z1, z2⟩ := keys_all (H := H) q1 ek
            refine ⟨a, ws, kOf H, rfl, hsrc, .flat (match ks with
              | [] => true
              | k :: _ => kKind k) (fun v hv => ?_), fun ys q hsd hp hq => ?_⟩
            · obtain ⟨y, g1, g2, g3, _⟩ := z1 v hv
              refine ⟨y, g1, g2, ?_⟩
              cases ks with
              | nil => cases g3
              | cons k r =>
                rcases List.mem_cons.mp g3 with rfl | g3
                · rfl
                · have := List.all_eq_true.mp hs y g3
                  exact eq_of_beq this
            · have e3 : ys.map (kOf H) = (sortL kLt ks).map fun k => [k] := by
                rw [← sortL_one, ← z2]
                exact sortL_of tot_keys (List.pairwise_map.mpr hsd) (hp.map _)
              have hr : Reps g s.F s.al ((sortL kLt ks).map dKey) ys := by
                have q5 := reps_by (g := g) (F := s.F) (al := s.al) (k := kOf H) (f := fun l => match l with
                  | [k] => dKey k
                  | _ => .non) (ys := ys) fun y hy => by
                  obtain ⟨y', g1, g2, _, g4⟩ := z1 y (hp.mem_iff.mp hy)
                  rw [g2]
                  exact g4
                rw [e3, List.map_map] at q5
                exact q5
              exact PostE.newLO sr p hr hq
          · cases e2
        · split at e2
          · next kss ek =>
            split at e2
            · next hs =>
              cases e2
              obtain ⟨z1, z2⟩ := tups_all sr.good.fle q1 ek
              have hc : ∀ x ∈ kss, x.isEmpty = false ∧ ∀ y ∈ kss, compat x y = true := fun x hx => by
                obtain ⟨c1, c2⟩ := Bool.and_eq_true_iff.mp (List.all_eq_true.mp hs x hx)
                exact ⟨by simpa using c1, fun y hy => List.all_eq_true.mp c2 y hy⟩
              refine ⟨a, ws, kOf H, rfl, hsrc, .tup (match kss with
                | (k :: _) :: _ => kKind k
                | _ => true) (fun v hv => ?_) (fun v hv => ?_) (fun v hv u hu => ?_), fun ys q hsd hp hq => ?_⟩
              · obtain ⟨t, ks, g1, g2, g3, _⟩ := z1 v hv
                exact ⟨t, g1, by rw [g3]; exact .inl (.inl g2)⟩
              · obtain ⟨t, ks, g1, g2, g3, g4, _⟩ := z1 v hv
                rw [g3]
                obtain ⟨c1, c2⟩ := hc ks g4
                cases ks with
                | nil => cases c1
                | cons y r =>
                  refine ⟨y, r, rfl, ?_⟩
                  match kss, g4, hc, c2 with
                  | l :: kss', _, hc, c2 =>
                    cases l with
                    | nil =>
                      have := (hc [] (List.mem_cons_self ..)).1
                      cases this
                    | cons z r' =>
                      have c3 := c2 (z :: r') (List.mem_cons_self ..)
                      have c4 : ((kKind y == kKind z) && (if y = z then compat r r' else true)) = true := c3
                      exact eq_of_beq (Bool.and_eq_true_iff.mp c4).1
              · obtain ⟨t, ks, _, _, g3, g4, _⟩ := z1 v hv
                obtain ⟨t', ks', _, _, g3', g4', _⟩ := z1 u hu
                rw [g3, g3']
                exact (hc ks g4).2 ks' g4'
              · have e3 : ys.map (kOf H) = sortL ksLt kss := by
                  rw [← z2]
                  exact sortL_of tot_keys (List.pairwise_map.mpr hsd) (hp.map _)
                have hr : Reps g s.F s.al ((sortL ksLt kss).map tupD) ys := by
                  have q5 := reps_by (g := g) (F := s.F) (al := s.al) (k := kOf H) (f := tupD) (ys := ys) fun y hy => by
                    obtain ⟨t, ks, g1, g2, g3, _, g5⟩ := z1 y (hp.mem_iff.mp hy)
                    rw [g3]
                    exact g5
                  rw [e3] at q5
                  exact q5
                exact PostE.newLO sr p hr hq
            · cases e2
          · cases e2
      · exact p.elim
    · exact p.elim
  · exact p.elim
end
end Vi

set_option Elab.async false
set_option linter.all false
set_option maxRecDepth 100000
set_option maxHeartbeats 2000000
namespace Vi
open PySem L2 PyProof.Rows

/-! ### len(o), x in o, o[x] of an own class -/
def fLens (T : Tbl) (xs : List Vl) (h : Hc) : R Vl := match xs with
  | [.d (.obj c fs)] => (match T c with
    | some F => (F [.obj c fs] h).bind fun d h' => match d with
      | .int i => if 0 ≤ i ∧ i < 2 ^ 62 then .ok (.d (.int i)) h' else .stuck
      | _ => .stuck
    | none => .stuck)
  | _ => fLen xs h
def fIns (neg : Bool) (T : Tbl) (F0 : Vl → Vl → Hc → R Vl) (x y : Vl) (h : Hc) : R Vl := match y with
  | .d (.obj c fs) => (match T c, x with
    | some F, .d xd => (F [.obj c fs, xd] h).bind fun d h' => match d with
      | .bl b => .ok (.d (nB neg b)) h'
      | _ => .stuck
    | _, _ => .stuck)
  | _ => F0 x y h
def fOwnIx (T : Tbl) (x y : Vl) (h : Hc) : R Vl := match x, y with
  | .d (.obj c fs), .d yd => (match T c with
    | some F => (F [.obj c fs, yd] h).bind fun d h' => .ok (.d d) h'
    | none => .stuck)
  | _, _ => .stuck
def isObj? : Vl → Bool
  | .d (.obj _ _) => true
  | _ => false
def fIxs (T : Tbl) (F0 : Vl → Vl → Hc → R Vl) (x y : Vl) (h : Hc) : R Vl := if isObj? x then fOwnIx T x y h else F0 x y h
section
variable {X : Cx} {g : Gi} {B : Bg} {W : WXv} {pos p : Pos} {a b : Expr} {ma mb : ME} {A : MA}
theorem PostE.keepQ {r : R D} {env : Env} {st : Sta} {σ : L2.St} {H : Hp} {k : D → Hc → R Vl} {Q : VK} (p : PostE g B W env st σ H (r.bind k) Q) (Q2 : VK)
    (hk : ∀ d h', r = .ok d h' → PostE g B W env st σ H (k d h') Q → PostE g B W env st σ H (.ok (.d d) h') Q2) : PostE g B W env st σ H (r.bind fun d h' => .ok (.d d) h') Q2 := by
  cases r with
  | ok d h => exact hk d h rfl p
  | exc x h => exact p
  | stuck => exact p.elim
theorem ve_lens {T : Tbl} (d : Bd X g W) (V : VOps X g "__len__" 1 T) (hg : Gl X "len") (hm : X.mg "len" = none) (ha : PA X [a] (tA g B W A))
    (he : starEach [a] X.env = (false, eval a X.env) :: starEach [] X.env := by rfl) (hpl : (backTo pos (starEach [] X.env)).any (·.1) = false := by rfl) : PE X (.Call (.Name "len" p) [a] [] pos) (tE g B W (mA1 (fLens T) A)) := by
  refine ⟨fun pins s σ H Q I ⟨env, st, sr, pp⟩ => ?_⟩
  refine wpAny_Call_Name_kw (ld_blt (u := .builtin "len") I hg hm (by decide +kernel) ?_ (by decide) (by decide))
  refine PyProof.Rows.callWith_builtin1 (thn (ha.run pos pins s σ H _ I (bindA (Q := Q) sr pp)) fun us s1 ⟨vs, H1, I1, r1, st1, xs, sr1, _, rx, p1⟩ => ?_) he hpl
  unfold fLens at p1
  split at p1
  · next c fs =>
    split at p1
    · next F hT =>
      obtain ⟨k, f, fd, ps, FG, hr, hs, hf, hb, hn, _⟩ := (V c F hT).ex
      obtain ⟨v, rfl, rv⟩ := rx.one
      obtain ⟨u, rfl, ru⟩ := vals1 r1
      obtain ⟨o, ox, od, rfl, rfl, J⟩ := obj_at d.G sr1 I1 rv ru
      obtain ⟨m, hF⟩ := I1.fr
      refine PySem.W.len_K hF I1.ok.mod.kin J hs hf ?_
      have p2 := PostE.keepQ p1 (fun v H' => ∃ i : Int, v = .int i ∧ 0 ≤ i ∧ i < 2 ^ 62 ∧ Q (.int i) H') fun dd h' _ q => by
        cases dd with
        | int i =>
          by_cases hi : 0 ≤ i ∧ i < 2 ^ 62
          · have q : PostE g B W env st1 σ H1 (.ok (.d (.int i)) h') Q := by
              have q : PostE g B W env st1 σ H1 (if 0 ≤ i ∧ i < 2 ^ 62 then .ok (.d (.int i)) h' else .stuck) Q := q
              rwa [if_pos hi] at q
            intro v H' s' e1 ev sr' vr
            have e2 : v = .int i := vr
            exact ⟨i, e2, hi.1, hi.2, by rw [← e2]; exact q v H' s' e1 ev sr' vr⟩
          · have q : PostE g B W env st1 σ H1 (if 0 ≤ i ∧ i < 2 ^ 62 then .ok (.d (.int i)) h' else .stuck) Q := q
            rw [if_neg hi] at q
            exact q.elim
        | _ => exact q.elim
      refine wpAny_mono (run_op (vs := [.ref o]) d FG (.inr rfl) hr hb I1 (.cons rfl .nil) hn.symm sr1 (Reps.cons rv Reps.nil) p2) (fun u s' ⟨v, H', I', rv', i, e, h1, h2, q⟩ => ?_) fun _ _ z => z
      subst e
      obtain ⟨t, rfl⟩ := rv'
      exact ⟨⟨h1, by omega⟩, .int i, H', I'.tok _, ⟨_, rfl⟩, q⟩
    · exact p1.elim
  · obtain ⟨r, q1, q2⟩ := c_len (X := X) (g := g) d.K
    exact q1 pins s1 σ H1 vs us Q I1 r1 (q2 B W env st1 σ H1 xs vs Q sr1 rx p1)
theorem own_in (neg : Bool) {T : Tbl} {F0 : Vl → Vl → Hc → R Vl} {op : CmpOp} (hop : op = if neg then .NotIn else .In) (b : Bd X g W) (V : VOps X g "__contains__" 2 T) (h0 : OpV X g (compareOp op) F0) : OpW X g W (compareOp op) (fIns neg T F0) := by
  intro B env st σ H s pins x y v w u1 u2 Q I r1 r2 sr rx ry p
  unfold fIns at p
  split at p
  · next c fs =>
    split at p
    · next F xd hT =>
      obtain ⟨k, f, fd, ps, FG, hr, hs, hf, hb, hn, _⟩ := (V c F hT).ex
      obtain ⟨o, ox, od, rfl, rfl, J⟩ := obj_at b.G sr I ry r2
      obtain ⟨m, hF⟩ := I.fr
      have p2 := PostE.keepQ p (fun v H' => ∃ k : Bool, v = .bl k ∧ Q (.bl (if neg then !k else k)) H') fun dd h' _ q => by
        cases dd with
        | bl k =>
          intro v H' s' e1 ev sr' vr
          exact ⟨k, vr, q _ H' s' e1 ev sr' rfl⟩
        | _ => exact q.elim
      have run := run_op (A := X.A) (vs := [.ref o, v]) b FG (.inl rfl) hr hb I (.cons rfl (.cons r1 .nil)) hn.symm sr (Reps.cons ry (Reps.cons rx Reps.nil)) p2
      cases neg with
      | false =>
        subst hop
        refine PySem.W.in_K hF I.ok.mod.kin J hs hf (wpAny_mono run (fun u s' ⟨v', H', I', rv', k, e, q⟩ => ?_) fun _ _ z => z)
        subst e
        cases rv'
        exact wpAny_truthy_bool ⟨.bl k, H', I', rfl, q⟩
      | true =>
        subst hop
        refine PySem.W.notIn_K hF I.ok.mod.kin J hs hf (wpAny_mono run (fun u s' ⟨v', H', I', rv', k, e, q⟩ => ?_) fun _ _ z => z)
        subst e
        cases rv'
        exact wpAny_truthy_bool ⟨.bl (!k), H', I', rfl, q⟩
    · exact p.elim
  · obtain ⟨r, q1, q2⟩ := h0
    exact q1 pins s σ H v w u1 u2 Q I r1 r2 (q2 B W env st σ H x y v w Q sr rx ry p)
end
end Vi

set_option Elab.async false
set_option linter.all false
set_option maxRecDepth 100000
set_option maxHeartbeats 2000000
namespace Vi
open PySem L2 PyProof.Rows
section
variable {X : Cx} {g : Gi} {B : Bg} {W : WXv} {pos p : Pos} {a b : Expr} {m ma mb : ME} {A : MA}
theorem ve_ownix {T : Tbl} (d : Bd X g W) (V : VOps X g "__getitem__" 2 T) (ha : PE X a (tE g B W ma)) (hb : PE X b (tE g B W mb)) (hs : ∀ o i, subscripted b true o i = runValue (.builtin "lifetime.subscript" ⟨[o, i], []⟩)) :
    PE X (.Subscript a b pos) (tE g B W (m2 (fOwnIx T) ma mb)) := by
  refine ⟨fun pins s σ H Q I ⟨env, st, sr, pp⟩ => ?_⟩
  have two := bind2E (Q := Q) sr pp
  refine Subscript_ (binT (R := fun v w H2 => ∃ s2 x y, SR g B env s2 σ H2 ∧ Evo st H s2 H2 ∧ VlRep g B env σ s2 H2 x v ∧ VlRep g B env σ s2 H2 y w ∧ PostE g B W env s2 σ H2 (fOwnIx T x y s2.h) Q) ha hb I two
    fun v u s2 x y H2 I2 rx ry q => ?_)
  obtain ⟨st2, x', y', sr2, _, vx, vy, p2⟩ := q
  unfold fOwnIx at p2
  split at p2
  · next c fs yd =>
    split at p2
    · next F hT =>
      obtain ⟨k, f, fd, ps, FG, hr, hs', hf, hbi, hn, hfn⟩ := (V c F hT).ex
      obtain ⟨o, ox, od, rfl, rfl, J⟩ := obj_at d.G sr2 I2 vx rx
      obtain ⟨m, hF⟩ := I2.fr
      exact PySem.W.sub_K hF I2.ok.mod.kin J hs' hfn hf (run_op (vs := [.ref o, y]) d FG (.inr rfl) hr hbi I2 (.cons rfl (.cons ry .nil)) hn.symm sr2 (Reps.cons vx (Reps.cons vy Reps.nil)) p2) (hs _ _)
    · exact p2.elim
  · exact p2.elim
theorem ve_ixs {T : Tbl} {F0 : Vl → Vl → Hc → R Vl} (d : Bd X g W) (V : VOps X g "__getitem__" 2 T) (ha : PE X a (tE g B W ma)) (hb : PE X b (tE g B W mb)) (h0 : PE X (.Subscript a b pos) (tE g B W (m2 F0 ma mb)))
    (hs : ∀ o i, subscripted b true o i = runValue (.builtin "lifetime.subscript" ⟨[o, i], []⟩)) : PE X (.Subscript a b pos) (tE g B W (m2 (fIxs T F0) ma mb)) := by
  refine ve_alt (ve_ownix d V ha hb hs) h0 fun env h => ?_
  unfold m2
  cases ma env h with
  | ok x h1 =>
    rw [R.bind_ok, R.bind_ok, R.bind_ok]
    cases mb env h1 with
    | ok y h2 =>
      rw [R.bind_ok, R.bind_ok, R.bind_ok]
      unfold fIxs
      split
      · exact .inl rfl
      · exact .inr rfl
    | _ => exact .inl rfl
  | _ => exact .inl rfl
end
end Vi

set_option Elab.async false
set_option linter.all false
set_option maxRecDepth 100000
set_option maxHeartbeats 2000000
namespace Vi
open PySem L2 PyProof.Rows

/-! ### room for `in` -/
theorem un65 {A : Around} {j : Nat} (hr : Room j A) : A.units + 65 < cLine := by
  have h := hr.un
  omega
end Vi

set_option Elab.async false
set_option linter.all false
set_option maxRecDepth 100000
set_option maxHeartbeats 2000000
namespace Vi
open PySem L2 PyProof.Rows

/-! ### a.split(b), a.join(xs) -/
def txts? : List D → Option (List Str)
  | [] => some []
  | .str a :: r => (txts? r).map (a :: ·)
  | _ => none
def fSplit (o : Bool) (a : Str) (y : Vl) (h : Hc) : R Vl := match y with
  | .d (.str b) => if b.length ≠ 0 ∧ a.length + 2 ≤ sizeLine then .ok (Vl.ofL o ((Txt.split a b).map D.str)) h else .stuck
  | _ => .stuck
def fJoin (a : Str) (y : Vl) (h : Hc) : R Vl := match (seq? h y).bind txts? with
  | some ys => if (ys.map (·.length)).sum + ys.length * a.length ≤ 16777216 then .ok (.d (.str (Txt.join a ys))) h else .stuck
  | none => .stuck
def mStr1 (f : Str → Vl → Hc → R Vl) (mo me : ME) : ME := fun env h => (mo env h).bind fun x h1 => match x with
  | .d (.str a) => (me env h1).bind fun y h2 => f a y h2
  | _ => .stuck
section
variable {X : Cx} {g : Gi} {B : Bg} {W : WXv} {apos pos : Pos} {o e : Expr} {mo me : ME}
theorem reps_txts {F : Hp} {al : Nat → Option Addr} : ∀ ys : List Str, Reps g F al (ys.map D.str) (ys.map V.str)
  | [] => rfl
  | _ :: r => ⟨_, _, rfl, rfl, reps_txts r⟩
theorem txts_reps {F : Hp} {al : Nat → Option Addr} : ∀ {ds : List D} {vs : List V} {ys : List Str}, Reps g F al ds vs → txts? ds = some ys → vs = ys.map V.str
  | [], _, _, h, e => by
    cases e
    exact h
  | .str a :: r, _, _, ⟨v, w, h1, h2, h3⟩, e => by
    obtain ⟨zs, e1, e2⟩ := Option.map_eq_some_iff.mp (show (txts? r).map (a :: ·) = some _ from e)
    subst e2 h1
    cases h2
    rw [txts_reps h3 e1]
    rfl
  | .non :: _, _, _, _, e => by cases e
  | .bl _ :: _, _, _, _, e => by cases e
  | .int _ :: _, _, _, _, e => by cases e
  | .tup _ :: _, _, _, _, e => by cases e
  | .xtup _ :: _, _, _, _, e => by cases e
  | .lst _ :: _, _, _, _, e => by cases e
  | .kl _ :: _, _, _, _, e => by cases e
  | .ref _ :: _, _, _, _, e => by cases e
  | .obj _ _ :: _, _, _, _, e => by cases e
  | .cls _ :: _, _, _, _, e => by cases e
  | .dK _ :: _, _, _, _, e => by cases e
  | .dT _ :: _, _, _, _, e => by cases e
theorem str1E {a : ME} {f : Str → Vl → Hc → R Vl} {env : Env} {s : Sta} {σ : L2.St} {H : Hp} {Q : VK} (sr : SR g B env s σ H) (p : PostE g B W env s σ H (mStr1 f mo me env s.h) Q) :
    tE g B W mo σ H fun v H1 => ∃ a, v = .str a ∧ tE g B W me σ H1 fun w H2 => ∃ s2 y, SR g B env s2 σ H2 ∧ VlRep g B env σ s2 H2 y w ∧ PostE g B W env s2 σ H2 (f a y s2.h) Q := by
  refine (bindE (Q := Q) sr p).mono fun v H1 ⟨s1, x, sr1, _, r1, p1⟩ => ?_
  split at p1
  · next a =>
    cases r1
    refine ⟨a, rfl, (bindE (Q := Q) sr1 p1).mono fun w H2 ⟨s2, y, sr2, _, r2, p2⟩ => ⟨s2, y, sr2, r2, p2⟩⟩
  · exact p1.elim
theorem ve_split (own : Bool) (ho : PE X o (tE g B W mo)) (he : PE X e (tE g B W me)) (hs : starEach [e] X.env = [(false, eval e X.env)] := by rfl) (hbase : attributeBase o "split" X.env (eval o X.env) = eval o X.env := by rfl) (hline : (apos.endLine == pos.line) = true := by rfl) :
    PE X (.Call (.Attribute o "split" apos) [e] [] pos) (tE g B W (mStr1 (fSplit own) mo me)) := by
  refine pe_imp (pe_split ho he hs hbase hline) fun σ H Q ⟨env, s, sr, p⟩ => ?_
  refine (str1E (a := mo) sr p).mono fun v H1 ⟨a, hv, q⟩ => ⟨⟨a, hv⟩, q.mono fun w H2 ⟨s2, y, sr2, r2, p2⟩ => ?_⟩
  unfold fSplit at p2
  split at p2
  · next b =>
    by_cases hc : b.length ≠ 0 ∧ a.length + 2 ≤ sizeLine
    · rw [if_pos hc] at p2
      cases r2
      exact ⟨a, b, hv, rfl, by simpa using hc.1, hc.2, fun q hq => PostE.newLO sr2 p2 (reps_txts _) hq⟩
    · rw [if_neg hc] at p2
      exact p2.elim
  · exact p2.elim
theorem ve_join (hK : g.K = X.K) (ho : PE X o (tE g B W mo)) (he : PE X e (tE g B W me)) (hs : starEach [e] X.env = [(false, eval e X.env)] := by rfl) (hbase : attributeBase o "join" X.env (eval o X.env) = eval o X.env := by rfl) (hline : (apos.endLine == pos.line) = true := by rfl) :
    PE X (.Call (.Attribute o "join" apos) [e] [] pos) (tE g B W (mStr1 fJoin mo me)) := by
  refine pe_imp (pe_join ho he hs hbase hline) fun σ H Q ⟨env, s, sr, p⟩ => ?_
  refine (str1E (a := mo) sr p).mono fun v H1 ⟨a, hv, q⟩ => ⟨⟨a, hv⟩, q.mono fun w H2 ⟨s2, y, sr2, r2, p2⟩ => ?_⟩
  unfold fJoin at p2
  split at p2
  · next ys e1 =>
    by_cases hc : (ys.map (·.length)).sum + ys.length * a.length ≤ 16777216
    · rw [if_pos hc] at p2
      obtain ⟨ds, e2, e3⟩ := Option.bind_eq_some_iff.mp e1
      obtain ⟨l, vs, rfl, h1, h2⟩ := r2.seq sr2.good e2
      cases txts_reps h2 e3
      exact ⟨a, l, ys, hv, rfl, hK ▸ h1, hc, PostE.pure sr2 p2 rfl⟩
    · rw [if_neg hc] at p2
      exact p2.elim
  · exact p2.elim
end
end Vi

set_option Elab.async false
set_option linter.all false
set_option maxRecDepth 100000
set_option maxHeartbeats 2000000
namespace Vi
open PySem L2 PyProof.Rows

/-! ### __iter__ of an own class that returns iter(of a tuple) -/
/-- at it a tuple's iterator that has not begun -/
def ItT (l it : Addr) : HO := .ext fun h => h.IsTupleIter it l 0
theorem itT_ok {P : Program} {w : World} {H : Hp} {h : Heap} {l it : Addr} (e : h.IsTupleIter it l 0) : ObjOk P w H h it (ItT l it) :=
  ⟨e, let ⟨o, ho, _⟩ := e; ⟨o, ho⟩, fun h1 h2 ⟨o, ho, q⟩ k => ⟨o, k o ho, q⟩⟩
theorem call_iterTup {prog : Program} {w : World} {A : Around} {E : Value → Shared → Prop} {s : Shared} {l : Addr} {items : Array Value} {Q : Value → Shared → Prop} (hl : s.heap.IsTuple l items)
    (h : Q (.ref s.heap.objs.size) { s with heap := s.heap.push { cls := .type "tuple_iterator", data := .fields #[.ref l, .int 0 0] } }) : wpAny (model prog w) A (call (.builtin "iter") [.ref l]) Q E s := by
  refine Calls.call_function_entry (by decide +kernel) (by decide +kernel) PySem.W.kdk_entry_iter (PySem.W.kdk_args_iter _) ?_
  unfold Builtin.«iter»
  refine wpAny_bind (m := someArgs "iter" 1 2 _) (wpAny_of_eq (a := [Value.ref l]) (by first | rfl | kernel_rfl!) ?_)
  show wpAny _ _ (pyIter (.ref l) >>= _) _ _ _
  refine wpAny_bind (wpAny_pyIter_tuple hl ?_)
  exact wpAny_pure ⟨_, rfl, h⟩
def rIterT (K : PySem.W.Frag) (n : Nat) : List L2.V → Hp → VK → Prop := fun xs H Q => ∃ (l : Addr) (zs : List L2.V), xs = [.ref l] ∧ SqT K H l zs ∧ ∀ it, H it = none → n ≤ it → Q (.ref it) (upd H it (ItT l it))
theorem call_iterT {X : Cx} : CallR X (.builtin "iter") (rIterT X.K X.s_0.heap.objs.size) := by
  intro pins s σ H xs us Q I r h
  obtain ⟨l, zs, rfl, hq, q⟩ := h
  obtain ⟨u, rfl, ru⟩ := vals1 r
  cases ru
  obtain ⟨its, rv, pl, hz⟩ := I.tuple hq
  refine call_iterTup (show s.heap.IsTuple l its.toArray from pl) ?_
  exact ⟨.ref s.heap.objs.size, _, I.laid (t' := s.toks) (fun b u e => Heap.get?_push_of_some _ e) (Nat.le_refl _) (itT_ok ⟨_, Heap.get?_push_size _ rfl, rfl, rfl⟩), rfl, q _ (I.hok.fresh (Nat.le_refl _)) I.sz⟩
/-- return iter(e) -/
def tIterF (n : Nat) (g : Gi) (B : Bg) (W : WXv) (m : ME) : TS := fun N σ H => tE g B W m σ H fun v H1 => ∃ (l : Addr) (zs : List L2.V), v = .ref l ∧ SqT g.K H1 l zs ∧ ∀ it, H1 it = none → n ≤ it → N.rt (.ref it) (upd H1 it (ItT l it))
theorem vss_iter {X : Cx} {g : Gi} {B : Bg} {W : WXv} {e : Expr} {p pos rp : Pos} {m : ME} (hK : g.K = X.K) (hg : Gl X "iter") (hm : X.mg "iter" = none) (he : PE X e (tE g B W m))
    (hst : starEach [e] X.env = (false, eval e X.env) :: starEach [] X.env := by rfl) :
    PSs X [.Return (some (.Call (.Name "iter" p) [e] [] pos)) rp] (tIterF X.s_0.heap.objs.size g B W m) := by
  refine pss_imp (pss_one (ps_ret (pe_callB call_iterT hg hm (by decide +kernel) (pa_cons he pa_nil hst) (by decide) (by decide) hst rfl))) fun N σ H h => ?_
  refine tE.mono (g := g) (B := B) (W := W) h fun v H1 ⟨l, zs, e1, hq, q⟩ => ?_
  subst e1
  exact ⟨l, zs, rfl, hK ▸ hq, q⟩
/-- what the def promises -/
def PostIt (b : Nat) (g : Gi) (s : Sta) (H : Hp) : R Vl → VK → Prop
  | .ok (.d (.tup xs)) h, Q => ∀ (l it : Addr) (zs : List L2.V) (H' : Hp) (s' : Sta), s'.h = h → Evo s H s' H' → Good g s' H' → SqT g.K s'.F l zs → Reps g s'.F s'.al xs zs → H' it = none → b ≤ it → Q (.ref it) (upd H' it (ItT l it))
  | _, _ => False
/-- b: how big the heap is as it is called -/
def spIt (g : Gi) (N n : Nat) (m : ME) (b : Nat) : Sp := fun vs H Q _ => ∃ (s : Sta) (ds : List D), vs.length = n ∧ Good g s H ∧ Reps g s.F s.al ds vs ∧ PostIt b g s H (m (mkEnv N ds) s.h) Q
/-- defs: a promise that knows how big the heap is -/
structure FnGS (P : Program) (w : World) (K : PySem.W.Frag) (mg : Str → Option Value) (base : Heap) (k : Nat) (f : Addr) (fd : FuncData) (ps : List Str) (sp : Nat → Sp) : Prop where
  len : ∀ b vs H Q E, sp b vs H Q E → vs.length = ps.length
  run : ∀ (A : Around) (outer : List PySem.Env) (s : Shared) (H : Hp) (args : Args) (us : List Value) (vs : List V) (Q : VK) (E : XK), Room k A → A.guards = some [] → Env0 P w K mg base A outer s H → BindsTo s fd args (ps.zip us) → Vals vs us → sp s.heap.objs.size vs H Q E →
    codeAny (model P w) A (.call (.ref f) args) (CR (L2.CX P w) outer P w H s Q E) s
theorem fn_GS {P : Program} {w : World} {K : PySem.W.Frag} {mg : Str → Option Value} {base : Heap} {x qual : Str} {params : Arguments} {body : List Stmt} {scope : Scope} {dvs : List V} {kws : List (Str × V)} {f : Addr} {fd : FuncData} {N ps : List Str} {k : Nat} {sp : Nat → Sp}
    (F : FunD K x qual params body scope dvs kws f fd) (S : FnScope N ps scope) (len : ∀ b vs H Q E, sp b vs H Q E → vs.length = ps.length)
    (hbody : ∀ (cdv : Value) (A : Around) (outer : List PySem.Env) (s : Shared) (H : Hp) (vs : List V) (Q : VK) (E : XK), Room k (A.deeper (envOfC qual scope s.heap.objs.size f cdv)) → A.guards = some [] → sp s.heap.objs.size vs H Q E →
      ∃ t, PSs (cxOf (L2.CX P w) P w K mg base N qual scope f cdv A outer s H E) body t ∧ t { nx := fun _ H' => Q .non H', rt := Q } (start N vs) H) : FnGS P w K mg base (k + 1) f fd ps sp := by
  obtain ⟨oc, od, dV, kV, doc, pm, an, cdv, ct, osl, rfl, lk, hcd, _, _⟩ := F.ex
  refine ⟨len, ?_⟩
  intro A outer s H args us vs Q E room gds e0 bnd rv want
  have many := len _ _ _ _ _ want
  have inK : K.In s.heap := e0.mod.kin.keeps fun b o e => (e0.bs b o e).1
  have free : s.heap.NoLimit := e0.mod.nolimit.keeps fun b o e => (e0.bs b o e).1
  have kinds : ∀ y ∈ ps.zip us, scope.names.lookup y.1 = some .local ∨ (scope.names.lookup y.1 = some .cell ∧ ((cellsFrom (s.heap.objs.size + 1) scope.names []).lookup y.1).isSome = true) := by
    rintro ⟨n, v⟩ hy
    rcases S.par n (List.of_mem_zip hy).1 with q | q
    · exact .inl q
    · exact .inr ⟨q, PySem.W.cellsFrom_some _ _ _ (.inl q)⟩
  refine codeAny_call_function room.depth (inK _ _ lk) rfl S.co S.gen rfl (PySem.W.codeRec_of inK hcd) (bnd _ _ _ _ ?_)
  refine wpAny_newFunctionEnv_cells S.kind kinds ?_
  intro env he s1 x
  subst he
  refine ⟨free.keeps x.toInCall.keep, codeAny_func ?_⟩
  obtain ⟨t, ht, hq⟩ := hbody cdv A outer s H vs Q E (room.deeper _) gds want
  have I : Inv (cxOf (L2.CX P w) P w K mg base N qual scope f cdv A outer s H E) [] (start N vs) H s1 := inv_start S room.hd e0 many rv x
  have fin : ∀ {s' : Shared} {σ' : L2.St} {H' : Hp} {v : V} {u : Value}, Inv (cxOf (L2.CX P w) P w K mg base N qual scope f cdv A outer s H E) [] σ' H' s' → RelV v u → Q v H' → CE outer P w H s Q u s' := by
    intro s' σ' H' v u J r q
    exact ⟨v, H', J.os, J.bare, J.base, J.hok, r, q⟩
  refine wpAny_mono (ht.run [] s1 (start N vs) H _ I hq) ?_ fun e s' hs => hs
  intro fl s' hs
  cases fl with
  | ret u =>
    obtain ⟨v, σ', H', J, r, q⟩ := hs
    exact fin J r q
  | next =>
    obtain ⟨σ', H', J, q⟩ := hs
    exact fin (v := V.non) (u := Value.none) J rfl q
  | brk => exact (hs.choose_spec.choose_spec.2).elim
  | cont => exact (hs.choose_spec.choose_spec.2).elim
theorem fn_It {P : Program} {w : World} {g : Gi} {mg : Str → Option Value} {base : Heap} {x qual : Str} {params : Arguments} {body : List Stmt} {scope : Scope} {dvs : List L2.V} {kws : List (Str × L2.V)} {f : Addr} {fd : FuncData} {N ps : List Str} {k : Nat} {m : ME}
    (G : GiOk g) (F : FunD g.K x qual params body scope dvs kws f fd) (S : FnScope N ps scope)
    (hbody : ∀ (cdv : Value) (A : Around) (outer : List PySem.Env) (s : Shared) (H : Hp) (E : XK) (B : Bg), Room k (cxOf (L2.CX P w) P w g.K mg base N qual scope f cdv A outer s H E).A → Bd (cxOf (L2.CX P w) P w g.K mg base N qual scope f cdv A outer s H E) g (fun cls d _ H => E cls d H) →
      PSs (cxOf (L2.CX P w) P w g.K mg base N qual scope f cdv A outer s H E) body (tIterF s.heap.objs.size g B (fun cls d _ H => E cls d H) m)) :
    FnGS P w g.K mg base (k + 1) f fd ps (spIt g N.length ps.length m) := by
  refine fn_GS F S (fun b vs H Q E h => ?_) ?_
  · obtain ⟨_, _, hl, _⟩ := h
    exact hl
  · intro cdv A outer s H vs Q E hr gds h
    obtain ⟨st, ds, hl, gd, r, p⟩ := h
    have hb := hbody cdv A outer s H E ⟨st, H, 0, 0, 0, 0⟩ hr ⟨G, rfl, rfl, gds, takes_of rfl rfl rfl rfl, passes_of rfl, hr.units⟩
    refine ⟨_, hb, mkEnv N.length ds, st, start_sr gd r, ?_⟩
    cases e : m (mkEnv N.length ds) st.h with
    | ok x h =>
      rw [e] at p
      cases x with
      | d y =>
        cases y with
        | tup xs =>
          intro v H' s' e1 ev sr vr
          obtain ⟨l, zs, rfl, hq, hz⟩ := vr
          exact ⟨l, zs, rfl, sr.good.sqT hq.sq, fun it hit hb => p l it zs H' s' e1 ev sr.good hq.sq hz hit hb⟩
        | _ => exact p.elim
      | _ => exact p.elim
    | exc x h => rw [e] at p; exact p.elim
    | stuck => rw [e] at p; exact p.elim

/-! ### who walks it -/
structure VIter (X : Cx) (g : Gi) (c : Nat) (m : ME) : Prop where
  ex : ∃ (k : Nat) (f : Addr) (fd : FuncData) (ps : List Str), FnGS X.prog X.w X.K X.mg X.base k f fd ps (spIt g 1 1 m) ∧ Room (k + 4) X.A ∧ PySem.W.findIn X.K (.ref (g.ca c)) "__iter__" = some (some (.ref f)) ∧ PySem.W.isFn X.K (.ref f) = true ∧ Binds X.K fd ps []  ∧ ps.length = 1
abbrev TblI := Nat → Option ME
def VIters (X : Cx) (g : Gi) (T : TblI) : Prop := ∀ c m, T c = some m → VIter X g c m
/-- the same kind of around -/
structure AOk (X : Cx) (A : Around) : Prop where
  fr : A.frames = X.A.frames
  gd : A.guards = some []
theorem Inv.env0A {X : Cx} {pins : List (Addr × Obj)} {σ : L2.St} {H : Hp} {s : Shared} {A : Around} (I : Inv X pins σ H s) (a : AOk X A) : Env0 X.prog X.w X.K X.mg X.base A X.stack s H := by
  have e := I.env0
  exact ⟨by rw [a.fr]; exact e.frames, e.mod, e.bs, e.bsz, e.funs, e.frf, e.hok, e.bare⟩
section
variable {X : Cx} {g : Gi} {B : Bg} {env : Env} {st : Sta} {σ : L2.St} {H : Hp} {s : Shared} {pins : List (Addr × Obj)}
/-- pyIter of an own object -/
theorem own_pyIter {c : Nat} {m : ME} {fs : List (Str × D)} {xs : List D} {v : L2.V} {u : Value} {h1 : Hc} {A : Around} {E : Value → Shared → Prop} {Q : Value → Shared → Prop} (G : GiOk g) (hK : g.K = X.K)
    (V : VIter X g c m) (hA : ∀ k, Room (k + 4) X.A → Room k A) (ao : AOk X A)
    (I : Inv X pins σ H s) (sr : SR g B env st σ H) (rv : VlRep g B env σ st H (.d (.obj c fs)) v) (ru : RelV v u) (e : m [some (.d (.obj c fs))] st.h = .ok (.d (.tup xs)) h1)
    (k : ∀ (l it : Addr) (zs : List L2.V) (H' : Hp) (st' : Sta) (s' : Shared), st'.h = h1 → Evo st H st' H' → SR g B env st' σ H' → SqT g.K st'.F l zs → Reps g st'.F st'.al xs zs → H' it = none → Inv X pins σ (upd H' it (ItT l it)) s' → X.s_0.heap.objs.size ≤ it → Q (.ref it) s') :
    wpAny (model X.prog X.w) A (pyIter u) Q E s := by
  obtain ⟨kk, f, fd, ps, FG, hr, hs, hf, hb, hn⟩ := V.ex
  obtain ⟨a, ox, od, rfl, rfl, J⟩ := obj_at G sr I rv ru
  obtain ⟨m0, hF⟩ := I.fr
  refine PySem.W.owit_iter hF I.ok.mod.kin J hs hf ?_
  have r2 : Vals [L2.V.ref a] [Value.ref a] := .cons rfl .nil
  have bt : BindsTo s fd ⟨[.ref a], []⟩ (ps.zip [.ref a]) := by
    have z := hb s [.ref a] I.kIn (by rw [List.append_nil]; simpa using hn.symm)
    rwa [List.append_nil] at z
  have sp : spIt g 1 1 m s.heap.objs.size [.ref a] H (fun v H1 => ∃ (l it : Addr) (zs : List L2.V) (H' : Hp) (st' : Sta), v = .ref it ∧ H1 = upd H' it (ItT l it) ∧ st'.h = h1 ∧ Evo st H st' H' ∧ Good g st' H' ∧ SqT g.K st'.F l zs ∧ Reps g st'.F st'.al xs zs ∧ H' it = none ∧ s.heap.objs.size ≤ it) (fun _ _ _ => False) := by
    refine ⟨st, [.obj c fs], rfl, sr.good, Reps.cons rv Reps.nil, ?_⟩
    show PostIt s.heap.objs.size g st H (m [some (.d (.obj c fs))] st.h) _
    rw [e]
    intro l it zs H' s' e1 ev gd hq hz hit hb
    exact ⟨l, it, zs, H', s', rfl, rfl, e1, ev, gd, hq, hz, hit, hb⟩
  refine wpAny_call (codeAny_mono (FG.run A X.stack s H ⟨[.ref a], []⟩ [.ref a] [.ref a] _ (fun _ _ _ => False) (hA _ hr) ao.gd (Inv.env0A I ao) bt r2 sp) fun r s' hq => ?_)
  cases r with
  | error e =>
    obtain ⟨_, _, _, _, _, _, _, _, _, _, _, _, hE⟩ := hq
    exact hE.elim
  | ok fl =>
    cases fl with
    | next => exact False.elim hq
    | brk => exact False.elim hq
    | cont => exact False.elim hq
    | ret u =>
      obtain ⟨v, H1, I1, rv', l, it, zs, H', st', rfl, rfl, e1, ev, gd, hz1, hz2, hit, big⟩ := I.after hq
      cases rv'
      have hT : s'.heap.IsTupleIter it l 0 := (I1.hok it _ upd_same).1
      obtain ⟨o, ho, hc, _⟩ := id hT
      show PySem.W.OwitIt _ _ Q _ (.ref it) s'
      unfold PySem.W.OwitIt
      refine wpAny_specialOf (T := "tuple_iterator") (name := Str.ofString "__next__") ⟨o, ho, hc⟩ PySem.F.slot_tuple_iterator_next.lookup ?_
      exact k l it zs H' st' s' e1 ev (sr.call ev gd) hz1 hz2 hit I1 (Nat.le_trans I.sz big)
end
end Vi

set_option Elab.async false
set_option linter.all false
set_option maxRecDepth 100000
set_option maxHeartbeats 2000000
namespace Vi
open PySem L2 PyProof.Rows

/-! ### for x in o, [.. for x in o] -/
/-- what an own object tells when it is walked -/
def itemsO (T : TblI) (x : Vl) (h : Hc) (k : List D → Hc → R Vl) : R Vl := match x with
  | .d (.obj c fs) => (match T c with
    | some m => (match m [some (.d (.obj c fs))] h with
      | .ok (.d (.tup xs)) h1 => k xs h1
      | _ => .stuck)
    | none => .stuck)
  | _ => .stuck
def mCompO (o : Bool) (own : List Nat) (I : TblI) (T : TgF) (mt : MB) (me src : ME) : ME := fun env h => (src env h).bind fun x h1 => itemsO I x h1 fun xs h2 => compL o T mt me xs [] (wipeE env own) h2
/-- where the items come from -/
def iOwn (K : PySem.W.Frag) (g : Gi) (B : Bg) (W : WXv) (T : TblI) (src : ME) : TI := fun σ H R => tE g B W src σ H fun v H1 => ∃ (env : Env) (st : Sta) (c : Nat) (m : ME) (fs : List (Str × D)) (xs : List D) (h1 : Hc), SR g B env st σ H1 ∧ VlRep g B env σ st H1 (.d (.obj c fs)) v ∧ T c = some m ∧ m [some (.d (.obj c fs))] st.h = .ok (.d (.tup xs)) h1 ∧
  ∀ (l : Addr) (zs : List L2.V) (H' : Hp) (st' : Sta), st'.h = h1 → Evo st H1 st' H' → SR g B env st' σ H' → SqT g.K st'.F l zs → Reps g st'.F st'.al xs zs → R (Itt K l) H'
section
variable {X : Cx} {g : Gi} {B : Bg} {W : WXv}
theorem pi_own {tg e : Expr} {T : TblI} {src : ME} (b : Bd X g W) (V : VIters X g T) (he : PE X e (tE g B W src)) : PI X tg e (iOwn X.K g B W T src) := by
  refine ⟨fun pins s σ H R I h => ?_⟩
  refine thn (he.run pins s σ H _ I h) fun u s1 ⟨v, H1, I1, ru, q1⟩ => ?_
  obtain ⟨env, st, c, m, fs, xs, h1, sr, rv, hT, e1, k⟩ := q1
  refine own_pyIter b.G b.K (V c m hT) (fun k hr => hr.mono (by omega)) ⟨rfl, b.gd⟩ I1 sr rv ru e1 fun l it zs H' st' s' e2 ev sr' hz hr hit I2 big => ?_
  have I3 := ItX.inv_drop I2 upd_same
  have fp := ItX.inv_fp I2 upd_same big
  rw [ItX.dropH_upd hit] at I3 fp
  have hTi : s'.heap.IsTupleIter it l 0 := (I2.hok it _ upd_same).1
  exact ⟨it, [it], _, _, H', rfl, I3, turn_tuple l it, hTi, fun b hb => by
    obtain rfl : b = it := by simpa using hb
    exact fp, k l zs H' st' e2 ev sr' hz hr⟩
end
section
variable {X : Cx} {g : Gi} {B : Bg} {W : WXv} {own : List Nat} {o : Bool} {I : TblI} {T : TgF} {mt : MB} {me m : ME} {t : TG} {σ : L2.St} {H : Hp} {Q : VK}
theorem lc_ofO (hK : g.K = X.K) (q1 : CgQ g own t T) (h : tE g B W (mCompO o own I T mt me m) σ H Q) :
    tLc (iOwn X.K g B W I m) t (tT g B (fun _ _ _ _ => False) mt) (tE g B (fun _ _ _ _ => False) me) own σ H Q := by
  obtain ⟨env, s, sr, p⟩ := h
  have p : PostE g B W env s σ H ((m env s.h).bind fun x h1 => itemsO I x h1 fun xs h2 => compL o T mt me xs [] (wipeE env own) h2) Q := p
  refine (bindE (Q := Q) sr p).mono fun v H1 ⟨s1, x, sr1, ev1, r1, p1⟩ => ?_
  unfold itemsO at p1
  split at p1
  · next c fs =>
    split at p1
    · next mi hT =>
      split at p1
      · next xs h1 em =>
        refine ⟨env, s1, c, mi, fs, xs, h1, sr1, r1, hT, em, fun l zs H' st' e2 ev sr2 hz hr Dn hD => ?_⟩
        have p2 : PostE g B W env st' σ H' (compL o T mt me xs [] (wipeE env own) st'.h) Q := by
          rw [e2]
          exact PostE.later ev p1
        have sq : ∀ {s' : Sta} {H2 : Hp}, Good g s' H2 → Evo st' H' s' H2 → SqT X.K H2 l zs := fun gd e3 => hK ▸ gd.sqT (sqT_mono e3.f hz)
        refine lc_tup (xs := zs) (fun i H => CInv g B W env st' σ H' own o T mt me Q Dn (xs.drop i) H) ?_ (fun i H _ c => ?_) (fun i y H hi c => ?_) (fun H c => ?_)
        · exact comp_start sr2 hD p2
        · obtain ⟨s', _, _, gd, e3, _⟩ := c
          exact sq gd e3
        · have hl : i < xs.length := by
            rw [← hr.length]
            exact (List.getElem?_eq_some_iff.mp hi).1
          obtain ⟨y', ey, ry⟩ := hr.get (List.getElem?_eq_getElem hl)
          rw [hi] at ey
          cases ey
          rw [List.drop_eq_getElem_cons hl] at c
          exact comp_turn q1 sr2 hD c fun s' e3 => e3.rep ry
        · rw [hr.length, List.drop_length] at c
          exact comp_end sr2 hD c
      · exact p1.elim
    · exact p1.elim
  · exact p1.elim
end
section
variable {X : Cx} {g : Gi} {B : Bg} {W : WXv} {own : List (Str × Nat)} {o : Bool} {I : TblI} {T : TgF} {mt : MB} {me m : ME} {t : TG} {elt tg iter : Expr} {ifs : List Expr} {scope : Scope} {pos p' rp : Pos} {ma : MA}
theorem ve_lcO (o : Bool) (b : Bd X g W) (V : VIters X g I) (hN : X.N.Nodup) (he : PE X iter (tE g B W m)) (ok : BlkOk X.N X.env.scope scope own) (q1 : CgQ g (own.map (·.2)) t T)
    (hg : ∀ (s : Shared) (H : Hp) (C : Addr) (cl : List (Str × Addr)) (fp : List Addr), PG (X.blk s H scope (compEnvC scope cl C X.env) fp) tg t)
    (ht : ∀ (s : Shared) (H : Hp) (C : Addr) (cl : List (Str × Addr)) (fp : List Addr), PTs (X.blk s H scope (compEnvC scope cl C X.env) fp) ifs (tT g B (fun _ _ _ _ => False) mt))
    (hel : ∀ (s : Shared) (H : Hp) (C : Addr) (cl : List (Str × Addr)) (fp : List Addr), PE (X.blk s H scope (compEnvC scope cl C X.env) fp) elt (tE g B (fun _ _ _ _ => False) me)) (hs : ∀ x, foldedSetIterable iter X.env x = pure x := by intro _; rfl) :
    PE X (.ListComp elt [⟨tg, iter, ifs, 0⟩] scope pos) (tE g B W (mCompO o (own.map (·.2)) I T mt me m)) :=
  pe_imp (pe_lc b.calm hN (pi_own (tg := tg) b V he) ok hg ht hel hs) fun σ H Q h => lc_ofO b.K q1 h
end

/-! ### list(o) -/
section
variable {X : Cx} {g : Gi} {B : Bg} {env : Env} {st : Sta} {σ : L2.St} {H : Hp} {s : Shared} {pins : List (Addr × Obj)}
/-- a call that gives d, and raises nothing -/
theorem run_sure {F : Fn} {k : Nat} {f : Addr} {fd : FuncData} {ps : List Str} {A : Around} {ds : List D} {vs : List L2.V} {us : List Value} {d : D} {h1 : Hc} {E : Value → Shared → Prop} {Q : Value → Shared → Prop} (FG : FnG X.prog X.w X.K X.mg X.base k f fd ps (spD g ps.length F)) (hr : Room k A) (ao : AOk X A) (hb : Binds X.K fd ps [])
    (I : Inv X pins σ H s) (r : Vals vs us) (hl : vs.length = ps.length) (gd : Good g st H) (rr : Reps g st.F st.al ds vs) (e : F ds st.h = .ok d h1)
    (q : ∀ (v : L2.V) (u : Value) (H' : Hp) (st' : Sta) (s' : Shared), st'.h = h1 → Evo st H st' H' → Good g st' H' → Rep g st'.F st'.al d v → RelV v u → Inv X pins σ H' s' → Q u s') : wpAny (model X.prog X.w) A (call (.ref f) us) Q E s := by
  have bt : BindsTo s fd ⟨us, []⟩ (ps.zip us) := by
    have z := hb s us I.kIn (by rw [List.append_nil, ← r.length]; exact hl)
    rwa [List.append_nil] at z
  have sp : spD g ps.length F vs H (fun v H' => ∃ st', st'.h = h1 ∧ Evo st H st' H' ∧ Good g st' H' ∧ Rep g st'.F st'.al d v) (fun _ _ _ => False) := by
    refine ⟨st, ds, hl, gd, rr, ?_⟩
    rw [e]
    intro v H' s' e1 ev gd' rv
    exact ⟨s', e1, ev, gd', rv⟩
  refine wpAny_call (codeAny_mono (FG.run A X.stack s H ⟨us, []⟩ us vs _ (fun _ _ _ => False) hr ao.gd (Inv.env0A I ao) bt r sp) fun r s' hq => ?_)
  cases r with
  | error e =>
    obtain ⟨_, _, _, _, _, _, _, _, _, _, _, _, hE⟩ := hq
    exact hE.elim
  | ok fl =>
    cases fl with
    | next => exact False.elim hq
    | brk => exact False.elim hq
    | cont => exact False.elim hq
    | ret u =>
      obtain ⟨v, H', I', rv, st', e1, ev, gd', rr'⟩ := I.after hq
      exact q v u H' st' s' e1 ev gd' rr' rv I'
theorem sqT_updL {K : PySem.W.Frag} {H : Hp} {l q : Addr} {zs ys ys0 : List L2.V} (hq : H q = some (.lst ys0)) (h : SqT K H l zs) : SqT K (upd H q (.lst ys)) l zs := by
  rcases h with (h | ⟨o, h⟩) | h
  · have ne : l ≠ q := fun e => by rw [e, hq] at h; cases h
    exact .inl (.inl (by rw [upd_ne ne]; exact h))
  · have ne : l ≠ q := fun e => by rw [e, hq] at h; cases h
    exact .inl (.inr ⟨o, by rw [upd_ne ne]; exact h⟩)
  · exact .inr h
/-- the list at q is filled from the tuple's iterator at it -/
theorem tup_loop {l it q : Addr} {zs : List L2.V} {Rs : Result → Shared → Prop} {A : Around} (hh : A.handled = none) (hz : zs.length ≤ 100000) :
    ∀ (k i : Nat) (H : Hp) (s : Shared), k = zs.length - i → i ≤ zs.length → Inv X pins σ H s → FpOk X pins H it → s.heap.IsTupleIter it l i → SqT X.K H l zs → H q = some (.lst (zs.take i)) →
      (∀ s', Inv X pins σ (upd H q (.lst zs)) s' → Rs (.ok (.ret .none)) s') → codeAny (model X.prog X.w) A (.builtin "list.extend.loop" ⟨[.ref q, .ref it, .none], []⟩) Rs s := by
  intro k
  induction k with
  | zero =>
    intro i H s hk hi I hf st hq hl hd
    obtain rfl : i = zs.length := by omega
    obtain ⟨its, rv, pl, _⟩ := I.tuple hq
    refine codeAny_builtin PySem.F.entry_extend_loop ?_
    rw [Around.under_plainId PySem.F.plain_extend_loop _]
    show wpAny _ A.in1 (pyNext (.ref it) >>= _) _ _ s
    obtain ⟨f0, f1, f2, f3, f4, f5⟩ := hf
    refine wpAny_bind (wpAny_pyNext_tuple_end (items := its.toArray) hh st pl (by rw [List.getElem?_toArray, List.getElem?_eq_none (by rw [← rv.length]; exact Nat.le_refl _)]) fun h' eb => ?_)
    have I1 : Inv X pins σ H { s with heap := h', toks := s.toks } := I.turned (t' := s.toks) (fun b o hb e => eb b o hb e) f0 f1 f3 f4 f5
    have e1 : upd H q (.lst zs) = H := by
      funext b
      by_cases hb : b = q
      · rw [hb, upd_same, hl, List.take_length]
      · rw [upd_ne hb]
    exact wpAny_pure (hd _ (by rw [e1]; exact I1))
  | succ k ih =>
    intro i H s hk hi I hf st hq hl hd
    have hlt : i < zs.length := by omega
    obtain ⟨its, rv, pl, _⟩ := I.tuple hq
    obtain ⟨u, hu, ru⟩ := rv.get (List.getElem?_eq_getElem hlt)
    refine codeAny_builtin PySem.F.entry_extend_loop ?_
    rw [Around.under_plainId PySem.F.plain_extend_loop _]
    show wpAny _ A.in1 (pyNext (.ref it) >>= _) _ _ s
    obtain ⟨f0, f1, f2, f3, f4, f5⟩ := hf
    refine wpAny_bind (wpAny_pyNext_tuple_item (items := its.toArray) (x := u) st pl (by rw [List.getElem?_toArray]; exact hu) fun h' st' sb => ?_)
    have I1 : Inv X pins σ H { s with heap := h', toks := s.toks } := I.turned (t' := s.toks) (fun b o hb e => sb.extBut b o hb e) f0 f1 f3 f4 f5
    show wpAny _ A.in1 (updateSeq q (·.push u) >>= _) _ _ _
    obtain ⟨z, its2, c, r2, hl2, e2⟩ := I1.lstM hl
    have hneq : it ≠ q := fun e => by rw [e, hl] at f0; cases f0
    have hlen : its2.length = i := by rw [← r2.length, List.length_take]; omega
    refine wpAny_bind (wpAny_updateSeq e2 rfl (wpAny_pure ⟨plainId_quiet PySem.F.plain_extend_loop _, ?_⟩) (by rw [List.size_toArray, sizeLine_eq]; omega) (by show (its2.toArray.push u).size ≤ sizeLine + 1; rw [Array.size_push, List.size_toArray, sizeLine_eq]; omega))
    have I2 := I1.lset (f := (·.push u)) (its' := its2 ++ [u]) (ys := zs.take (i + 1)) (t' := s.toks) hl e2 (by simp) (by rw [List.take_succ_eq_append_getElem hlt]; exact r2.append (.cons ru .nil)) (by rw [List.length_take, sizeLine_eq]; omega)
    have hu1 : ∀ b, b ≠ q → upd H q (.lst (zs.take (i + 1))) b = H b := fun b hb => upd_ne hb
    refine ih (i + 1) _ _ (by omega) (by omega) I2 ?_ ?_ ?_ upd_same fun s' I' => ?_
    · exact ⟨by rw [hu1 it hneq]; exact f0, f1, f2, f3, f4, f5⟩
    · obtain ⟨o, ho, hc, hdt⟩ := st'
      exact ⟨o, by rw [Heap.get?_update_other _ _ hneq.symm]; exact ho, hc, hdt⟩
    · exact sqT_updL hl hq
    · rw [upd_upd] at I'
      exact hd s' I'
end
end Vi

set_option Elab.async false
set_option linter.all false
set_option maxRecDepth 100000
set_option maxHeartbeats 2000000
namespace Vi
open PySem L2 PyProof.Rows
theorem Good.drop {g : Gi} {s : Sta} {H : Hp} {p : Addr} (gd : Good g s H) (hf : s.F p = none) (hn : ∀ n, s.al n ≠ some p) : Good g s (ItX.dropH H p) := by
  refine ⟨fun a u h => ?_, gd.inj, fun n a h => ?_, fun n c h => ?_, gd.zed.keep rfl rfl (fun _ _ h => h) fun n a o h1 h2 => by rw [ItX.dropH_ne (fun e => hn n (by rw [← e]; exact h1))]; exact h2⟩
  · have ne : a ≠ p := fun e => by rw [e, hf] at h; cases h
    rw [ItX.dropH_ne ne]
    exact gd.fle a u h
  · obtain ⟨h1, h2, u, h3⟩ := gd.dom n a h
    have ne : a ≠ p := fun e => hn n (by rw [← e]; exact h)
    exact ⟨h1, h2, u, by rw [ItX.dropH_ne ne]; exact h3⟩
  · obtain ⟨a, h1, h2⟩ := gd.cell n c h
    have ne : a ≠ p := fun e => hn n (by rw [← e]; exact h1)
    refine ⟨a, h1, ?_⟩
    exact h2.mv (fun o h3 => by rw [ItX.dropH_ne ne]; exact h3) (fun _ _ h => h) fun _ _ h => h
/-- a special method of the class c that is called from deep within -/
structure VOp4 (X : Cx) (g : Gi) (c : Nat) (name : Str) (n : Nat) (F : Fn) : Prop where
  ex : ∃ (k : Nat) (f : Addr) (fd : FuncData) (ps : List Str), FnG X.prog X.w X.K X.mg X.base k f fd ps (spD g ps.length F) ∧ Room (k + 4) X.A ∧ PySem.W.findIn X.K (.ref (g.ca c)) name = some (some (.ref f)) ∧ PySem.W.isFn X.K (.ref f) = true ∧ Binds X.K fd ps [] ∧ ps.length = n
def VOps4 (X : Cx) (g : Gi) (name : Str) (n : Nat) (T : Tbl) : Prop := ∀ c F, T c = some F → VOp4 X g c name n F
theorem RdyM.op4 {X : Cx} {g : Gi} {c : Nat} {m : Str} {k j n : Nat} {F : Fn} (h : RdyM X.prog X.w X.K X.mg X.base g c m k n [] F) (hr : Room j X.A) (hj : k + 4 ≤ j) : VOp4 X g c m (n + 1) F := by
  obtain ⟨f, fd, ps, dvs, ds, h1, h2, h3, h4, h5, h6, h7⟩ := h.ex
  have z := h5 (fun _ => none) (fun _ => none)
  obtain rfl : dvs = [] := z
  cases h4
  exact ⟨⟨k, f, fd, ps, h1, hr.mono hj, h2.at_, h2.fn, h3, h6.symm⟩⟩
section
variable {X : Cx} {g : Gi} {B : Bg} {W : WXv} {env : Env} {st : Sta} {σ : L2.St} {H : Hp} {s : Shared} {pins : List (Addr × Obj)} {Q : VK}
theorem call_listO {c : Nat} {m : ME} {F : Fn} {fs : List (Str × D)} {ys : List D} {v : L2.V} {u : Value} {h1 h2 : Hc} {k : Int} {o : Bool} (b : Bd X g W) (V : VIter X g c m) (VL : VOp4 X g c "__len__" 1 F)
    (I : Inv X pins σ H s) (sr : SR g B env st σ H) (rv : VlRep g B env σ st H (.d (.obj c fs)) v) (ru : RelV v u)
    (e1 : m [some (.d (.obj c fs))] st.h = .ok (.d (.tup ys)) h1) (e2 : F [.obj c fs] h1 = .ok (.int k) h2) (h0 : 0 ≤ k) (h3 : k ≤ 100000) (h4 : ys.length ≤ 100000)
    (p : PostE g B W env st σ H (.ok (Vl.ofL o ys) h2) Q) : wpAny (model X.prog X.w) X.A (call (.type "list") [u]) (EP X pins σ Q) X.xe s := by
  obtain ⟨a, ox, od, rfl, rfl, J⟩ := obj_at b.G sr I rv ru
  obtain ⟨kl, fl, fdl, psl, FGl, hrl, hsl, hfl, hbl, hnl⟩ := VL.ex
  refine callType_codes (Q₁ := fun obj s₁ => obj = .ref s.heap.objs.size ∧ s₁ = { s with heap := s.heap.push { cls := .type "list", data := .seq #[] } }) PySem.F.called_list (PySem.F.typeCall_list_1 _) PySem.F.entry_list_init
    (code_list_new _ ⟨rfl, rfl⟩) fun obj s₁ h₁ => ?_
  obtain ⟨rfl, rfl⟩ := h₁
  have hS : (s.heap.push { cls := .type "list", data := .seq #[] }).get? s.heap.objs.size = some { cls := .type "list", data := .seq #[] } := Heap.get?_push_size _ rfl
  refine ⟨⟨_, hS, rfl⟩, PySem.F.args_list_init_2 _ _, ?_⟩
  have fr : H s.heap.objs.size = none := I.hok.fresh (Nat.le_refl _)
  have I1 : Inv X pins σ (upd H s.heap.objs.size (.lst [])) { s with heap := s.heap.push { cls := .type "list", data := .seq #[] } } := I.lnew (its := []) (t' := s.toks) .nil (Nat.zero_le _)
  show wpAny _ _ (do let old ← Builtin.List.listItems (.ref s.heap.objs.size); Builtin.List.listUpdate (.ref s.heap.objs.size) (fun _ => #[]); letGo old.toList.reverse; Builtin.List.listExtendWith (.ref s.heap.objs.size) (.ref a) .none) _ _ _
  refine wpAny_bind ?_
  unfold Builtin.List.listItems
  refine wpAny_bind (wpAny_seqItems hS rfl (wpAny_pure ?_))
  show wpAny _ _ (updateSeq s.heap.objs.size (fun _ => #[]) >>= fun _ => letGo (#[] : Array Value).toList.reverse >>= fun _ => Builtin.List.listExtendWith (.ref s.heap.objs.size) (.ref a) .none) _ _ _
  refine wpAny_bind (wpAny_updateSeq hS rfl ?_)
  have I2 := I1.lset (f := fun _ => #[]) (its := []) (its' := []) (ys := []) (t' := s.toks) upd_same hS rfl .nil (Nat.zero_le _)
  rw [upd_upd] at I2
  refine wpAny_bind (wpAny_letGo ?_)
  obtain ⟨srq, evq⟩ := sr.new (o := .lst []) fr
  obtain ⟨qF, qA⟩ := own_free sr.good fr
  have rvq : VlRep g B env σ st (upd H s.heap.objs.size (.lst [])) (.d (.obj c fs)) (.ref a) := rv.evo evq
  obtain ⟨a', ox', od', ea, _, J'⟩ := obj_at b.G srq I2 rvq (rfl : RelV (.ref a) (.ref a))
  cases ea
  have hne : s.heap.objs.size ≠ a := fun e => by
    obtain ⟨_, dx, ws, ev, hF, _⟩ := rvq
    cases ev
    have z := srq.good.fle _ _ hF
    rw [← e, upd_same] at z
    cases z
  generalize hq : s.heap.objs.size = q at *
  unfold Builtin.List.listExtendWith
  refine wpAny_bind (J'.type.here ?_)
  have k1 : Builtin.List.listSameRef (.ref q) (.ref a) = false := by simp [Builtin.List.listSameRef, hne]
  have k2 : (Value.ref (g.ca c) == Value.type "list") = false := rfl
  have k3 : (Value.ref (g.ca c) == Value.type "tuple") = false := rfl
  simp only [k1, k2, k3, Bool.or_false, Bool.false_eq_true, if_false]
  refine wpAny_bind (own_pyIter (A := X.A.in1.in1) b.G b.K V (fun k hr => ((hr.mono (by omega) : Room (k + 2) X.A).in1).in1) ⟨rfl, b.gd⟩ I2 srq rvq rfl e1 fun l it zs H' st' s' e3 ev sr' hz hr hit I3 big => ?_)
  refine wpAny_bind (wpAny_holding ?_)
  obtain ⟨srI, evI⟩ := sr'.new (o := ItT l it) hit
  have rvI : VlRep g B env σ st' (upd H' it (ItT l it)) (.d (.obj c fs)) (.ref a) := (rvq.evo ev).evo evI
  obtain ⟨a2, ox2, od2, ea, _, J2⟩ := obj_at b.G srI I3 rvI (rfl : RelV (.ref a) (.ref a))
  cases ea
  unfold Builtin.List.listLengthHint
  refine wpAny_bind (wpAny_bind (J2.type.here ((PySem.W.looks_findIn I3.kIn hsl).here ?_)))
  refine PySem.W.KFB.if_not rfl ?_
  refine PySem.W.KFB.if_so rfl ?_
  refine wpAny_bind (wpAny_rule ?_)
  obtain ⟨m1, hF1⟩ := I3.fr
  refine wpAny_bind (wpAny_attempt ?_)
  refine PySem.W.len_K hF1 I3.ok.mod.kin J2 hsl hfl ?_
  refine run_sure (A := X.A.in1.in1.in1) (st := st') (H := upd H' it (ItT l it)) (vs := [.ref a]) FGl (((hrl.mono (by omega) : Room (kl + 3) X.A).in1).in1).in1 ⟨rfl, b.gd⟩ hbl I3 (.cons rfl .nil) hnl.symm srI.good (Reps.cons rvI Reps.nil) (by rw [e3]; exact e2) fun vl ul H2 st2 s2 q1 q2 q3 q4 q5 I4 => ?_
  have q4 : vl = .int k := q4
  subst q4
  obtain ⟨tk, rfl⟩ := q5
  refine ⟨⟨h0, by omega⟩, ?_⟩
  refine wpAny_bind (wpAny_of_eq (a := some k) rfl ?_)
  refine PySem.W.KFB.if_not (show Builtin.List.listTooLong k.toNat = false from decide_eq_false (by rw [sizeLine_eq]; omega)) ?_
  refine wpAny_pure ?_
  -- what stands behind the call of len
  have hitS : (upd H' it (ItT l it)) it = some (ItT l it) := upd_same
  obtain ⟨itF, itA⟩ := own_free sr'.good hit
  obtain ⟨g1, g2, g3⟩ := q2.oth it _ hitS itA
  have hqI : upd H' it (ItT l it) q = some (.lst []) := by
    obtain ⟨z, _⟩ := ev.oth q _ upd_same qA
    have ne : q ≠ it := fun e => by rw [e, hit] at z; cases z
    rw [upd_ne ne]
    exact z
  have qA' : ∀ n, st'.al n ≠ some q := (ev.oth q _ upd_same qA).2.2
  obtain ⟨p1, p2, p3⟩ := q2.oth q _ hqI qA'
  have qF' : st2.F q = none := p2 ((ev.oth q _ upd_same qA).2.1 qF (fun _ z => nomatch z)) (fun _ z => nomatch z)
  have evAll : Evo st (upd H q (.lst [])) st2 H2 := ev.trans (evI.trans q2)
  have hz2 : SqT g.K st2.F l zs := sqT_mono q2.f hz
  have hr2 : Reps g st2.F st2.al ys zs := q2.reps hr
  have hz3 : SqT X.K (ItX.dropH H2 it) l zs := by
    have z : SqT g.K (ItX.dropH H2 it) l zs := sqT_mono (fun a o e => by
      have ne : a ≠ it := fun q => by
        rw [q, g2 itF (fun _ z => nomatch z)] at e
        cases e
      rw [ItX.dropH_ne ne]
      exact q3.fle a o e) hz2
    exact b.K ▸ z
  have I5 := ItX.inv_drop I4 g1
  have fp := ItX.inv_fp I4 g1 big
  have hT : s2.heap.IsTupleIter it l 0 := (I4.hok it _ g1).1
  have hqit : q ≠ it := fun e => by rw [e, g1] at p1; cases p1
  have hl : ItX.dropH H2 it q = some (.lst (zs.take 0)) := by
    rw [ItX.dropH_ne hqit, p1]
    rfl
  have hlen : zs.length ≤ 100000 := by rw [hr2.length]; exact h4
  -- the end
  have fin : ∀ s9 : Shared, Inv X pins σ (upd (ItX.dropH H2 it) q (.lst zs)) s9 → EP X pins σ Q (.ref q) s9 := by
    intro s9 I9
    refine ⟨.ref q, _, I9, rfl, ?_⟩
    have gd0 : Good g st2 (ItX.dropH H2 it) := q3.drop (g2 itF (fun _ z => nomatch z)) g3
    have gd9 : Good g st2 (upd (ItX.dropH H2 it) q (.lst zs)) := gd0.updO qF' p3
    have evH : Evo st H st2 (upd (ItX.dropH H2 it) q (.lst zs)) := by
      refine ⟨evAll.f, evAll.al, fun a o h n => ?_, evAll.len, evAll.z⟩
      have ha : upd H q (.lst []) a = some o := by rw [upd_ne (ne_of_none h fr)]; exact h
      obtain ⟨x1, x2, x3⟩ := evAll.oth a o ha n
      have na : a ≠ it := fun e => by
        have z := (ev.oth a o ha n).1
        rw [e, hit] at z
        cases z
      exact ⟨by rw [upd_ne (ne_of_none h fr), ItX.dropH_ne na]; exact x1, x2, x3⟩
    exact comp_end (own := []) (T := fun _ _ => none) (mt := mYes) (me := fun _ _ => .stuck) sr fr ⟨st2, ys, zs, gd9, evH, upd_same, qF', p3, hr2, by
      show PostE g B W env st σ H (.ok (Vl.ofL o ys) st2.h) Q
      rw [q1]
      exact p⟩
  have I6 : Inv X pins σ (ItX.dropH H2 it) { s2 with toks := s2.toks + 1 } := I5.tok _
  have hh : X.A.handled = none := I5.ok.hd b.calm
  have loop : ∀ s7 : Shared, Inv X pins σ (ItX.dropH H2 it) s7 → s7.heap.IsTupleIter it l 0 → codeAny (model X.prog X.w) X.A.in1 (.builtin "list.extend.loop" ⟨[.ref q, .ref it, .none], []⟩) (wants (fun r s₂ => r = .none ∧ EP X pins σ Q (.ref q) s₂) X.xe) s7 := fun s7 I7 t7 =>
    tup_loop (zs := zs) (by exact hh) hlen (zs.length - 0) 0 _ s7 rfl (Nat.zero_le _) I7 fp t7 hz3 hl fun s' I' => ⟨rfl, fin s' I'⟩
  refine wpAny_ite_split (fun _ => ?_) (fun _ => wpAny_pure ⟨plainId_quiet PySem.F.plain_extend_loop _, loop _ I6 hT⟩)
  refine wpAny_bind (wpAny_rule ?_)
  refine wpAny_bind ?_
  show wpAny _ _ (updateSeq q (·.push .none) >>= fun _ => updateSeq q (·.pop)) _ _ _
  have hl0 : ItX.dropH H2 it q = some (.lst []) := hl
  obtain ⟨z3, its3, c3, r3, hl3, w3⟩ := I6.lstM hl0
  cases r3
  refine wpAny_bind (wpAny_updateSeq w3 rfl ?_)
  have J2' := I6.lset (f := (·.push Value.none)) (its' := [Value.none]) (ys := [.non]) (t' := s2.toks + 1) hl0 w3 (by simp) (.cons rfl .nil) (by rw [List.length_singleton, sizeLine_eq]; decide)
  obtain ⟨z4, its4, c4, r4, hl4, w4⟩ := J2'.lstM upd_same
  obtain ⟨u4, rfl, ru4⟩ := r4.one
  refine wpAny_updateSeq w4 rfl ?_ (by show 1 ≤ sizeLine; rw [sizeLine_eq]; decide) (by show 0 ≤ sizeLine + 1; exact Nat.zero_le _)
  have J3' := J2'.lset (f := (·.pop)) (its := [u4]) (its' := []) (ys := []) (t' := s2.toks + 1) upd_same w4 (by rfl) .nil (Nat.zero_le _)
  rw [upd_upd] at J3'
  have hH : upd (ItX.dropH H2 it) q (.lst []) = ItX.dropH H2 it := by
    funext b
    by_cases hb : b = q
    · rw [hb, upd_same, hl0]
    · rw [upd_ne hb]
  rw [hH] at J3'
  obtain ⟨oi, hoi, hci, hdi⟩ := id hT
  exact wpAny_pure ⟨plainId_quiet PySem.F.plain_extend_loop _, loop _ J3' ⟨oi, by rw [Heap.get?_update_other _ _ hqit, Heap.get?_update_other _ _ hqit]; exact hoi, hci, hdi⟩⟩
end
def fListO (o : Bool) (T : TblI) (TL : Tbl) (xs : List Vl) (h : Hc) : R Vl := match xs with
  | [.d (.obj c fs)] => itemsO T (.d (.obj c fs)) h fun ys h1 => (match TL c with
    | some F => (match F [.obj c fs] h1 with
      | .ok (.int k) h2 => if 0 ≤ k ∧ k ≤ 100000 ∧ ys.length ≤ 100000 then .ok (Vl.ofL o ys) h2 else .stuck
      | _ => .stuck)
    | none => .stuck)
  | _ => fList o xs h
section
variable {X : Cx} {g : Gi} {B : Bg} {W : WXv} {pos p : Pos} {a : Expr} {A : MA}
theorem ve_listO (o : Bool) {T : TblI} {TL : Tbl} (d : Bd X g W) (V : VIters X g T) (VL : VOps4 X g "__len__" 1 TL) (hg : Gl X "list") (hm : X.mg "list" = none) (ha : PA X [a] (tA g B W A))
    (he : starEach [a] X.env = (false, eval a X.env) :: starEach [] X.env := by rfl) (hpl : (backTo pos (starEach [] X.env)).any (·.1) = false := by rfl) : PE X (.Call (.Name "list" p) [a] [] pos) (tE g B W (mA1 (fListO o T TL) A)) := by
  refine ⟨fun pins s σ H Q I ⟨env, st, sr, pp⟩ => ?_⟩
  refine wpAny_Call_Name_kw (ld_blt (u := .type "list") I hg hm (by decide +kernel) ?_ (by decide) (by decide))
  refine PyProof.Rows.callWith_type1 (thn (ha.run pos pins s σ H _ I (bindA (Q := Q) sr pp)) fun us s1 ⟨vs, H1, I1, r1, st1, xs, sr1, _, rx, p1⟩ => ?_) he hpl
  unfold fListO at p1
  split at p1
  · next c fs =>
    obtain ⟨v, rfl, rv⟩ := rx.one
    obtain ⟨u, rfl, ru⟩ := vals1 r1
    unfold itemsO at p1
    cases hT : T c with
    | none => simp only [hT] at p1; exact p1.elim
    | some m =>
      simp only [hT] at p1
      split at p1
      · next ys h1 e1 =>
        cases hF : TL c with
        | none => simp only [hF] at p1; exact p1.elim
        | some F =>
          simp only [hF] at p1
          split at p1
          · next k h2 e2 =>
            split at p1
            · next hk => exact call_listO d (V c m hT) (VL c F hF) I1 sr1 rv ru e1 e2 hk.1 hk.2.1 hk.2.2 p1
            · exact p1.elim
          · exact p1.elim
      · exact p1.elim
  · obtain ⟨r, q1, q2⟩ := c_list (X := X) (g := g) o d.K
    exact q1 pins s1 σ H1 vs us Q I1 r1 (q2 B W env st1 σ H1 xs vs Q sr1 rx p1)
end
end Vi

set_option Elab.async false
set_option linter.all false
set_option maxRecDepth 100000
set_option maxHeartbeats 2000000
namespace PySem.W
open PySem PySem.Calls PyProof.Rows Builtin
section
variable {prog : Program} {w : World} {A : Around} {E : Value → Shared → Prop} {s : Shared} {K : Frag} {x C f : Addr} {ox : Obj} {od : Option Obj} {b tb : Value}
theorem vi_ne_K {Q : Value → Shared → Prop} (hu : A.units + 1 < cLine) (X : K.In s.heap) (I : InstAt s.heap x ox C od) (hb : Looks (model prog w) s.heap (typeOf b) tb) (hn : notFirst K C tb = true)
    (hne : findIn K (.ref C) "__ne__" = some (some (.builtin "object.__ne__"))) (hm : mroIn K C (.type "object") = some true)
    (hs : findIn K (.ref C) "__eq__" = some (some (.ref f))) (hf : isFn K (.ref f) = true)
    (h : wpAny (model prog w) A.in1 (call (.ref f) [.ref x, b]) (fun v s' => ∃ k, v = .bool k ∧ Q (.bool (!k)) s') E s) : wpAny (model prog w) A (richCompare .NotEq (.ref x) b) Q E s := by
  have hbody : wpAny (model prog w) A.in1 (Builtin.«object.__ne__» ⟨[.ref x, b], []⟩) (fun fin s' => ∃ v, fin = .done (.ret v) ∧ (∃ k, v = .bool k) ∧ Q v s') E s := by
    unfold Builtin.«object.__ne__»
    refine wpAny_bind (wpAny_of_eq (a := (Value.ref x, [b])) (by first | rfl | kernel_rfl) ?_)
    refine wpAny_bind (wpAny_cRoomFor (by exact hu) ?_)
    refine wpAny_bind (ifBound_K X I hs hf (wpAny_mono h (fun v s' hv => ?_) fun _ _ e => e))
    obtain ⟨k, rfl, q⟩ := hv
    exact wpAny_bind (wpAny_truthy_bool (wpAny_pure ⟨_, rfl, ⟨_, rfl⟩, q⟩))
  have hcall : wpAny (model prog w) A (call (.builtin "object.__ne__") [.ref x, b]) (fun v s' => (∃ k, v = .bool k) ∧ Q v s') E s := by
    refine wpAny_call (codeAny_call_builtin F.cmp_object.ne.plain F.cmpEntry_ne (check_slot F.cmpKind_ne F.cmpSplit_ne ?_ (F.cmpArgs_ne _ _) (wpAny_mono hbody (fun fin s' hq => ?_) fun _ _ e => e)))
    · exact (I.type (M := model prog w)).andThen (looks_mroIn X hm)
    · obtain ⟨v, rfl, hv, q⟩ := hq
      exact ⟨hv, q⟩
  have one : wpAny (model prog w) A (tryCompare (.ref x) "__ne__" b) (fun r s' => ∃ v, r = some v ∧ Q v s') E s := by
    unfold tryCompare
    refine wpAny_bind ?_
    simp only [callSpecialIfBound?, bindSpecialIfBound?]
    refine wpAny_holding (wpAny_bind (wpAny_bind (wpAny_bind (I.type.here ((looks_findIn X hne).here ?_)))))
    simp only [F.cmp_object.ne.bind]
    refine wpAny_bind (wpAny_askSetting (wpAny_ite ?_))
    have fin : wpAny (model prog w) A (call (.builtin "object.__ne__") ([.ref x] ++ [b]) >>= fun v => pure (some v)) (fun r s' => wpAny (model prog w) A (match r with
      | some .notImplemented | none => pure none
      | some v => pure (some v)) (fun r s' => ∃ v, r = some v ∧ Q v s') E s') E s := by
      refine wpAny_bind (wpAny_mono hcall (fun v s' h' => wpAny_pure ?_) fun _ _ h' => h')
      obtain ⟨⟨k, rfl⟩, q⟩ := h'
      exact wpAny_pure ⟨_, rfl, q⟩
    split
    · exact wpAny_bind (wpAny_pure (wpAny_pure fin))
    · exact wpAny_tryCatch (wpAny_bind (wpAny_pure (wpAny_pure fin)))
  unfold richCompare
  simp only [oneThing_ref]
  refine wpAny_holding (wpAny_bind (wpAny_cRoomFor (by omega) ?_))
  refine wpAny_bind (I.type.here (wpAny_bind (hb.here ?_)))
  split
  · rename_i q
    have e : subIn K tb (.ref C) = some false := by
      rcases Bool.or_eq_true_iff.mp hn with e | e
      · rw [beq_iff_eq.mp e] at q; simp at q
      · exact beq_iff_eq.mp e
    refine wpAny_bind ((looks_subIn X e).here ?_)
    simp only [Bool.false_eq_true, if_false]
    refine wpAny_bind (wpAny_mono one (fun r s' z => ?_) fun _ _ e => e)
    obtain ⟨v, rfl, hq⟩ := z
    exact wpAny_pure hq
  · refine wpAny_bind (wpAny_pure ?_)
    simp only [Bool.false_eq_true, if_false]
    refine wpAny_bind (wpAny_mono one (fun r s' z => ?_) fun _ _ e => e)
    obtain ⟨v, rfl, hq⟩ := z
    exact wpAny_pure hq
end
end PySem.W

set_option Elab.async false
set_option linter.all false
set_option maxRecDepth 100000
set_option maxHeartbeats 4000000
namespace Vi
open PySem L2 PyProof.Rows

/-! ### len(set(texts)) -/
def ndS (acc : List Str) (x : Str) : List Str := if x ∈ acc then acc else acc ++ [x]
/-- each text once -/
def nd (xs : List Str) : List Str := xs.foldl ndS []
theorem nd_succ {xs : List Str} {i : Nat} (h : i < xs.length) : nd (xs.take (i + 1)) = ndS (nd (xs.take i)) xs[i] := by
  rw [List.take_succ_eq_append_getElem h]
  unfold nd
  rw [List.foldl_append]
  rfl
theorem ndS_mem (acc : List Str) (x k : Str) : decide (k ∈ ndS acc x) = (decide (k ∈ acc) || decide (k = x)) := by
  unfold ndS
  by_cases h : x ∈ acc
  · rw [if_pos h]
    by_cases e : k = x
    · subst e; simp [h]
    · simp [e]
  · rw [if_neg h]
    simp [List.mem_append]
theorem ndS_len (acc : List Str) (x : Str) : (ndS acc x).length = if decide (x ∈ acc) = true then acc.length else acc.length + 1 := by
  unfold ndS
  by_cases h : x ∈ acc
  · simp [h]
  · simp [h]
theorem ndS_le (acc : List Str) (x : Str) : (ndS acc x).length ≤ acc.length + 1 := by
  rw [ndS_len]
  split <;> omega
theorem nd_le : ∀ (i : Nat) (xs : List Str), (nd (xs.take i)).length ≤ i
  | 0, xs => by rw [List.take_zero]; exact Nat.le_refl _
  | i + 1, xs => by
    by_cases h : i < xs.length
    · rw [nd_succ h]
      exact Nat.le_trans (ndS_le _ _) (Nat.succ_le_succ (nd_le i xs))
    · rw [List.take_of_length_le (by omega), ← List.take_of_length_le (i := i) (by omega : xs.length ≤ i)]
      exact Nat.le_succ_of_le (nd_le i xs)
theorem txt_at : ∀ {ys : List Str} {us : List Value}, Vals (ys.map L2.V.str) us → ∀ (i : Nat) (v : Value), us[i]? = some v → ∃ (h : i < ys.length) (t : Tok), v = .str ys[i] t
  | [], _, .nil, i, v, e => by simp at e
  | y :: ys, _, .cons r t, 0, v, e => by
    obtain ⟨k, rfl⟩ := r
    simp at e
    exact ⟨by simp, k, e.symm⟩
  | y :: ys, _, .cons r t, i + 1, v, e => by
    rw [List.getElem?_cons_succ] at e
    obtain ⟨h, k, e2⟩ := txt_at t i v e
    exact ⟨by simp; omega, k, e2⟩
section
variable {prog : Program} {w : World} {A : Around} {R : Result → Shared → Prop} {I : Addr} {fp wr : List Addr} {G : Array GenState → Array GenState → Prop} {n : Nat} {P : Nat → Value → Prop} {St : Nat → Shared → Prop}
/-- the walk that fills a set with texts -/
theorem set_fill (W : WalksS prog w A.in1 I fp wr G n P St) {S : Addr} (hSf : S ∉ fp) {xs : List Str} (hn : n = xs.length) (hval : ∀ i v, P i v → ∃ (h : i < xs.length) (t : Tok), v = .str xs[i] t) (hb : n + 1 < scanBound) :
    ∀ (k i : Nat) (s : Shared), n - i = k → i ≤ n → St i s → s.heap.SetOf (PySem.strKind prog w) S (fun y => decide (y ∈ nd (xs.take i))) (nd (xs.take i)).length →
      (∀ s', Moved (S :: wr) G s s' → s'.heap.SetOf (PySem.strKind prog w) S (fun y => decide (y ∈ nd xs)) (nd xs).length → R (.ok (.ret .none)) s') → codeAny (model prog w) A (.builtin "set.update.loop" ⟨[.ref S, .ref I], []⟩) R s := by
  have hSw : S ∉ wr := fun h => hSf (W.sub _ h)
  have stay : ∀ {s s' : Shared} {f : Str → Bool} {c : Nat}, s.heap.SetOf (PySem.strKind prog w) S f c → Moved wr G s s' → s'.heap.SetOf (PySem.strKind prog w) S f c := fun hS hm => by
    obtain ⟨o, es, ep, t, ho, rest⟩ := hS
    exact ⟨o, es, ep, t, hm.heap S _ hSw ho, rest⟩
  have up : ∀ {s s' : Shared}, Moved wr G s s' → Moved (S :: wr) G s s' := fun hm => hm.mono fun b hb => List.mem_cons_of_mem _ hb
  intro k
  induction k with
  | zero =>
    intro i s hk hi hst hS hR
    obtain rfl : i = n := by omega
    rw [List.take_of_length_le (by omega)] at hS
    refine codeAny_builtin PyProof.Rows.F.entry_set_update_loop ?_
    rw [Around.under_plainId PyProof.Rows.F.plain_set_update_loop _]
    show wpAny _ A.in1 (pyNext (.ref I) >>= _) _ _ s
    refine wpAny_bind (W.done s _ _ hst fun s1 hm => ?_)
    exact wpAny_pure (hR s1 (up hm) (stay hS hm))
  | succ k ih =>
    intro i s hk hi hst hS hR
    refine codeAny_builtin PyProof.Rows.F.entry_set_update_loop ?_
    rw [Around.under_plainId PyProof.Rows.F.plain_set_update_loop _]
    show wpAny _ A.in1 (pyNext (.ref I) >>= _) _ _ s
    refine wpAny_bind (W.item i s _ _ (by omega) hst fun v s1 hP hst1 hm => ?_)
    obtain ⟨hlt, t, rfl⟩ := hval i v hP
    show wpAny _ A.in1 (holding [Value.str xs[i] t] (setAdd S (.str xs[i] t)) >>= _) _ _ s1
    refine wpAny_bind (wpAny_holding ?_)
    unfold setAdd
    refine wpAny_holding (wpAny_bind ((PySem.strKind prog w).pyHash (k := xs[i]) (strKind_is _ _ _ _) ?_))
    have hS1 := stay hS hm
    have room : (nd (xs.take i)).length + 1 < scanBound := by
      have := nd_le i xs
      omega
    refine wpAny_setAddHashed_of (knd := PySem.strKind prog w) (s := { s1 with toks := s1.toks + 1 }) (strKind_is _ _ _ _) rfl hS1 room fun h2 sb hS2 => ?_
    have hS3 : h2.SetOf (PySem.strKind prog w) S (fun y => decide (y ∈ nd (xs.take (i + 1)))) (nd (xs.take (i + 1))).length :=
      SetOf_congr hS2 (fun y => by rw [nd_succ hlt, ndS_mem]) (by rw [nd_succ hlt, ndS_len])
    have keep : ∀ b o, b ≠ S → s1.heap.get? b = some o → h2.get? b = some o := fun b o hb e => by rw [sb.2 b hb]; exact e
    refine wpAny_pure ⟨plainId_quiet PyProof.Rows.F.plain_set_update_loop _, ih (i + 1) _ (by omega) (by omega) (W.frame _ s1 _ _ hst1 (Nat.le_succ _) fun b hb o e => keep b o (fun z => hSf (z ▸ hb)) e) hS3 fun s3 hm3 hS4 => ?_⟩
    exact hR s3 (Moved.trans W.gtrans ((up hm).then_heap (Nat.le_succ _) fun b o hb e => keep b o (fun z => hb (z ▸ List.mem_cons_self)) e) hm3) hS4
end
section
variable {prog : Program} {w : World} {A : Around} {E : Value → Shared → Prop} {s : Shared}
theorem call_set_txt {T iT : String} {l : Addr} {od : Option Addr} {n : Nat} {sl : Array (Option Value)} {items : Array Value} {xs : List Str} {Is : Heap → Prop} {St : Addr → Nat → Heap → Prop} {Q : Value → Shared → Prop}
    (hsls : isSubtype (.type T) (.type "set") = pure false) (hslf : isSubtype (.type T) (.type "frozenset") = pure false) (hne : (Value.type T == Value.type "dict") = false)
    (hl : s.heap.get? l = some { cls := .type T, dict := od, data := .seq items n, slots := sl })
    (hIs : ∀ h : Heap, (∀ o, s.heap.get? l = some o → h.get? l = some o) → Is h)
    (hit : ∀ {A : Around} {E : Value → Shared → Prop} {s1 : Shared} {Q : Value → Shared → Prop}, Is s1.heap → Q (.ref s1.heap.objs.size) { s1 with heap := s1.heap.push { cls := .type iT, data := .fields #[.ref l, .int 0 0] } } → wpAny (model prog w) A (pyIter (.ref l)) Q E s1)
    (hSt : ∀ {h : Heap} {a : Addr}, h.get? a = some { cls := .type iT, data := .fields #[.ref l, .int 0 0] } → Is h → St a 0 h)
    (hW : ∀ {A : Around} {a : Addr}, A.handled = none → l ≠ a → Walks prog w A a [a, l] [a] items.size (fun i v => items[i]? = some v) (St a))
    (hh : A.handled = none) (hv : Vals (xs.map L2.V.str) items.toList) (hb : xs.length + 1 < scanBound)
    (h : ∀ (h' : Heap) (tk : Nat), h'.SetOf (PySem.strKind prog w) s.heap.objs.size (fun y => decide (y ∈ nd xs)) (nd xs).length → (∀ b o, b < s.heap.objs.size → s.heap.get? b = some o → h'.get? b = some o) → Q (.ref s.heap.objs.size) { s with heap := h', toks := tk }) :
    wpAny (model prog w) A (call (.type "set") [.ref l]) Q E s := by
  have hx : items.size = xs.length := by
    have e := hv.length
    rw [List.length_map, Array.length_toList] at e
    exact e.symm
  obtain ⟨c, tl, hmro⟩ := PySem.F.called_set.mro
  have hmade := PySem.F.called_set.made
  have hsub := PySem.F.called_set.sub
  have h1 := PySem.F.called_set.notType
  have h2 := PySem.F.called_set.canCreate
  have hct := PySem.F.typeCall_set_1 (.ref l)
  refine wpAny_call (codeAny_of_tree ?_)
  show wpAny _ _ (callAny (.type "set") _) _ _ _
  refine wpAny_pure ⟨Code.quiet_builtin _ (by decide +kernel), codeAny_builtin PySem.F.entry_type_call ?_⟩
  rw [Around.under_plain (weight_type_call_type "set" [.ref l] []) rfl]
  repeat (any_goals (first | assumption | wp_step))
  have fresh : ∀ led : Bool, (s.heap.push { cls := .type "set", dict := none, data := .set #[] 0 (.fresh 0 0 led) }).get? s.heap.objs.size = some { cls := .type "set", dict := none, data := .set #[] 0 (.fresh 0 0 led) } := fun _ => Heap.get?_push_size _ rfl
  refine codeAny_mono (code_set_new_1 (.ref l) (E := E) (Q₁ := fun obj s1 => ∃ led : Bool, obj = .ref s.heap.objs.size ∧ s1 = { s with heap := s.heap.push { cls := .type "set", dict := none, data := .set #[] 0 (.fresh 0 0 led) } }) fun led => ⟨led, rfl, rfl⟩) fun r s1 hr => ?_
  cases r with
  | error e => exact hr
  | ok fl =>
    cases fl with
    | next => exact hr.elim
    | brk => exact hr.elim
    | cont => exact hr.elim
    | ret obj =>
      obtain ⟨led, rfl, rfl⟩ := hr
      have hS := fresh led
      have hT : Shared.TypeIs { s with heap := s.heap.push { cls := .type "set", dict := none, data := .set #[] 0 (.fresh 0 0 led) } } (.ref s.heap.objs.size) "set" := ⟨_, hS, rfl⟩
      have hli := PySem.F.called_set.init.lookup
      have hbi := PySem.F.called_set.init.bind (.ref s.heap.objs.size)
      repeat (any_goals (first | assumption | wp_step))
      refine codeAny_mono (codeAny_call_builtin (R := wants (fun r s2 => r = .none ∧ ∃ h' tk, s2 = { s with heap := h', toks := tk } ∧ h'.SetOf (PySem.strKind prog w) s.heap.objs.size (fun y => decide (y ∈ nd xs)) (nd xs).length ∧
          (∀ b o, b < s.heap.objs.size → s.heap.get? b = some o → h'.get? b = some o)) E) PySem.F.called_set.init.plain PySem.F.entry_set_init (check_set_init_1 hT ?_)) fun r2 s2 hr2 => ?_
      · have hl2 : (s.heap.push { cls := .type "set", dict := none, data := .set #[] 0 (.fresh 0 0 led) }).get? l = some { cls := .type T, dict := od, data := .seq items n, slots := sl } := Heap.get?_push_of_some _ hl
        have hI2 : Is (s.heap.push { cls := .type "set", dict := none, data := .set #[] 0 (.fresh 0 0 led) }) := hIs _ fun o e => Heap.get?_push_of_some _ e
        unfold Builtin.«set.__init__» noKeywords Builtin.Frozenset.updateFrom
        generalize hPI : pyIter = PI
        wp_walk
        subst hPI
        refine hit hI2 ?_
        refine wpAny_bind (wpAny_runValue ?_)
        have hlS : l < s.heap.objs.size := Heap.lt_size hl
        have hlI : l ≠ (s.heap.push { cls := .type "set", dict := none, data := .set #[] 0 (.fresh 0 0 led) }).objs.size := by
          rw [Heap.size_push]
          exact Nat.ne_of_lt (Nat.lt_succ_of_lt hlS)
        refine set_fill ((hW (A := A.in1.in1.in1) (by simp [hh]) hlI).toS) (S := s.heap.objs.size) (xs := xs) ?_ hx (fun i v e => txt_at hv i v (by rw [Array.getElem?_toList]; exact e)) (by rw [hx]; exact hb) (items.size - 0) 0 _ rfl (Nat.zero_le _) ?_ ?_ ?_
        · rw [Heap.size_push]
          simp only [List.mem_cons, List.not_mem_nil, or_false, not_or]
          exact ⟨Nat.ne_of_lt (Nat.lt_succ_self _), Nat.ne_of_gt hlS⟩
        · exact hSt (Heap.get?_push_size _ rfl) (hIs _ fun o e => Heap.get?_push_of_some _ (Heap.get?_push_of_some _ e))
        · have hget : ((s.heap.push { cls := .type "set", dict := none, data := .set #[] 0 (.fresh 0 0 led) }).push { cls := .type iT, data := .fields #[.ref l, .int 0 0] }).get? s.heap.objs.size = some { cls := .type "set", dict := none, data := .set #[] 0 (.fresh 0 0 led) } := Heap.get?_push_of_some _ hS
          exact SetOf_congr ((setObjOf_fresh (knd := PySem.strKind prog w) led).setOf hget (by unfold scanBound; omega)) (fun y => rfl) rfl
        · intro s3 hm hS3
          obtain ⟨h', g', d', tk', os'⟩ := s3
          obtain rfl : g' = s.gens := hm.gens
          obtain rfl : d' = s.drawn := hm.drawn
          obtain rfl : os' = s.os := hm.os
          show wpAny _ _ _ _ _ _
          refine wpAny_pure ?_
          show wpAny _ _ (ret Value.none) _ _ _
          refine wpAny_pure ⟨rfl, h', tk', rfl, hS3, fun b o hb e => ?_⟩
          refine hm.heap b o ?_ (Heap.get?_push_of_some _ (Heap.get?_push_of_some _ e))
          rw [Heap.size_push]
          simp only [List.mem_cons, List.not_mem_nil, or_false, not_or]
          exact ⟨Nat.ne_of_lt hb, Nat.ne_of_lt (Nat.lt_succ_of_lt hb)⟩
      · cases r2 with
        | error e => exact hr2
        | ok fl2 =>
          cases fl2 with
          | next => exact hr2.elim
          | brk => exact hr2.elim
          | cont => exact hr2.elim
          | ret r =>
            obtain ⟨rfl, h', tk, rfl, hS', hk'⟩ := hr2
            repeat (any_goals (first | assumption | wp_step))
            exact h _ _ hS' hk'
end

theorem call_set_txtL {prog : Program} {w : World} {A : Around} {E : Value → Shared → Prop} {s : Shared} {l : Addr} {its : List Value} {xs : List Str} {Q : Value → Shared → Prop} (hl : s.heap.IsList l its.toArray) (hh : A.handled = none) (hv : Vals (xs.map L2.V.str) its) (hb : xs.length + 1 < scanBound)
    (h : ∀ (h' : Heap) (tk : Nat), h'.SetOf (PySem.strKind prog w) s.heap.objs.size (fun y => decide (y ∈ nd xs)) (nd xs).length → (∀ b o, b < s.heap.objs.size → s.heap.get? b = some o → h'.get? b = some o) → Q (.ref s.heap.objs.size) { s with heap := h', toks := tk }) :
    wpAny (model prog w) A (call (.type "set") [.ref l]) Q E s := by
  obtain ⟨⟨oc, od, dt, sl⟩, ho, hc, n, hd⟩ := id hl
  obtain rfl : oc = .type "list" := hc
  obtain rfl : dt = .seq its.toArray n := hd
  exact call_set_txt (T := "list") (iT := "list_iterator") (Is := fun h => h.IsList l its.toArray) (St := fun a i h => h.IsListIter a l i ∧ h.IsList l its.toArray) PySem.F.sub_list_set PySem.F.sub_list_frozenset (by decide) ho
    (fun h k => ⟨_, k _ ho, rfl, n, rfl⟩) (fun hi q => wpAny_pyIter_list hi q) (fun e hi => ⟨⟨_, e, rfl, rfl⟩, hi⟩) (fun hA ne => Walks.list hA _ l ne its.toArray) hh hv hb h
theorem call_set_txtT {prog : Program} {w : World} {A : Around} {E : Value → Shared → Prop} {s : Shared} {l : Addr} {its : List Value} {xs : List Str} {Q : Value → Shared → Prop} (hl : s.heap.IsTuple l its.toArray) (hh : A.handled = none) (hv : Vals (xs.map L2.V.str) its) (hb : xs.length + 1 < scanBound)
    (h : ∀ (h' : Heap) (tk : Nat), h'.SetOf (PySem.strKind prog w) s.heap.objs.size (fun y => decide (y ∈ nd xs)) (nd xs).length → (∀ b o, b < s.heap.objs.size → s.heap.get? b = some o → h'.get? b = some o) → Q (.ref s.heap.objs.size) { s with heap := h', toks := tk }) :
    wpAny (model prog w) A (call (.type "set") [.ref l]) Q E s := by
  obtain ⟨⟨oc, od, dt, sl⟩, ho, hc, n, hd⟩ := id hl
  obtain rfl : oc = .type "tuple" := hc
  obtain rfl : dt = .seq its.toArray n := hd
  exact call_set_txt (T := "tuple") (iT := "tuple_iterator") (Is := fun h => h.IsTuple l its.toArray) (St := fun a i h => h.IsTupleIter a l i ∧ h.IsTuple l its.toArray) PySem.F.sub_tuple_set PySem.F.sub_tuple_frozenset (by decide) ho
    (fun h k => ⟨_, k _ ho, rfl, n, rfl⟩) (fun hi q => wpAny_pyIter_tuple hi q) (fun e hi => ⟨⟨_, e, rfl, rfl⟩, hi⟩) (fun hA ne => Walks.tuple hA _ l ne its.toArray) hh hv hb h
def strs? : List D → Option (List Str)
  | [] => some []
  | .str x :: r => (strs? r).map (x :: ·)
  | _ :: _ => none
theorem strs_rep {g : Gi} {F : Hp} {al : Nat → Option Addr} : ∀ {ds : List D} {vs : List L2.V} {xs : List Str}, Reps g F al ds vs → strs? ds = some xs → vs = xs.map L2.V.str
  | [], vs, xs, r, e => by
    cases e
    exact r
  | d :: ds, vs, xs, ⟨v, ws, h1, r1, r2⟩, e => by
    cases d with
    | str x =>
      have e : (strs? ds).map (x :: ·) = some xs := e
      obtain ⟨ys, e1, rfl⟩ := Option.map_eq_some_iff.mp e
      rw [h1, strs_rep r2 e1, show v = .str x from r1]
      rfl
    | _ => cases e
/-- len(set(x)), x a list or a tuple of texts -/
def fLenSet (x : Vl) (h : Hc) : R Vl := match (match lst? h x with
    | some ys => some ys
    | none => tup? x) with
  | some ys => (match strs? ys with
    | some xs => if xs.length ≤ 4000 then .ok (.d (.int (nd xs).length)) h else .stuck
    | none => .stuck)
  | none => .stuck
section
variable {X : Cx} {g : Gi} {B : Bg} {W : WXv} {a : Expr} {m : ME} {p p2 q pos : Pos}
theorem ve_lenSet (b : Bd X g W) (hg : Gl X "len") (hm : X.mg "len" = none) (hg2 : Gl X "set") (hm2 : X.mg "set" = none) (ha : PE X a (tE g B W m))
    (na : starEach [a] X.env = (false, eval a X.env) :: starEach [] X.env := by rfl) : PE X (.Call (.Name "len" p) [.Call (.Name "set" p2) [a] [] q] [] pos) (tE g B W (m1 fLenSet m)) := by
  refine ⟨fun pins s σ H Q I ⟨env, st, sr, pp⟩ => ?_⟩
  refine Call_ (ld_blt I hg hm boot_len ?_)
  refine callWith_builtin1 (args_cons ?_ rfl) rfl rfl
  refine Call_ (ld_blt I hg2 hm2 boot_set ?_)
  refine callWith_type1 (args_cons (thn (ha.run pins s σ H _ I (bindE (Q := Q) sr pp)) fun v s1 ⟨x, H1, I1, r1, st1, y, sr1, _, ry, p1⟩ => args_nil ?_) na) na rfl
  unfold fLenSet at p1
  split at p1
  · next ys ey =>
    split at p1
    · next xs ex =>
      split at p1
      · next hx =>
        have hb : xs.length + 1 < scanBound := by unfold scanBound; omega
        have fin : ∀ (h' : Heap) (tk : Nat), h'.SetOf (PySem.strKind X.prog X.w) s1.heap.objs.size (fun y => decide (y ∈ nd xs)) (nd xs).length → (∀ b o, b < s1.heap.objs.size → s1.heap.get? b = some o → h'.get? b = some o) →
            wpAny (model X.prog X.w) X.A (spliced (backTo pos (starEach [] X.env))) (fun vs s2 => wpAny (model X.prog X.w) X.A (call (.builtin "len") (Value.ref s1.heap.objs.size :: vs)) (EP X pins σ Q) X.xe s2) X.xe { s1 with heap := h', toks := tk } := fun h' tk hS hk => by
          refine args_nil ?_
          obtain ⟨o, es, ep, t, ho, hex, hd, _, _, _, hf, hn⟩ := hS
          have I2 : Inv X pins σ H1 { s1 with heap := h', toks := tk } := I1.kept fun b o e => hk b o (Heap.lt_size e) e
          have hle : (nd xs).length ≤ 4000 := by
            have z := nd_le xs.length xs
            rw [List.take_length] at z
            omega
          refine call_len_set ho hex hd hf (by rw [hn]; omega) ⟨.int (nd xs).length, H1, I2.tok _, ⟨_, by rw [hn]⟩, PostE.pure sr1 p1 rfl⟩
        have hh := I1.ok.hd b.calm
        cases e1 : lst? st1.h y with
        | some zs =>
          rw [e1] at ey
          cases ey
          obtain ⟨a1, ws, rfl, hq, hr⟩ := ry.lst sr1.good e1
          cases r1
          obtain ⟨its, rv, pl, _⟩ := I1.list (b.K ▸ hq)
          rw [strs_rep hr ex] at rv
          exact call_set_txtL pl.isList hh rv hb fin
        | none =>
          rw [e1] at ey
          obtain ⟨a1, ws, rfl, hq, hr⟩ := ry.tup sr1.good ey
          cases r1
          obtain ⟨its, rv, pl, _⟩ := I1.tuple (b.K ▸ hq)
          rw [strs_rep hr ex] at rv
          exact call_set_txtT pl hh rv hb fin
      · exact p1.elim
    · exact p1.elim
  · exact p1.elim
end
end Vi

set_option Elab.async false
set_option linter.all false
set_option maxRecDepth 100000
set_option maxHeartbeats 2000000
namespace Vi
open PySem L2 PyProof.Rows

/-! ### e1 != e2, where an own class knows == -/
def fNes (g : Gi) (T : Tbl) (nf : Nat → Ty → Bool) (F0 : Vl → Vl → Hc → R Vl) (x y : Vl) (h : Hc) : R Vl := match x with
  | .d (.obj c fs) => (match T c, y with
    | some F, .d yd => (match yd.ty g with
      | some t => if nf c t then (F [.obj c fs, yd] h).bind fun d h' => (match d with
        | .bl k => .ok (.d (.bl (!k))) h'
        | _ => .stuck) else .stuck
      | none => .stuck)
    | _, _ => .stuck)
  | _ => F0 x y h
section
variable {X : Cx} {g : Gi} {W : WXv} {T : Tbl}
theorem o_nes {nf : Nat → Ty → Bool} {F0 : Vl → Vl → Hc → R Vl} (b : Bd X g W) (V : VOps X g "__eq__" 2 T) (hne : ∀ c F, T c = some F → PySem.W.findIn X.K (.ref (g.ca c)) "__ne__" = some (some (.builtin "object.__ne__")) ∧ PySem.W.mroIn X.K (g.ca c) (.type "object") = some true)
    (hnf : ∀ c t, nf c t = true → PySem.W.notFirst X.K (g.ca c) (t.val g) = true) (h0 : OpV X g (compareOp .NotEq) F0) : OpW X g W (compareOp .NotEq) (fNes g T nf F0) := by
  intro B env st σ H s pins x y v w u1 u2 Q I r1 r2 sr rx ry p
  unfold fNes at p
  split at p
  · next c fs =>
    split at p
    · next F yd hT =>
      split at p
      · next t ht =>
        split at p
        · next hc =>
          obtain ⟨k, f, fd, ps, FG, hr, hs, hf, hb, hn, _⟩ := (V c F hT).ex
          obtain ⟨n1, n2⟩ := hne c F hT
          obtain ⟨a, ox, od, rfl, rfl, J⟩ := obj_at b.G sr I rx r1
          have ty : TyX X.K H w (t.val g) := b.K ▸ Vl.tyX (x := .d yd) b.G sr.good ry (ty_up ht)
          obtain ⟨P, Z, pz, _⟩ := kit_of I r2 ty
          show wpAny _ _ (richCompare .NotEq (.ref a) u2) _ _ _
          refine PySem.W.vi_ne_K (tb := t.val g) (by have := b.un; omega) I.kIn J (Z.ty _ _ I.kIn pz) (hnf c t hc) n1 n2 hs hf ?_
          have p2 := PostE.keepQ p (fun v H' => ∃ k : Bool, v = .bl k ∧ Q (.bl (!k)) H') fun dd h' _ q => by
            cases dd with
            | bl k =>
              intro v H' s' e1 ev sr' vr
              exact ⟨k, vr, q _ H' s' e1 ev sr' rfl⟩
            | _ => exact q.elim
          refine wpAny_mono (run_op (A := X.A.in1) (vs := [.ref a, w]) b FG (.inr rfl) hr hb I (.cons rfl (.cons r2 .nil)) hn.symm sr (Reps.cons rx (Reps.cons ry Reps.nil)) p2) (fun u s' ⟨v', H', I', rv', k, e, q⟩ => ?_) fun _ _ z => z
          subst e
          cases rv'
          exact ⟨k, rfl, .bl (!k), H', I', rfl, q⟩
        · exact p.elim
      · exact p.elim
    · exact p.elim
  · obtain ⟨r, q1, q2⟩ := h0
    exact q1 pins s σ H v w u1 u2 Q I r1 r2 (q2 B W env st σ H x y v w Q sr rx ry p)
end

/-! ### list(x), a cell of its own -/
def fListC (xs : List Vl) (h : Hc) : R Vl := match xs with
  | [x] => (match lst? h x with
    | some ys => .ok (.d (.ref h.length)) (h ++ [.lst ys])
    | none => (match tup? x with
      | some ys => .ok (.d (.ref h.length)) (h ++ [.lst ys])
      | none => .stuck))
  | _ => .stuck
section
variable {X : Cx} {g : Gi}
theorem c_listC (hK : g.K = X.K) : CallV X g (.type "list") fListC := by
  refine ⟨_, call_list_of, fun B W env s σ H xs vs Q sr r p => ?_⟩
  have key : ∀ {ys : List D} {ws : List L2.V}, Reps g s.F s.al ys ws → PostE g B W env s σ H (.ok (.d (.ref s.h.length)) (s.h ++ [.lst ys])) Q → ∀ l, H l = none → Q (.ref l) (upd H l (.lst ws)) := fun {ys ws} q1 p l hl =>
    PostE.newC sr p hl ⟨ws, upd_same, q1⟩ fun _ z => by cases z
  unfold fListC at p
  split at p
  · obtain ⟨v, rfl, rr⟩ := r.one
    split at p
    · next ys e1 =>
      obtain ⟨a1, ws, rfl, h1, q1⟩ := rr.lst sr.good e1
      exact ⟨_, ws, rfl, .inl (hK ▸ h1), key q1 p⟩
    · split at p
      · next ys e1 =>
        obtain ⟨a1, ws, rfl, h1, q1⟩ := rr.tup sr.good e1
        exact ⟨_, ws, rfl, .inr (hK ▸ h1), key q1 p⟩
      · exact p.elim
  · exact p.elim
end

/-! ### repr of a list whose items are cells -/
def deref1 (h : Hc) : D → D
  | .ref n => (match h[n]?.map Cell.bare with
    | some (.lst xs) => .lst xs
    | _ => .ref n)
  | d => d
def derefV (h : Hc) : Vl → Vl
  | .d (.lst xs) => .d (.lst (xs.map (deref1 h)))
  | x => x
def fReprC (xs : List Vl) (h : Hc) : R Vl := match xs with
  | [.d (.lst ys)] => (match (Vl.d (.lst (ys.map (deref1 h)))).dat? with
    | some d => if shwB (toP d) then .ok (.d (.str (toP d).shown)) h else .stuck
    | none => .stuck)
  | _ => fRepr xs h
section
variable {X : Cx} {g : Gi} {s : Sta} {H : Hp}
theorem rep_deref1 (gd : Good g s H) : ∀ {d : D} {v : L2.V}, Rep g s.F s.al d v → Rep g H s.al (deref1 s.h d) v := by
  intro d v r
  unfold deref1
  split
  · next n =>
    split
    · next xs e =>
      obtain ⟨a, vs, rfl, h1, h2⟩ := ref_lst gd r (xs := xs) (by rw [e])
      exact ⟨a, vs, rfl, h1, h2.mono gd.fle fun _ _ z => z⟩
    · exact r.mono gd.fle fun _ _ z => z
  · exact r.mono gd.fle fun _ _ z => z
theorem reps_deref (gd : Good g s H) : ∀ {ds : List D} {vs : List L2.V}, Reps g s.F s.al ds vs → Reps g H s.al (ds.map (deref1 s.h)) vs
  | [], _, r => r
  | d :: ds, vs, ⟨v, ws, h1, r1, r2⟩ => ⟨v, ws, h1, rep_deref1 gd r1, reps_deref gd r2⟩
theorem c_reprC {W : WXv} (b : Bd X g W) : CallV X g (.builtin "repr") fReprC := by
  refine ⟨_, call_repr b.gd b.un, fun B W2 env s σ H xs vs Q sr r p => ?_⟩
  unfold fReprC at p
  split at p
  · next ys =>
    obtain ⟨v, rfl, rv⟩ := r.one
    cases e : (Vl.d (.lst (ys.map (deref1 s.h)))).dat? with
    | none => rw [e] at p; exact p.elim
    | some d =>
      rw [e] at p
      by_cases hs : shwB (toP d) = true
      · simp only [if_pos hs] at p
        obtain ⟨a, ws, rfl, h1, h2⟩ := rv
        have e : (if dat (.lst (ys.map (deref1 s.h))) then some (D.lst (ys.map (deref1 s.h))) else none) = some d := e
        split at e
        · next hd =>
          cases e
          have rr : Rep g H s.al (.lst (ys.map (deref1 s.h))) (.ref a) := ⟨a, ws, rfl, sr.good.fle _ _ h1, reps_deref sr.good h2⟩
          exact ⟨.ref a, _, rfl, b.K ▸ dp_of (fun _ _ z => z) rr hd, hasDict_toP _, hs, PostE.pure sr p rfl⟩
        · cases e
      · simp only [if_neg hs] at p
        exact p.elim
  · unfold fRepr at p
    split at p
    · next x _ =>
      obtain ⟨v, rfl, rv⟩ := r.one
      cases e : x.dat? with
      | none => rw [e] at p; exact p.elim
      | some d =>
        rw [e] at p
        by_cases hs : shwB (toP d) = true
        · simp only [if_pos hs] at p
          exact ⟨v, toP d, rfl, b.K ▸ VlRep.dp' sr.good rv e, hasDict_toP d, hs, PostE.pure sr p rfl⟩
        · simp only [if_neg hs] at p
          exact p.elim
    · exact p.elim
end
end Vi

set_option Elab.async false
set_option linter.all false
set_option maxRecDepth 100000
set_option maxHeartbeats 2000000
namespace Vi
open PySem L2 PyProof.Rows

/-! ### [.. for c in text] -/
def chD (z : Str) : List D := z.cps.toList.map fun c => .str ⟨#[c]⟩
theorem chD_get? (z : Str) (i : Nat) : (chD z)[i]? = (z.cps[i]?).map fun c => D.str ⟨#[c]⟩ := by
  unfold chD
  rw [List.getElem?_map, Array.getElem?_toList]
def mCompS (o : Bool) (own : List Nat) (T : TgF) (mt : MB) (me src : ME) : ME := fun env h => (src env h).bind fun x h1 => match x with
  | .d (.str z) => compL o T mt me (chD z) [] (wipeE env own) h1
  | _ => .stuck
section
variable {X : Cx} {g : Gi} {B : Bg} {W : WXv} {own : List Nat} {o : Bool} {T : TgF} {mt : MB} {me m : ME} {t : TG} {σ : L2.St} {H : Hp} {Q : VK}
theorem lc_ofS (q1 : CgQ g own t T) (h : tE g B W (mCompS o own T mt me m) σ H Q) :
    tLc (iStr (tE g B W m)) t (tT g B (fun _ _ _ _ => False) mt) (tE g B (fun _ _ _ _ => False) me) own σ H Q := by
  obtain ⟨env, s, sr, p⟩ := h
  have p : PostE g B W env s σ H ((m env s.h).bind fun x h1 => match x with
    | .d (.str z) => compL o T mt me (chD z) [] (wipeE env own) h1
    | _ => .stuck) Q := p
  refine (bindE (Q := Q) sr p).mono fun v H1 ⟨s1, x, sr1, ev1, r1, p1⟩ => ?_
  split at p1
  · next z =>
    have r1 : v = .str z := r1
    have hn : (chD z).length = z.cps.size := by unfold chD; rw [List.length_map, Array.length_toList]
    refine ⟨z, r1, fun Dn hD => ⟨fun i k H => k = z.cps.size - i ∧ i ≤ z.cps.size ∧ CInv g B W env s1 σ H1 own o T mt me Q Dn ((chD z).drop i) H, ⟨z.cps.size, by simp, Nat.zero_le _, comp_start sr1 hD p1⟩, ?_⟩⟩
    rintro i k H ⟨rfl, hi, c⟩
    by_cases hlt : i < z.cps.size
    · refine .inr ⟨hlt, CInv g B W env s1 σ H1 own o T mt me Q Dn ((chD z).drop (i + 1)), fun H' c' => ⟨z.cps.size - (i + 1), by omega, rfl, hlt, c'⟩, fun x H' y => ?_⟩
      obtain ⟨rfl, ch, hc, rfl⟩ := y
      have hl : i < (chD z).length := by rw [hn]; exact hlt
      have e1 : (chD z)[i] = .str ⟨#[ch]⟩ := by
        have z2 := List.getElem?_eq_getElem hl
        rw [chD_get?, hc] at z2
        exact (Option.some.inj z2).symm
      rw [List.drop_eq_getElem_cons hl, e1] at c
      exact comp_turn q1 sr1 hD c fun s' e2 => (show Rep g s'.F s'.al (.str ⟨#[ch]⟩) (.str ⟨#[ch]⟩) from rfl)
    · have hi2 : i = z.cps.size := by omega
      subst hi2
      rw [List.drop_of_length_le (by omega)] at c
      exact .inl ⟨Nat.le_refl _, comp_end sr1 hD c⟩
  · exact p1.elim
end
section
variable {X : Cx} {g : Gi} {B : Bg} {W : WXv} {own : List (Str × Nat)} {o : Bool} {T : TgF} {mt : MB} {me m : ME} {t : TG} {elt tg iter : Expr} {ifs : List Expr} {scope : Scope} {pos : Pos}
theorem ve_lcS (o : Bool) (b : Bd X g W) (hN : X.N.Nodup) (he : PE X iter (tE g B W m)) (ok : BlkOk X.N X.env.scope scope own) (q1 : CgQ g (own.map (·.2)) t T)
    (hg : ∀ (s : Shared) (H : Hp) (C : Addr) (cl : List (Str × Addr)) (fp : List Addr), PG (X.blk s H scope (compEnvC scope cl C X.env) fp) tg t)
    (ht : ∀ (s : Shared) (H : Hp) (C : Addr) (cl : List (Str × Addr)) (fp : List Addr), PTs (X.blk s H scope (compEnvC scope cl C X.env) fp) ifs (tT g B (fun _ _ _ _ => False) mt))
    (hel : ∀ (s : Shared) (H : Hp) (C : Addr) (cl : List (Str × Addr)) (fp : List Addr), PE (X.blk s H scope (compEnvC scope cl C X.env) fp) elt (tE g B (fun _ _ _ _ => False) me)) (hs : ∀ x, foldedSetIterable iter X.env x = pure x := by intro _; rfl) :
    PE X (.ListComp elt [⟨tg, iter, ifs, 0⟩] scope pos) (tE g B W (mCompS o (own.map (·.2)) T mt me m)) :=
  pe_imp (pe_lc b.calm hN (pi_str (tg := tg) he) ok hg ht hel hs) fun σ H Q h => lc_ofS q1 h
end
/-! ### __iter__, ready -/
structure RdyIt (P : Program) (w : World) (K : PySem.W.Frag) (mg : Str → Option Value) (base : Heap) (g : Gi) (c k : Nat) (m : ME) : Prop where
  ex : ∃ (f : Addr) (fd : FuncData) (ps : List Str), FnGS P w K mg base k f fd ps (spIt g 1 1 m) ∧ Meth K (g.ca c) "__iter__" f ∧ Binds K fd ps [] ∧ ps.length = 1
theorem RdyIt.v {X : Cx} {g : Gi} {c k j : Nat} {m : ME} (h : RdyIt X.prog X.w X.K X.mg X.base g c k m) (hr : Room j X.A) (hj : k + 4 ≤ j) : VIter X g c m := by
  obtain ⟨f, fd, ps, h1, h2, h3, h4⟩ := h.ex
  exact ⟨⟨k, f, fd, ps, h1, hr.mono hj, h2.at_, h2.fn, h3, h4⟩⟩

/-! ### more words; a module's plain names -/
theorem bt_all : bootBuiltins "all" = some (.builtin "all") := by decide +kernel
theorem bt_any : bootBuiltins "any" = some (.builtin "any") := by decide +kernel
theorem bt_sorted : bootBuiltins "sorted" = some (.builtin "sorted") := by decide +kernel
def kGlobI (x : Str) (i : Int) (K : PySem.W.Frag) : Bool := match PySem.W.nsIn K mainGlobals x with
  | some (some (.int j _)) => decide (j = i)
  | _ => false
def kGlobS (x : Str) (y : Str) (K : PySem.W.Frag) : Bool := match PySem.W.nsIn K mainGlobals x with
  | some (some (.str z _)) => decide (z = y)
  | _ => false
theorem gd_int {X : Cx} {g : Gi} {x : Str} {i : Int} (kin : X.K.In X.base) (gn : X.base.Ns mainGlobals X.mg) (h : kGlobI x i X.K = true) : GlobD X g x (.int i) := by
  unfold kGlobI at h
  split at h
  · next j t e =>
    obtain rfl : j = i := of_decide_eq_true h
    exact ⟨.int j, .int j t, PySem.W.mg_of kin gn e, ⟨t, rfl⟩, fun _ _ => rfl⟩
  · cases h
theorem gd_str {X : Cx} {g : Gi} {x : Str} {y : Str} (kin : X.K.In X.base) (gn : X.base.Ns mainGlobals X.mg) (h : kGlobS x y X.K = true) : GlobD X g x (.str y) := by
  unfold kGlobS at h
  split at h
  · next z t e =>
    obtain rfl : z = y := of_decide_eq_true h
    exact ⟨.str z, .str z t, PySem.W.mg_of kin gn e, ⟨t, rfl⟩, fun _ _ => rfl⟩
  · cases h

section
variable {X : Cx} {g : Gi} {B : Bg} {W : WXv} {pos : Pos} {a b c : Expr} {ma mb mc : ME}
/-- a chain as a test -/
theorem vt_chain {op op' : CmpOp} {F F' : Vl → Vl → Hc → R Vl} (ho : OpV X g (compareOp op) F) (ho' : OpV X g (compareOp op') F') (ha : PE X a (tE g B W ma)) (hb : PE X b (tE g B W mb)) (hc : PE X c (tE g B W mc))
    (hm : lastMarks [op, op'] [b, c] = false := by with_unfolding_all rfl) : PT X (.Compare a [op, op'] [b, c] pos) (tT g B W (asB (mChain F F' ma mb mc))) := by
  obtain ⟨r, h1, h2⟩ := ho
  obtain ⟨r', h1', h2'⟩ := ho'
  refine pt_imp (pt_chain h1 h1' ha hb hc hm) fun σ H Q h => ?_
  obtain ⟨env, s, sr, p⟩ := tE_asB h
  show tChain r r' (tE g B W ma) (tE g B W mb) (tE g B W mc) σ H _
  refine (bindE sr p).mono fun v H1 ⟨s1, x, sr1, _, r1, p1⟩ => (bindE sr1 p1).mono fun w H2 ⟨s2, y, sr2, e2, r2, p2⟩ => h2 B W env s2 σ H2 x y v w _ sr2 (r1.evo e2) r2 (p2.then.mono fun z H3 ⟨s3, q, sr3, e3, r3, p3⟩ => ?_)
  split at p3
  · exact ⟨true, r3, iteT ((bindE sr3 p3).mono fun u H4 ⟨s4, q4, sr4, e4, r4, p4⟩ => h2' B W env s4 σ H4 y q4 w u _ sr4 ((r2.evo e3).evo e4) r4 p4)⟩
  · exact ⟨false, r3, iteF (PostE.pure sr3 p3 rfl)⟩
  · exact p3.elim
end
end Vi

set_option Elab.async false
set_option linter.all false
set_option maxRecDepth 100000
set_option maxHeartbeats 2000000
namespace Vi
open PySem L2 PyProof.Rows

/-! ### for a, b in zip(xs, ys) -/
def zipD : List D → List D → List D
  | x :: xs, y :: ys => .tup [x, y] :: zipD xs ys
  | _, _ => []
theorem zipD_len : ∀ xs ys : List D, (zipD xs ys).length = min xs.length ys.length
  | [], _ => by simp [zipD]
  | _ :: _, [] => by simp [zipD]
  | x :: xs, y :: ys => by
    show (zipD xs ys).length + 1 = min (xs.length + 1) (ys.length + 1)
    rw [zipD_len xs ys]
    omega
theorem zipD_get : ∀ (xs ys : List D) (i : Nat) (x y : D), xs[i]? = some x → ys[i]? = some y → (zipD xs ys)[i]? = some (.tup [x, y])
  | x :: xs, y :: ys, 0, a, b, h1, h2 => by
    cases h1
    cases h2
    rfl
  | x :: xs, y :: ys, i + 1, a, b, h1, h2 => zipD_get xs ys i a b h1 h2
  | [], _, _, _, _, h1, _ => by cases h1
  | _ :: _, [], _, _, _, _, h2 => by cases h2
def mForZ (T : TgF) (a : MA) (b : MS) : MS := fun env h => (a env h).thenS env fun xs h1 => match xs with
  | [x, y] => (match seqD? h1 x, seqD? h1 y with
    | some (true, xs), some (true, ys) => forL T b (zipD xs ys) env h1
    | some (false, xs), some (false, ys) => forL T b (zipD xs ys) env h1
    | _, _ => .stuck)
  | _ => .stuck
section
variable {X : Cx} {g : Gi} {B : Bg} {W : WXv} {env : Env} {s : Sta} {σ : L2.St} {H : Hp}
theorem seqD_lst {x : Vl} {v : V} {xs : List D} (gd : Good g s H) (vr : VlRep g B env σ s H x v) (es : seqD? s.h x = some (true, xs)) : ∃ a vs, v = .ref a ∧ StL g.K s a vs ∧ Reps g s.F s.al xs vs := by
  cases x with
  | d x =>
    cases x with
    | lst ys => cases es; obtain ⟨a, vs, h1, h2, h3⟩ := vr; exact ⟨a, vs, h1, .inl (.of h2), h3⟩
    | kl ys => cases es; obtain ⟨a, vs, h1, h2, h3⟩ := vr; exact ⟨a, vs, h1, .inl h2, h3⟩
    | ref n =>
      unfold seqD? at es
      dsimp only at es
      split at es
      · next c ec =>
        split at es
        · next ys eb =>
          cases es
          obtain ⟨a, vs, h1, h2, h3, h4⟩ := frz_lst gd vr ec eb
          exact ⟨a, vs, h1, .inr ⟨n, h2, h3⟩, h4⟩
        · cases es
      · cases es
    | _ => cases es
  | _ => cases es
theorem seqD_tup {x : Vl} {v : V} {xs : List D} (vr : VlRep g B env σ s H x v) (es : seqD? s.h x = some (false, xs)) : ∃ a vs, v = .ref a ∧ SqT g.K s.F a vs ∧ Reps g s.F s.al xs vs := by
  cases x with
  | d x =>
    cases x with
    | tup ys => cases es; obtain ⟨a, vs, h1, h2, h3⟩ := vr; exact ⟨a, vs, h1, h2.sq, h3⟩
    | xtup ys => cases es; obtain ⟨a, o, vs, h1, h2, _, h3⟩ := vr; exact ⟨a, vs, h1, .inl (.inr ⟨o, h2⟩), h3⟩
    | ref n =>
      unfold seqD? at es
      dsimp only at es
      split at es
      · split at es <;> cases es
      · cases es
    | _ => cases es
  | _ => cases es
/-- the walk over pairs, of lists or of tuples -/
structure ZipIt (I : It) (P Q : Hp → List V → Prop) : Prop where
  go : ∀ {i : Nat} {H : Hp} {xs ys : List V} {x y : V}, P H xs → Q H ys → xs[i]? = some x → ys[i]? = some y → I.go i H
  stop : ∀ {i : Nat} {H : Hp} {xs ys : List V}, P H xs → Q H ys → xs.length ≤ i ∨ ys.length ≤ i → I.stop i H
  yld : ∀ {i : Nat} {H H' : Hp} {v : V} {xs ys : List V}, P H xs → Q H ys → I.yld i H v H' → ∃ T x y, v = .ref T ∧ H T = none ∧ H' = upd H T (.tup [x, y]) ∧ xs[i]? = some x ∧ ys[i]? = some y
theorem zipIt_l (K : PySem.W.Frag) (a b : Addr) : ZipIt (Itz K a b) (fun H xs => SqL K H a xs) (fun H ys => SqL K H b ys) :=
  ⟨fun p q h1 h2 => ⟨_, _, _, _, p, q, h1, h2⟩, fun p q h => ⟨_, _, p, q, h⟩, fun p q ⟨T, x, y, h1, h2, h3, f1, f2⟩ => ⟨T, x, y, h1, h2, h3, f1 _ p, f2 _ q⟩⟩
theorem zipIt_t (K : PySem.W.Frag) (a b : Addr) : ZipIt (RZ.ItzT K a b) (fun H xs => SqT K H a xs) (fun H ys => SqT K H b ys) :=
  ⟨fun p q h1 h2 => ⟨_, _, _, _, p, q, h1, h2⟩, fun p q h => ⟨_, _, p, q, h⟩, fun p q ⟨T, x, y, h1, h2, h3, f1, f2⟩ => ⟨T, x, y, h1, h2, h3, f1 _ p, f2 _ q⟩⟩
theorem forZip {I : It} {P Q : Hp → List V → Prop} (Z : ZipIt I P Q) {T : TgF} {mb : MS} {t : TG} {ds es : List D} {xs ys : List V} {N : Ends} (q1 : ∀ (B : Bg) (env env' : Env) (s : Sta) (σ : L2.St) (H : Hp) (d : D) (v : V) (Q : L2.St → Hp → Prop), SR g B env s σ H → Rep g s.F s.al d v → T d env = some env' → (∀ σ' H', SR g B env' s σ' H' → Q σ' H') → t v σ H Q)
    (hq : ∀ s' H', Good g s' H' → Le s s' → P H' xs ∧ Q H' ys) (r1 : Reps g s.F s.al ds xs) (r2 : Reps g s.F s.al es ys) (sr : SR g B env s σ H) (pp : PostS g B W s (forL T mb (zipD ds es) env s.h) N) :
    ∃ W' : Nat → Nat → L2.St → Hp → Prop, (∃ m, W' 0 m σ H) ∧ ∀ i m σ H, W' i m σ H →
      (I.stop i H ∧ N.nx σ H) ∨ (I.go i H ∧ ∃ Nx : L2.St → Hp → Prop, (∀ σ' H', Nx σ' H' → ∃ m', m' < m ∧ W' (i + 1) m' σ' H') ∧ ∀ x H', I.yld i H x H' → t x σ H' fun σ2 H2 => tS g B W mb { N with nx := Nx, ct := Nx, bk := N.nx } σ2 H2) := by
  have l1 := r1.length
  have l2 := r2.length
  refine ⟨fun i m σ H => m = min xs.length ys.length - i ∧ i ≤ min xs.length ys.length ∧ ∃ env s', SR g B env s' σ H ∧ Le s s' ∧ PostS g B W s' (forL T mb ((zipD ds es).drop i) env s'.h) N, ⟨_, rfl, Nat.zero_le _, env, s, sr, Le.refl s, by rw [List.drop_zero]; exact pp⟩, ?_⟩
  rintro i m σ H ⟨rfl, hi, env, s', sr', l, pp⟩
  obtain ⟨qx, qy⟩ := hq s' H sr'.good l
  by_cases hlt : i < min xs.length ys.length
  · have hlx : i < xs.length := by omega
    have hly : i < ys.length := by omega
    have hx : xs[i]? = some xs[i] := List.getElem?_eq_getElem hlx
    have hy : ys[i]? = some ys[i] := List.getElem?_eq_getElem hly
    refine .inr ⟨Z.go qx qy hx hy, fun σ H => ∃ env s', SR g B env s' σ H ∧ Le s s' ∧ PostS g B W s' (forL T mb ((zipD ds es).drop (i + 1)) env s'.h) N, fun σ' H' p' => ⟨_, by omega, rfl, hlt, p'⟩, fun v H' y => ?_⟩
    obtain ⟨A, x', y', rfl, hA, rfl, f1, f2⟩ := Z.yld qx qy y
    have hd1 : i < ds.length := by omega
    have hd2 : i < es.length := by omega
    obtain ⟨x2, e1, ra⟩ := (r1.mono2 l.f l.al).get (List.getElem?_eq_getElem hd1)
    obtain ⟨y2, e2, rb⟩ := (r2.mono2 l.f l.al).get (List.getElem?_eq_getElem hd2)
    rw [f1] at e1
    rw [f2] at e2
    cases e1
    cases e2
    have hz := zipD_get ds es i _ _ (List.getElem?_eq_getElem hd1) (List.getElem?_eq_getElem hd2)
    obtain ⟨hzl, hzv⟩ := List.getElem?_eq_some_iff.mp hz
    rw [List.drop_eq_getElem_cons hzl, hzv] at pp
    obtain ⟨sr2, ev⟩ := sr'.newF (o := .tup [x', y']) hA
    have rr : Reps g s'.F s'.al [ds[i], es[i]] [x', y'] := Reps.cons ra (Reps.cons rb Reps.nil)
    have rep : Rep g (s'.frz A (.tup [x', y'])).F (s'.frz A (.tup [x', y'])).al (.tup [ds[i], es[i]]) (.ref A) := ⟨A, _, rfl, .inl upd_same, ev.reps rr⟩
    exact forTurn q1 sr2 rep (PostS.later ev.le pp) fun env2 s2 σ2 H2 l2 sr3 p2 => ⟨env2, s2, sr3, (l.trans ev.le).trans l2, p2⟩
  · have e : (zipD ds es).drop i = [] := List.drop_eq_nil_of_le (by rw [zipD_len]; omega)
    rw [e] at pp
    exact .inl ⟨Z.stop qx qy (by omega), pp σ H s' rfl (Le.refl s') sr'⟩
end
section
variable {X : Cx} {g : Gi} {B : Bg} {W : WXv} {pos : Pos} {body : List Stmt} {mb : MS} {T : TgF}
theorem vs_forZ {a b : Expr} {ma : MA} {p' rp tpos : Pos} {elts : List Expr} {kk : Nat} (hK : g.K = X.K) (hp : PassesOwn (model X.prog X.w) X.A X.env X.xe) (hc : X.calm = true) (hg : Gl X "zip") (hm : X.mg "zip" = none) (ha : PA X [a, b] (tA g B W ma)) (ht : TgV X g (.Tuple elts kk tpos) T) (hb : PSs X body (tS g B W mb))
    (hst : starEach [a, b] X.env = (false, eval a X.env) :: starEach [b] X.env := by rfl) (hpl : (backTo rp (starEach [b] X.env)).any (·.1) = false := by rfl) (hs : ∀ x, foldedSetIterable (.Call (.Name "zip" p') [a, b] [] rp) X.env x = pure x := by intro _; rfl) :
    PS X (.For (.Tuple elts kk tpos) (.Call (.Name "zip" p') [a, b] [] rp) body [] pos) (tS g B W (mForZ T ma mb)) := by
  obtain ⟨t, p1, q1⟩ := ht
  refine ps_imp (ps_for hp hc (RZ.pi_zipA (p := p') (tpos := tpos) (elts := elts) (kk := kk) hg hm ha hst hpl) p1 hb hs) fun N σ H ⟨env, s, sr, p⟩ => ?_
  refine (bindSA sr p).mono fun vs H1 ⟨s1, xs, sr1, l1, r1, p1⟩ => ?_
  split at p1
  · next x y =>
    obtain ⟨v, w, rfl, rx, ry⟩ := r1.two
    split at p1
    · next ds es e1 e2 =>
      obtain ⟨a, xs, rfl, sx, rx⟩ := seqD_lst sr1.good rx e1
      obtain ⟨b, ys, rfl, sy, ry⟩ := seqD_lst sr1.good ry e2
      refine ⟨a, b, xs, ys, rfl, .inl ⟨hK ▸ sx.sqL sr1.good, hK ▸ sy.sqL sr1.good, ?_⟩⟩
      exact forZip (zipIt_l X.K a b) q1 (fun s' H' gd l => ⟨hK ▸ (sx.le l).sqL gd, hK ▸ (sy.le l).sqL gd⟩) rx ry sr1 p1
    · next ds es e1 e2 =>
      obtain ⟨a, xs, rfl, sx, rx⟩ := seqD_tup rx e1
      obtain ⟨b, ys, rfl, sy, ry⟩ := seqD_tup ry e2
      refine ⟨a, b, xs, ys, rfl, .inr ⟨hK ▸ sr1.good.sqT sx, hK ▸ sr1.good.sqT sy, ?_⟩⟩
      exact forZip (zipIt_t X.K a b) q1 (fun s' H' gd l => ⟨hK ▸ gd.sqT (sqT_mono l.f sx), hK ▸ gd.sqT (sqT_mono l.f sy)⟩) rx ry sr1 p1
    · exact p1.elim
  · exact p1.elim
end
end Vi

set_option Elab.async false
set_option linter.all false
set_option maxRecDepth 100000
set_option maxHeartbeats 4000000
namespace Vi
open PySem L2 PyProof.Rows

/-! ### tuples that stand in the heap are known -/
def Sta.frzT (s : Sta) (H : Hp) : Sta := { s with F := fun a => match s.F a with
  | some o => some o
  | none => (match H a with
    | some (.tup ws) => some (.tup ws)
    | _ => none) }
section
variable {g : Gi} {s : Sta} {H : Hp}
theorem frzT_some {a : Addr} {o : HO} (h : s.F a = some o) : (s.frzT H).F a = some o := by
  show (match s.F a with
    | some o => some o
    | none => (match H a with
      | some (.tup ws) => some (.tup ws)
      | _ => none)) = _
  rw [h]
theorem frzT_none {a : Addr} (h : s.F a = none) : (s.frzT H).F a = (match H a with
      | some (.tup ws) => some (.tup ws)
      | _ => none) := by
  show (match s.F a with
    | some o => some o
    | none => (match H a with
      | some (.tup ws) => some (.tup ws)
      | _ => none)) = _
  rw [h]
theorem frzT_tup {a : Addr} {ws : List V} (gd : Good g s H) (h : H a = some (.tup ws)) : (s.frzT H).F a = some (.tup ws) := by
  cases e : s.F a with
  | some o =>
    have z := gd.fle a o e
    rw [h] at z
    cases z
    exact frzT_some e
  | none => rw [frzT_none e, h]
theorem frzT_nt {a : Addr} {o : HO} (h : s.F a = none) (ho : H a = some o) (nt : ∀ ws, o ≠ .tup ws) : (s.frzT H).F a = none := by
  rw [frzT_none h, ho]
  cases o with
  | tup ws => exact absurd rfl (nt ws)
  | _ => rfl
theorem frzT_fle (gd : Good g s H) {a : Addr} {o : HO} (h : (s.frzT H).F a = some o) : H a = some o := by
  cases e : s.F a with
  | some u =>
    rw [frzT_some e] at h
    cases h
    exact gd.fle a _ e
  | none =>
    rw [frzT_none e] at h
    split at h
    · next ws hw =>
      cases h
      exact hw
    · cases h
theorem cell_nt {a : Addr} {o : HO} : ∀ {c : Cell}, CellRep g s H a c → H a = some o → ∀ ws, o ≠ .tup ws
  | .lst _, ⟨vs, h, _⟩, e, ws, q => by rw [q, h] at e; cases e
  | .ins _ _, ⟨dx, vs, h, _⟩, e, ws, q => by rw [q, h] at e; cases e
  | .dK _, ⟨vs, h, _⟩, e, ws, q => by rw [q, h] at e; cases e
  | .dT _, ⟨vs, h, _⟩, e, ws, q => by rw [q, h] at e; cases e
  | .frz c, h, e, ws, q => cell_nt (c := c) h e ws q
theorem good_frzT (gd : Good g s H) : Good g (s.frzT H) H := by
  refine ⟨fun a o h => frzT_fle gd h, gd.inj, fun n a h => ?_, fun n c h => ?_, gd.zed.keep rfl rfl (fun _ _ h => h) fun _ _ _ _ h => h⟩
  · obtain ⟨h1, h2, o, h3⟩ := gd.dom n a h
    refine ⟨h1, ?_, o, h3⟩
    obtain ⟨b, g1, g2⟩ := gd.cell n _ (List.getElem?_eq_getElem h1)
    have g1 : s.al n = some b := g1
    have h : s.al n = some a := h
    rw [h] at g1
    cases g1
    exact frzT_nt h2 h3 (cell_nt g2 h3)
  · obtain ⟨b, h1, h2⟩ := gd.cell n c h
    exact ⟨b, h1, h2.mv (fun _ z => z) (fun _ _ z => frzT_some z) fun _ _ z => z⟩
theorem evo_frzT (gd : Good g s H) : Evo s H (s.frzT H) H := ⟨fun _ _ h => frzT_some h, fun _ _ h => h, fun a o h n => ⟨h, fun z nt => frzT_nt z h nt, n⟩, Nat.le_refl _, fun _ _ h => h⟩
end

/-! ### sorted(d), d a dict: its keys -/
section
variable {X : Cx} {pins : List (Addr × Obj)} {σ : L2.St} {H : Hp} {s : Shared} {a : Addr} {Q : VK}
theorem srt_core {xs : List V} {its : List Value} {k : V → List Key} (I : Inv X pins σ H s) (rv : Vals xs its) (hc : Colls X.prog X.w X.A.in1 s (.ref a) its) (hz : xs.length ≤ sizeLine) (hm : Mode X.K H k xs)
    (q : ∀ ys p, SrtO.Srtd (fun v u => ksLt (k v) (k u)) ys → ys.Perm xs → H p = none → Q (.ref p) (upd H p (.lst ys))) : wpAny (model X.prog X.w) X.A (call (.builtin "sorted") [.ref a]) (EP X pins σ Q) X.xe s := by
  have mem := rel_bV rv
  refine sorted_src (swo_by fun v => k (bV v)) hc (by rw [← rv.length]; exact hz) (fun h2 s₁ a' h3 same => ?_) fun out h1 h' tk q1 q2 k1 k2 q3 => ?_
  · cases hm with
    | flat kd h =>
      refine flat_sortable (kd := kd) h2 fun v hv => ?_
      obtain ⟨m1, m2⟩ := mem v hv
      obtain ⟨y, e1, e2, e3⟩ := h _ m1
      exact ⟨y, by rw [← e1]; exact m2, e2, e3⟩
    | tup kd g1 g2 g3 =>
      refine tupK_sortable (kd := kd) (k := fun v => k (bV v)) (by omega) (fun v hv => ?_) (fun v hv => g2 _ (mem v hv).1) (fun v hv u hu => g3 _ (mem v hv).1 _ (mem u hu).1) fun o e => ?_
      · obtain ⟨m1, m2⟩ := mem v hv
        obtain ⟨t, e1, e2⟩ := g1 _ m1
        rw [e1] at m2
        cases m2
        obtain ⟨js, rj, pj, _⟩ := I.tuple e2
        exact (show TupK s.heap (.ref t) (k (bV (.ref t))) from ⟨t, js, rfl, rj, pj⟩).keeps fun b o e _ => (same b o e).2
      · rw [h3] at e
        cases e
        exact fun z => absurd (show Value.type "list" = Value.type "tuple" from z) (by decide)
  · have hr : ∀ u ∈ out, RelV (bV u) u := fun u hu => (mem u (q2.perm.mem_iff.mp hu)).2
    have hp : (out.map bV).Perm xs := by
      have z := q2.perm.map bV
      rw [bV_list rv] at z
      exact z
    have I1 : Inv X pins σ H { s with heap := h1, toks := tk } := I.kept k1
    refine ⟨.ref h1.objs.size, upd H h1.objs.size (.lst (out.map bV)), I1.laid (t' := tk) k2 (Nat.le_refl _) ⟨?_, out, ?_⟩, rfl, q _ _ (List.pairwise_map.mpr q1) hp (I1.hok.fresh (Nat.le_refl _))⟩
    · rw [hp.length_eq]
      exact hz
    · obtain ⟨n, hn⟩ := q3
      exact ⟨n, vals_bV hr, hn⟩
theorem kt_keys : ∀ {kvs : List (List Key × V)} {xs : List (List Key × Addr × Value)}, KT H kvs xs → Vals (xs.map fun x => V.ref x.2.1) (xs.map fun x => Value.ref x.2.1) ∧ xs.length = kvs.length
  | _, _, .nil => ⟨.nil, rfl⟩
  | _, _, .cons r t => by
    obtain ⟨h1, h2⟩ := kt_keys t
    exact ⟨.cons rfl h1, by rw [List.length_cons, List.length_cons, h2]⟩
/-- what is walked when a dict with tuples as keys is collected -/
theorem colls_dT {xs : List (List Key × Addr × Value)} (hcalm : X.calm = true) (I : Inv X pins σ H s) (lo : (a == sysModules) = false) (dd : s.heap.DictOfH (tupleKind (mixKind X.prog X.w)) a xs) (hz : xs.length ≤ sizeLine) :
    ∀ A, A.handled = none → Colls X.prog X.w A s (.ref a) (xs.map fun x => Value.ref x.2.1) := by
  intro A hh E R h
  obtain ⟨o, es, ep, h1, h2, h3, h4, _, _⟩ := dd
  have raw : s.heap.DictRaw a es ep := ⟨o, h1, h2, h3⟩
  have hl : es.size = xs.length := size_of_entries h4
  refine PySem.W.kdu_collect (A := A) (PySem.KdlSrc.rawDict lo) hh raw (by rw [hl]; exact hz) fun h' tk acc hk hacc => ?_
  have e : acc.toList = xs.map fun x => Value.ref x.2.1 := by
    refine List.ext_getElem? fun i => ?_
    by_cases hi : i < es.size
    · have hia : i < acc.toList.length := by rw [Array.length_toList, hacc.1]; exact hi
      have e1 := List.getElem?_eq_getElem hia
      obtain ⟨_, e2⟩ := hacc.2 i _ (by rw [← Array.getElem?_toList]; exact e1)
      have e3 := entry_at h4 i
      rw [Array.getElem?_eq_getElem hi] at e3
      rw [e1, e2, List.getElem?_map]
      cases e4 : xs[i]? with
      | none => rw [e4] at e3; cases e3
      | some x =>
        rw [e4] at e3
        have e5 : es[i] = entryOfKey (tupleKind (mixKind X.prog X.w)) x := Option.some.inj e3
        rw [e5]
        rfl
    · rw [List.getElem?_eq_none (by rw [Array.length_toList, hacc.1]; omega), List.getElem?_eq_none (by rw [List.length_map]; omega)]
  rw [e]
  exact h h' tk hk
def rSrtT (K : PySem.W.Frag) : List V → Hp → VK → Prop := fun vs H Q => ∃ (a : Addr) (kvs : List (List Key × V)), vs = [.ref a] ∧ H a = some (.dT kvs) ∧
  ∀ ts : List Addr, Paired (fun kv t => H t = some (.tup (kv.1.map kV))) kvs ts → ∃ k : V → List Key, Mode K H k (ts.map V.ref) ∧
    ∀ ys p, SrtO.Srtd (fun v u => ksLt (k v) (k u)) ys → ys.Perm (ts.map V.ref) → H p = none → Q (.ref p) (upd H p (.lst ys))
theorem kt_pair : ∀ {kvs : List (List Key × V)} {xs : List (List Key × Addr × Value)}, KT H kvs xs → Paired (fun kv t => H t = some (.tup (kv.1.map kV))) kvs (xs.map fun x => x.2.1)
  | _, _, .nil => .nil
  | _, _, .cons r t => .cons r.2.1 (kt_pair t)
theorem cr_srtT (hcalm : X.calm = true) : CallR X (.builtin "sorted") (rSrtT X.K) := by
  intro pins s σ H vs us Q I r ⟨a, kvs, e, hd, k⟩
  subst e
  obtain ⟨hz, lo, xs, kt, dd⟩ := dt_of I.hok hd
  obtain ⟨rv, hl⟩ := kt_keys kt
  obtain ⟨kk, hm, q⟩ := k (xs.map fun x => x.2.1) (kt_pair kt)
  rw [Vals.ref1 r]
  have em : (xs.map fun x => x.2.1).map V.ref = xs.map fun x => V.ref x.2.1 := by rw [List.map_map]; rfl
  rw [em] at hm q
  exact srt_core I rv (colls_dT hcalm I lo dd (by rw [hl]; exact hz) _ (I.ok.hd hcalm)) (by rw [List.length_map, hl]; exact hz) hm q
end
end Vi

set_option Elab.async false
set_option linter.all false
set_option maxRecDepth 100000
set_option maxHeartbeats 4000000
namespace Vi
open PySem L2 PyProof.Rows

def fSortedD (kc : List D → Bool) (o : Bool) (xs : List Vl) (h : Hc) : R Vl := match xs with
  | [x] => (match dv? x h with
    | some (.t kvs) => if compatAll (kvs.map (·.1)) then .ok (Vl.ofL o ((sortL ksLt (kvs.map (·.1))).map tupD)) h else .stuck
    | _ => fSorted kc o [x] h)
  | _ => .stuck
section
variable {g : Gi} {F : Hp} {al : Nat → Option Addr}
theorem repT_keys : ∀ {kvs : List (List Key × D)} {vs : List (List Key × V)}, RepT g F al kvs vs → vs.map (·.1) = kvs.map (·.1)
  | [], vs, r => by
    cases r
    rfl
  | (k, d) :: kvs, vs, r => by
    obtain ⟨v, ws, rfl, _, r2⟩ := r
    rw [List.map_cons, List.map_cons, repT_keys r2]
theorem reps_keys : ∀ ks : List Key, Reps g F al (ks.map dKey) (ks.map kV)
  | [] => rfl
  | k :: r => ⟨kV k, r.map kV, rfl, rep_key k, reps_keys r⟩
theorem ts_all {H : Hp} : ∀ {vs : List (List Key × V)} {ts : List Addr}, Paired (fun kv t => H t = some (.tup (kv.1.map kV))) vs ts →
    (∀ v ∈ ts.map V.ref, ∃ t ks, v = .ref t ∧ H t = some (.tup (ks.map kV)) ∧ kOf H v = ks ∧ ks ∈ vs.map (·.1)) ∧ (ts.map V.ref).map (kOf H) = vs.map (·.1)
  | _, _, .nil => ⟨fun v hv => (by cases hv), rfl⟩
  | kv :: vs, t :: ts, .cons r rr => by
    obtain ⟨h1, h2⟩ := ts_all rr
    have ek := kOf_ref r
    refine ⟨fun v hv => ?_, by rw [List.map_cons, List.map_cons, ek, h2, List.map_cons]⟩
    rcases List.mem_cons.mp hv with rfl | hv
    · exact ⟨t, kv.1, rfl, r, ek, List.mem_cons_self ..⟩
    · obtain ⟨t', ks', g1, g2, g3, g4⟩ := h1 v hv
      exact ⟨t', ks', g1, g2, g3, List.mem_cons_of_mem _ g4⟩
end
section
variable {X : Cx} {g : Gi}
theorem c_sortedD (o : Bool) (hcalm : X.calm = true) (hK : g.K = X.K) : CallV X g (.builtin "sorted") (fSortedD g.kc o) := by
  obtain ⟨r0, c0, f0⟩ := c_sorted (g := g) (X := X) o hK
  refine ⟨fun vs H Q => r0 vs H Q ∨ rSrtT X.K vs H Q, fun pins s σ H vs us Q I r q => ?_, fun B W env s σ H xs vs Q sr r p => ?_⟩
  · rcases q with q | q
    · exact c0 pins s σ H vs us Q I r q
    · exact cr_srtT hcalm pins s σ H vs us Q I r q
  · unfold fSortedD at p
    split at p
    · next x =>
      split at p
      · next kvs e1 =>
        obtain ⟨v, rfl, rr⟩ := r.one
        split at p
        · next hs =>
          obtain ⟨a, rfl, vs, h1, h2⟩ := rr.dv sr.good e1
          refine .inr ⟨a, vs, rfl, h1, fun ts hts => ?_⟩
          obtain ⟨z1, z2⟩ := ts_all hts
          have ek := repT_keys h2
          rw [ek] at z1 z2
          generalize hk : kvs.map (·.1) = kss at z1 z2 hs p
          have hc : ∀ x ∈ kss, x.isEmpty = false ∧ ∀ y ∈ kss, compat x y = true := fun x hx => by
            obtain ⟨c1, c2⟩ := Bool.and_eq_true_iff.mp (List.all_eq_true.mp hs x hx)
            exact ⟨by simpa using c1, fun y hy => List.all_eq_true.mp c2 y hy⟩
          refine ⟨kOf H, .tup (match kss with
            | (k :: _) :: _ => kKind k
            | _ => true) (fun v hv => ?_) (fun v hv => ?_) (fun v hv u hu => ?_), fun ys q hsd hp hq => ?_⟩
          · obtain ⟨t, ks, g1, g2, g3, _⟩ := z1 v hv
            exact ⟨t, g1, by rw [g3]; exact .inl (.inl g2)⟩
          · obtain ⟨t, ks, g1, g2, g3, g4⟩ := z1 v hv
            rw [g3]
            obtain ⟨c1, c2⟩ := hc ks g4
            cases ks with
            | nil => cases c1
            | cons y r =>
              refine ⟨y, r, rfl, ?_⟩
              match kss, g4, hc, c2 with
              | l :: kss', _, hc, c2 =>
                cases l with
                | nil =>
                  have := (hc [] (List.mem_cons_self ..)).1
                  cases this
                | cons z r' =>
                  have c3 := c2 (z :: r') (List.mem_cons_self ..)
                  have c4 : ((kKind y == kKind z) && (if y = z then compat r r' else true)) = true := c3
                  exact eq_of_beq (Bool.and_eq_true_iff.mp c4).1
          · obtain ⟨t, ks, _, _, g3, g4⟩ := z1 v hv
            obtain ⟨t', ks', _, _, g3', g4'⟩ := z1 u hu
            rw [g3, g3']
            exact (hc ks g4).2 ks' g4'
          · have ev := evo_frzT (s := s) (H := H) sr.good
            have sr2 : SR g B env (s.frzT H) σ H := sr.call ev (good_frzT sr.good)
            have p2 : PostE g B W env (s.frzT H) σ H (.ok (Vl.ofL o ((sortL ksLt kss).map tupD)) (s.frzT H).h) Q := PostE.later ev p
            have e3 : ys.map (kOf H) = sortL ksLt kss := by
              rw [← z2]
              exact sortL_of tot_keys (List.pairwise_map.mpr hsd) (hp.map _)
            have hr : Reps g (s.frzT H).F (s.frzT H).al ((sortL ksLt kss).map tupD) ys := by
              have q5 := reps_by (g := g) (F := (s.frzT H).F) (al := (s.frzT H).al) (k := kOf H) (f := tupD) (ys := ys) fun y hy => by
                obtain ⟨t, ks, g1, g2, g3, _⟩ := z1 y (hp.mem_iff.mp hy)
                rw [g3, g1]
                exact ⟨t, _, rfl, .inl (frzT_tup sr.good g2), reps_keys ks⟩
              rw [e3] at q5
              exact q5
            exact PostE.newLO sr2 p2 hr hq
        · exact p.elim
      · exact .inl (f0 B W env s σ H _ vs Q sr r p)
    · exact p.elim
end
end Vi

set_option Elab.async false
set_option linter.all false
set_option maxRecDepth 100000
set_option maxHeartbeats 4000000
namespace Vi
open PySem L2 PyProof.Rows

/-! ### tuple(xs), told to be a plain tuple -/
section
variable {X : Cx} {g : Gi}
theorem cr_tupleX : CallR X (.type "tuple") (fun xs H Q => ∃ p ys, xs = [.ref p] ∧ SqL X.K H p ys ∧ ∀ (l : Addr) (o : Obj), o.dict = none → H l = none → Q (.ref l) (upd H l (.frz o (.tup ys)))) := by
  intro pins s σ H xs us Q I r ⟨p, ys, e, hq, q⟩
  subst e
  rw [Vals.ref1 r]
  obtain ⟨its, rv, hl, hz⟩ := I.list hq
  refine call_tuple_list hl.isList (fun h' kp => ?_) (by rw [List.size_toArray, ← rv.length]; exact hz)
  have I1 : Inv X pins σ H { s with heap := h' } := I.kept (t' := s.toks) kp
  have ob : ObjOk X.prog X.w (upd H h'.objs.size (.frz { cls := .type "tuple", data := .seq its.toArray } (.tup ys))) (h'.push { cls := .type "tuple", data := .seq its.toArray }) h'.objs.size (.frz { cls := .type "tuple", data := .seq its.toArray } (.tup ys)) :=
    ⟨Heap.get?_push_size _ rfl, hz, its, rv, IsTup.new _ _⟩
  exact ⟨.ref h'.objs.size, _, I1.laid (t' := s.toks) (fun b o e => Heap.get?_push_of_some _ e) (Nat.le_refl _) ob, rfl, q _ _ rfl (I1.hok.fresh (Nat.le_refl _))⟩
def fTupleX (xs : List Vl) (h : Hc) : R Vl := match xs with
  | [x] => (match lst? h x with
    | some ys => .ok (.d (.xtup ys)) h
    | none => .stuck)
  | _ => .stuck
theorem c_tupleX (hK : g.K = X.K) : CallV X g (.type "tuple") fTupleX := by
  refine ⟨_, cr_tupleX, fun B W env s σ H xs vs Q sr r p => ?_⟩
  unfold fTupleX at p
  split at p
  · obtain ⟨v, rfl, rr⟩ := r.one
    split at p
    · next ys e1 =>
      obtain ⟨a1, ws, rfl, h1, q1⟩ := rr.lst sr.good e1
      refine ⟨_, ws, rfl, hK ▸ h1, fun l o ho hl => ?_⟩
      obtain ⟨sr1, ev⟩ := sr.newF (o := .frz o (.tup ws)) hl
      exact p _ _ (s.frz l (.frz o (.tup ws))) rfl ev sr1 ⟨l, o, ws, rfl, upd_same, ho, ev.reps q1⟩
    · exact p.elim
  · exact p.elim
end

/-! ### dict(t), t such a tuple of pairs with tuples as keys -/
/-- the pairs -/
def pairsT? (kc : List D → Bool) : List D → Option (List (List Key × D))
  | [] => some []
  | .tup [.tup ks, d] :: r => if kc ks then none else (match keys? ks, pairsT? kc r with
    | some k, some kvs => some ((k, d) :: kvs)
    | _, _ => none)
  | _ => none
def allT (kvs : List (List Key × D)) : List (List Key × D) := kvs.foldl (fun acc kv => putD' acc kv.1 kv.2) []
def fDictX (kc : List D → Bool) (xs : List Vl) (h : Hc) : R Vl := match xs with
  | [.d (.xtup ds)] => (match pairsT? kc ds with
    | some kvs => if kvs.length ≤ 100000 then .ok (.d (.dT (allT kvs))) h else .stuck
    | none => .stuck)
  | _ => .stuck
def putAll (kvs : List (List Key × V)) : List (List Key × V) := kvs.foldl (fun acc kv => putK acc kv.1 kv.2) []
/-- the pairs of such a tuple, in the heap -/
def PrT (K : PySem.W.Frag) (H : Hp) (p : Addr) (kv : List Key × V) : Prop := ∃ b, SqT K H p [.ref b, kv.2] ∧ H b = some (.tup (kv.1.map kV))
section
variable {X : Cx} {pins : List (Addr × Obj)} {σ : L2.St} {H : Hp} {s : Shared}
theorem prT_all (I : Inv X pins σ H s) : ∀ {ps : List Addr} {kvs : List (List Key × V)}, Paired (PrT X.K H) ps kvs →
    ∃ xs : List (List Key × Addr × Value), KT H kvs xs ∧ xs.length = ps.length ∧ ∀ (j : Nat) (x : List Key × Addr × Value), xs[j]? = some x → ∃ p, ps[j]? = some p ∧ IsTup s.heap p #[.ref x.2.1, x.2.2]
  | _, _, .nil => ⟨[], .nil, rfl, fun j x e => by simp at e⟩
  | p :: ps, kv :: kvs, .cons r t => by
    obtain ⟨xs, h1, h2, h3⟩ := prT_all I t
    obtain ⟨b, g1, g2⟩ := r
    obtain ⟨its, rv, ht, _⟩ := I.tuple g1
    cases rv with
    | cons r1 rr =>
      cases rr with
      | cons r2 rr =>
        cases rr
        cases r1
        rename_i u
        refine ⟨(kv.1, b, u) :: xs, .cons ⟨rfl, g2, r2⟩ h1, by rw [List.length_cons, List.length_cons, h2], fun j x e => ?_⟩
        cases j with
        | zero =>
          cases e
          exact ⟨p, rfl, ht⟩
        | succ j => exact h3 j x e
theorem kt_putAll {H : Hp} : ∀ {kvs : List (List Key × V)} {xs : List (List Key × Addr × Value)} {acc : List (List Key × V)} {ys : List (List Key × Addr × Value)}, KT H kvs xs → KT H acc ys →
    KT H (kvs.foldl (fun acc kv => putK acc kv.1 kv.2) acc) (storedAllH ys xs)
  | _, _, acc, ys, .nil, h => h
  | kv :: kvs, x :: xs, acc, ys, .cons r t, h => by
    obtain ⟨e1, e2, e3⟩ := r
    show KT H (kvs.foldl (fun acc kv => putK acc kv.1 kv.2) (putK acc kv.1 kv.2)) (storedAllH (storedH ys x.1 x.2.1 x.2.2) xs)
    rw [e1] at e2 ⊢
    exact kt_putAll t (h.put x.1 (b := x.2.1) (y := kv.2) (u := x.2.2) e2 e3)
theorem paired_len {α β : Type} {P : α → β → Prop} : ∀ {xs : List α} {ys : List β}, Paired P xs ys → xs.length = ys.length
  | _, _, .nil => rfl
  | _, _, .cons _ t => by rw [List.length_cons, List.length_cons, paired_len t]
theorem cr_dictX (hcalm : X.calm = true) (hu : X.A.units + 64 < cLine) : CallR X (.type "dict") (fun vs H Q => ∃ (a : Addr) (o : Obj) (ps : List Addr) (kvs : List (List Key × V)), vs = [.ref a] ∧ H a = some (.frz o (.tup (ps.map V.ref))) ∧ o.dict = none ∧ Paired (PrT X.K H) ps kvs ∧
    ∀ q, H q = none → Q (.ref q) (upd H q (.dT (putAll kvs)))) := by
  intro pins s σ H vs us Q I r ⟨a, o, ps, kvs, e, ha, ho, hp, q⟩
  subst e
  rw [Vals.ref1 r]
  obtain ⟨g1, hz, its, rv, o2, g2, g3, n, g4⟩ := (show ObjOk X.prog X.w H s.heap a (.frz o (.tup (ps.map V.ref))) from I.hok a _ ha)
  rw [g1] at g2
  cases g2
  have ei := refs_at rv
  subst ei
  obtain ⟨xs, kt, hl, hx⟩ := prT_all I hp
  have hz : xs.length ≤ sizeLine := by rw [hl]; rw [List.length_map] at hz; exact hz
  have P := PairArg.tuple (prog := X.prog) (w := X.w) a (ps.map Value.ref).toArray (fun j => (ps[j]?).getD 0) (xs.map fun x => (Value.ref x.2.1, x.2.2))
  have fresh := I.hok.fresh (Nat.le_refl s.heap.objs.size)
  have keyIs : ∀ h' : Heap, (∀ b u, s.heap.get? b = some u → h'.get? b = some u) → ∀ x ∈ xs, (tupleKind (mixKind X.prog X.w)).is h' x.1 x.2.1 := by
    intro h' hk x hm
    have go : ∀ {kvs : List (List Key × V)} {xs : List (List Key × Addr × Value)}, KT H kvs xs → ∀ x ∈ xs, H x.2.1 = some (.tup (x.1.map kV)) := by
      intro kvs xs kt
      induction kt with
      | nil => intro x hm; cases hm
      | cons r t ih =>
        intro x hm
        rcases List.mem_cons.mp hm with rfl | hm
        · rw [← r.1]
          exact r.2.1
        · exact ih x hm
    obtain ⟨u, items, n, k1, k2⟩ := key_of I.hok (go kt x hm)
    exact ⟨u, items, n, hk _ _ k1, k2⟩
  refine call_dict_pairsH (knd := tupleKind (mixKind X.prog X.w)) (ps := xs) P (I.ok.hd hcalm) (show X.A.units + 2 < cLine by omega) ⟨⟨o, n, g1, g3, ho, g4⟩, ?_, ?_⟩ ⟨by rw [List.length_map], ?_⟩ ?_ (by rw [List.length_map]; exact hz) fun h' tk hd' hk => ?_
  · rw [List.size_toArray, List.length_map, List.length_map, hl]
  · intro j k v e
    have e : (xs.map fun x => (Value.ref x.2.1, x.2.2))[j]? = some (k, v) := e
    rw [List.getElem?_map] at e
    obtain ⟨x, ex, ek⟩ := Option.map_eq_some_iff.mp e
    cases ek
    obtain ⟨p, ep, hp⟩ := hx j x ex
    refine ⟨?_, .inl ?_⟩
    · rw [List.getElem?_toArray, List.getElem?_map, ep]
      show _ = some (Value.ref ((ps[j]?).getD 0))
      rw [ep]
      rfl
    · show s.heap.IsTuple ((ps[j]?).getD 0) _
      rw [ep]
      exact hp
  · intro i key v e
    have e : (xs.map fun x => (Value.ref x.2.1, x.2.2))[i]? = some (key, v) := e
    rw [List.getElem?_map] at e
    obtain ⟨x, ex, ek⟩ := Option.map_eq_some_iff.mp e
    cases ek
    exact ⟨x.1, x.2.1, ex, rfl⟩
  · intro h' hk x hm
    exact keyIs h' (fun b u e => hk b u (Nat.ne_of_lt (Heap.lt_size e)) (by simp) e) x hm
  · have kt2 : KT H (putAll kvs) (storedAllH [] xs) := kt_putAll kt .nil
    obtain ⟨oo, es, ep, d1, d2, d3, d4, _, d5⟩ := hd'
    have hlen : (storedAllH [] xs).length ≤ sizeLine := Nat.le_trans (storedAllH_length xs []) (by rw [List.length_nil, Nat.zero_add]; exact hz)
    refine ⟨.ref s.heap.objs.size, _, I.laid (t' := tk) (o := .dT (putAll kvs)) (fun b u e => hk b u (by simp) e) (Nat.le_refl _) ⟨by rw [paired_len kt2]; exact hlen, beq_eq_false_iff_ne.mpr (Nat.ne_of_gt I.big), storedAllH [] xs, ?_, oo, es, ep, d1, d2, d3, d4, d5⟩, rfl, q _ fresh⟩
    exact KT.keeps kt2 fun b ys hb => by rw [upd_ne (ne_of_none hb fresh)]; exact hb
end
section
variable {X : Cx} {g : Gi}
theorem pairsT_rep {F H : Hp} {al : Nat → Option Addr} (hF : ∀ a o, F a = some o → H a = some o) : ∀ {ds : List D} {vs : List V} {kvs : List (List Key × D)}, Reps g F al ds vs → pairsT? g.kc ds = some kvs →
    ∃ (ps : List Addr) (ws : List (List Key × V)), vs = ps.map V.ref ∧ Paired (PrT g.K H) ps ws ∧ RepT g F al kvs ws
  | [], vs, kvs, r, e => by
    cases e
    cases r
    exact ⟨[], [], rfl, .nil, rfl⟩
  | d :: ds, vs, kvs, r, e => by
    obtain ⟨v, vr, rfl, r1, r2⟩ := r
    unfold pairsT? at e
    split at e
    · next heq => cases heq
    · next ks d0 rest heq =>
      cases heq
      split at e
      · cases e
      · next hkc =>
        split at e
        · next k kvs' e1 e2 =>
          cases e
          obtain ⟨ps, ws, rfl, hp, hr⟩ := pairsT_rep hF r2 e2
          obtain ⟨p, us, rfl, h2, w1, wr, rfl, rk, w2, wr2, rfl, rd, hnil⟩ := r1
          cases hnil
          obtain ⟨b, kk, rfl, h3, h4⟩ := rk
          have hu := keys_rep h4 e1
          subst hu
          have hb : F b = some (.tup (k.map kV)) := by
            rcases h3 with h3 | h3
            · exact h3
            · exact absurd h3.1 hkc
          exact ⟨p :: ps, (k, w2) :: ws, rfl, .cons ⟨b, sqT_mono hF h2.sq, hF _ _ hb⟩ hp, w2, ws, rfl, rd, hr⟩
        · cases e
    · cases e
theorem repT_putAll {F : Hp} {al : Nat → Option Addr} : ∀ {kvs : List (List Key × D)} {ws : List (List Key × V)} {acc : List (List Key × D)} {vs : List (List Key × V)}, RepT g F al kvs ws → RepT g F al acc vs →
    RepT g F al (kvs.foldl (fun acc kv => putD' acc kv.1 kv.2) acc) (ws.foldl (fun acc kv => putK acc kv.1 kv.2) vs)
  | [], ws, acc, vs, r, h => by
    cases r
    exact h
  | (k, d) :: kvs, ws, acc, vs, r, h => by
    obtain ⟨v, wr, rfl, r1, r2⟩ := r
    show RepT g F al (kvs.foldl (fun acc kv => putD' acc kv.1 kv.2) (putD' acc k d)) (wr.foldl (fun acc kv => putK acc kv.1 kv.2) (putK vs k v))
    exact repT_putAll r2 (h.put r1)
theorem c_dictX (hcalm : X.calm = true) (hu : X.A.units + 64 < cLine) (hK : g.K = X.K) : CallV X g (.type "dict") (fDictX g.kc) := by
  refine ⟨_, cr_dictX hcalm hu, fun B W env s σ H xs vs Q sr r p => ?_⟩
  unfold fDictX at p
  split at p
  · next ds =>
    obtain ⟨v, rfl, rr⟩ := r.one
    split at p
    · next kvs e1 =>
      split at p
      · obtain ⟨a, o, ws, rfl, hF, ho, q1⟩ := rr
        obtain ⟨ps, kws, rfl, hp, hr⟩ := pairsT_rep sr.good.fle q1 e1
        refine ⟨a, o, ps, kws, rfl, sr.good.fle _ _ hF, ho, hK ▸ hp, fun q hq => ?_⟩
        obtain ⟨sr1, ev⟩ := sr.newF (o := .dT (putAll kws)) hq
        exact p _ _ (s.frz q (.dT (putAll kws))) rfl ev sr1 ⟨q, putAll kws, rfl, upd_same, RepT.mono ev.f ev.al (repT_putAll hr rfl)⟩
      · exact p.elim
    · exact p.elim
  · exact p.elim
end
end Vi

set_option Elab.async false
set_option linter.all false
set_option maxRecDepth 100000
set_option maxHeartbeats 4000000
namespace Vi
open PySem L2 PyProof.Rows
/-! ### a default () -/
def tupAt0 (K : PySem.W.Frag) (a : Addr) : Bool := match K.lookup a with
  | some ⟨.type c, _, .seq its _, _⟩ => decide (c = "tuple") && decide (its.size = 0)
  | _ => false
theorem tupAt0_ok {K : PySem.W.Frag} {a : Addr} (h : tupAt0 K a = true) (H : Hp) : SqT K H a [] := by
  unfold tupAt0 at h
  split at h
  · next c dd its n sl q =>
    obtain ⟨h1, h2⟩ := Bool.and_eq_true_iff.mp h
    have hs := of_decide_eq_true h2
    have e : its = #[] := Array.eq_empty_of_size_eq_zero hs
    subst e
    exact .inr ⟨_, #[], n, q, congrArg Value.type (of_decide_eq_true h1), rfl, Nat.zero_le _, .nil⟩
  · cases h
theorem bt_zip : bootBuiltins "zip" = some (.type "zip") := by decide +kernel
end Vi

set_option Elab.async false
set_option linter.all false
set_option maxRecDepth 100000
set_option maxHeartbeats 2000000
namespace PySem.W
open PySem PySem.Calls PyProof.Rows Builtin
section
variable {prog : Program} {w : World} {A : Around} {E : Value → Shared → Prop} {s : Shared} {K : Frag} {x C f : Addr} {ox : Obj} {od : Option Obj} {b : Value}
theorem vi_fills : fillsNumberSlot (.type "tuple") "mul" = pure false :=
  fillsNumberSlot_seq PySem.F.slot_tuple_mul.lookup (by decide +kernel) PySem.F.slot_tuple_rmul.lookup (by decide +kernel)
/-- x * t, x of an own class with `__mul__`, t a tuple -/
theorem vi_mul_K {Q : Value → Shared → Prop} (X : K.In s.heap) (I : InstAt s.heap x ox C od) (hb : s.TypeIs b "tuple") (hc : selfFirst K C = true) (hs : findIn K (.ref C) "__mul__" = some (some (.ref f))) (hf : isFn K (.ref f) = true)
    (h : wpAny (model prog w) A (call (.ref f) [.ref x, b]) (CmpBack Q) E s) : wpAny (model prog w) A (binaryOp .Mult (.ref x) b) Q E s := by
  obtain ⟨cd, hcd, hm⟩ := any_some hc
  have ⟨rest, hm⟩ : ∃ rest, cd.mro = .ref C :: rest := by
    cases q : cd.mro with
    | nil => rw [q] at hm; exact Bool.noConfusion hm
    | cons a r =>
      rw [q] at hm
      have e : a = .ref C := by
        rw [List.head?_cons] at hm
        exact Option.some.inj (beq_iff_eq.mp hm)
      exact ⟨r, by rw [e]⟩
  have ne : (Value.ref C == Value.type "tuple") = false := rfl
  unfold binaryOp
  refine wpAny_holding (wpAny_bind ?_)
  have two : wpAny (model prog w) A (binaryOp1 "mul" (.ref x) b) (fun r s' => ∃ v, r = some v ∧ Q v s') E s := by
    simp only [binaryOp1]
    refine wpAny_bind (I.type.here (wpAny_bind (wpAny_typeOf hb (wpAny_bind ((fills_K (nm := "mul") X hcd hm hs).here ?_)))))
    rw [ne]
    simp only [Bool.false_eq_true, if_false]
    refine wpAny_bind (wpAny_of_eq vi_fills ?_)
    simp only [Bool.and_false, Bool.false_and, Bool.false_eq_true, if_false, if_true, pure_bind]
    refine wpAny_bind ?_
    unfold tryMethod
    refine wpAny_bind (special_fn X I hs (beq_iff_eq.mp hf) (wpAny_mono h (fun v s' hv => ?_) fun _ _ z => z))
    cases v <;> first | exact hv.elim | exact wpAny_pure (wpAny_pure ⟨_, rfl, hv⟩)
  refine wpAny_mono two (fun r s' ⟨v, e, q⟩ => ?_) fun _ _ z => z
  subst e
  exact wpAny_pure q
end
end PySem.W
namespace Vi
open PySem L2 PyProof.Rows
/-! ### o * t, t a tuple -/
def fOpsX (T : Tbl) (F0 : Vl → Vl → Hc → R Vl) (x y : Vl) (h : Hc) : R Vl := match x, y with
  | .d (.obj c fs), .d (.tup ds) => (match T c with
    | some F => (F [.obj c fs, .tup ds] h).bind fun d h' => .ok (.d d) h'
    | none => .stuck)
  | x, y => fOps T F0 x y h
section
variable {X : Cx} {g : Gi} {W : WXv} {T : Tbl}
theorem o_mulX {F0 : Vl → Vl → Hc → R Vl} (b : Bd X g W) (V : VOps X g "__mul__" 2 T) (h0 : OpV X g (binaryOp .Mult) F0) : OpW X g W (binaryOp .Mult) (fOpsX T F0) := by
  intro B env st σ H s pins x y v w u1 u2 Q I r1 r2 sr rx ry p
  unfold fOpsX at p
  split at p
  · next c fs ds =>
    split at p
    · next F hT =>
      obtain ⟨k, f, fd, ps, FG, hr, hs, hf, hb, hn, _⟩ := (V c F hT).ex
      obtain ⟨a, ox, od, rfl, rfl, J⟩ := obj_at b.G sr I rx r1
      have ry0 : VlRep g B env σ st H (.d (.tup ds)) w := ry
      obtain ⟨a2, ws, rfl, h2, _⟩ := ry0.tup sr.good (xs := ds) rfl
      cases r2
      obtain ⟨its, _, pt, _⟩ := I.tuple (b.K ▸ h2)
      refine PySem.W.vi_mul_K I.kIn J pt.typeIs (V c F hT).sf hs hf ?_
      exact wpAny_mono (run_op (vs := [.ref a, .ref a2]) b FG (.inl rfl) hr hb I (.cons rfl (.cons rfl .nil)) hn.symm sr (Reps.cons rx (Reps.cons ry Reps.nil)) (PostE.nni p)) (fun u s' ⟨v, H', I', rv, q, n⟩ => nni_back n rv ⟨v, H', I', rv, q⟩) fun _ _ z => z
    · exact p.elim
  · exact o_ops (op := .Mult) b V h0 B env st σ H s pins x y v w u1 u2 Q I r1 r2 sr rx ry p
end
end Vi

set_option Elab.async false
set_option linter.all false
set_option maxRecDepth 100000
set_option maxHeartbeats 4000000
namespace G07
open PySem L2 PyProof.Rows Vi
abbrev prog : Program := PySem.Challenge.pw_swornlots_k07_forms_added
def top (i : Nat) : Stmt := prog.main.body.getD i (.Pass ⟨0, 0, 0, 0⟩)
def clsB (s : Stmt) : List Stmt := match s with
  | .ClassDef (body := z) .. => z
  | _ => []
def sub (i j : Nat) : Stmt := (clsB (top i)).getD j (.Pass ⟨0, 0, 0, 0⟩)
def PDx : PD where
  nm := ["Form"]
  cls := [0]
  fld := [(0, "names"), (0, "parts")]
  isi := [((.bt "NoneType", .bt "int"), false), ((.bt "bool", .bt "int"), true), ((.bt "int", .bt "int"), true), ((.bt "str", .bt "int"), false), ((.bt "tuple", .bt "int"), false), ((.bt "list", .bt "int"), false), ((.bt "bool", .bt "bool"), true), ((.bt "int", .bt "bool"), false), ((.bt "tuple", .bt "tuple"), true), ((.bt "list", .bt "tuple"), false), ((.own 0, .own 0), true), ((.bt "tuple", .own 0), false), ((.bt "list", .own 0), false)]
  xcs := []
  xno := []
  nf := [(0, .own 0), (0, .bt "tuple"), (0, .bt "list")]
  kcs := [[(.int 0), (.int 1)], [(.int (-1)), (.int 1)], []]
abbrev g0 : Gi := PDx.gi []
abbrev xsB : Nat → Bool := fun c => decide (c ∈ PDx.xcs)
abbrev xnB : Nat → Str → Bool := fun c f => decide ((c, f) ∈ PDx.xno)
abbrev nfB : Nat → Ty → Bool := fun c t => decide ((c, t) ∈ PDx.nf)
abbrev d_ZERO : D := (.tup [(.int 0), (.int 1)])
abbrev d_MINUS_ONE : D := (.tup [(.int (-1)), (.int 1)])
def r_is_whole : DefV := ⟨pG "is_whole", "is_whole", "is_whole", defArgs (top 2), defBody (top 2), defScope (top 2), []⟩
def r_lowest : DefV := ⟨pG "lowest", "lowest", "lowest", defArgs (top 5), defBody (top 5), defScope (top 5), []⟩
def r_plus : DefV := ⟨pG "plus", "plus", "plus", defArgs (top 6), defBody (top 6), defScope (top 6), []⟩
def r_times : DefV := ⟨pG "times", "times", "times", defArgs (top 7), defBody (top 7), defScope (top 7), []⟩
def r_is_fraction : DefV := ⟨pG "is_fraction", "is_fraction", "is_fraction", defArgs (top 8), defBody (top 8), defScope (top 8), []⟩
def r_gathered : DefV := ⟨pG "gathered", "gathered", "gathered", defArgs (top 11), defBody (top 11), defScope (top 11), []⟩
def r_multiplied : DefV := ⟨pG "multiplied", "multiplied", "multiplied", defArgs (top 12), defBody (top 12), defScope (top 12), []⟩
def r_value_at : DefV := ⟨pG "value_at", "value_at", "value_at", defArgs (top 13), defBody (top 13), defScope (top 13), []⟩
def r_Form_xinitx : DefV := ⟨pM "Form" "__init__", "__init__", "Form.__init__", defArgs (sub 14 0), defBody (sub 14 0), defScope (sub 14 0), [(.adr (He.dflAt ("Form", some "__init__") 0))]⟩
def r_Form_xaddx : DefV := ⟨pM "Form" "__add__", "__add__", "Form.__add__", defArgs (sub 14 1), defBody (sub 14 1), defScope (sub 14 1), []⟩
def r_Form_xsubx : DefV := ⟨pM "Form" "__sub__", "__sub__", "Form.__sub__", defArgs (sub 14 2), defBody (sub 14 2), defScope (sub 14 2), []⟩
def r_Form_xnegx : DefV := ⟨pM "Form" "__neg__", "__neg__", "Form.__neg__", defArgs (sub 14 3), defBody (sub 14 3), defScope (sub 14 3), []⟩
def r_Form_xmulx : DefV := ⟨pM "Form" "__mul__", "__mul__", "Form.__mul__", defArgs (sub 14 4), defBody (sub 14 4), defScope (sub 14 4), []⟩
def r_Form_xgetitemx : DefV := ⟨pM "Form" "__getitem__", "__getitem__", "Form.__getitem__", defArgs (sub 14 5), defBody (sub 14 5), defScope (sub 14 5), []⟩
def r_Form_xiterx : DefV := ⟨pM "Form" "__iter__", "__iter__", "Form.__iter__", defArgs (sub 14 6), defBody (sub 14 6), defScope (sub 14 6), []⟩
def r_Form_xlenx : DefV := ⟨pM "Form" "__len__", "__len__", "Form.__len__", defArgs (sub 14 7), defBody (sub 14 7), defScope (sub 14 7), []⟩
def r_Form_xeqx : DefV := ⟨pM "Form" "__eq__", "__eq__", "Form.__eq__", defArgs (sub 14 8), defBody (sub 14 8), defScope (sub 14 8), []⟩
def r_Form_at : DefV := ⟨pM "Form" "at", "at", "Form.at", defArgs (sub 14 9), defBody (sub 14 9), defScope (sub 14 9), []⟩
def r__law_bag : DefV := ⟨pG "_law_bag", "_law_bag", "_law_bag", defArgs (top 16), defBody (top 16), defScope (top 16), []⟩
def r__law_mixed : DefV := ⟨pG "_law_mixed", "_law_mixed", "_law_mixed", defArgs (top 17), defBody (top 17), defScope (top 17), []⟩
def r__law_draw : DefV := ⟨pG "_law_draw", "_law_draw", "_law_draw", defArgs (top 18), defBody (top 18), defScope (top 18), []⟩
def r__law_pick : DefV := ⟨pG "_law_pick", "_law_pick", "_law_pick", defArgs (top 19), defBody (top 19), defScope (top 19), []⟩
def r__law_name : DefV := ⟨pG "_law_name", "_law_name", "_law_name", defArgs (top 20), defBody (top 20), defScope (top 20), []⟩
def r__law_names : DefV := ⟨pG "_law_names", "_law_names", "_law_names", defArgs (top 21), defBody (top 21), defScope (top 21), []⟩
def r__law_is_int : DefV := ⟨pG "_law_is_int", "_law_is_int", "_law_is_int", defArgs (top 22), defBody (top 22), defScope (top 22), []⟩
def r__law_divisor : DefV := ⟨pG "_law_divisor", "_law_divisor", "_law_divisor", defArgs (top 23), defBody (top 23), defScope (top 23), []⟩
def r__law_low : DefV := ⟨pG "_law_low", "_law_low", "_law_low", defArgs (top 24), defBody (top 24), defScope (top 24), []⟩
def r__law_plus : DefV := ⟨pG "_law_plus", "_law_plus", "_law_plus", defArgs (top 25), defBody (top 25), defScope (top 25), []⟩
def r__law_times : DefV := ⟨pG "_law_times", "_law_times", "_law_times", defArgs (top 26), defBody (top 26), defScope (top 26), []⟩
def r__law_fraction : DefV := ⟨pG "_law_fraction", "_law_fraction", "_law_fraction", defArgs (top 27), defBody (top 27), defScope (top 27), []⟩
def r__law_p1_unknowns : DefV := ⟨pG "_law_p1_unknowns", "_law_p1_unknowns", "_law_p1_unknowns", defArgs (top 28), defBody (top 28), defScope (top 28), []⟩
def r__law_p1_worth : DefV := ⟨pG "_law_p1_worth", "_law_p1_worth", "_law_p1_worth", defArgs (top 29), defBody (top 29), defScope (top 29), []⟩
def r__law_p1_pairs : DefV := ⟨pG "_law_p1_pairs", "_law_p1_pairs", "_law_p1_pairs", defArgs (top 30), defBody (top 30), defScope (top 30), []⟩
def r__law_p1_multiplied : DefV := ⟨pG "_law_p1_multiplied", "_law_p1_multiplied", "_law_p1_multiplied", defArgs (top 31), defBody (top 31), defScope (top 31), []⟩
def r__law_p1_due : DefV := ⟨pG "_law_p1_due", "_law_p1_due", "_law_p1_due", defArgs (top 32), defBody (top 32), defScope (top 32), []⟩
def r__law_p1_at : DefV := ⟨pG "_law_p1_at", "_law_p1_at", "_law_p1_at", defArgs (top 33), defBody (top 33), defScope (top 33), []⟩
def r__law_p1_point : DefV := ⟨pG "_law_p1_point", "_law_p1_point", "_law_p1_point", defArgs (top 34), defBody (top 34), defScope (top 34), []⟩
def r__law_p1_value : DefV := ⟨pG "_law_p1_value", "_law_p1_value", "_law_p1_value", defArgs (top 35), defBody (top 35), defScope (top 35), []⟩
def r__law_p1_same : DefV := ⟨pG "_law_p1_same", "_law_p1_same", "_law_p1_same", defArgs (top 36), defBody (top 36), defScope (top 36), []⟩
def r__law_p1_is : DefV := ⟨pG "_law_p1_is", "_law_p1_is", "_law_p1_is", defArgs (top 37), defBody (top 37), defScope (top 37), []⟩
def r_law : DefV := ⟨pG "law", "law", "law", defArgs (top 38), defBody (top 38), defScope (top 38), []⟩
def fn : List DefV := [r_is_whole, r_lowest, r_plus, r_times, r_is_fraction, r_gathered, r_multiplied, r_value_at, r_Form_xinitx, r_Form_xaddx, r_Form_xsubx, r_Form_xnegx, r_Form_xmulx, r_Form_xgetitemx, r_Form_xiterx, r_Form_xlenx, r_Form_xeqx, r_Form_at, r__law_bag, r__law_mixed, r__law_draw, r__law_pick, r__law_name, r__law_names, r__law_is_int, r__law_divisor, r__law_low, r__law_plus, r__law_times, r__law_fraction, r__law_p1_unknowns, r__law_p1_worth, r__law_p1_pairs, r__law_p1_multiplied, r__law_p1_due, r__law_p1_at, r__law_p1_point, r__law_p1_value, r__law_p1_same, r__law_p1_is, r_law]
def ck : List (PySem.W.Frag → Bool) := [PDx.ok,
  (He.Fa.glo "Form").ok,
  (He.Fa.glo "MINUS_ONE").ok,
  (He.Fa.glo "ZERO").ok,
  (He.Fa.glo "_law_bag").ok,
  (He.Fa.glo "_law_divisor").ok,
  (He.Fa.glo "_law_draw").ok,
  (He.Fa.glo "_law_fraction").ok,
  (He.Fa.glo "_law_is_int").ok,
  (He.Fa.glo "_law_low").ok,
  (He.Fa.glo "_law_mixed").ok,
  (He.Fa.glo "_law_name").ok,
  (He.Fa.glo "_law_names").ok,
  (He.Fa.glo "_law_p1_at").ok,
  (He.Fa.glo "_law_p1_due").ok,
  (He.Fa.glo "_law_p1_is").ok,
  (He.Fa.glo "_law_p1_multiplied").ok,
  (He.Fa.glo "_law_p1_pairs").ok,
  (He.Fa.glo "_law_p1_point").ok,
  (He.Fa.glo "_law_p1_same").ok,
  (He.Fa.glo "_law_p1_unknowns").ok,
  (He.Fa.glo "_law_p1_value").ok,
  (He.Fa.glo "_law_p1_worth").ok,
  (He.Fa.glo "_law_pick").ok,
  (He.Fa.glo "_law_plus").ok,
  (He.Fa.glo "_law_times").ok,
  (He.Fa.glo "gathered").ok,
  (He.Fa.glo "is_fraction").ok,
  (He.Fa.glo "is_whole").ok,
  (He.Fa.glo "law").ok,
  (He.Fa.glo "lowest").ok,
  (He.Fa.glo "multiplied").ok,
  (He.Fa.glo "plus").ok,
  (He.Fa.glo "times").ok,
  (He.Fa.glo "value_at").ok,
  (He.Fa.free "abs").ok,
  (He.Fa.free "bool").ok,
  (He.Fa.free "dict").ok,
  (He.Fa.free "int").ok,
  (He.Fa.free "isinstance").ok,
  (He.Fa.free "iter").ok,
  (He.Fa.free "len").ok,
  (He.Fa.free "list").ok,
  (He.Fa.free "max").ok,
  (He.Fa.free "range").ok,
  (He.Fa.free "sorted").ok,
  (He.Fa.free "str").ok,
  (He.Fa.free "sum").ok,
  (He.Fa.free "tuple").ok,
  (He.Fa.free "zip").ok,
  kGlobB "gcd" "gcd" "math.gcd",
  fun K => tupAt0 K (He.dflAt ("Form", some "__init__") 0 K),
  fun K => He.tupB K "ZERO" [(.int 0), (.int 1)],
  fun K => He.tupB K "MINUS_ONE" [(.int (-1)), (.int 1)],
  (He.Fa.mkr "Form").ok,
  (He.Fa.meth "Form" "__add__").ok,
  (He.Fa.meth "Form" "__sub__").ok,
  (He.Fa.meth "Form" "__neg__").ok,
  (He.Fa.meth "Form" "__mul__").ok,
  (He.Fa.meth "Form" "__getitem__").ok,
  (He.Fa.meth "Form" "__iter__").ok,
  (He.Fa.meth "Form" "__len__").ok,
  (He.Fa.meth "Form" "__eq__").ok,
  (He.Fa.meth "Form" "at").ok,
  fun K => eqv (PySem.W.findIn K (.ref (He.ga K "Form")) "__ne__") (some (some (.builtin "object.__ne__")))]
section
variable {P : Program} {w : World} {K : PySem.W.Frag} {mg : Str → Option Value} {base : Heap}
abbrev Gn (K : PySem.W.Frag) (mg : Str → Option Value) (base : Heap) : Prop := Gnd PDx ck fn K mg base
theorem gl_Form (Z : Gn K mg base) : mg "Form" = some (.ref (He.ga K "Form")) := He.glo_ok Z.X Z.G (Z.S.fact 1)
theorem gl_MINUS_ONE (Z : Gn K mg base) : mg "MINUS_ONE" = some (.ref (He.ga K "MINUS_ONE")) := He.glo_ok Z.X Z.G (Z.S.fact 2)
theorem gl_ZERO (Z : Gn K mg base) : mg "ZERO" = some (.ref (He.ga K "ZERO")) := He.glo_ok Z.X Z.G (Z.S.fact 3)
theorem gl__law_bag (Z : Gn K mg base) : mg "_law_bag" = some (.ref (He.ga K "_law_bag")) := He.glo_ok Z.X Z.G (Z.S.fact 4)
theorem gl__law_divisor (Z : Gn K mg base) : mg "_law_divisor" = some (.ref (He.ga K "_law_divisor")) := He.glo_ok Z.X Z.G (Z.S.fact 5)
theorem gl__law_draw (Z : Gn K mg base) : mg "_law_draw" = some (.ref (He.ga K "_law_draw")) := He.glo_ok Z.X Z.G (Z.S.fact 6)
theorem gl__law_fraction (Z : Gn K mg base) : mg "_law_fraction" = some (.ref (He.ga K "_law_fraction")) := He.glo_ok Z.X Z.G (Z.S.fact 7)
theorem gl__law_is_int (Z : Gn K mg base) : mg "_law_is_int" = some (.ref (He.ga K "_law_is_int")) := He.glo_ok Z.X Z.G (Z.S.fact 8)
theorem gl__law_low (Z : Gn K mg base) : mg "_law_low" = some (.ref (He.ga K "_law_low")) := He.glo_ok Z.X Z.G (Z.S.fact 9)
theorem gl__law_mixed (Z : Gn K mg base) : mg "_law_mixed" = some (.ref (He.ga K "_law_mixed")) := He.glo_ok Z.X Z.G (Z.S.fact 10)
theorem gl__law_name (Z : Gn K mg base) : mg "_law_name" = some (.ref (He.ga K "_law_name")) := He.glo_ok Z.X Z.G (Z.S.fact 11)
theorem gl__law_names (Z : Gn K mg base) : mg "_law_names" = some (.ref (He.ga K "_law_names")) := He.glo_ok Z.X Z.G (Z.S.fact 12)
theorem gl__law_p1_at (Z : Gn K mg base) : mg "_law_p1_at" = some (.ref (He.ga K "_law_p1_at")) := He.glo_ok Z.X Z.G (Z.S.fact 13)
theorem gl__law_p1_due (Z : Gn K mg base) : mg "_law_p1_due" = some (.ref (He.ga K "_law_p1_due")) := He.glo_ok Z.X Z.G (Z.S.fact 14)
theorem gl__law_p1_is (Z : Gn K mg base) : mg "_law_p1_is" = some (.ref (He.ga K "_law_p1_is")) := He.glo_ok Z.X Z.G (Z.S.fact 15)
theorem gl__law_p1_multiplied (Z : Gn K mg base) : mg "_law_p1_multiplied" = some (.ref (He.ga K "_law_p1_multiplied")) := He.glo_ok Z.X Z.G (Z.S.fact 16)
theorem gl__law_p1_pairs (Z : Gn K mg base) : mg "_law_p1_pairs" = some (.ref (He.ga K "_law_p1_pairs")) := He.glo_ok Z.X Z.G (Z.S.fact 17)
theorem gl__law_p1_point (Z : Gn K mg base) : mg "_law_p1_point" = some (.ref (He.ga K "_law_p1_point")) := He.glo_ok Z.X Z.G (Z.S.fact 18)
theorem gl__law_p1_same (Z : Gn K mg base) : mg "_law_p1_same" = some (.ref (He.ga K "_law_p1_same")) := He.glo_ok Z.X Z.G (Z.S.fact 19)
theorem gl__law_p1_unknowns (Z : Gn K mg base) : mg "_law_p1_unknowns" = some (.ref (He.ga K "_law_p1_unknowns")) := He.glo_ok Z.X Z.G (Z.S.fact 20)
theorem gl__law_p1_value (Z : Gn K mg base) : mg "_law_p1_value" = some (.ref (He.ga K "_law_p1_value")) := He.glo_ok Z.X Z.G (Z.S.fact 21)
theorem gl__law_p1_worth (Z : Gn K mg base) : mg "_law_p1_worth" = some (.ref (He.ga K "_law_p1_worth")) := He.glo_ok Z.X Z.G (Z.S.fact 22)
theorem gl__law_pick (Z : Gn K mg base) : mg "_law_pick" = some (.ref (He.ga K "_law_pick")) := He.glo_ok Z.X Z.G (Z.S.fact 23)
theorem gl__law_plus (Z : Gn K mg base) : mg "_law_plus" = some (.ref (He.ga K "_law_plus")) := He.glo_ok Z.X Z.G (Z.S.fact 24)
theorem gl__law_times (Z : Gn K mg base) : mg "_law_times" = some (.ref (He.ga K "_law_times")) := He.glo_ok Z.X Z.G (Z.S.fact 25)
theorem gl_gathered (Z : Gn K mg base) : mg "gathered" = some (.ref (He.ga K "gathered")) := He.glo_ok Z.X Z.G (Z.S.fact 26)
theorem gl_is_fraction (Z : Gn K mg base) : mg "is_fraction" = some (.ref (He.ga K "is_fraction")) := He.glo_ok Z.X Z.G (Z.S.fact 27)
theorem gl_is_whole (Z : Gn K mg base) : mg "is_whole" = some (.ref (He.ga K "is_whole")) := He.glo_ok Z.X Z.G (Z.S.fact 28)
theorem gl_law (Z : Gn K mg base) : mg "law" = some (.ref (He.ga K "law")) := He.glo_ok Z.X Z.G (Z.S.fact 29)
theorem gl_lowest (Z : Gn K mg base) : mg "lowest" = some (.ref (He.ga K "lowest")) := He.glo_ok Z.X Z.G (Z.S.fact 30)
theorem gl_multiplied (Z : Gn K mg base) : mg "multiplied" = some (.ref (He.ga K "multiplied")) := He.glo_ok Z.X Z.G (Z.S.fact 31)
theorem gl_plus (Z : Gn K mg base) : mg "plus" = some (.ref (He.ga K "plus")) := He.glo_ok Z.X Z.G (Z.S.fact 32)
theorem gl_times (Z : Gn K mg base) : mg "times" = some (.ref (He.ga K "times")) := He.glo_ok Z.X Z.G (Z.S.fact 33)
theorem gl_value_at (Z : Gn K mg base) : mg "value_at" = some (.ref (He.ga K "value_at")) := He.glo_ok Z.X Z.G (Z.S.fact 34)
theorem fr_abs (Z : Gn K mg base) : mg "abs" = none := He.free_ok Z.X Z.G (Z.S.fact 35)
theorem fr_bool (Z : Gn K mg base) : mg "bool" = none := He.free_ok Z.X Z.G (Z.S.fact 36)
theorem fr_dict (Z : Gn K mg base) : mg "dict" = none := He.free_ok Z.X Z.G (Z.S.fact 37)
theorem fr_int (Z : Gn K mg base) : mg "int" = none := He.free_ok Z.X Z.G (Z.S.fact 38)
theorem fr_isinstance (Z : Gn K mg base) : mg "isinstance" = none := He.free_ok Z.X Z.G (Z.S.fact 39)
theorem fr_iter (Z : Gn K mg base) : mg "iter" = none := He.free_ok Z.X Z.G (Z.S.fact 40)
theorem fr_len (Z : Gn K mg base) : mg "len" = none := He.free_ok Z.X Z.G (Z.S.fact 41)
theorem fr_list (Z : Gn K mg base) : mg "list" = none := He.free_ok Z.X Z.G (Z.S.fact 42)
theorem fr_max (Z : Gn K mg base) : mg "max" = none := He.free_ok Z.X Z.G (Z.S.fact 43)
theorem fr_range (Z : Gn K mg base) : mg "range" = none := He.free_ok Z.X Z.G (Z.S.fact 44)
theorem fr_sorted (Z : Gn K mg base) : mg "sorted" = none := He.free_ok Z.X Z.G (Z.S.fact 45)
theorem fr_str (Z : Gn K mg base) : mg "str" = none := He.free_ok Z.X Z.G (Z.S.fact 46)
theorem fr_sum (Z : Gn K mg base) : mg "sum" = none := He.free_ok Z.X Z.G (Z.S.fact 47)
theorem fr_tuple (Z : Gn K mg base) : mg "tuple" = none := He.free_ok Z.X Z.G (Z.S.fact 48)
theorem fr_zip (Z : Gn K mg base) : mg "zip" = none := He.free_ok Z.X Z.G (Z.S.fact 49)
theorem gb_gcd (Z : Gn K mg base) : mg "gcd" = some (.builtin "math.gcd") := PySem.W.mg_of Z.X Z.G (eqv_ok (Z.S.fact 50))
end
section
variable {X : Cx}
theorem gd_Form (Z : Gn X.K X.mg X.base) : GlobD X (PDx.gi X.K) "Form" (.cls 0) := ⟨.ref (He.ga X.K "Form"), _, gl_Form Z, rfl, fun _ _ => rfl⟩
theorem gd_ZERO (Z : Gn X.K X.mg X.base) : GlobD X (PDx.gi X.K) "ZERO" d_ZERO := ⟨.ref (He.ga X.K "ZERO"), _, gl_ZERO Z, rfl, fun F al => ⟨_, _, rfl, .inr ⟨rfl, He.tupB_ok (Z.S.fact 52) F⟩, ⟨_, _, rfl, rfl, ⟨_, _, rfl, rfl, rfl⟩⟩⟩⟩
theorem gd_MINUS_ONE (Z : Gn X.K X.mg X.base) : GlobD X (PDx.gi X.K) "MINUS_ONE" d_MINUS_ONE := ⟨.ref (He.ga X.K "MINUS_ONE"), _, gl_MINUS_ONE Z, rfl, fun F al => ⟨_, _, rfl, .inr ⟨rfl, He.tupB_ok (Z.S.fact 53) F⟩, ⟨_, _, rfl, rfl, ⟨_, _, rfl, rfl, rfl⟩⟩⟩⟩
end
def m_is_whole : MS := (mRet (mAnd (m1 (fIsi g0 (.bt "int")) (mVar 0)) (mNot (m1 (fIsi g0 (.bt "bool")) (mVar 0)))))
def F_is_whole : Fn := fnOf 1 1 m_is_whole
def m_lowest : MS := (mSeq (mSet 2 (mA1 fGcd (maCons (mVar 0) (maCons (mVar 1) maNil)))) (mSeq (mIfS (asB (m2 fLt (mVar 1) (mC (.int 0)))) (mSet 2 (m1 fNeg (mVar 2))) mSkip) (mRet (mA1 fTup (maCons (m2 fDiv (mVar 0) (mVar 2)) (maCons (m2 fDiv (mVar 1) (mVar 2)) maNil))))))
def F_lowest : Fn := fnOf 3 2 m_lowest
def m_plus : MS := (mSeq (mIfS (asB (m2 (fEq false) (m2 fIx (mVar 0) (mC (.int 1))) (m2 fIx (mVar 1) (mC (.int 1))))) (mRet (mA1 (fCallN 2 F_lowest []) (maCons (m2 (fAdd false) (m2 fIx (mVar 0) (mC (.int 0))) (m2 fIx (mVar 1) (mC (.int 0)))) (maCons (m2 fIx (mVar 0) (mC (.int 1))) maNil)))) mSkip) (mRet (mA1 (fCallN 2 F_lowest []) (maCons (m2 (fAdd false) (m2 fMul (m2 fIx (mVar 0) (mC (.int 0))) (m2 fIx (mVar 1) (mC (.int 1)))) (m2 fMul (m2 fIx (mVar 1) (mC (.int 0))) (m2 fIx (mVar 0) (mC (.int 1))))) (maCons (m2 fMul (m2 fIx (mVar 0) (mC (.int 1))) (m2 fIx (mVar 1) (mC (.int 1)))) maNil)))))
def F_plus : Fn := fnOf 2 2 m_plus
def m_times : MS := (mRet (mA1 (fCallN 2 F_lowest []) (maCons (m2 fMul (m2 fIx (mVar 0) (mC (.int 0))) (m2 fIx (mVar 1) (mC (.int 0)))) (maCons (m2 fMul (m2 fIx (mVar 0) (mC (.int 1))) (m2 fIx (mVar 1) (mC (.int 1)))) maNil))))
def F_times : Fn := fnOf 2 2 m_times
def m_is_fraction : MS := (mSeq (mIfS (tOrM (tNotM (asB (m1 (fIsi g0 (.bt "tuple")) (mVar 0)))) (asB (m2 (fEq true) (mA1 fLen (maCons (mVar 0) maNil)) (mC (.int 2))))) (mRet (mC (.bl false))) mSkip) (mSeq (mUnp (gtT 2 (gtCons (gtN 1) (gtCons (gtN 2) gtNil))) (mVar 0)) (mRet (mAnd (mA1 (fCallN 1 F_is_whole []) (maCons (mVar 1) maNil)) (mAnd (mA1 (fCallN 1 F_is_whole []) (maCons (mVar 2) maNil)) (mAnd (m2 fGe (mVar 2) (mC (.int 1))) (m2 (fEq false) (mA1 fGcd (maCons (mVar 1) (maCons (mVar 2) maNil))) (mC (.int 1)))))))))
def F_is_fraction : Fn := fnOf 3 1 m_is_fraction
def m_gathered : MS := (mCut (mSeq (mSet 1 mNewT) (mSeq (mFor (gtT 2 (gtCons (gtN 2) (gtCons (gtN 3) gtNil))) (mVar 0) (mDPut g0.kc (mA1 (fCallN 2 F_plus []) (maCons (mDGet2 g0.kc (mVar 1) (mVar 2) (mC d_ZERO)) (maCons (mVar 3) maNil))) (mVar 1) (mVar 2))) (mRet (mA1 fTuple (maCons (mComp false [2] (gtN 2) (asB (m2 (fEq true) (m2 (fIxD g0.kc) (mVar 1) (mVar 2)) (mC d_ZERO))) (mA1 fTup (maCons (mVar 2) (maCons (m2 (fIxD g0.kc) (mVar 1) (mVar 2)) maNil))) (mA1 (fSortedD g0.kc false) (maCons (mVar 1) maNil))) maNil))))))
def F_gathered : Fn := fnOf 4 1 m_gathered
def m_multiplied : MS := (mSeq (mIfS (asB (m2 (fEq false) (mVar 1) (mC d_ZERO))) (mRet (mA1 fTup maNil)) mSkip) (mRet (mA1 fTuple (maCons (mComp false [2, 3] (gtT 2 (gtCons (gtN 2) (gtCons (gtN 3) gtNil))) mYes (mA1 fTup (maCons (mVar 2) (maCons (mA1 (fCallN 2 F_times []) (maCons (mVar 3) (maCons (mVar 1) maNil))) maNil))) (mVar 0)) maNil))))
def F_multiplied : Fn := fnOf 4 2 m_multiplied
def m_value_at : MS := (mSeq (mSet 2 (mC d_ZERO)) (mSeq (mFor (gtT 2 (gtCons (gtN 3) (gtCons (gtN 4) gtNil))) (mVar 0) (mSet 2 (mA1 (fCallN 2 F_plus []) (maCons (mVar 2) (maCons (mA1 (fCallN 2 F_times []) (maCons (mVar 4) (maCons (mDGet2 g0.kc (mVar 1) (mVar 3) (mC d_ZERO)) maNil))) maNil))))) (mRet (mVar 2))))
def F_value_at : Fn := fnOf 5 2 m_value_at
def m_Form_xinitx : MS := (mSeq (mSetFld g0 0 "parts" (mA1 (fCallN 1 F_gathered []) (maCons (mVar 1) maNil))) (mSetFld g0 0 "names" (mA1 fTuple (maCons (mComp false [2, 3] (gtT 2 (gtCons (gtN 2) (gtCons (gtN 3) gtNil))) mYes (mVar 2) (m1 (fFld g0 "parts") (mVar 0))) maNil))))
def FI_Form_xinitx : FnI := initOf 3 1 0 m_Form_xinitx
def m_Form_xaddx : MS := (mSeq (mIfS (tNotM (asB (m1 (fIsi g0 (.own 0)) (mVar 1)))) mNever mSkip) (mRet (mA1 (fMake 0 1 FI_Form_xinitx []) (maCons (m2 (fAdd false) (m1 (fFld g0 "parts") (mVar 0)) (m1 (fFld g0 "parts") (mVar 1))) maNil))))
def F_Form_xaddx : Fn := fnOf 2 2 m_Form_xaddx
def T_add : Tbl := fun c => if c = 0 then some F_Form_xaddx else none
def m_Form_xsubx : MS := (mSeq (mIfS (tNotM (asB (m1 (fIsi g0 (.own 0)) (mVar 1)))) mNever mSkip) (mRet (mA1 (fMake 0 1 FI_Form_xinitx []) (maCons (m2 (fAdd false) (m1 (fFld g0 "parts") (mVar 0)) (mA1 (fCallN 2 F_multiplied []) (maCons (m1 (fFld g0 "parts") (mVar 1)) (maCons (mC d_MINUS_ONE) maNil)))) maNil))))
def F_Form_xsubx : Fn := fnOf 2 2 m_Form_xsubx
def T_sub : Tbl := fun c => if c = 0 then some F_Form_xsubx else none
def m_Form_xnegx : MS := (mRet (mA1 (fMake 0 1 FI_Form_xinitx []) (maCons (mA1 (fCallN 2 F_multiplied []) (maCons (m1 (fFld g0 "parts") (mVar 0)) (maCons (mC d_MINUS_ONE) maNil))) maNil)))
def F_Form_xnegx : Fn := fnOf 1 1 m_Form_xnegx
def T_neg : Tbl := fun c => if c = 0 then some F_Form_xnegx else none
def m_Form_xmulx : MS := (mSeq (mIfS (tNotM (asB (mA1 (fCallN 1 F_is_fraction []) (maCons (mVar 1) maNil)))) mNever mSkip) (mRet (mA1 (fMake 0 1 FI_Form_xinitx []) (maCons (mA1 (fCallN 2 F_multiplied []) (maCons (m1 (fFld g0 "parts") (mVar 0)) (maCons (mVar 1) maNil))) maNil))))
def F_Form_xmulx : Fn := fnOf 2 2 m_Form_xmulx
def T_mul : Tbl := fun c => if c = 0 then some F_Form_xmulx else none
def m_Form_xgetitemx : MS := (mSeq (mFor (gtT 2 (gtCons (gtN 2) (gtCons (gtN 3) gtNil))) (m1 (fFld g0 "parts") (mVar 0)) (mIfS (asB (m2 (fEq false) (mVar 2) (mVar 1))) (mRet (mVar 3)) mSkip)) (mRet (mC d_ZERO)))
def F_Form_xgetitemx : Fn := fnOf 4 2 m_Form_xgetitemx
def T_getitem : Tbl := fun c => if c = 0 then some F_Form_xgetitemx else none
def m_Form_xiterx : ME := (m1 (fFld g0 "names") (mVar 0))
def TI_iter : TblI := fun c => if c = 0 then some m_Form_xiterx else none
def m_Form_xlenx : MS := (mRet (mA1 fLen (maCons (m1 (fFld g0 "parts") (mVar 0)) maNil)))
def F_Form_xlenx : Fn := fnOf 1 1 m_Form_xlenx
def T_len : Tbl := fun c => if c = 0 then some F_Form_xlenx else none
def m_Form_xeqx : MS := (mRet (mAnd (m1 (fIsi g0 (.own 0)) (mVar 1)) (m2 (fEq false) (m1 (fFld g0 "parts") (mVar 0)) (m1 (fFld g0 "parts") (mVar 1)))))
def F_Form_xeqx : Fn := fnOf 2 2 m_Form_xeqx
def T_eq : Tbl := fun c => if c = 0 then some F_Form_xeqx else none
def m_Form_at : MS := (mRet (mA1 (fCallN 2 F_value_at []) (maCons (m1 (fFld g0 "parts") (mVar 0)) (maCons (mA1 (fDictX g0.kc) (maCons (mVar 1) maNil)) maNil))))
def F_Form_at : Fn := fnOf 2 2 m_Form_at
def m__law_bag : MS := (mRetC (mA1 (fLst true) (maCons (mA1 (fList false) (maCons (mVar 0) maNil)) (maCons (mC (.int 0)) (maCons (mC (.int 0)) (maCons (m2 fMod (mA1 fIntOf (maCons (mA1 fSum (maCons (mVar 0) maNil)) maNil)) (mC (.int 1000003))) (maCons (mC (.int 0)) (maCons (mC (.int 0)) maNil))))))))
def F__law_bag : Fn := fnOf 1 1 m__law_bag
def m__law_mixed : MS := (mSeq (mSet 2 (m2 fMod (mA1 fIntOf (maCons (m2 (fAdd false) (m2 fMul (m2 (fAdd false) (mVar 0) (mC (.int 1))) (mC (.int 48271))) (m2 fMul (m2 (fAdd false) (mVar 1) (mC (.int 1))) (mC (.int 69621)))) maNil)) (mC (.int 2147483647)))) (mRet (m2 fDiv (m2 fMod (mA1 fIntOf (maCons (m2 (fAdd false) (m2 (fAdd false) (m2 fMul (mVar 2) (mVar 2)) (m2 fMul (mVar 2) (mC (.int 16807)))) (m2 fMul (mC (.int 7)) (mVar 1))) maNil)) (mC (.int 2147483629))) (mC (.int 7)))))
def F__law_mixed : Fn := fnOf 3 2 m__law_mixed
def m__law_draw : MS := (mSeq (mIfS (asB (m2 fLt (mVar 1) (mC (.int 2)))) (mRet (mC (.int 0))) mSkip) (mSeq (mSetIx (m2 (fAdd false) (m2 fIx (mVar 0) (mC (.int 5))) (mC (.int 1))) (mVar 0) (mC (.int 5))) (mSeq (mIfS (tAndM (asB (m2 (fEq false) (m2 fIx (mVar 0) (mC (.int 2))) (mC (.int 0)))) (tAndM (asB (m2 (fEq false) (m2 fIx (mVar 0) (mC (.int 4))) (mC (.int 0)))) (asB (m2 fLt (m2 fIx (mVar 0) (mC (.int 1))) (mA1 fLen (maCons (m2 fIx (mVar 0) (mC (.int 0))) maNil)))))) (mSeq (mSet 2 (m2 fIx (m2 fIx (mVar 0) (mC (.int 0))) (m2 fIx (mVar 0) (mC (.int 1))))) (mSeq (mSetIx (m2 (fAdd false) (m2 fIx (mVar 0) (mC (.int 1))) (mC (.int 1))) (mVar 0) (mC (.int 1))) (mIfS (asB (m2 fGe (mA1 fAbs (maCons (mVar 2) maNil)) (m2 fPow (mC (.int 10)) (mC (.int 18))))) (mSetIx (mA1 fAbs (maCons (mVar 2) maNil)) (mVar 0) (mC (.int 2))) (mSeq (mSetIx (m2 (fAdd false) (m2 fMul (mC (.int 2)) (mA1 fAbs (maCons (mVar 2) maNil))) (mA1 fIntOf (maCons (m2 fLt (mVar 2) (mC (.int 0))) maNil))) (mVar 0) (mC (.int 3))) (mSetIx (mC (.int 15)) (mVar 0) (mC (.int 4))))))) mSkip) (mSeq (mIfS (asB (m2 fGt (m2 fIx (mVar 0) (mC (.int 2))) (mC (.int 0)))) (mSeq (mSet 3 (m2 fMod (mA1 fIntOf (maCons (m2 fIx (mVar 0) (mC (.int 2))) maNil)) (mVar 1))) (mSeq (mSetIx (m2 fDiv (m2 fIx (mVar 0) (mC (.int 2))) (mVar 1)) (mVar 0) (mC (.int 2))) (mRet (mVar 3)))) mSkip) (mSeq (mIfS (asB (m2 fGt (m2 fIx (mVar 0) (mC (.int 4))) (mC (.int 0)))) (mSetIx (m2 fSub (m2 fIx (mVar 0) (mC (.int 4))) (mC (.int 1))) (mVar 0) (mC (.int 4))) mSkip) (mRet (m2 fMod (mA1 fIntOf (maCons (mA1 (fCallN 2 F__law_mixed []) (maCons (m2 fIx (mVar 0) (mC (.int 3))) (maCons (m2 fIx (mVar 0) (mC (.int 5))) maNil))) maNil)) (mVar 1))))))))
def F__law_draw : Fn := fnOf 4 2 m__law_draw
def m__law_pick : MS := (mRet (m2 fIx (mVar 1) (mA1 (fCallN 2 F__law_draw []) (maCons (mVar 0) (maCons (mA1 fLen (maCons (mVar 1) maNil)) maNil)))))
def F__law_pick : Fn := fnOf 2 2 m__law_pick
def m__law_name : MS := (mSeq (mSet 2 (mC (.str "abcdefghijklmnopqrstuvwxyz0123456789"))) (mSeq (mSet 3 (m2 fIx (mVar 2) (mA1 (fCallN 2 F__law_draw []) (maCons (mVar 0) (maCons (mC (.int 26)) maNil))))) (mSeq (mForR (gtN 4) (maCons (m2 fIx (mA1 (fLst false) (maCons (mC (.int 0)) (maCons (mC (.int 1)) (maCons (mC (.int 2)) (maCons (mC (.int 7)) maNil))))) (mA1 (fCallN 2 F__law_draw []) (maCons (mVar 0) (maCons (mC (.int 4)) maNil)))) maNil) (mSet 3 (m2 (fAdd false) (mVar 3) (m2 fIx (mVar 2) (mA1 (fCallN 2 F__law_draw []) (maCons (mVar 0) (maCons (mC (.int 36)) maNil))))))) (mSeq (mSet 5 (mC (.str " and or not free untouched least most of since until single recipe take move drain wash pack "))) (mSeq (mIfS (tAndM (asB (m2 (fIn true) (mVar 3) (mVar 1))) (asB (m2 (fIn true) (m2 (fAdd false) (m2 (fAdd false) (mC (.str " ")) (mVar 3)) (mC (.str " "))) (m2 (fAdd false) (mVar 5) (mC (.str "repeat when else end done yes no none ")))))) (mRet (mVar 3)) mSkip) (mRet (m2 fIx (mComp false [6] (gtN 6) (asB (m2 (fIn true) (mVar 6) (mVar 1))) (mVar 6) (mCompR false [4] (gtN 4) mYes (m2 (fAdd false) (mC (.str "q")) (mA1 fStrOf (maCons (mVar 4) maNil))) (maCons (m2 (fAdd false) (mA1 fLen (maCons (mVar 1) maNil)) (mC (.int 1))) maNil))) (mC (.int 0)))))))))
def F__law_name : Fn := fnOf 7 2 m__law_name
def m__law_names : MS := (mSeq (mSet 3 (mA1 (fLst true) maNil)) (mSeq (mForR (gtN 4) (maCons (mVar 1) maNil) (mAppend 3 (mA1 (fCallN 2 F__law_name []) (maCons (mVar 0) (maCons (m2 (fAdd false) (mVar 2) (mVar 3)) maNil))))) (mFrz 3 (mRet (mVar 3)))))
def F__law_names : Fn := fnOf 5 3 m__law_names
def m__law_is_int : MS := (mRet (mAnd (m1 (fIsi g0 (.bt "int")) (mVar 0)) (mNot (m1 (fIsi g0 (.bt "bool")) (mVar 0)))))
def F__law_is_int : Fn := fnOf 1 1 m__law_is_int
def m__law_divisor : MS := (mSeq (mSet 0 (mA1 fAbs (maCons (mVar 0) maNil))) (mSeq (mSet 1 (mA1 fAbs (maCons (mVar 1) maNil))) (mSeq (mWhile 20000 (asB (m2 fGt (mVar 1) (mC (.int 0)))) (mSeq (mSet 2 (m2 fMod (mA1 fIntOf (maCons (mVar 0) maNil)) (mVar 1))) (mSeq (mSet 0 (mVar 1)) (mSet 1 (mVar 2))))) (mRet (mVar 0)))))
def F__law_divisor : Fn := fnOf 3 2 m__law_divisor
def m__law_low : MS := (mSeq (mIfS (asB (m2 fLt (mVar 1) (mC (.int 0)))) (mSeq (mSet 0 (m1 fNeg (mVar 0))) (mSet 1 (m1 fNeg (mVar 1)))) mSkip) (mSeq (mSet 2 (mA1 fMax2 (maCons (mC (.int 1)) (maCons (mA1 (fCallN 2 F__law_divisor []) (maCons (mVar 0) (maCons (mVar 1) maNil))) maNil)))) (mRet (mA1 fTup (maCons (m2 fDiv (mVar 0) (mVar 2)) (maCons (m2 fDiv (mVar 1) (mVar 2)) maNil))))))
def F__law_low : Fn := fnOf 3 2 m__law_low
def m__law_plus : MS := (mRet (mA1 (fCallN 2 F__law_low []) (maCons (m2 (fAdd false) (m2 fMul (m2 fIx (mVar 0) (mC (.int 0))) (m2 fIx (mVar 1) (mC (.int 1)))) (m2 fMul (m2 fIx (mVar 1) (mC (.int 0))) (m2 fIx (mVar 0) (mC (.int 1))))) (maCons (m2 fMul (m2 fIx (mVar 0) (mC (.int 1))) (m2 fIx (mVar 1) (mC (.int 1)))) maNil))))
def F__law_plus : Fn := fnOf 2 2 m__law_plus
def m__law_times : MS := (mRet (mA1 (fCallN 2 F__law_low []) (maCons (m2 fMul (m2 fIx (mVar 0) (mC (.int 0))) (m2 fIx (mVar 1) (mC (.int 0)))) (maCons (m2 fMul (m2 fIx (mVar 0) (mC (.int 1))) (m2 fIx (mVar 1) (mC (.int 1)))) maNil))))
def F__law_times : Fn := fnOf 2 2 m__law_times
def m__law_fraction : MS := (mSeq (mIfS (tOrM (tNotM (asB (m1 (fIsi g0 (.bt "tuple")) (mVar 0)))) (asB (m2 (fEq true) (mA1 fLen (maCons (mVar 0) maNil)) (mC (.int 2))))) (mRet (mC (.bl false))) mSkip) (mSeq (mIfS (tOrM (tNotM (asB (mA1 (fCallN 1 F__law_is_int []) (maCons (m2 fIx (mVar 0) (mC (.int 0))) maNil)))) (tOrM (tNotM (asB (mA1 (fCallN 1 F__law_is_int []) (maCons (m2 fIx (mVar 0) (mC (.int 1))) maNil)))) (asB (m2 fLt (m2 fIx (mVar 0) (mC (.int 1))) (mC (.int 1)))))) (mRet (mC (.bl false))) mSkip) (mRet (m2 (fEq false) (mA1 (fCallN 2 F__law_divisor []) (maCons (m2 fIx (mVar 0) (mC (.int 0))) (maCons (m2 fIx (mVar 0) (mC (.int 1))) maNil))) (mC (.int 1))))))
def F__law_fraction : Fn := fnOf 1 1 m__law_fraction
def m__law_p1_unknowns : MS := (mSeq (mSet 1 (mA1 (fCallN 3 F__law_names []) (maCons (mVar 0) (maCons (m2 (fAdd false) (mC (.int 1)) (mA1 (fCallN 2 F__law_draw []) (maCons (mVar 0) (maCons (mC (.int 3)) maNil)))) (maCons (mA1 (fLst false) maNil) maNil))))) (mSeq (mSet 2 (mA1 (fCallN 3 F__law_names []) (maCons (mVar 0) (maCons (m2 (fAdd false) (mC (.int 1)) (mA1 (fCallN 2 F__law_draw []) (maCons (mVar 0) (maCons (mC (.int 3)) maNil)))) (maCons (mA1 (fLst false) maNil) maNil))))) (mSeq (mSet 3 (mA1 (fLst true) maNil)) (mSeq (mFor (gtN 4) (mVar 1) (mFor (gtN 5) (mVar 2) (mAppend 3 (mA1 fTup (maCons (mVar 4) (maCons (mVar 5) maNil)))))) (mFrz 3 (mRet (mVar 3)))))))
def F__law_p1_unknowns : Fn := fnOf 6 1 m__law_p1_unknowns
def m__law_p1_worth : MS := (mSeq (mSet 1 (mA1 (fCallN 2 F__law_draw []) (maCons (mVar 0) (maCons (mC (.int 16)) maNil)))) (mSeq (mIfS (asB (m2 fLt (mVar 1) (mC (.int 2)))) (mSeq (mSet 2 (m2 (fAdd false) (mC (.int 1)) (mA1 (fCallN 2 F__law_draw []) (maCons (mVar 0) (maCons (m2 fPow (mC (.int 10)) (mC (.int 6))) maNil))))) (mRet (mA1 (fCallN 2 F__law_low []) (maCons (m2 fSub (mA1 (fCallN 2 F__law_draw []) (maCons (mVar 0) (maCons (m2 fPow (mC (.int 10)) (mC (.int 39))) maNil))) (mA1 (fCallN 2 F__law_draw []) (maCons (mVar 0) (maCons (m2 fPow (mC (.int 10)) (mC (.int 39))) maNil)))) (maCons (mVar 2) maNil))))) mSkip) (mSeq (mIfS (asB (m2 (fEq false) (mVar 1) (mC (.int 2)))) (mRet (mA1 fTup (maCons (mC (.int 0)) (maCons (mC (.int 1)) maNil)))) mSkip) (mRet (mA1 (fCallN 2 F__law_low []) (maCons (m2 fSub (mA1 (fCallN 2 F__law_draw []) (maCons (mVar 0) (maCons (mC (.int 13)) maNil))) (mC (.int 6))) (maCons (mA1 (fCallN 2 F__law_pick []) (maCons (mVar 0) (maCons (mA1 (fLst false) (maCons (mC (.int 1)) (maCons (mC (.int 1)) (maCons (mC (.int 1)) (maCons (mC (.int 2)) (maCons (mC (.int 3)) (maCons (mC (.int 4)) (maCons (mC (.int 6)) (maCons (mC (.int 12)) maNil))))))))) maNil))) maNil)))))))
def F__law_p1_worth : Fn := fnOf 3 1 m__law_p1_worth
def m__law_p1_pairs : MS := (mRet (mCompR false [3] (gtN 3) mYes (mA1 fTup (maCons (mA1 (fCallN 2 F__law_pick []) (maCons (mVar 0) (maCons (mVar 1) maNil))) (maCons (mA1 (fCallN 1 F__law_p1_worth []) (maCons (mVar 0) maNil)) maNil))) (maCons (mVar 2) maNil)))
def F__law_p1_pairs : Fn := fnOf 4 3 m__law_p1_pairs
def m__law_p1_multiplied : MS := (mRet (mComp false [2] (gtN 2) mYes (mA1 fTup (maCons (m2 fIx (mVar 2) (mC (.int 0))) (maCons (mA1 (fCallN 2 F__law_times []) (maCons (m2 fIx (mVar 2) (mC (.int 1))) (maCons (mVar 1) maNil))) maNil))) (mVar 0)))
def F__law_p1_multiplied : Fn := fnOf 3 2 m__law_p1_multiplied
def m__law_p1_due : MS := (mCut (mSeq (mSet 1 mNewT) (mSeq (mFor (gtT 2 (gtCons (gtN 2) (gtCons (gtN 3) gtNil))) (mVar 0) (mDPut g0.kc (mA1 (fCallN 2 F__law_plus []) (maCons (mDGet2 g0.kc (mVar 1) (mVar 2) (mA1 fTup (maCons (mC (.int 0)) (maCons (mC (.int 1)) maNil)))) (maCons (mVar 3) maNil))) (mVar 1) (mVar 2))) (mRet (mA1 fTuple (maCons (mComp false [2] (gtN 2) (asB (m2 (fEq true) (m2 (fIxD g0.kc) (m2 (fIxD g0.kc) (mVar 1) (mVar 2)) (mC (.int 0))) (mC (.int 0)))) (mA1 fTup (maCons (mVar 2) (maCons (m2 (fIxD g0.kc) (mVar 1) (mVar 2)) maNil))) (mA1 (fSortedD g0.kc false) (maCons (mVar 1) maNil))) maNil))))))
def F__law_p1_due : Fn := fnOf 4 1 m__law_p1_due
def m__law_p1_at : MS := (mSeq (mFor (gtN 2) (mVar 0) (mIfS (asB (m2 (fEq false) (m2 fIx (mVar 2) (mC (.int 0))) (mVar 1))) (mRet (m2 fIx (mVar 2) (mC (.int 1)))) mSkip)) (mRet (mA1 fTup (maCons (mC (.int 0)) (maCons (mC (.int 1)) maNil)))))
def F__law_p1_at : Fn := fnOf 3 2 m__law_p1_at
def m__law_p1_point : MS := (mSeq (mSet 2 (mA1 (fLst true) maNil)) (mSeq (mFor (gtN 3) (mA1 (fSorted g0.kc false) (maCons (mVar 1) maNil)) (mIfS (asB (m2 fGt (mA1 (fCallN 2 F__law_draw []) (maCons (mVar 0) (maCons (mC (.int 4)) maNil))) (mC (.int 0)))) (mAppend 2 (mA1 fTup (maCons (mVar 3) (maCons (mA1 (fCallN 1 F__law_p1_worth []) (maCons (mVar 0) maNil)) maNil)))) mSkip)) (mFrz 2 (mRet (mA1 fTupleX (maCons (mVar 2) maNil))))))
def F__law_p1_point : Fn := fnOf 4 2 m__law_p1_point
def m__law_p1_value : MS := (mSeq (mSet 2 (mA1 fTup (maCons (mC (.int 0)) (maCons (mC (.int 1)) maNil)))) (mSeq (mFor (gtT 2 (gtCons (gtN 3) (gtCons (gtN 4) gtNil))) (mVar 0) (mSet 2 (mA1 (fCallN 2 F__law_plus []) (maCons (mVar 2) (maCons (mA1 (fCallN 2 F__law_times []) (maCons (mVar 4) (maCons (mA1 (fCallN 2 F__law_p1_at []) (maCons (mVar 1) (maCons (mVar 3) maNil))) maNil))) maNil))))) (mRet (mVar 2))))
def F__law_p1_value : Fn := fnOf 5 2 m__law_p1_value
def m__law_p1_same : MS := (mRet (mAnd (mA1 (fCallN 1 F__law_fraction []) (maCons (mVar 0) maNil)) (m2 (fEq false) (mVar 0) (mVar 1))))
def F__law_p1_same : Fn := fnOf 2 2 m__law_p1_same
def m__law_p1_is : MS := (mSeq (mIfS (tOrM (tNotM (asB (m1 (fIsi g0 (.own 0)) (mVar 0)))) (tOrM (tNotM (asB (m1 (fIsi g0 (.bt "tuple")) (m1 (fFld g0 "parts") (mVar 0))))) (asB (m2 (fNes g0 T_eq nfB (fEq true)) (m1 (fFld g0 "parts") (mVar 0)) (mVar 1))))) (mRet (mC (.bl false))) mSkip) (mSeq (mIfS (asB (m2 fGt (mA1 (fLens T_len) (maCons (mComp false [5] (gtN 5) (tNotM (asB (mA1 (fCallN 1 F__law_fraction []) (maCons (m2 (fIxs T_getitem fIx) (mVar 5) (mC (.int 1))) maNil)))) (mVar 5) (m1 (fFld g0 "parts") (mVar 0))) maNil)) (mC (.int 0)))) (mRet (mC (.bl false))) mSkip) (mSeq (mIfS (tOrM (asB (m2 (fNes g0 T_eq nfB (fEq true)) (mA1 (fLens T_len) (maCons (mVar 0) maNil)) (mA1 (fLens T_len) (maCons (mVar 1) maNil)))) (asB (m2 (fNes g0 T_eq nfB (fEq true)) (mA1 (fListO false TI_iter T_len) (maCons (mVar 0) maNil)) (mComp false [5] (gtN 5) mYes (m2 (fIxs T_getitem fIx) (mVar 5) (mC (.int 0))) (mVar 1))))) (mRet (mC (.bl false))) mSkip) (mSeq (mSet 3 (mComp false [4] (gtN 4) (tNotM (asB (mA1 (fCallN 2 F__law_p1_same []) (maCons (m2 (fIxs T_getitem fIx) (mVar 0) (mVar 4)) (maCons (mA1 (fCallN 2 F__law_p1_at []) (maCons (mVar 1) (maCons (mVar 4) maNil))) maNil))))) (mVar 4) (mVar 2))) (mRet (m2 (fEqs g0 T_eq nfB (fEq false)) (mA1 (fLens T_len) (maCons (mVar 3) maNil)) (mC (.int 0))))))))
def F__law_p1_is : Fn := fnOf 6 3 m__law_p1_is
def m_law : MS := (mSeq (mSet 1 (mA1 (fCallN 1 F__law_bag []) (maCons (mVar 0) maNil))) (mSeq (mSet 2 (mA1 (fCallN 1 F__law_p1_unknowns []) (maCons (mVar 1) maNil))) (mSeq (mSet 3 (mA1 fTup (maCons (mA1 (fCallN 2 F__law_name []) (maCons (mVar 1) (maCons (mComp false [22] (gtN 22) mYes (m2 (fIxs T_getitem fIx) (mVar 22) (mC (.int 0))) (mVar 2)) maNil))) (maCons (m2 (fIxs T_getitem fIx) (m2 (fIxs T_getitem fIx) (mVar 2) (mC (.int 0))) (mC (.int 1))) maNil)))) (mSeq (mSet 4 (mA1 (fCallN 3 F__law_p1_pairs []) (maCons (mVar 1) (maCons (mVar 2) (maCons (mA1 (fCallN 2 F__law_draw []) (maCons (mVar 1) (maCons (mC (.int 7)) maNil))) maNil))))) (mSeq (mSet 5 (mA1 (fCallN 3 F__law_p1_pairs []) (maCons (mVar 1) (maCons (mVar 2) (maCons (mA1 (fCallN 2 F__law_draw []) (maCons (mVar 1) (maCons (mC (.int 5)) maNil))) maNil))))) (mSeq (mIfS (asB (m2 (fEqs g0 T_eq nfB (fEq false)) (mA1 (fCallN 2 F__law_draw []) (maCons (mVar 1) (maCons (mC (.int 2)) maNil))) (mC (.int 1)))) (mSet 5 (m2 (fOps T_add (fAdd false)) (mVar 5) (mA1 (fCallN 2 F__law_p1_multiplied []) (maCons (mSl false (mVar 4) (moS (mA1 (fCallN 2 F__law_draw []) (maCons (mVar 1) (maCons (mC (.int 3)) maNil)))) moN) (maCons (mA1 fTup (maCons (m1 (fNegs T_neg) (mC (.int 1))) (maCons (mC (.int 1)) maNil))) maNil))))) mSkip) (mSeq (mSet 6 (mA1 (fCallN 1 F__law_p1_worth []) (maCons (mVar 1) maNil))) (mSeq (mIfS (asB (m2 (fEqs g0 T_eq nfB (fEq false)) (mA1 (fCallN 2 F__law_draw []) (maCons (mVar 1) (maCons (mC (.int 8)) maNil))) (mC (.int 3)))) (mSet 6 (mA1 (fCallN 2 F__law_low []) (maCons (m2 (fOps T_sub fSub) (mA1 (fCallN 2 F__law_draw []) (maCons (mVar 1) (maCons (m2 fPow (mC (.int 10)) (mC (.int 39))) maNil))) (mA1 (fCallN 2 F__law_draw []) (maCons (mVar 1) (maCons (m2 fPow (mC (.int 10)) (mC (.int 39))) maNil)))) (maCons (m2 (fOps T_add (fAdd false)) (mC (.int 1)) (mA1 (fCallN 2 F__law_draw []) (maCons (mVar 1) (maCons (m2 fPow (mC (.int 10)) (mC (.int 39))) maNil)))) maNil)))) mSkip) (mSeq (mSet 7 (mCompR false [20] (gtN 20) mYes (mA1 (fCallN 2 F__law_p1_point []) (maCons (mVar 1) (maCons (m2 (fOps T_add (fAdd false)) (mVar 2) (mA1 (fLst false) (maCons (mVar 3) maNil))) maNil))) (maCons (mC (.int 2)) maNil))) (mSeq (mSet 8 (mA1 fListC (maCons (mVar 4) maNil))) (mSeq (mFrzd (mSet 9 (mA1 (fMake 0 1 FI_Form_xinitx []) (maCons (mVar 8) maNil)))) (mSeq (mSet 10 (mA1 (fMake 0 1 FI_Form_xinitx []) (maCons (mA1 fTuple (maCons (mVar 5) maNil)) maNil))) (mSeq (mDrop (mMetM lmAppend (mVar 8) (maCons (mA1 fTup (maCons (m2 (fIxs T_getitem fIx) (mVar 2) (mC (.int 0))) (maCons (mA1 fTup (maCons (mC (.int 1)) (maCons (mC (.int 1)) maNil))) maNil))) maNil))) (mSeq (mSet 11 (mA1 (fCallN 2 F__law_p1_multiplied []) (maCons (mVar 5) (maCons (mA1 fTup (maCons (m1 (fNegs T_neg) (mC (.int 1))) (maCons (mC (.int 1)) maNil))) maNil)))) (mSeq (mSet 12 (mA1 (fLst false) (maCons (mVar 9) (maCons (mVar 10) (maCons (m2 (fOps T_add (fAdd false)) (mVar 9) (mVar 10)) (maCons (m2 (fOps T_sub fSub) (mVar 9) (mVar 10)) (maCons (m1 (fNegs T_neg) (mVar 9)) (maCons (m2 (fOpsX T_mul fMul) (mVar 9) (mVar 6)) (maCons (m2 (fOpsX T_mul fMul) (mVar 10) (mVar 6)) (maCons (m2 (fOps T_sub fSub) (m2 (fOps T_add (fAdd false)) (mVar 9) (mVar 10)) (mVar 10)) (maCons (mA1 (fMake 0 0 FI_Form_xinitx [(.tup [])]) maNil) (maCons (mA1 (fMake 0 1 FI_Form_xinitx []) (maCons (m1 (fRev false) (mVar 4)) maNil)) maNil)))))))))))) (mSeq (mSet 13 (mA1 (fLst false) (maCons (mVar 4) (maCons (mVar 5) (maCons (m2 (fOps T_add (fAdd false)) (mVar 4) (mVar 5)) (maCons (m2 (fOps T_add (fAdd false)) (mVar 4) (mVar 11)) (maCons (mA1 (fCallN 2 F__law_p1_multiplied []) (maCons (mVar 4) (maCons (mA1 fTup (maCons (m1 (fNegs T_neg) (mC (.int 1))) (maCons (mC (.int 1)) maNil))) maNil))) maNil))))))) (mSeq (mSet 13 (m2 (fOps T_add (fAdd false)) (mVar 13) (mA1 (fLst false) (maCons (mA1 (fCallN 2 F__law_p1_multiplied []) (maCons (mVar 4) (maCons (mVar 6) maNil))) (maCons (mA1 (fCallN 2 F__law_p1_multiplied []) (maCons (mVar 5) (maCons (mVar 6) maNil))) (maCons (mVar 4) (maCons (mA1 (fLst false) maNil) (maCons (mVar 4) maNil)))))))) (mSeq (mSet 14 (mComp false [21] (gtN 21) mYes (mA1 (fCallN 1 F__law_p1_due []) (maCons (mVar 21) maNil)) (mVar 13))) (mSeq (mForZ (gtT 2 (gtCons (gtN 15) (gtCons (gtN 16) gtNil))) (maCons (mVar 12) (maCons (mVar 14) maNil)) (mSeq (mIfS (tNotM (asB (mA1 (fCallN 3 F__law_p1_is []) (maCons (mVar 15) (maCons (mVar 16) (maCons (m2 (fOps T_add (fAdd false)) (mVar 2) (mA1 (fLst false) (maCons (mVar 3) maNil))) maNil)))))) (mRet (mC (.bl false))) mSkip) (mSeq (mFor (gtN 17) (mVar 7) (mIfS (tNotM (asB (mA1 (fCallN 2 F__law_p1_same []) (maCons (mMeth 0 "at" 1 F_Form_at [] (mVar 15) (maCons (mVar 17) maNil)) (maCons (mA1 (fCallN 2 F__law_p1_value []) (maCons (mVar 16) (maCons (mVar 17) maNil))) maNil))))) (mRet (mC (.bl false))) mSkip)) (mSeq (mIfS (tOrM (asB (m2 (fEqs g0 T_eq nfB (fEq false)) (mVar 15) (mVar 16))) (asB (m2 (fEqs g0 T_eq nfB (fEq false)) (mVar 15) (mA1 (fList false) (maCons (mVar 16) maNil))))) (mRet (mC (.bl false))) mSkip) (mForZ (gtT 2 (gtCons (gtN 18) (gtCons (gtN 19) gtNil))) (maCons (mVar 12) (maCons (mVar 14) maNil)) (mIfS (asB (m2 (fNes g0 T_eq nfB (fEq true)) (m2 (fEqs g0 T_eq nfB (fEq false)) (mVar 15) (mVar 18)) (m2 (fEqs g0 T_eq nfB (fEq false)) (mVar 16) (mVar 19)))) (mRet (mC (.bl false))) mSkip)))))) (mRet (mC (.bl true))))))))))))))))))))))
def F_law : Fn := fnOf 23 1 m_law
section
variable {P : Program} {w : World} {K : PySem.W.Frag} {mg : Str → Option Value} {base : Heap}
theorem ok_is_whole (Z : Gn K mg base) : Rdy P w K mg base (PDx.gi K) "is_whole" 1 1 [] F_is_whole := by
  obtain ⟨fd, FD⟩ := SaysV.fun_ Z.S 0
  have sc : FnScope ["thing"] ["thing"] (defScope (top 2)) := ⟨rfl, rfl, rfl, by decide +kernel, rfl, by decide +kernel, by decide +kernel⟩
  exact rdy_of FD (fn_D (k := 0) (m := m_is_whole) (PD.giOk Z.ok) FD sc (fun cdv A outer s H E B hr b => (vs_one (vs_ret (ve_and (ve_isi b.G b.K (.bt "int") rfl (fr_isinstance Z) (ve_var 0) (pe_bltn (v := .ty "int") rfl (fr_int Z) bt_int rfl)) (ve_one (ve_not (ve_isi b.G b.K (.bt "bool") rfl (fr_isinstance Z) (ve_var 0) (pe_bltn (v := .ty "bool") rfl (fr_bool Z) bt_bool rfl))))))))) (gl_is_whole Z) (fun _ _ _ _ _ _ us hl => match us, hl with | [_], _ => rfl) rfl
theorem ok_lowest (Z : Gn K mg base) : Rdy P w K mg base (PDx.gi K) "lowest" 1 2 [] F_lowest := by
  obtain ⟨fd, FD⟩ := SaysV.fun_ Z.S 1
  have sc : FnScope ["above", "below", "common"] ["above", "below"] (defScope (top 5)) := ⟨rfl, rfl, rfl, by decide +kernel, rfl, by decide +kernel, by decide +kernel⟩
  exact rdy_of FD (fn_D (k := 0) (m := m_lowest) (PD.giOk Z.ok) FD sc (fun cdv A outer s H E B hr b => (vs_cons (vs_set sc.nd rfl (Or.inl rfl) (ve_callG c_gcd rfl (gb_gcd Z) (va_cons (ve_var 0) (va_cons (ve_var 1) va_nil)))) (vs_cons (vs_if (vt_cmp o_lt (ve_var 1) ve_int rfl) (vs_one (vs_set sc.nd rfl (Or.inl rfl) (ve_neg (ve_var 2)))) vs_nil) (vs_one (vs_ret (ve_tup (va_cons (ve_bin o_div (ve_var 0) (ve_var 2)) (va_cons (ve_bin o_div (ve_var 1) (ve_var 2)) va_nil))))))))) (gl_lowest Z) (fun _ _ _ _ _ _ us hl => match us, hl with | [_, _], _ => rfl) rfl
theorem ok_plus (Z : Gn K mg base) : Rdy P w K mg base (PDx.gi K) "plus" 2 2 [] F_plus := by
  obtain ⟨fd, FD⟩ := SaysV.fun_ Z.S 2
  have sc : FnScope ["first", "second"] ["first", "second"] (defScope (top 6)) := ⟨rfl, rfl, rfl, by decide +kernel, rfl, by decide +kernel, by decide +kernel⟩
  exact rdy_of FD (fn_D (k := 1) (m := m_plus) (PD.giOk Z.ok) FD sc (fun cdv A outer s H E B hr b => (vs_cons (vs_if (vt_cmp (o_eq b.K b.un) (ve_ix b.K (ve_var 0) ve_int fun _ _ => rfl) (ve_ix b.K (ve_var 1) ve_int fun _ _ => rfl) rfl) (vs_one (vs_ret (ve_call ((ok_lowest Z).v hr (by decide)) b.gd b.tk rfl (va_cons (ve_bin (o_add false b.K) (ve_ix b.K (ve_var 0) ve_int fun _ _ => rfl) (ve_ix b.K (ve_var 1) ve_int fun _ _ => rfl)) (va_cons (ve_ix b.K (ve_var 0) ve_int fun _ _ => rfl) va_nil))))) vs_nil) (vs_one (vs_ret (ve_call ((ok_lowest Z).v hr (by decide)) b.gd b.tk rfl (va_cons (ve_bin (o_add false b.K) (ve_bin o_mul (ve_ix b.K (ve_var 0) ve_int fun _ _ => rfl) (ve_ix b.K (ve_var 1) ve_int fun _ _ => rfl)) (ve_bin o_mul (ve_ix b.K (ve_var 1) ve_int fun _ _ => rfl) (ve_ix b.K (ve_var 0) ve_int fun _ _ => rfl))) (va_cons (ve_bin o_mul (ve_ix b.K (ve_var 0) ve_int fun _ _ => rfl) (ve_ix b.K (ve_var 1) ve_int fun _ _ => rfl)) va_nil)))))))) (gl_plus Z) (fun _ _ _ _ _ _ us hl => match us, hl with | [_, _], _ => rfl) rfl
theorem ok_times (Z : Gn K mg base) : Rdy P w K mg base (PDx.gi K) "times" 2 2 [] F_times := by
  obtain ⟨fd, FD⟩ := SaysV.fun_ Z.S 3
  have sc : FnScope ["first", "second"] ["first", "second"] (defScope (top 7)) := ⟨rfl, rfl, rfl, by decide +kernel, rfl, by decide +kernel, by decide +kernel⟩
  exact rdy_of FD (fn_D (k := 1) (m := m_times) (PD.giOk Z.ok) FD sc (fun cdv A outer s H E B hr b => (vs_one (vs_ret (ve_call ((ok_lowest Z).v hr (by decide)) b.gd b.tk rfl (va_cons (ve_bin o_mul (ve_ix b.K (ve_var 0) ve_int fun _ _ => rfl) (ve_ix b.K (ve_var 1) ve_int fun _ _ => rfl)) (va_cons (ve_bin o_mul (ve_ix b.K (ve_var 0) ve_int fun _ _ => rfl) (ve_ix b.K (ve_var 1) ve_int fun _ _ => rfl)) va_nil))))))) (gl_times Z) (fun _ _ _ _ _ _ us hl => match us, hl with | [_, _], _ => rfl) rfl
theorem ok_is_fraction (Z : Gn K mg base) : Rdy P w K mg base (PDx.gi K) "is_fraction" 2 1 [] F_is_fraction := by
  obtain ⟨fd, FD⟩ := SaysV.fun_ Z.S 4
  have sc : FnScope ["thing", "above", "below"] ["thing"] (defScope (top 8)) := ⟨rfl, rfl, rfl, by decide +kernel, rfl, by decide +kernel, by decide +kernel⟩
  exact rdy_of FD (fn_D (k := 1) (m := m_is_fraction) (PD.giOk Z.ok) FD sc (fun cdv A outer s H E B hr b => (vs_cons (vs_if (PW.pt (vw_or (vt_not (vt_val (ve_isi b.G b.K (.bt "tuple") rfl (fr_isinstance Z) (ve_var 0) (pe_bltn (v := .ty "tuple") rfl (fr_tuple Z) bt_tuple rfl)))) (vw_or1 (vt_cmp (o_ne b.K b.un) (ve_callB (c_len b.K) rfl (fr_len Z) bt_len (va_cons (ve_var 0) va_nil)) ve_int rfl)))) (vs_one (vs_ret ve_bl)) vs_nil) (vs_cons (vs_unp (ve_var 0) (vg_tup b.K b.calm (vg_cons (vg_name sc.nd rfl (Or.inl rfl)) (vg_cons (vg_name sc.nd rfl (Or.inl rfl)) vg_nil)))) (vs_one (vs_ret (ve_and (ve_call ((ok_is_whole Z).v hr (by decide)) b.gd b.tk rfl (va_cons (ve_var 1) va_nil)) (ve_and (ve_call ((ok_is_whole Z).v hr (by decide)) b.gd b.tk rfl (va_cons (ve_var 2) va_nil)) (ve_and (ve_cmp o_ge (ve_var 2) ve_int rfl) (ve_one (ve_cmp (o_eq b.K b.un) (ve_callG c_gcd rfl (gb_gcd Z) (va_cons (ve_var 1) (va_cons (ve_var 2) va_nil))) ve_int rfl))))))))))) (gl_is_fraction Z) (fun _ _ _ _ _ _ us hl => match us, hl with | [_], _ => rfl) rfl
theorem ok_gathered (Z : Gn K mg base) : Rdy P w K mg base (PDx.gi K) "gathered" 3 1 [] F_gathered := by
  obtain ⟨fd, FD⟩ := SaysV.fun_ Z.S 5
  have sc : FnScope ["pairs", "sums", "unknown", "fraction"] ["pairs"] (defScope (top 11)) := ⟨rfl, rfl, rfl, by decide +kernel, rfl, by decide +kernel, by decide +kernel⟩
  exact rdy_of FD (fn_D (k := 2) (m := m_gathered) (PD.giOk Z.ok) FD sc (fun cdv A outer s H E B hr b => (vss_cut (vs_cons (vs_set sc.nd rfl (Or.inr rfl) ve_newT) (vs_cons (vs_for b.K b.ps b.calm (ve_var 0) (vg_tup b.K b.calm (vg_cons (vg_name sc.nd rfl (Or.inl rfl)) (vg_cons (vg_name sc.nd rfl (Or.inl rfl)) vg_nil))) (vs_one (vs_dput (g := PDx.gi K) b.un (ve_call ((ok_plus Z).v hr (by decide)) b.gd b.tk rfl (va_cons (ve_dget2 (g := PDx.gi K) b.un (ve_var 1) (ve_var 2) (ve_glob rfl (gd_ZERO Z)) ⟨rfl, rfl, rfl, rfl⟩) (va_cons (ve_var 3) va_nil))) (ve_var 1) (ve_var 2)))) (vs_one (vs_ret (ve_callTy (c_tuple b.K) rfl (fr_tuple Z) bt_tuple (va_cons (ve_lc (o := false) (own := [("unknown", 2)]) b sc.nd (ve_callB (c_sortedD (g := PDx.gi K) false b.calm b.K) rfl (fr_sorted Z) bt_sorted (va_cons (ve_var 1) va_nil)) (blkOk_by (own := [("unknown", 2)]) rfl) (cg_name (i := 2) (by decide)) (fun _ _ _ _ _ => pg_name sc.nd rfl (Or.inl rfl)) (fun _ _ _ _ _ => (vts_one (vt_cmp (o_ne b.blk.K b.blk.un) (ve_ixd (g := PDx.gi K) b.blk.K b.blk.un (ve_var 1) (ve_var 2) (fun _ _ => rfl) (fun _ _ => rfl)) (ve_glob rfl (gd_ZERO Z)) rfl))) (fun _ _ _ _ _ => (ve_tup (va_cons (ve_var 2) (va_cons (ve_ixd (g := PDx.gi K) b.blk.K b.blk.un (ve_var 1) (ve_var 2) (fun _ _ => rfl) (fun _ _ => rfl)) va_nil))))) va_nil))))))))) (gl_gathered Z) (fun _ _ _ _ _ _ us hl => match us, hl with | [_], _ => rfl) rfl
theorem ok_multiplied (Z : Gn K mg base) : Rdy P w K mg base (PDx.gi K) "multiplied" 3 2 [] F_multiplied := by
  obtain ⟨fd, FD⟩ := SaysV.fun_ Z.S 6
  have sc : FnScope ["parts", "factor", "unknown", "fraction"] ["parts", "factor"] (defScope (top 12)) := ⟨rfl, rfl, rfl, by decide +kernel, rfl, by decide +kernel, by decide +kernel⟩
  exact rdy_of FD (fn_D (k := 2) (m := m_multiplied) (PD.giOk Z.ok) FD sc (fun cdv A outer s H E B hr b => (vs_cons (vs_if (vt_cmp (o_eq b.K b.un) (ve_var 1) (ve_glob rfl (gd_ZERO Z)) rfl) (vs_one (vs_ret (ve_tup va_nil))) vs_nil) (vs_one (vs_ret (ve_callTy (c_tuple b.K) rfl (fr_tuple Z) bt_tuple (va_cons (ve_lc (o := false) (own := [("unknown", 2), ("fraction", 3)]) b sc.nd (ve_var 0) (blkOk_by (own := [("unknown", 2), ("fraction", 3)]) rfl) (cg_tup b.K (cg_cons (cg_name (i := 2) (by decide)) (cg_cons (cg_name (i := 3) (by decide)) cg_nil))) (fun _ _ _ _ _ => pg_tup b.calm (pgs_cons (pg_name sc.nd rfl (Or.inl rfl)) (pgs_cons (pg_name sc.nd rfl (Or.inl rfl)) pgs_nil))) (fun _ _ _ _ _ => vts_nil) (fun _ _ _ _ _ => (ve_tup (va_cons (ve_var 2) (va_cons (ve_call ((ok_times Z).v hr (by decide)) b.blk.gd b.blk.tk rfl (va_cons (ve_var 3) (va_cons (ve_var 1) va_nil))) va_nil))))) va_nil))))))) (gl_multiplied Z) (fun _ _ _ _ _ _ us hl => match us, hl with | [_, _], _ => rfl) rfl
theorem ok_value_at (Z : Gn K mg base) : Rdy P w K mg base (PDx.gi K) "value_at" 3 2 [] F_value_at := by
  obtain ⟨fd, FD⟩ := SaysV.fun_ Z.S 7
  have sc : FnScope ["parts", "values", "result", "unknown", "fraction"] ["parts", "values"] (defScope (top 13)) := ⟨rfl, rfl, rfl, by decide +kernel, rfl, by decide +kernel, by decide +kernel⟩
  exact rdy_of FD (fn_D (k := 2) (m := m_value_at) (PD.giOk Z.ok) FD sc (fun cdv A outer s H E B hr b => (vs_cons (vs_set sc.nd rfl (Or.inl rfl) (ve_glob rfl (gd_ZERO Z))) (vs_cons (vs_for b.K b.ps b.calm (ve_var 0) (vg_tup b.K b.calm (vg_cons (vg_name sc.nd rfl (Or.inl rfl)) (vg_cons (vg_name sc.nd rfl (Or.inl rfl)) vg_nil))) (vs_one (vs_set sc.nd rfl (Or.inl rfl) (ve_call ((ok_plus Z).v hr (by decide)) b.gd b.tk rfl (va_cons (ve_var 2) (va_cons (ve_call ((ok_times Z).v hr (by decide)) b.gd b.tk rfl (va_cons (ve_var 4) (va_cons (ve_dget2 (g := PDx.gi K) b.un (ve_var 1) (ve_var 3) (ve_glob rfl (gd_ZERO Z)) ⟨rfl, rfl, rfl, rfl⟩) va_nil))) va_nil)))))) (vs_one (vs_ret (ve_var 2))))))) (gl_value_at Z) (fun _ _ _ _ _ _ us hl => match us, hl with | [_, _], _ => rfl) rfl
theorem ok_Form_xinitx_0 (Z : Gn K mg base) : RdyI P w K mg base (PDx.gi K) 0 4 0 [(.tup [])] FI_Form_xinitx := by
  obtain ⟨fd, FD⟩ := SaysV.fun_ Z.S 8
  have sc : FnScope ["self", "parts", "unknown", "_"] ["self", "parts"] (defScope (sub 14 0)) := ⟨rfl, rfl, rfl, by decide +kernel, rfl, by decide +kernel, by decide +kernel⟩
  obtain ⟨ds, vd, bn⟩ := FD.binds1 (ps := ["self", "parts"]) 1 0 (fun z => nomatch z) rfl (fun _ _ _ _ _ _ _ us its h1 h2 => match us, its, h1, h2 with | [_], [_], _, _ => ⟨_, rfl, rfl⟩)
  exact ⟨_, fd, _, _, _, ds, fn_I (c := 0) (k := 3) (m := m_Form_xinitx) (PD.giOk Z.ok) FD sc (fun cdv A outer s H E B hr b => (vs_cons (vs_setfld b.G b.K (pe_var (i := 0) rfl (Or.inl rfl)) (ve_call ((ok_gathered Z).v hr (by decide)) b.gd b.tk rfl (va_cons (ve_var 1) va_nil))) (vs_one (vs_setfld b.G b.K (pe_var (i := 0) rfl (Or.inl rfl)) (ve_callTy (c_tuple b.K) rfl (fr_tuple Z) bt_tuple (va_cons (ve_lc (o := false) (own := [("unknown", 2), ("_", 3)]) b sc.nd (ve_fld b.G b.K (ve_var 0)) (blkOk_by (own := [("unknown", 2), ("_", 3)]) rfl) (cg_tup b.K (cg_cons (cg_name (i := 2) (by decide)) (cg_cons (cg_name (i := 3) (by decide)) cg_nil))) (fun _ _ _ _ _ => pg_tup b.calm (pgs_cons (pg_name sc.nd rfl (Or.inl rfl)) (pgs_cons (pg_name sc.nd rfl (Or.inl rfl)) pgs_nil))) (fun _ _ _ _ _ => vts_nil) (fun _ _ _ _ _ => (ve_var 2))) va_nil)))))), He.mkr_ok (Z.S.fact 54), bn, vd, fun _ _ => ⟨_, _, rfl, ⟨_, _, rfl, .inr ⟨rfl, tupAt0_ok (Z.S.fact 51) _⟩, rfl⟩, rfl⟩, rfl⟩
theorem ok_Form_xinitx_1 (Z : Gn K mg base) : RdyI P w K mg base (PDx.gi K) 0 4 1 [] FI_Form_xinitx := by
  obtain ⟨fd, FD⟩ := SaysV.fun_ Z.S 8
  have sc : FnScope ["self", "parts", "unknown", "_"] ["self", "parts"] (defScope (sub 14 0)) := ⟨rfl, rfl, rfl, by decide +kernel, rfl, by decide +kernel, by decide +kernel⟩
  obtain ⟨ds, vd, bn⟩ := FD.binds1 (ps := ["self", "parts"]) 2 1 (fun z => nomatch z) rfl (fun _ _ _ _ _ _ _ us its h1 h2 => match us, its, h1, h2 with | [_, _], [_], _, _ => ⟨_, rfl, rfl⟩)
  exact ⟨_, fd, _, _, _, ds, fn_I (c := 0) (k := 3) (m := m_Form_xinitx) (PD.giOk Z.ok) FD sc (fun cdv A outer s H E B hr b => (vs_cons (vs_setfld b.G b.K (pe_var (i := 0) rfl (Or.inl rfl)) (ve_call ((ok_gathered Z).v hr (by decide)) b.gd b.tk rfl (va_cons (ve_var 1) va_nil))) (vs_one (vs_setfld b.G b.K (pe_var (i := 0) rfl (Or.inl rfl)) (ve_callTy (c_tuple b.K) rfl (fr_tuple Z) bt_tuple (va_cons (ve_lc (o := false) (own := [("unknown", 2), ("_", 3)]) b sc.nd (ve_fld b.G b.K (ve_var 0)) (blkOk_by (own := [("unknown", 2), ("_", 3)]) rfl) (cg_tup b.K (cg_cons (cg_name (i := 2) (by decide)) (cg_cons (cg_name (i := 3) (by decide)) cg_nil))) (fun _ _ _ _ _ => pg_tup b.calm (pgs_cons (pg_name sc.nd rfl (Or.inl rfl)) (pgs_cons (pg_name sc.nd rfl (Or.inl rfl)) pgs_nil))) (fun _ _ _ _ _ => vts_nil) (fun _ _ _ _ _ => (ve_var 2))) va_nil)))))), He.mkr_ok (Z.S.fact 54), bn, vd, fun _ _ => rfl, rfl⟩
theorem ok_Form_xaddx (Z : Gn K mg base) : RdyM P w K mg base (PDx.gi K) 0 "__add__" 6 1 [] F_Form_xaddx := by
  obtain ⟨fd, FD⟩ := SaysV.fun_ Z.S 9
  have sc : FnScope ["self", "other"] ["self", "other"] (defScope (sub 14 1)) := ⟨rfl, rfl, rfl, by decide +kernel, rfl, by decide +kernel, by decide +kernel⟩
  exact rdyM_of (g := PDx.gi K) (c := 0) FD (fn_D (k := 5) (m := m_Form_xaddx) (PD.giOk Z.ok) FD sc (fun cdv A outer s H E B hr b => (vs_cons (vs_if (vt_not (vt_val (ve_isi b.G b.K (.own 0) rfl (fr_isinstance Z) (ve_var 1) (pe_glob rfl (gl_Form Z) rfl)))) (vs_one vs_never) vs_nil) (vs_one (vs_ret (ve_make b ((ok_Form_xinitx_1 Z).v hr (by decide)) rfl (gl_Form Z) (va_cons (ve_bin (o_add false b.K) (ve_fld b.G b.K (ve_var 0)) (ve_fld b.G b.K (ve_var 1))) va_nil))))))) (He.meth_ok (Z.S.fact 55)) (show decide (0 ∈ PDx.cls) = true by decide) (fun _ _ _ _ _ _ us hl => match us, hl with | [_, _], _ => rfl) rfl
theorem vo_add {X : Cx} {j : Nat} (Z : Gn X.K X.mg X.base) (hr : Room j X.A) (hj : 7 ≤ j) : VOps X (PDx.gi X.K) "__add__" 2 T_add := fun c F e => by
  have e : (if c = 0 then some F_Form_xaddx else none) = some F := e
  by_cases h : c = 0
  · rw [if_pos h] at e
    cases e
    subst h
    exact (ok_Form_xaddx Z).op (PD.sf Z.ok (by decide)) hr hj
  · rw [if_neg h] at e
    cases e
theorem ok_Form_xsubx (Z : Gn K mg base) : RdyM P w K mg base (PDx.gi K) 0 "__sub__" 6 1 [] F_Form_xsubx := by
  obtain ⟨fd, FD⟩ := SaysV.fun_ Z.S 10
  have sc : FnScope ["self", "other"] ["self", "other"] (defScope (sub 14 2)) := ⟨rfl, rfl, rfl, by decide +kernel, rfl, by decide +kernel, by decide +kernel⟩
  exact rdyM_of (g := PDx.gi K) (c := 0) FD (fn_D (k := 5) (m := m_Form_xsubx) (PD.giOk Z.ok) FD sc (fun cdv A outer s H E B hr b => (vs_cons (vs_if (vt_not (vt_val (ve_isi b.G b.K (.own 0) rfl (fr_isinstance Z) (ve_var 1) (pe_glob rfl (gl_Form Z) rfl)))) (vs_one vs_never) vs_nil) (vs_one (vs_ret (ve_make b ((ok_Form_xinitx_1 Z).v hr (by decide)) rfl (gl_Form Z) (va_cons (ve_bin (o_add false b.K) (ve_fld b.G b.K (ve_var 0)) (ve_call ((ok_multiplied Z).v hr (by decide)) b.gd b.tk rfl (va_cons (ve_fld b.G b.K (ve_var 1)) (va_cons (ve_glob rfl (gd_MINUS_ONE Z)) va_nil)))) va_nil))))))) (He.meth_ok (Z.S.fact 56)) (show decide (0 ∈ PDx.cls) = true by decide) (fun _ _ _ _ _ _ us hl => match us, hl with | [_, _], _ => rfl) rfl
theorem vo_sub {X : Cx} {j : Nat} (Z : Gn X.K X.mg X.base) (hr : Room j X.A) (hj : 7 ≤ j) : VOps X (PDx.gi X.K) "__sub__" 2 T_sub := fun c F e => by
  have e : (if c = 0 then some F_Form_xsubx else none) = some F := e
  by_cases h : c = 0
  · rw [if_pos h] at e
    cases e
    subst h
    exact (ok_Form_xsubx Z).op (PD.sf Z.ok (by decide)) hr hj
  · rw [if_neg h] at e
    cases e
theorem ok_Form_xnegx (Z : Gn K mg base) : RdyM P w K mg base (PDx.gi K) 0 "__neg__" 6 0 [] F_Form_xnegx := by
  obtain ⟨fd, FD⟩ := SaysV.fun_ Z.S 11
  have sc : FnScope ["self"] ["self"] (defScope (sub 14 3)) := ⟨rfl, rfl, rfl, by decide +kernel, rfl, by decide +kernel, by decide +kernel⟩
  exact rdyM_of (g := PDx.gi K) (c := 0) FD (fn_D (k := 5) (m := m_Form_xnegx) (PD.giOk Z.ok) FD sc (fun cdv A outer s H E B hr b => (vs_one (vs_ret (ve_make b ((ok_Form_xinitx_1 Z).v hr (by decide)) rfl (gl_Form Z) (va_cons (ve_call ((ok_multiplied Z).v hr (by decide)) b.gd b.tk rfl (va_cons (ve_fld b.G b.K (ve_var 0)) (va_cons (ve_glob rfl (gd_MINUS_ONE Z)) va_nil))) va_nil)))))) (He.meth_ok (Z.S.fact 57)) (show decide (0 ∈ PDx.cls) = true by decide) (fun _ _ _ _ _ _ us hl => match us, hl with | [_], _ => rfl) rfl
theorem vo_neg {X : Cx} {j : Nat} (Z : Gn X.K X.mg X.base) (hr : Room j X.A) (hj : 7 ≤ j) : VOps X (PDx.gi X.K) "__neg__" 1 T_neg := fun c F e => by
  have e : (if c = 0 then some F_Form_xnegx else none) = some F := e
  by_cases h : c = 0
  · rw [if_pos h] at e
    cases e
    subst h
    exact (ok_Form_xnegx Z).op (PD.sf Z.ok (by decide)) hr hj
  · rw [if_neg h] at e
    cases e
theorem ok_Form_xmulx (Z : Gn K mg base) : RdyM P w K mg base (PDx.gi K) 0 "__mul__" 6 1 [] F_Form_xmulx := by
  obtain ⟨fd, FD⟩ := SaysV.fun_ Z.S 12
  have sc : FnScope ["self", "other"] ["self", "other"] (defScope (sub 14 4)) := ⟨rfl, rfl, rfl, by decide +kernel, rfl, by decide +kernel, by decide +kernel⟩
  exact rdyM_of (g := PDx.gi K) (c := 0) FD (fn_D (k := 5) (m := m_Form_xmulx) (PD.giOk Z.ok) FD sc (fun cdv A outer s H E B hr b => (vs_cons (vs_if (vt_not (vt_val (ve_call ((ok_is_fraction Z).v hr (by decide)) b.gd b.tk rfl (va_cons (ve_var 1) va_nil)))) (vs_one vs_never) vs_nil) (vs_one (vs_ret (ve_make b ((ok_Form_xinitx_1 Z).v hr (by decide)) rfl (gl_Form Z) (va_cons (ve_call ((ok_multiplied Z).v hr (by decide)) b.gd b.tk rfl (va_cons (ve_fld b.G b.K (ve_var 0)) (va_cons (ve_var 1) va_nil))) va_nil))))))) (He.meth_ok (Z.S.fact 58)) (show decide (0 ∈ PDx.cls) = true by decide) (fun _ _ _ _ _ _ us hl => match us, hl with | [_, _], _ => rfl) rfl
theorem vo_mul {X : Cx} {j : Nat} (Z : Gn X.K X.mg X.base) (hr : Room j X.A) (hj : 7 ≤ j) : VOps X (PDx.gi X.K) "__mul__" 2 T_mul := fun c F e => by
  have e : (if c = 0 then some F_Form_xmulx else none) = some F := e
  by_cases h : c = 0
  · rw [if_pos h] at e
    cases e
    subst h
    exact (ok_Form_xmulx Z).op (PD.sf Z.ok (by decide)) hr hj
  · rw [if_neg h] at e
    cases e
theorem ok_Form_xgetitemx (Z : Gn K mg base) : RdyM P w K mg base (PDx.gi K) 0 "__getitem__" 1 1 [] F_Form_xgetitemx := by
  obtain ⟨fd, FD⟩ := SaysV.fun_ Z.S 13
  have sc : FnScope ["self", "at", "unknown", "fraction"] ["self", "at"] (defScope (sub 14 5)) := ⟨rfl, rfl, rfl, by decide +kernel, rfl, by decide +kernel, by decide +kernel⟩
  exact rdyM_of (g := PDx.gi K) (c := 0) FD (fn_D (k := 0) (m := m_Form_xgetitemx) (PD.giOk Z.ok) FD sc (fun cdv A outer s H E B hr b => (vs_cons (vs_for b.K b.ps b.calm (ve_fld b.G b.K (ve_var 0)) (vg_tup b.K b.calm (vg_cons (vg_name sc.nd rfl (Or.inl rfl)) (vg_cons (vg_name sc.nd rfl (Or.inl rfl)) vg_nil))) (vs_one (vs_if (vt_cmp (o_eq b.K b.un) (ve_var 2) (ve_var 1) rfl) (vs_one (vs_ret (ve_var 3))) vs_nil))) (vs_one (vs_ret (ve_glob rfl (gd_ZERO Z))))))) (He.meth_ok (Z.S.fact 59)) (show decide (0 ∈ PDx.cls) = true by decide) (fun _ _ _ _ _ _ us hl => match us, hl with | [_, _], _ => rfl) rfl
theorem vo_getitem {X : Cx} {j : Nat} (Z : Gn X.K X.mg X.base) (hr : Room j X.A) (hj : 2 ≤ j) : VOps X (PDx.gi X.K) "__getitem__" 2 T_getitem := fun c F e => by
  have e : (if c = 0 then some F_Form_xgetitemx else none) = some F := e
  by_cases h : c = 0
  · rw [if_pos h] at e
    cases e
    subst h
    exact (ok_Form_xgetitemx Z).op (PD.sf Z.ok (by decide)) hr hj
  · rw [if_neg h] at e
    cases e
theorem ok_Form_xiterx (Z : Gn K mg base) : RdyIt P w K mg base (PDx.gi K) 0 1 m_Form_xiterx := by
  obtain ⟨fd, FD⟩ := SaysV.fun_ Z.S 14
  have sc : FnScope ["self"] ["self"] (defScope (sub 14 6)) := ⟨rfl, rfl, rfl, by decide +kernel, rfl, by decide +kernel, by decide +kernel⟩
  exact ⟨_, fd, ["self"], fn_It (k := 0) (m := m_Form_xiterx) (PD.giOk Z.ok) FD sc (fun cdv A outer s H E B hr b => (vss_iter b.K rfl (fr_iter Z) (ve_fld b.G b.K (ve_var 0)))), He.meth_ok (Z.S.fact 60), FD.bindsN (ps := ["self"]) (fun _ _ _ _ _ _ us hl => match us, hl with | [_], _ => rfl), rfl⟩
theorem vi_iter {X : Cx} {j : Nat} (Z : Gn X.K X.mg X.base) (hr : Room j X.A) (hj : 5 ≤ j) : VIters X (PDx.gi X.K) TI_iter := fun c m e => by
  have e : (if c = 0 then some m_Form_xiterx else none) = some m := e
  by_cases h : c = 0
  · rw [if_pos h] at e
    cases e
    subst h
    exact (ok_Form_xiterx Z).v hr hj
  · rw [if_neg h] at e
    cases e
theorem ok_Form_xlenx (Z : Gn K mg base) : RdyM P w K mg base (PDx.gi K) 0 "__len__" 1 0 [] F_Form_xlenx := by
  obtain ⟨fd, FD⟩ := SaysV.fun_ Z.S 15
  have sc : FnScope ["self"] ["self"] (defScope (sub 14 7)) := ⟨rfl, rfl, rfl, by decide +kernel, rfl, by decide +kernel, by decide +kernel⟩
  exact rdyM_of (g := PDx.gi K) (c := 0) FD (fn_D (k := 0) (m := m_Form_xlenx) (PD.giOk Z.ok) FD sc (fun cdv A outer s H E B hr b => (vs_one (vs_ret (ve_callB (c_len b.K) rfl (fr_len Z) bt_len (va_cons (ve_fld b.G b.K (ve_var 0)) va_nil)))))) (He.meth_ok (Z.S.fact 61)) (show decide (0 ∈ PDx.cls) = true by decide) (fun _ _ _ _ _ _ us hl => match us, hl with | [_], _ => rfl) rfl
theorem vo_len {X : Cx} {j : Nat} (Z : Gn X.K X.mg X.base) (hr : Room j X.A) (hj : 2 ≤ j) : VOps X (PDx.gi X.K) "__len__" 1 T_len := fun c F e => by
  have e : (if c = 0 then some F_Form_xlenx else none) = some F := e
  by_cases h : c = 0
  · rw [if_pos h] at e
    cases e
    subst h
    exact (ok_Form_xlenx Z).op (PD.sf Z.ok (by decide)) hr hj
  · rw [if_neg h] at e
    cases e
theorem vo_len4 {X : Cx} {j : Nat} (Z : Gn X.K X.mg X.base) (hr : Room j X.A) (hj : 5 ≤ j) : VOps4 X (PDx.gi X.K) "__len__" 1 T_len := fun c F e => by
  have e : (if c = 0 then some F_Form_xlenx else none) = some F := e
  by_cases h : c = 0
  · rw [if_pos h] at e
    cases e
    subst h
    exact (ok_Form_xlenx Z).op4 hr hj
  · rw [if_neg h] at e
    cases e
theorem ok_Form_xeqx (Z : Gn K mg base) : RdyM P w K mg base (PDx.gi K) 0 "__eq__" 1 1 [] F_Form_xeqx := by
  obtain ⟨fd, FD⟩ := SaysV.fun_ Z.S 16
  have sc : FnScope ["self", "other"] ["self", "other"] (defScope (sub 14 8)) := ⟨rfl, rfl, rfl, by decide +kernel, rfl, by decide +kernel, by decide +kernel⟩
  exact rdyM_of (g := PDx.gi K) (c := 0) FD (fn_D (k := 0) (m := m_Form_xeqx) (PD.giOk Z.ok) FD sc (fun cdv A outer s H E B hr b => (vs_one (vs_ret (ve_and (ve_isi b.G b.K (.own 0) rfl (fr_isinstance Z) (ve_var 1) (pe_glob rfl (gl_Form Z) rfl)) (ve_one (ve_cmp (o_eq b.K b.un) (ve_fld b.G b.K (ve_var 0)) (ve_fld b.G b.K (ve_var 1)) rfl))))))) (He.meth_ok (Z.S.fact 62)) (show decide (0 ∈ PDx.cls) = true by decide) (fun _ _ _ _ _ _ us hl => match us, hl with | [_, _], _ => rfl) rfl
theorem vo_eq {X : Cx} {j : Nat} (Z : Gn X.K X.mg X.base) (hr : Room j X.A) (hj : 2 ≤ j) : VOps X (PDx.gi X.K) "__eq__" 2 T_eq := fun c F e => by
  have e : (if c = 0 then some F_Form_xeqx else none) = some F := e
  by_cases h : c = 0
  · rw [if_pos h] at e
    cases e
    subst h
    exact (ok_Form_xeqx Z).op (PD.sf Z.ok (by decide)) hr hj
  · rw [if_neg h] at e
    cases e
theorem ne_ok {X : Cx} (Z : Gn X.K X.mg X.base) : ∀ c F, T_eq c = some F → PySem.W.findIn X.K (.ref ((PDx.gi X.K).ca c)) "__ne__" = some (some (.builtin "object.__ne__")) ∧ PySem.W.mroIn X.K ((PDx.gi X.K).ca c) (.type "object") = some true := fun c F e => by
  have e : (if c = 0 then some F_Form_xeqx else none) = some F := e
  by_cases h : c = 0
  · subst h
    exact ⟨eqv_ok (Z.S.fact 64), ((PD.giOk Z.ok).cls 0 (show decide (0 ∈ PDx.cls) = true by decide)).hm⟩
  · rw [if_neg h] at e
    cases e
theorem ok_Form_at (Z : Gn K mg base) : RdyM P w K mg base (PDx.gi K) 0 "at" 4 1 [] F_Form_at := by
  obtain ⟨fd, FD⟩ := SaysV.fun_ Z.S 17
  have sc : FnScope ["self", "point"] ["self", "point"] (defScope (sub 14 9)) := ⟨rfl, rfl, rfl, by decide +kernel, rfl, by decide +kernel, by decide +kernel⟩
  exact rdyM_of (g := PDx.gi K) (c := 0) FD (fn_D (k := 3) (m := m_Form_at) (PD.giOk Z.ok) FD sc (fun cdv A outer s H E B hr b => (vs_one (vs_ret (ve_call ((ok_value_at Z).v hr (by decide)) b.gd b.tk rfl (va_cons (ve_fld b.G b.K (ve_var 0)) (va_cons (ve_callTy (c_dictX (g := PDx.gi K) b.calm b.un b.K) rfl (fr_dict Z) bt_dict (va_cons (ve_var 1) va_nil)) va_nil))))))) (He.meth_ok (Z.S.fact 63)) (show decide (0 ∈ PDx.cls) = true by decide) (fun _ _ _ _ _ _ us hl => match us, hl with | [_, _], _ => rfl) rfl
theorem ok__law_bag (Z : Gn K mg base) : Rdy P w K mg base (PDx.gi K) "_law_bag" 1 1 [] F__law_bag := by
  obtain ⟨fd, FD⟩ := SaysV.fun_ Z.S 18
  have sc : FnScope ["_law_script"] ["_law_script"] (defScope (top 16)) := ⟨rfl, rfl, rfl, by decide +kernel, rfl, by decide +kernel, by decide +kernel⟩
  exact rdy_of FD (fn_D (k := 0) (m := m__law_bag) (PD.giOk Z.ok) FD sc (fun cdv A outer s H E B hr b => (vs_one (vs_retC (ve_lst (o := true) (va_cons (ve_callTy (c_list false b.K) rfl (fr_list Z) bt_list (va_cons (ve_var 0) va_nil)) (va_cons ve_int (va_cons ve_int (va_cons (ve_bin o_mod (ve_callTy c_int rfl (fr_int Z) bt_int (va_cons (ve_callB (c_sum b.K b.calm) rfl (fr_sum Z) bt_sum (va_cons (ve_var 0) va_nil)) va_nil)) ve_int) (va_cons ve_int (va_cons ve_int va_nil))))))))))) (gl__law_bag Z) (fun _ _ _ _ _ _ us hl => match us, hl with | [_], _ => rfl) rfl
theorem ok__law_mixed (Z : Gn K mg base) : Rdy P w K mg base (PDx.gi K) "_law_mixed" 1 2 [] F__law_mixed := by
  obtain ⟨fd, FD⟩ := SaysV.fun_ Z.S 19
  have sc : FnScope ["_law_seed", "_law_turn", "_law_first"] ["_law_seed", "_law_turn"] (defScope (top 17)) := ⟨rfl, rfl, rfl, by decide +kernel, rfl, by decide +kernel, by decide +kernel⟩
  exact rdy_of FD (fn_D (k := 0) (m := m__law_mixed) (PD.giOk Z.ok) FD sc (fun cdv A outer s H E B hr b => (vs_cons (vs_set sc.nd rfl (Or.inl rfl) (ve_bin o_mod (ve_callTy c_int rfl (fr_int Z) bt_int (va_cons (ve_bin (o_add false b.K) (ve_bin o_mul (ve_bin (o_add false b.K) (ve_var 0) ve_int) ve_int) (ve_bin o_mul (ve_bin (o_add false b.K) (ve_var 1) ve_int) ve_int)) va_nil)) ve_int)) (vs_one (vs_ret (ve_bin o_div (ve_bin o_mod (ve_callTy c_int rfl (fr_int Z) bt_int (va_cons (ve_bin (o_add false b.K) (ve_bin (o_add false b.K) (ve_bin o_mul (ve_var 2) (ve_var 2)) (ve_bin o_mul (ve_var 2) ve_int)) (ve_bin o_mul ve_int (ve_var 1))) va_nil)) ve_int) ve_int)))))) (gl__law_mixed Z) (fun _ _ _ _ _ _ us hl => match us, hl with | [_, _], _ => rfl) rfl
theorem ok__law_draw (Z : Gn K mg base) : Rdy P w K mg base (PDx.gi K) "_law_draw" 2 2 [] F__law_draw := by
  obtain ⟨fd, FD⟩ := SaysV.fun_ Z.S 20
  have sc : FnScope ["_law_bag_here", "_law_many", "_law_cell", "_law_value"] ["_law_bag_here", "_law_many"] (defScope (top 18)) := ⟨rfl, rfl, rfl, by decide +kernel, rfl, by decide +kernel, by decide +kernel⟩
  exact rdy_of FD (fn_D (k := 1) (m := m__law_draw) (PD.giOk Z.ok) FD sc (fun cdv A outer s H E B hr b => (vs_cons (vs_if (vt_cmp o_lt (ve_var 1) ve_int rfl) (vs_one (vs_ret ve_int)) vs_nil) (vs_cons (vs_setix (ve_bin (o_add false b.K) (ve_ix b.K (ve_var 0) ve_int fun _ _ => rfl) ve_int) (ve_var 0) ve_int) (vs_cons (vs_if (PW.pt (vw_and (vt_cmp (o_eq b.K b.un) (ve_ix b.K (ve_var 0) ve_int fun _ _ => rfl) ve_int rfl) (vw_and (vt_cmp (o_eq b.K b.un) (ve_ix b.K (ve_var 0) ve_int fun _ _ => rfl) ve_int rfl) (vw_and1 (vt_cmp o_lt (ve_ix b.K (ve_var 0) ve_int fun _ _ => rfl) (ve_callB (c_len b.K) rfl (fr_len Z) bt_len (va_cons (ve_ix b.K (ve_var 0) ve_int fun _ _ => rfl) va_nil)) rfl))))) (vs_cons (vs_set sc.nd rfl (Or.inl rfl) (ve_ix b.K (ve_ix b.K (ve_var 0) ve_int fun _ _ => rfl) (ve_ix b.K (ve_var 0) ve_int fun _ _ => rfl) fun _ _ => rfl)) (vs_cons (vs_setix (ve_bin (o_add false b.K) (ve_ix b.K (ve_var 0) ve_int fun _ _ => rfl) ve_int) (ve_var 0) ve_int) (vs_one (vs_if (vt_cmp o_ge (ve_callB c_abs rfl (fr_abs Z) bt_abs (va_cons (ve_var 2) va_nil)) (ve_bin o_pow ve_int ve_int) rfl) (vs_one (vs_setix (ve_callB c_abs rfl (fr_abs Z) bt_abs (va_cons (ve_var 2) va_nil)) (ve_var 0) ve_int)) (vs_cons (vs_setix (ve_bin (o_add false b.K) (ve_bin o_mul ve_int (ve_callB c_abs rfl (fr_abs Z) bt_abs (va_cons (ve_var 2) va_nil))) (ve_callTy c_int rfl (fr_int Z) bt_int (va_cons (ve_cmp o_lt (ve_var 2) ve_int rfl) va_nil))) (ve_var 0) ve_int) (vs_one (vs_setix ve_int (ve_var 0) ve_int))))))) vs_nil) (vs_cons (vs_if (vt_cmp o_gt (ve_ix b.K (ve_var 0) ve_int fun _ _ => rfl) ve_int rfl) (vs_cons (vs_set sc.nd rfl (Or.inl rfl) (ve_bin o_mod (ve_callTy c_int rfl (fr_int Z) bt_int (va_cons (ve_ix b.K (ve_var 0) ve_int fun _ _ => rfl) va_nil)) (ve_var 1))) (vs_cons (vs_setix (ve_bin o_div (ve_ix b.K (ve_var 0) ve_int fun _ _ => rfl) (ve_var 1)) (ve_var 0) ve_int) (vs_one (vs_ret (ve_var 3))))) vs_nil) (vs_cons (vs_if (vt_cmp o_gt (ve_ix b.K (ve_var 0) ve_int fun _ _ => rfl) ve_int rfl) (vs_one (vs_setix (ve_bin o_sub (ve_ix b.K (ve_var 0) ve_int fun _ _ => rfl) ve_int) (ve_var 0) ve_int)) vs_nil) (vs_one (vs_ret (ve_bin o_mod (ve_callTy c_int rfl (fr_int Z) bt_int (va_cons (ve_call ((ok__law_mixed Z).v hr (by decide)) b.gd b.tk rfl (va_cons (ve_ix b.K (ve_var 0) ve_int fun _ _ => rfl) (va_cons (ve_ix b.K (ve_var 0) ve_int fun _ _ => rfl) va_nil))) va_nil)) (ve_var 1))))))))))) (gl__law_draw Z) (fun _ _ _ _ _ _ us hl => match us, hl with | [_, _], _ => rfl) rfl
theorem ok__law_pick (Z : Gn K mg base) : Rdy P w K mg base (PDx.gi K) "_law_pick" 3 2 [] F__law_pick := by
  obtain ⟨fd, FD⟩ := SaysV.fun_ Z.S 21
  have sc : FnScope ["_law_bag_here", "_law_row"] ["_law_bag_here", "_law_row"] (defScope (top 19)) := ⟨rfl, rfl, rfl, by decide +kernel, rfl, by decide +kernel, by decide +kernel⟩
  exact rdy_of FD (fn_D (k := 2) (m := m__law_pick) (PD.giOk Z.ok) FD sc (fun cdv A outer s H E B hr b => (vs_one (vs_ret (ve_ix b.K (ve_var 1) (ve_call ((ok__law_draw Z).v hr (by decide)) b.gd b.tk rfl (va_cons (ve_var 0) (va_cons (ve_callB (c_len b.K) rfl (fr_len Z) bt_len (va_cons (ve_var 1) va_nil)) va_nil))) fun _ _ => rfl))))) (gl__law_pick Z) (fun _ _ _ _ _ _ us hl => match us, hl with | [_, _], _ => rfl) rfl
theorem ok__law_name (Z : Gn K mg base) : Rdy P w K mg base (PDx.gi K) "_law_name" 3 2 [] F__law_name := by
  obtain ⟨fd, FD⟩ := SaysV.fun_ Z.S 22
  have sc : FnScope ["_law_bag_here", "_law_taken", "_law_signs", "_law_name_here", "_law_k", "_law_words", "_law_spare"] ["_law_bag_here", "_law_taken"] (defScope (top 20)) := ⟨rfl, rfl, rfl, by decide +kernel, rfl, by decide +kernel, by decide +kernel⟩
  exact rdy_of FD (fn_D (k := 2) (m := m__law_name) (PD.giOk Z.ok) FD sc (fun cdv A outer s H E B hr b => (vs_cons (vs_set sc.nd rfl (Or.inl rfl) ve_str) (vs_cons (vs_set sc.nd rfl (Or.inl rfl) (ve_ix b.K (ve_var 2) (ve_call ((ok__law_draw Z).v hr (by decide)) b.gd b.tk rfl (va_cons (ve_var 0) (va_cons ve_int va_nil))) fun _ _ => rfl)) (vs_cons (vs_forR1 b.ps b.calm rfl (fr_range Z) (va_cons (ve_ix b.K (ve_lst (o := false) (va_cons ve_int (va_cons ve_int (va_cons ve_int (va_cons ve_int va_nil))))) (ve_call ((ok__law_draw Z).v hr (by decide)) b.gd b.tk rfl (va_cons (ve_var 0) (va_cons ve_int va_nil))) fun _ _ => rfl) va_nil) (vg_name sc.nd rfl (Or.inl rfl)) (vs_one (vs_set sc.nd rfl (Or.inl rfl) (ve_bin (o_add false b.K) (ve_var 3) (ve_ix b.K (ve_var 2) (ve_call ((ok__law_draw Z).v hr (by decide)) b.gd b.tk rfl (va_cons (ve_var 0) (va_cons ve_int va_nil))) fun _ _ => rfl))))) (vs_cons (vs_set sc.nd rfl (Or.inl rfl) ve_str) (vs_cons (vs_if (PW.pt (vw_and (vt_cmp (o_nin b.K (un65 hr)) (ve_var 3) (ve_var 1) rfl) (vw_and1 (vt_cmp (o_nin b.K (un65 hr)) (ve_bin (o_add false b.K) (ve_bin (o_add false b.K) ve_str (ve_var 3)) ve_str) (ve_bin (o_add false b.K) (ve_var 5) ve_str) rfl)))) (vs_one (vs_ret (ve_var 3))) vs_nil) (vs_one (vs_ret (ve_ix b.K (ve_lc (o := false) (own := [("_law_spare", 6)]) b sc.nd (ve_lcR (o := false) (own := [("_law_k", 4)]) b sc.nd rfl (fr_range Z) (va_cons (ve_bin (o_add false b.K) (ve_callB (c_len b.K) rfl (fr_len Z) bt_len (va_cons (ve_var 1) va_nil)) ve_int) va_nil) (blkOk_by (own := [("_law_k", 4)]) rfl) (cg_name (i := 4) (by decide)) (fun _ _ _ _ _ => pg_name sc.nd rfl (Or.inl rfl)) (fun _ _ _ _ _ => vts_nil) (fun _ _ _ _ _ => (ve_bin (o_add false b.blk.K) ve_str (ve_callTy c_str rfl (fr_str Z) bt_str (va_cons (ve_var 4) va_nil))))) (blkOk_by (own := [("_law_spare", 6)]) rfl) (cg_name (i := 6) (by decide)) (fun _ _ _ _ _ => pg_name sc.nd rfl (Or.inl rfl)) (fun _ _ _ _ _ => (vts_one (vt_cmp (o_nin b.blk.K (un65 hr)) (ve_var 6) (ve_var 1) rfl))) (fun _ _ _ _ _ => (ve_var 6))) ve_int fun _ _ => rfl)))))))))) (gl__law_name Z) (fun _ _ _ _ _ _ us hl => match us, hl with | [_, _], _ => rfl) rfl
theorem ok__law_names (Z : Gn K mg base) : Rdy P w K mg base (PDx.gi K) "_law_names" 4 3 [] F__law_names := by
  obtain ⟨fd, FD⟩ := SaysV.fun_ Z.S 23
  have sc : FnScope ["_law_bag_here", "_law_many", "_law_taken", "_law_found", "_law_k"] ["_law_bag_here", "_law_many", "_law_taken"] (defScope (top 21)) := ⟨rfl, rfl, rfl, by decide +kernel, rfl, by decide +kernel, by decide +kernel⟩
  exact rdy_of FD (fn_D (k := 3) (m := m__law_names) (PD.giOk Z.ok) FD sc (fun cdv A outer s H E B hr b => (vs_cons (vs_set sc.nd rfl (Or.inl rfl) (ve_lst (o := true) va_nil)) (vs_cons (vs_forR1 b.ps b.calm rfl (fr_range Z) (va_cons (ve_var 1) va_nil) (vg_name sc.nd rfl (Or.inl rfl)) (vs_one (vs_append b.K (pe_var (i := 3) rfl (Or.inl rfl)) (ve_call ((ok__law_name Z).v hr (by decide)) b.gd b.tk rfl (va_cons (ve_var 0) (va_cons (ve_bin (o_add false b.K) (ve_var 2) (ve_var 3)) va_nil)))))) (vss_frz 3 (vs_one (vs_ret (ve_var 3)))))))) (gl__law_names Z) (fun _ _ _ _ _ _ us hl => match us, hl with | [_, _, _], _ => rfl) rfl
theorem ok__law_is_int (Z : Gn K mg base) : Rdy P w K mg base (PDx.gi K) "_law_is_int" 1 1 [] F__law_is_int := by
  obtain ⟨fd, FD⟩ := SaysV.fun_ Z.S 24
  have sc : FnScope ["_law_thing"] ["_law_thing"] (defScope (top 22)) := ⟨rfl, rfl, rfl, by decide +kernel, rfl, by decide +kernel, by decide +kernel⟩
  exact rdy_of FD (fn_D (k := 0) (m := m__law_is_int) (PD.giOk Z.ok) FD sc (fun cdv A outer s H E B hr b => (vs_one (vs_ret (ve_and (ve_isi b.G b.K (.bt "int") rfl (fr_isinstance Z) (ve_var 0) (pe_bltn (v := .ty "int") rfl (fr_int Z) bt_int rfl)) (ve_one (ve_not (ve_isi b.G b.K (.bt "bool") rfl (fr_isinstance Z) (ve_var 0) (pe_bltn (v := .ty "bool") rfl (fr_bool Z) bt_bool rfl))))))))) (gl__law_is_int Z) (fun _ _ _ _ _ _ us hl => match us, hl with | [_], _ => rfl) rfl
theorem ok__law_divisor (Z : Gn K mg base) : Rdy P w K mg base (PDx.gi K) "_law_divisor" 1 2 [] F__law_divisor := by
  obtain ⟨fd, FD⟩ := SaysV.fun_ Z.S 25
  have sc : FnScope ["_law_first", "_law_second", "_law_left"] ["_law_first", "_law_second"] (defScope (top 23)) := ⟨rfl, rfl, rfl, by decide +kernel, rfl, by decide +kernel, by decide +kernel⟩
  exact rdy_of FD (fn_D (k := 0) (m := m__law_divisor) (PD.giOk Z.ok) FD sc (fun cdv A outer s H E B hr b => (vs_cons (vs_set sc.nd rfl (Or.inl rfl) (ve_callB c_abs rfl (fr_abs Z) bt_abs (va_cons (ve_var 0) va_nil))) (vs_cons (vs_set sc.nd rfl (Or.inl rfl) (ve_callB c_abs rfl (fr_abs Z) bt_abs (va_cons (ve_var 1) va_nil))) (vs_cons (vs_while 20000 b.ps (vt_cmp o_gt (ve_var 1) ve_int rfl) (vs_cons (vs_set sc.nd rfl (Or.inl rfl) (ve_bin o_mod (ve_callTy c_int rfl (fr_int Z) bt_int (va_cons (ve_var 0) va_nil)) (ve_var 1))) (vs_cons (vs_set sc.nd rfl (Or.inl rfl) (ve_var 1)) (vs_one (vs_set sc.nd rfl (Or.inl rfl) (ve_var 2)))))) (vs_one (vs_ret (ve_var 0)))))))) (gl__law_divisor Z) (fun _ _ _ _ _ _ us hl => match us, hl with | [_, _], _ => rfl) rfl
theorem ok__law_low (Z : Gn K mg base) : Rdy P w K mg base (PDx.gi K) "_law_low" 2 2 [] F__law_low := by
  obtain ⟨fd, FD⟩ := SaysV.fun_ Z.S 26
  have sc : FnScope ["_law_above", "_law_below", "_law_shared"] ["_law_above", "_law_below"] (defScope (top 24)) := ⟨rfl, rfl, rfl, by decide +kernel, rfl, by decide +kernel, by decide +kernel⟩
  exact rdy_of FD (fn_D (k := 1) (m := m__law_low) (PD.giOk Z.ok) FD sc (fun cdv A outer s H E B hr b => (vs_cons (vs_if (vt_cmp o_lt (ve_var 1) ve_int rfl) (vs_cons (vs_set sc.nd rfl (Or.inl rfl) (ve_neg (ve_var 0))) (vs_one (vs_set sc.nd rfl (Or.inl rfl) (ve_neg (ve_var 1))))) vs_nil) (vs_cons (vs_set sc.nd rfl (Or.inl rfl) (ve_callB (c_max2 b.calm) rfl (fr_max Z) bt_max (va_cons ve_int (va_cons (ve_call ((ok__law_divisor Z).v hr (by decide)) b.gd b.tk rfl (va_cons (ve_var 0) (va_cons (ve_var 1) va_nil))) va_nil)))) (vs_one (vs_ret (ve_tup (va_cons (ve_bin o_div (ve_var 0) (ve_var 2)) (va_cons (ve_bin o_div (ve_var 1) (ve_var 2)) va_nil))))))))) (gl__law_low Z) (fun _ _ _ _ _ _ us hl => match us, hl with | [_, _], _ => rfl) rfl
theorem ok__law_plus (Z : Gn K mg base) : Rdy P w K mg base (PDx.gi K) "_law_plus" 3 2 [] F__law_plus := by
  obtain ⟨fd, FD⟩ := SaysV.fun_ Z.S 27
  have sc : FnScope ["_law_first", "_law_second"] ["_law_first", "_law_second"] (defScope (top 25)) := ⟨rfl, rfl, rfl, by decide +kernel, rfl, by decide +kernel, by decide +kernel⟩
  exact rdy_of FD (fn_D (k := 2) (m := m__law_plus) (PD.giOk Z.ok) FD sc (fun cdv A outer s H E B hr b => (vs_one (vs_ret (ve_call ((ok__law_low Z).v hr (by decide)) b.gd b.tk rfl (va_cons (ve_bin (o_add false b.K) (ve_bin o_mul (ve_ix b.K (ve_var 0) ve_int fun _ _ => rfl) (ve_ix b.K (ve_var 1) ve_int fun _ _ => rfl)) (ve_bin o_mul (ve_ix b.K (ve_var 1) ve_int fun _ _ => rfl) (ve_ix b.K (ve_var 0) ve_int fun _ _ => rfl))) (va_cons (ve_bin o_mul (ve_ix b.K (ve_var 0) ve_int fun _ _ => rfl) (ve_ix b.K (ve_var 1) ve_int fun _ _ => rfl)) va_nil))))))) (gl__law_plus Z) (fun _ _ _ _ _ _ us hl => match us, hl with | [_, _], _ => rfl) rfl
theorem ok__law_times (Z : Gn K mg base) : Rdy P w K mg base (PDx.gi K) "_law_times" 3 2 [] F__law_times := by
  obtain ⟨fd, FD⟩ := SaysV.fun_ Z.S 28
  have sc : FnScope ["_law_first", "_law_second"] ["_law_first", "_law_second"] (defScope (top 26)) := ⟨rfl, rfl, rfl, by decide +kernel, rfl, by decide +kernel, by decide +kernel⟩
  exact rdy_of FD (fn_D (k := 2) (m := m__law_times) (PD.giOk Z.ok) FD sc (fun cdv A outer s H E B hr b => (vs_one (vs_ret (ve_call ((ok__law_low Z).v hr (by decide)) b.gd b.tk rfl (va_cons (ve_bin o_mul (ve_ix b.K (ve_var 0) ve_int fun _ _ => rfl) (ve_ix b.K (ve_var 1) ve_int fun _ _ => rfl)) (va_cons (ve_bin o_mul (ve_ix b.K (ve_var 0) ve_int fun _ _ => rfl) (ve_ix b.K (ve_var 1) ve_int fun _ _ => rfl)) va_nil))))))) (gl__law_times Z) (fun _ _ _ _ _ _ us hl => match us, hl with | [_, _], _ => rfl) rfl
theorem ok__law_fraction (Z : Gn K mg base) : Rdy P w K mg base (PDx.gi K) "_law_fraction" 2 1 [] F__law_fraction := by
  obtain ⟨fd, FD⟩ := SaysV.fun_ Z.S 29
  have sc : FnScope ["_law_thing"] ["_law_thing"] (defScope (top 27)) := ⟨rfl, rfl, rfl, by decide +kernel, rfl, by decide +kernel, by decide +kernel⟩
  exact rdy_of FD (fn_D (k := 1) (m := m__law_fraction) (PD.giOk Z.ok) FD sc (fun cdv A outer s H E B hr b => (vs_cons (vs_if (PW.pt (vw_or (vt_not (vt_val (ve_isi b.G b.K (.bt "tuple") rfl (fr_isinstance Z) (ve_var 0) (pe_bltn (v := .ty "tuple") rfl (fr_tuple Z) bt_tuple rfl)))) (vw_or1 (vt_cmp (o_ne b.K b.un) (ve_callB (c_len b.K) rfl (fr_len Z) bt_len (va_cons (ve_var 0) va_nil)) ve_int rfl)))) (vs_one (vs_ret ve_bl)) vs_nil) (vs_cons (vs_if (PW.pt (vw_or (vt_not (vt_val (ve_call ((ok__law_is_int Z).v hr (by decide)) b.gd b.tk rfl (va_cons (ve_ix b.K (ve_var 0) ve_int fun _ _ => rfl) va_nil)))) (vw_or (vt_not (vt_val (ve_call ((ok__law_is_int Z).v hr (by decide)) b.gd b.tk rfl (va_cons (ve_ix b.K (ve_var 0) ve_int fun _ _ => rfl) va_nil)))) (vw_or1 (vt_cmp o_lt (ve_ix b.K (ve_var 0) ve_int fun _ _ => rfl) ve_int rfl))))) (vs_one (vs_ret ve_bl)) vs_nil) (vs_one (vs_ret (ve_cmp (o_eq b.K b.un) (ve_call ((ok__law_divisor Z).v hr (by decide)) b.gd b.tk rfl (va_cons (ve_ix b.K (ve_var 0) ve_int fun _ _ => rfl) (va_cons (ve_ix b.K (ve_var 0) ve_int fun _ _ => rfl) va_nil))) ve_int rfl))))))) (gl__law_fraction Z) (fun _ _ _ _ _ _ us hl => match us, hl with | [_], _ => rfl) rfl
theorem ok__law_p1_unknowns (Z : Gn K mg base) : Rdy P w K mg base (PDx.gi K) "_law_p1_unknowns" 5 1 [] F__law_p1_unknowns := by
  obtain ⟨fd, FD⟩ := SaysV.fun_ Z.S 30
  have sc : FnScope ["_law_bag_here", "_law_lots", "_law_farms", "_law_found", "_law_lot", "_law_farm"] ["_law_bag_here"] (defScope (top 28)) := ⟨rfl, rfl, rfl, by decide +kernel, rfl, by decide +kernel, by decide +kernel⟩
  exact rdy_of FD (fn_D (k := 4) (m := m__law_p1_unknowns) (PD.giOk Z.ok) FD sc (fun cdv A outer s H E B hr b => (vs_cons (vs_set sc.nd rfl (Or.inl rfl) (ve_call ((ok__law_names Z).v hr (by decide)) b.gd b.tk rfl (va_cons (ve_var 0) (va_cons (ve_bin (o_add false b.K) ve_int (ve_call ((ok__law_draw Z).v hr (by decide)) b.gd b.tk rfl (va_cons (ve_var 0) (va_cons ve_int va_nil)))) (va_cons (ve_lst (o := false) va_nil) va_nil))))) (vs_cons (vs_set sc.nd rfl (Or.inl rfl) (ve_call ((ok__law_names Z).v hr (by decide)) b.gd b.tk rfl (va_cons (ve_var 0) (va_cons (ve_bin (o_add false b.K) ve_int (ve_call ((ok__law_draw Z).v hr (by decide)) b.gd b.tk rfl (va_cons (ve_var 0) (va_cons ve_int va_nil)))) (va_cons (ve_lst (o := false) va_nil) va_nil))))) (vs_cons (vs_set sc.nd rfl (Or.inl rfl) (ve_lst (o := true) va_nil)) (vs_cons (vs_for b.K b.ps b.calm (ve_var 1) (vg_name sc.nd rfl (Or.inl rfl)) (vs_one (vs_for b.K b.ps b.calm (ve_var 2) (vg_name sc.nd rfl (Or.inl rfl)) (vs_one (vs_append b.K (pe_var (i := 3) rfl (Or.inl rfl)) (ve_tup (va_cons (ve_var 4) (va_cons (ve_var 5) va_nil)))))))) (vss_frz 3 (vs_one (vs_ret (ve_var 3)))))))))) (gl__law_p1_unknowns Z) (fun _ _ _ _ _ _ us hl => match us, hl with | [_], _ => rfl) rfl
theorem ok__law_p1_worth (Z : Gn K mg base) : Rdy P w K mg base (PDx.gi K) "_law_p1_worth" 4 1 [] F__law_p1_worth := by
  obtain ⟨fd, FD⟩ := SaysV.fun_ Z.S 31
  have sc : FnScope ["_law_bag_here", "_law_way", "_law_below"] ["_law_bag_here"] (defScope (top 29)) := ⟨rfl, rfl, rfl, by decide +kernel, rfl, by decide +kernel, by decide +kernel⟩
  exact rdy_of FD (fn_D (k := 3) (m := m__law_p1_worth) (PD.giOk Z.ok) FD sc (fun cdv A outer s H E B hr b => (vs_cons (vs_set sc.nd rfl (Or.inl rfl) (ve_call ((ok__law_draw Z).v hr (by decide)) b.gd b.tk rfl (va_cons (ve_var 0) (va_cons ve_int va_nil)))) (vs_cons (vs_if (vt_cmp o_lt (ve_var 1) ve_int rfl) (vs_cons (vs_set sc.nd rfl (Or.inl rfl) (ve_bin (o_add false b.K) ve_int (ve_call ((ok__law_draw Z).v hr (by decide)) b.gd b.tk rfl (va_cons (ve_var 0) (va_cons (ve_bin o_pow ve_int ve_int) va_nil))))) (vs_one (vs_ret (ve_call ((ok__law_low Z).v hr (by decide)) b.gd b.tk rfl (va_cons (ve_bin o_sub (ve_call ((ok__law_draw Z).v hr (by decide)) b.gd b.tk rfl (va_cons (ve_var 0) (va_cons (ve_bin o_pow ve_int ve_int) va_nil))) (ve_call ((ok__law_draw Z).v hr (by decide)) b.gd b.tk rfl (va_cons (ve_var 0) (va_cons (ve_bin o_pow ve_int ve_int) va_nil)))) (va_cons (ve_var 2) va_nil)))))) vs_nil) (vs_cons (vs_if (vt_cmp (o_eq b.K b.un) (ve_var 1) ve_int rfl) (vs_one (vs_ret (ve_tup (va_cons ve_int (va_cons ve_int va_nil))))) vs_nil) (vs_one (vs_ret (ve_call ((ok__law_low Z).v hr (by decide)) b.gd b.tk rfl (va_cons (ve_bin o_sub (ve_call ((ok__law_draw Z).v hr (by decide)) b.gd b.tk rfl (va_cons (ve_var 0) (va_cons ve_int va_nil))) ve_int) (va_cons (ve_call ((ok__law_pick Z).v hr (by decide)) b.gd b.tk rfl (va_cons (ve_var 0) (va_cons (ve_lst (o := false) (va_cons ve_int (va_cons ve_int (va_cons ve_int (va_cons ve_int (va_cons ve_int (va_cons ve_int (va_cons ve_int (va_cons ve_int va_nil))))))))) va_nil))) va_nil)))))))))) (gl__law_p1_worth Z) (fun _ _ _ _ _ _ us hl => match us, hl with | [_], _ => rfl) rfl
theorem ok__law_p1_pairs (Z : Gn K mg base) : Rdy P w K mg base (PDx.gi K) "_law_p1_pairs" 5 3 [] F__law_p1_pairs := by
  obtain ⟨fd, FD⟩ := SaysV.fun_ Z.S 32
  have sc : FnScope ["_law_bag_here", "_law_unknowns", "_law_many", "_law_k"] ["_law_bag_here", "_law_unknowns", "_law_many"] (defScope (top 30)) := ⟨rfl, rfl, rfl, by decide +kernel, rfl, by decide +kernel, by decide +kernel⟩
  exact rdy_of FD (fn_D (k := 4) (m := m__law_p1_pairs) (PD.giOk Z.ok) FD sc (fun cdv A outer s H E B hr b => (vs_one (vs_ret (ve_lcR (o := false) (own := [("_law_k", 3)]) b sc.nd rfl (fr_range Z) (va_cons (ve_var 2) va_nil) (blkOk_by (own := [("_law_k", 3)]) rfl) (cg_name (i := 3) (by decide)) (fun _ _ _ _ _ => pg_name sc.nd rfl (Or.inl rfl)) (fun _ _ _ _ _ => vts_nil) (fun _ _ _ _ _ => (ve_tup (va_cons (ve_call ((ok__law_pick Z).v hr (by decide)) b.blk.gd b.blk.tk rfl (va_cons (ve_var 0) (va_cons (ve_var 1) va_nil))) (va_cons (ve_call ((ok__law_p1_worth Z).v hr (by decide)) b.blk.gd b.blk.tk rfl (va_cons (ve_var 0) va_nil)) va_nil))))))))) (gl__law_p1_pairs Z) (fun _ _ _ _ _ _ us hl => match us, hl with | [_, _, _], _ => rfl) rfl
theorem ok__law_p1_multiplied (Z : Gn K mg base) : Rdy P w K mg base (PDx.gi K) "_law_p1_multiplied" 4 2 [] F__law_p1_multiplied := by
  obtain ⟨fd, FD⟩ := SaysV.fun_ Z.S 33
  have sc : FnScope ["_law_pairs", "_law_worth", "_law_pair"] ["_law_pairs", "_law_worth"] (defScope (top 31)) := ⟨rfl, rfl, rfl, by decide +kernel, rfl, by decide +kernel, by decide +kernel⟩
  exact rdy_of FD (fn_D (k := 3) (m := m__law_p1_multiplied) (PD.giOk Z.ok) FD sc (fun cdv A outer s H E B hr b => (vs_one (vs_ret (ve_lc (o := false) (own := [("_law_pair", 2)]) b sc.nd (ve_var 0) (blkOk_by (own := [("_law_pair", 2)]) rfl) (cg_name (i := 2) (by decide)) (fun _ _ _ _ _ => pg_name sc.nd rfl (Or.inl rfl)) (fun _ _ _ _ _ => vts_nil) (fun _ _ _ _ _ => (ve_tup (va_cons (ve_ix b.blk.K (ve_var 2) ve_int fun _ _ => rfl) (va_cons (ve_call ((ok__law_times Z).v hr (by decide)) b.blk.gd b.blk.tk rfl (va_cons (ve_ix b.blk.K (ve_var 2) ve_int fun _ _ => rfl) (va_cons (ve_var 1) va_nil))) va_nil))))))))) (gl__law_p1_multiplied Z) (fun _ _ _ _ _ _ us hl => match us, hl with | [_, _], _ => rfl) rfl
theorem ok__law_p1_due (Z : Gn K mg base) : Rdy P w K mg base (PDx.gi K) "_law_p1_due" 4 1 [] F__law_p1_due := by
  obtain ⟨fd, FD⟩ := SaysV.fun_ Z.S 34
  have sc : FnScope ["_law_pairs", "_law_sums", "_law_unknown", "_law_worth"] ["_law_pairs"] (defScope (top 32)) := ⟨rfl, rfl, rfl, by decide +kernel, rfl, by decide +kernel, by decide +kernel⟩
  exact rdy_of FD (fn_D (k := 3) (m := m__law_p1_due) (PD.giOk Z.ok) FD sc (fun cdv A outer s H E B hr b => (vss_cut (vs_cons (vs_set sc.nd rfl (Or.inr rfl) ve_newT) (vs_cons (vs_for b.K b.ps b.calm (ve_var 0) (vg_tup b.K b.calm (vg_cons (vg_name sc.nd rfl (Or.inl rfl)) (vg_cons (vg_name sc.nd rfl (Or.inl rfl)) vg_nil))) (vs_one (vs_dput (g := PDx.gi K) b.un (ve_call ((ok__law_plus Z).v hr (by decide)) b.gd b.tk rfl (va_cons (ve_dget2 (g := PDx.gi K) b.un (ve_var 1) (ve_var 2) (ve_tup (va_cons ve_int (va_cons ve_int va_nil))) ⟨rfl, rfl, rfl, rfl⟩) (va_cons (ve_var 3) va_nil))) (ve_var 1) (ve_var 2)))) (vs_one (vs_ret (ve_callTy (c_tuple b.K) rfl (fr_tuple Z) bt_tuple (va_cons (ve_lc (o := false) (own := [("_law_unknown", 2)]) b sc.nd (ve_callB (c_sortedD (g := PDx.gi K) false b.calm b.K) rfl (fr_sorted Z) bt_sorted (va_cons (ve_var 1) va_nil)) (blkOk_by (own := [("_law_unknown", 2)]) rfl) (cg_name (i := 2) (by decide)) (fun _ _ _ _ _ => pg_name sc.nd rfl (Or.inl rfl)) (fun _ _ _ _ _ => (vts_one (vt_cmp (o_ne b.blk.K b.blk.un) (ve_ixd (g := PDx.gi K) b.blk.K b.blk.un (ve_ixd (g := PDx.gi K) b.blk.K b.blk.un (ve_var 1) (ve_var 2) (fun _ _ => rfl) (fun _ _ => rfl)) ve_int (fun _ _ => rfl) (fun _ _ => rfl)) ve_int rfl))) (fun _ _ _ _ _ => (ve_tup (va_cons (ve_var 2) (va_cons (ve_ixd (g := PDx.gi K) b.blk.K b.blk.un (ve_var 1) (ve_var 2) (fun _ _ => rfl) (fun _ _ => rfl)) va_nil))))) va_nil))))))))) (gl__law_p1_due Z) (fun _ _ _ _ _ _ us hl => match us, hl with | [_], _ => rfl) rfl
theorem ok__law_p1_at (Z : Gn K mg base) : Rdy P w K mg base (PDx.gi K) "_law_p1_at" 1 2 [] F__law_p1_at := by
  obtain ⟨fd, FD⟩ := SaysV.fun_ Z.S 35
  have sc : FnScope ["_law_parts", "_law_unknown", "_law_part"] ["_law_parts", "_law_unknown"] (defScope (top 33)) := ⟨rfl, rfl, rfl, by decide +kernel, rfl, by decide +kernel, by decide +kernel⟩
  exact rdy_of FD (fn_D (k := 0) (m := m__law_p1_at) (PD.giOk Z.ok) FD sc (fun cdv A outer s H E B hr b => (vs_cons (vs_for b.K b.ps b.calm (ve_var 0) (vg_name sc.nd rfl (Or.inl rfl)) (vs_one (vs_if (vt_cmp (o_eq b.K b.un) (ve_ix b.K (ve_var 2) ve_int fun _ _ => rfl) (ve_var 1) rfl) (vs_one (vs_ret (ve_ix b.K (ve_var 2) ve_int fun _ _ => rfl))) vs_nil))) (vs_one (vs_ret (ve_tup (va_cons ve_int (va_cons ve_int va_nil)))))))) (gl__law_p1_at Z) (fun _ _ _ _ _ _ us hl => match us, hl with | [_, _], _ => rfl) rfl
theorem ok__law_p1_point (Z : Gn K mg base) : Rdy P w K mg base (PDx.gi K) "_law_p1_point" 5 2 [] F__law_p1_point := by
  obtain ⟨fd, FD⟩ := SaysV.fun_ Z.S 36
  have sc : FnScope ["_law_bag_here", "_law_unknowns", "_law_found", "_law_unknown"] ["_law_bag_here", "_law_unknowns"] (defScope (top 34)) := ⟨rfl, rfl, rfl, by decide +kernel, rfl, by decide +kernel, by decide +kernel⟩
  exact rdy_of FD (fn_D (k := 4) (m := m__law_p1_point) (PD.giOk Z.ok) FD sc (fun cdv A outer s H E B hr b => (vs_cons (vs_set sc.nd rfl (Or.inl rfl) (ve_lst (o := true) va_nil)) (vs_cons (vs_for b.K b.ps b.calm (ve_callB (c_sorted (g := PDx.gi K) false b.K) rfl (fr_sorted Z) bt_sorted (va_cons (ve_var 1) va_nil)) (vg_name sc.nd rfl (Or.inl rfl)) (vs_one (vs_if (vt_cmp o_gt (ve_call ((ok__law_draw Z).v hr (by decide)) b.gd b.tk rfl (va_cons (ve_var 0) (va_cons ve_int va_nil))) ve_int rfl) (vs_one (vs_append b.K (pe_var (i := 2) rfl (Or.inl rfl)) (ve_tup (va_cons (ve_var 3) (va_cons (ve_call ((ok__law_p1_worth Z).v hr (by decide)) b.gd b.tk rfl (va_cons (ve_var 0) va_nil)) va_nil))))) vs_nil))) (vss_frz 2 (vs_one (vs_ret (ve_callTy (c_tupleX b.K) rfl (fr_tuple Z) bt_tuple (va_cons (ve_var 2) va_nil))))))))) (gl__law_p1_point Z) (fun _ _ _ _ _ _ us hl => match us, hl with | [_, _], _ => rfl) rfl
theorem ok__law_p1_value (Z : Gn K mg base) : Rdy P w K mg base (PDx.gi K) "_law_p1_value" 4 2 [] F__law_p1_value := by
  obtain ⟨fd, FD⟩ := SaysV.fun_ Z.S 37
  have sc : FnScope ["_law_parts", "_law_point", "_law_found", "_law_unknown", "_law_worth"] ["_law_parts", "_law_point"] (defScope (top 35)) := ⟨rfl, rfl, rfl, by decide +kernel, rfl, by decide +kernel, by decide +kernel⟩
  exact rdy_of FD (fn_D (k := 3) (m := m__law_p1_value) (PD.giOk Z.ok) FD sc (fun cdv A outer s H E B hr b => (vs_cons (vs_set sc.nd rfl (Or.inl rfl) (ve_tup (va_cons ve_int (va_cons ve_int va_nil)))) (vs_cons (vs_for b.K b.ps b.calm (ve_var 0) (vg_tup b.K b.calm (vg_cons (vg_name sc.nd rfl (Or.inl rfl)) (vg_cons (vg_name sc.nd rfl (Or.inl rfl)) vg_nil))) (vs_one (vs_set sc.nd rfl (Or.inl rfl) (ve_call ((ok__law_plus Z).v hr (by decide)) b.gd b.tk rfl (va_cons (ve_var 2) (va_cons (ve_call ((ok__law_times Z).v hr (by decide)) b.gd b.tk rfl (va_cons (ve_var 4) (va_cons (ve_call ((ok__law_p1_at Z).v hr (by decide)) b.gd b.tk rfl (va_cons (ve_var 1) (va_cons (ve_var 3) va_nil))) va_nil))) va_nil)))))) (vs_one (vs_ret (ve_var 2))))))) (gl__law_p1_value Z) (fun _ _ _ _ _ _ us hl => match us, hl with | [_, _], _ => rfl) rfl
theorem ok__law_p1_same (Z : Gn K mg base) : Rdy P w K mg base (PDx.gi K) "_law_p1_same" 3 2 [] F__law_p1_same := by
  obtain ⟨fd, FD⟩ := SaysV.fun_ Z.S 38
  have sc : FnScope ["_law_told", "_law_due"] ["_law_told", "_law_due"] (defScope (top 36)) := ⟨rfl, rfl, rfl, by decide +kernel, rfl, by decide +kernel, by decide +kernel⟩
  exact rdy_of FD (fn_D (k := 2) (m := m__law_p1_same) (PD.giOk Z.ok) FD sc (fun cdv A outer s H E B hr b => (vs_one (vs_ret (ve_and (ve_call ((ok__law_fraction Z).v hr (by decide)) b.gd b.tk rfl (va_cons (ve_var 0) va_nil)) (ve_one (ve_cmp (o_eq b.K b.un) (ve_var 0) (ve_var 1) rfl))))))) (gl__law_p1_same Z) (fun _ _ _ _ _ _ us hl => match us, hl with | [_, _], _ => rfl) rfl
theorem ok__law_p1_is (Z : Gn K mg base) : Rdy P w K mg base (PDx.gi K) "_law_p1_is" 6 3 [] F__law_p1_is := by
  obtain ⟨fd, FD⟩ := SaysV.fun_ Z.S 39
  have sc : FnScope ["_law_form", "_law_due", "_law_unknowns", "_law_wrong", "_law_unknown", "_law_part"] ["_law_form", "_law_due", "_law_unknowns"] (defScope (top 37)) := ⟨rfl, rfl, rfl, by decide +kernel, rfl, by decide +kernel, by decide +kernel⟩
  exact rdy_of FD (fn_D (k := 5) (m := m__law_p1_is) (PD.giOk Z.ok) FD sc (fun cdv A outer s H E B hr b => (vs_cons (vs_if (PW.pt (vw_or (vt_not (vt_val (ve_isi b.G b.K (.own 0) rfl (fr_isinstance Z) (ve_var 0) (pe_glob rfl (gl_Form Z) rfl)))) (vw_or (vt_not (vt_val (ve_isi b.G b.K (.bt "tuple") rfl (fr_isinstance Z) (ve_fld b.G b.K (ve_var 0)) (pe_bltn (v := .ty "tuple") rfl (fr_tuple Z) bt_tuple rfl)))) (vw_or1 (vt_cmpW (o_nes b (vo_eq Z hr (by decide)) (ne_ok Z) (PD.nfOk Z.ok) (o_ne b.K b.un)) (ve_fld b.G b.K (ve_var 0)) (ve_var 1) rfl))))) (vs_one (vs_ret ve_bl)) vs_nil) (vs_cons (vs_if (vt_cmp o_gt (ve_lens b (vo_len Z hr (by decide)) rfl (fr_len Z) (va_cons (ve_lc (o := false) (own := [("_law_part", 5)]) b sc.nd (ve_fld b.G b.K (ve_var 0)) (blkOk_by (own := [("_law_part", 5)]) rfl) (cg_name (i := 5) (by decide)) (fun _ _ _ _ _ => pg_name sc.nd rfl (Or.inl rfl)) (fun _ _ _ _ _ => (vts_one (vt_not (vt_val (ve_call ((ok__law_fraction Z).v hr (by decide)) b.blk.gd b.blk.tk rfl (va_cons (ve_ixs b.blk (vo_getitem Z hr (by decide)) (ve_var 5) ve_int (ve_ix b.blk.K (ve_var 5) ve_int fun _ _ => rfl) fun _ _ => rfl) va_nil)))))) (fun _ _ _ _ _ => (ve_var 5))) va_nil)) ve_int rfl) (vs_one (vs_ret ve_bl)) vs_nil) (vs_cons (vs_if (PW.pt (vw_or (vt_cmpW (o_nes b (vo_eq Z hr (by decide)) (ne_ok Z) (PD.nfOk Z.ok) (o_ne b.K b.un)) (ve_lens b (vo_len Z hr (by decide)) rfl (fr_len Z) (va_cons (ve_var 0) va_nil)) (ve_lens b (vo_len Z hr (by decide)) rfl (fr_len Z) (va_cons (ve_var 1) va_nil)) rfl) (vw_or1 (vt_cmpW (o_nes b (vo_eq Z hr (by decide)) (ne_ok Z) (PD.nfOk Z.ok) (o_ne b.K b.un)) (ve_listO false b (vi_iter Z hr (by decide)) (vo_len4 Z hr (by decide)) rfl (fr_list Z) (va_cons (ve_var 0) va_nil)) (ve_lc (o := false) (own := [("_law_part", 5)]) b sc.nd (ve_var 1) (blkOk_by (own := [("_law_part", 5)]) rfl) (cg_name (i := 5) (by decide)) (fun _ _ _ _ _ => pg_name sc.nd rfl (Or.inl rfl)) (fun _ _ _ _ _ => vts_nil) (fun _ _ _ _ _ => (ve_ixs b.blk (vo_getitem Z hr (by decide)) (ve_var 5) ve_int (ve_ix b.blk.K (ve_var 5) ve_int fun _ _ => rfl) fun _ _ => rfl))) rfl)))) (vs_one (vs_ret ve_bl)) vs_nil) (vs_cons (vs_setLc (o := false) (own := [("_law_unknown", 4)]) b sc.nd rfl rfl (sw_true rfl rfl rfl rfl) (ve_var 2) (blkOk_by (own := [("_law_unknown", 4)]) rfl) (cg_name (i := 4) (by decide)) (fun _ _ _ _ _ => pg_name sc.nd rfl (Or.inl rfl)) (fun _ _ _ _ _ => (vts_one (vt_not (vt_val (ve_call ((ok__law_p1_same Z).v hr (by decide)) b.blk.gd b.blk.tk rfl (va_cons (ve_ixs b.blk (vo_getitem Z hr (by decide)) (ve_var 0) (ve_var 4) (ve_ix b.blk.K (ve_var 0) (ve_var 4) fun _ _ => rfl) fun _ _ => rfl) (va_cons (ve_call ((ok__law_p1_at Z).v hr (by decide)) b.blk.gd b.blk.tk rfl (va_cons (ve_var 1) (va_cons (ve_var 4) va_nil))) va_nil))))))) (fun _ _ _ _ _ => (ve_var 4))) (vs_one (vs_ret (ve_cmpW (o_eqs b (vo_eq Z hr (by decide)) (PD.nfOk Z.ok) (o_eq b.K b.un)) (ve_lens b (vo_len Z hr (by decide)) rfl (fr_len Z) (va_cons (ve_var 3) va_nil)) ve_int rfl))))))))) (gl__law_p1_is Z) (fun _ _ _ _ _ _ us hl => match us, hl with | [_, _, _], _ => rfl) rfl
theorem fg_law (Z : Gn K mg base) {fd : FuncData} (FD : FunD K r_law.name r_law.qual r_law.params r_law.body r_law.scope [] [] (r_law.pth K) fd) : FnG P w K mg base 8 (r_law.pth K) fd ["_law_script"] (spD (PDx.gi K) 1 F_law) := by
  have sc : FnScope ["_law_script", "_law_bag_here", "_law_unknowns", "_law_strange", "_law_first", "_law_second", "_law_worth", "_law_points", "_law_handed", "_law_one", "_law_two", "_law_back", "_law_forms", "_law_pairs", "_law_dues", "_law_form", "_law_due", "_law_point", "_law_other", "_law_parts", "_law_k", "_law_row", "_law_unknown"] ["_law_script"] (defScope (top 38)) := ⟨rfl, rfl, rfl, by decide +kernel, rfl, by decide +kernel, by decide +kernel⟩
  exact fn_D (k := 7) (m := m_law) (PD.giOk Z.ok) FD sc (fun cdv A outer s H E B hr b => (vs_cons (vs_set sc.nd rfl (Or.inr rfl) (ve_call ((ok__law_bag Z).v hr (by decide)) b.gd b.tk rfl (va_cons (ve_var 0) va_nil))) (vs_cons (vs_set sc.nd rfl (Or.inr rfl) (ve_call ((ok__law_p1_unknowns Z).v hr (by decide)) b.gd b.tk rfl (va_cons (ve_var 1) va_nil))) (vs_cons (vs_set sc.nd rfl (Or.inr rfl) (ve_tup (va_cons (ve_call ((ok__law_name Z).v hr (by decide)) b.gd b.tk rfl (va_cons (ve_var 1) (va_cons (ve_lc (o := false) (own := [("_law_unknown", 22)]) b sc.nd (ve_var 2) (blkOk_by (own := [("_law_unknown", 22)]) rfl) (cg_name (i := 22) (by decide)) (fun _ _ _ _ _ => pg_name sc.nd rfl (Or.inl rfl)) (fun _ _ _ _ _ => vts_nil) (fun _ _ _ _ _ => (ve_ixs b.blk (vo_getitem Z hr (by decide)) (ve_var 22) ve_int (ve_ix b.blk.K (ve_var 22) ve_int fun _ _ => rfl) fun _ _ => rfl))) va_nil))) (va_cons (ve_ixs b (vo_getitem Z hr (by decide)) (ve_ixs b (vo_getitem Z hr (by decide)) (ve_var 2) ve_int (ve_ix b.K (ve_var 2) ve_int fun _ _ => rfl) fun _ _ => rfl) ve_int (ve_ix b.K (ve_ixs b (vo_getitem Z hr (by decide)) (ve_var 2) ve_int (ve_ix b.K (ve_var 2) ve_int fun _ _ => rfl) fun _ _ => rfl) ve_int fun _ _ => rfl) fun _ _ => rfl) va_nil)))) (vs_cons (vs_set sc.nd rfl (Or.inl rfl) (ve_call ((ok__law_p1_pairs Z).v hr (by decide)) b.gd b.tk rfl (va_cons (ve_var 1) (va_cons (ve_var 2) (va_cons (ve_call ((ok__law_draw Z).v hr (by decide)) b.gd b.tk rfl (va_cons (ve_var 1) (va_cons ve_int va_nil))) va_nil))))) (vs_cons (vs_set sc.nd rfl (Or.inl rfl) (ve_call ((ok__law_p1_pairs Z).v hr (by decide)) b.gd b.tk rfl (va_cons (ve_var 1) (va_cons (ve_var 2) (va_cons (ve_call ((ok__law_draw Z).v hr (by decide)) b.gd b.tk rfl (va_cons (ve_var 1) (va_cons ve_int va_nil))) va_nil))))) (vs_cons (vs_if (vt_cmpW (o_eqs b (vo_eq Z hr (by decide)) (PD.nfOk Z.ok) (o_eq b.K b.un)) (ve_call ((ok__law_draw Z).v hr (by decide)) b.gd b.tk rfl (va_cons (ve_var 1) (va_cons ve_int va_nil))) ve_int rfl) (vs_one (vs_set sc.nd rfl (Or.inl rfl) (ve_binW (o_ops b (vo_add Z hr (by decide)) (o_add false b.K)) (ve_var 5) (ve_call ((ok__law_p1_multiplied Z).v hr (by decide)) b.gd b.tk rfl (va_cons (ve_slice false b.K (ve_var 4) (vo_some (ve_call ((ok__law_draw Z).v hr (by decide)) b.gd b.tk rfl (va_cons (ve_var 1) (va_cons ve_int va_nil)))) vo_none) (va_cons (ve_tup (va_cons (ve_negs b (vo_neg Z hr (by decide)) ve_int) (va_cons ve_int va_nil))) va_nil)))))) vs_nil) (vs_cons (vs_set sc.nd rfl (Or.inl rfl) (ve_call ((ok__law_p1_worth Z).v hr (by decide)) b.gd b.tk rfl (va_cons (ve_var 1) va_nil))) (vs_cons (vs_if (vt_cmpW (o_eqs b (vo_eq Z hr (by decide)) (PD.nfOk Z.ok) (o_eq b.K b.un)) (ve_call ((ok__law_draw Z).v hr (by decide)) b.gd b.tk rfl (va_cons (ve_var 1) (va_cons ve_int va_nil))) ve_int rfl) (vs_one (vs_set sc.nd rfl (Or.inl rfl) (ve_call ((ok__law_low Z).v hr (by decide)) b.gd b.tk rfl (va_cons (ve_binW (o_ops b (vo_sub Z hr (by decide)) o_sub) (ve_call ((ok__law_draw Z).v hr (by decide)) b.gd b.tk rfl (va_cons (ve_var 1) (va_cons (ve_bin o_pow ve_int ve_int) va_nil))) (ve_call ((ok__law_draw Z).v hr (by decide)) b.gd b.tk rfl (va_cons (ve_var 1) (va_cons (ve_bin o_pow ve_int ve_int) va_nil)))) (va_cons (ve_binW (o_ops b (vo_add Z hr (by decide)) (o_add false b.K)) ve_int (ve_call ((ok__law_draw Z).v hr (by decide)) b.gd b.tk rfl (va_cons (ve_var 1) (va_cons (ve_bin o_pow ve_int ve_int) va_nil)))) va_nil))))) vs_nil) (vs_cons (vs_setLcR (o := false) (own := [("_law_k", 20)]) b sc.nd rfl rfl (sw_true rfl rfl rfl rfl) rfl (fr_range Z) (va_cons ve_int va_nil) (blkOk_by (own := [("_law_k", 20)]) rfl) (cg_name (i := 20) (by decide)) (fun _ _ _ _ _ => pg_name sc.nd rfl (Or.inl rfl)) (fun _ _ _ _ _ => vts_nil) (fun _ _ _ _ _ => (ve_call ((ok__law_p1_point Z).v hr (by decide)) b.blk.gd b.blk.tk rfl (va_cons (ve_var 1) (va_cons (ve_binW (o_ops b.blk (vo_add Z hr (by decide)) (o_add false b.blk.K)) (ve_var 2) (ve_lst (o := false) (va_cons (ve_var 3) va_nil))) va_nil))))) (vs_cons (vs_set sc.nd rfl (Or.inl rfl) (ve_callTy (c_listC b.K) rfl (fr_list Z) bt_list (va_cons (ve_var 4) va_nil))) (vs_cons (vs_frzd (vs_set sc.nd rfl (Or.inl rfl) (ve_make b ((ok_Form_xinitx_1 Z).v hr (by decide)) rfl (gl_Form Z) (va_cons (ve_var 8) va_nil)))) (vs_cons (vs_set sc.nd rfl (Or.inl rfl) (ve_make b ((ok_Form_xinitx_1 Z).v hr (by decide)) rfl (gl_Form Z) (va_cons (ve_callTy (c_tuple b.K) rfl (fr_tuple Z) bt_tuple (va_cons (ve_var 5) va_nil)) va_nil))) (vs_cons (vs_expr (ve_metM b.K mm_append (ve_var 8) (va_cons (ve_tup (va_cons (ve_ixs b (vo_getitem Z hr (by decide)) (ve_var 2) ve_int (ve_ix b.K (ve_var 2) ve_int fun _ _ => rfl) fun _ _ => rfl) (va_cons (ve_tup (va_cons ve_int (va_cons ve_int va_nil))) va_nil))) va_nil))) (vs_cons (vs_set sc.nd rfl (Or.inl rfl) (ve_call ((ok__law_p1_multiplied Z).v hr (by decide)) b.gd b.tk rfl (va_cons (ve_var 5) (va_cons (ve_tup (va_cons (ve_negs b (vo_neg Z hr (by decide)) ve_int) (va_cons ve_int va_nil))) va_nil)))) (vs_cons (vs_set sc.nd rfl (Or.inl rfl) (ve_lst (o := false) (va_cons (ve_var 9) (va_cons (ve_var 10) (va_cons (ve_binW (o_ops b (vo_add Z hr (by decide)) (o_add false b.K)) (ve_var 9) (ve_var 10)) (va_cons (ve_binW (o_ops b (vo_sub Z hr (by decide)) o_sub) (ve_var 9) (ve_var 10)) (va_cons (ve_negs b (vo_neg Z hr (by decide)) (ve_var 9)) (va_cons (ve_binW (o_mulX b (vo_mul Z hr (by decide)) o_mul) (ve_var 9) (ve_var 6)) (va_cons (ve_binW (o_mulX b (vo_mul Z hr (by decide)) o_mul) (ve_var 10) (ve_var 6)) (va_cons (ve_binW (o_ops b (vo_sub Z hr (by decide)) o_sub) (ve_binW (o_ops b (vo_add Z hr (by decide)) (o_add false b.K)) (ve_var 9) (ve_var 10)) (ve_var 10)) (va_cons (ve_make0 b ((ok_Form_xinitx_0 Z).v hr (by decide)) rfl (gl_Form Z)) (va_cons (ve_make b ((ok_Form_xinitx_1 Z).v hr (by decide)) rfl (gl_Form Z) (va_cons (ve_revsl false b.K (ve_var 4)) va_nil)) va_nil)))))))))))) (vs_cons (vs_set sc.nd rfl (Or.inl rfl) (ve_lst (o := false) (va_cons (ve_var 4) (va_cons (ve_var 5) (va_cons (ve_binW (o_ops b (vo_add Z hr (by decide)) (o_add false b.K)) (ve_var 4) (ve_var 5)) (va_cons (ve_binW (o_ops b (vo_add Z hr (by decide)) (o_add false b.K)) (ve_var 4) (ve_var 11)) (va_cons (ve_call ((ok__law_p1_multiplied Z).v hr (by decide)) b.gd b.tk rfl (va_cons (ve_var 4) (va_cons (ve_tup (va_cons (ve_negs b (vo_neg Z hr (by decide)) ve_int) (va_cons ve_int va_nil))) va_nil))) va_nil))))))) (vs_cons (vs_set sc.nd rfl (Or.inl rfl) (ve_binW (o_ops b (vo_add Z hr (by decide)) (o_add false b.K)) (ve_var 13) (ve_lst (o := false) (va_cons (ve_call ((ok__law_p1_multiplied Z).v hr (by decide)) b.gd b.tk rfl (va_cons (ve_var 4) (va_cons (ve_var 6) va_nil))) (va_cons (ve_call ((ok__law_p1_multiplied Z).v hr (by decide)) b.gd b.tk rfl (va_cons (ve_var 5) (va_cons (ve_var 6) va_nil))) (va_cons (ve_var 4) (va_cons (ve_lst (o := false) va_nil) (va_cons (ve_var 4) va_nil)))))))) (vs_cons (vs_setLc (o := false) (own := [("_law_row", 21)]) b sc.nd rfl rfl (sw_true rfl rfl rfl rfl) (ve_var 13) (blkOk_by (own := [("_law_row", 21)]) rfl) (cg_name (i := 21) (by decide)) (fun _ _ _ _ _ => pg_name sc.nd rfl (Or.inl rfl)) (fun _ _ _ _ _ => vts_nil) (fun _ _ _ _ _ => (ve_call ((ok__law_p1_due Z).v hr (by decide)) b.blk.gd b.blk.tk rfl (va_cons (ve_var 21) va_nil)))) (vs_cons (vs_forZ b.K b.ps b.calm rfl (fr_zip Z) (va_cons (ve_var 12) (va_cons (ve_var 14) va_nil)) (vg_tup b.K b.calm (vg_cons (vg_name sc.nd rfl (Or.inl rfl)) (vg_cons (vg_name sc.nd rfl (Or.inl rfl)) vg_nil))) (vs_cons (vs_if (vt_not (vt_val (ve_call ((ok__law_p1_is Z).v hr (by decide)) b.gd b.tk rfl (va_cons (ve_var 15) (va_cons (ve_var 16) (va_cons (ve_binW (o_ops b (vo_add Z hr (by decide)) (o_add false b.K)) (ve_var 2) (ve_lst (o := false) (va_cons (ve_var 3) va_nil))) va_nil)))))) (vs_one (vs_ret ve_bl)) vs_nil) (vs_cons (vs_for b.K b.ps b.calm (ve_var 7) (vg_name sc.nd rfl (Or.inl rfl)) (vs_one (vs_if (vt_not (vt_val (ve_call ((ok__law_p1_same Z).v hr (by decide)) b.gd b.tk rfl (va_cons (ve_meth b ((ok_Form_at Z).v hr (by decide)) (ve_var 15) (va_cons (ve_var 17) va_nil)) (va_cons (ve_call ((ok__law_p1_value Z).v hr (by decide)) b.gd b.tk rfl (va_cons (ve_var 16) (va_cons (ve_var 17) va_nil))) va_nil))))) (vs_one (vs_ret ve_bl)) vs_nil))) (vs_cons (vs_if (PW.pt (vw_or (vt_cmpW (o_eqs b (vo_eq Z hr (by decide)) (PD.nfOk Z.ok) (o_eq b.K b.un)) (ve_var 15) (ve_var 16) rfl) (vw_or1 (vt_cmpW (o_eqs b (vo_eq Z hr (by decide)) (PD.nfOk Z.ok) (o_eq b.K b.un)) (ve_var 15) (ve_callTy (c_list false b.K) rfl (fr_list Z) bt_list (va_cons (ve_var 16) va_nil)) rfl)))) (vs_one (vs_ret ve_bl)) vs_nil) (vs_one (vs_forZ b.K b.ps b.calm rfl (fr_zip Z) (va_cons (ve_var 12) (va_cons (ve_var 14) va_nil)) (vg_tup b.K b.calm (vg_cons (vg_name sc.nd rfl (Or.inl rfl)) (vg_cons (vg_name sc.nd rfl (Or.inl rfl)) vg_nil))) (vs_one (vs_if (vt_cmpW (o_nes b (vo_eq Z hr (by decide)) (ne_ok Z) (PD.nfOk Z.ok) (o_ne b.K b.un)) (ve_cmpW (o_eqs b (vo_eq Z hr (by decide)) (PD.nfOk Z.ok) (o_eq b.K b.un)) (ve_var 15) (ve_var 18) rfl) (ve_cmpW (o_eqs b (vo_eq Z hr (by decide)) (PD.nfOk Z.ok) (o_eq b.K b.un)) (ve_var 16) (ve_var 19) rfl) rfl) (vs_one (vs_ret ve_bl)) vs_nil)))))))) (vs_one (vs_ret ve_bl))))))))))))))))))))))
end
end G07

set_option Elab.async false
set_option linter.all false
set_option maxRecDepth 100000
set_option maxHeartbeats 2000000
set_option exponentiation.threshold 2000
namespace G07
open PySem L2 Vi
theorem fdiv_pos {a g : Int} (hg : 0 < g) : a.fdiv g = a / g := Int.fdiv_eq_ediv_of_nonneg a (by omega)
theorem cDiv_of {i g : Int} (h0 : g ≠ 0) (h : g.natAbs.log2 < 8000) : cDiv i g = true := by
  unfold cDiv
  have : g.natAbs.log2 < 9000 := by omega
  simp [h0, this]
theorem abs_if (a : Int) : (if a < 0 then -a else a) = (a.natAbs : Int) := by
  split <;> omega
theorem log2_lt {a k : Nat} (h : a < 2 ^ k) (hk : 0 < k) : a.log2 < k := by
  by_cases h0 : a = 0
  · subst h0
    simpa using hk
  · exact (Nat.log2_lt h0).mpr h
theorem fIx_ref (n : Nat) (i : Int) (h : Hc) (xs : List D) (e : h[n]? = some (.lst xs)) : fIx (.d (.ref n)) (.d (.int i)) h = (match atI xs i with
  | some d => .ok (.d d) h
  | none => .stuck) := by
  have el : lst? h (.d (.ref n)) = some xs := by
    show (match h[n]?.map Cell.bare with
      | some (.lst xs) => some xs
      | _ => none) = _
    rw [e]
    rfl
  show (match lst? h (.d (.ref n)) with
    | some xs => (match atI xs i with
      | some d => R.ok (Vl.d d) h
      | none => .stuck)
    | none => _) = _
  rw [el]
abbrev bagC (t : Hc) (ns : List Int) (p v sd l c : Int) : Hc := .lst [.lst (ns.map D.int), .int p, .int v, .int sd, .int l, .int c] :: t
theorem v_bag (ns : List Int) : F__law_bag [.kl (ns.map D.int)] [] = .ok (.ref 0) (bagC [] ns 0 0 (ns.sum % 1000003) 0 0) := by
  refine (fnOf_eq _ _ _ _ _ rfl).trans ?_
  unfold m__law_bag
  simp [mRetC]
theorem cMul_of {i j : Int} (hi : i.natAbs < 2 ^ 1000) (hj : j.natAbs < 2 ^ 1000) : cMul i j = true := by
  have h1 := log2_lt hi (by omega)
  have h2 := log2_lt hj (by omega)
  unfold cMul
  exact decide_eq_true (by omega)
theorem cDivS {i j : Int} (h0 : j ≠ 0) (h : j.natAbs < 2 ^ 1000) : cDiv i j = true := cDiv_of h0 (by have := log2_lt h (by omega); omega)
theorem v_mixed {s t : Int} {h : Hc} (h1 : 0 ≤ s) (h2 : s < 2 ^ 70) (h3 : 0 ≤ t) (h4 : t < 2 ^ 70) : ∃ r, 0 ≤ r ∧ F__law_mixed [.int s, .int t] h = .ok (.int r) h := by
  have a1 : cMul (s + 1) 48271 = true := cMul_of (by omega) (by omega)
  have a2 : cMul (t + 1) 69621 = true := cMul_of (by omega) (by omega)
  have m1 : 0 ≤ ((s + 1) * 48271 + (t + 1) * 69621) % 2147483647 := Int.emod_nonneg _ (by omega)
  have m2 : ((s + 1) * 48271 + (t + 1) * 69621) % 2147483647 < 2147483647 := Int.emod_lt_of_pos _ (by omega)
  generalize hf : ((s + 1) * 48271 + (t + 1) * 69621) % 2147483647 = f at m1 m2
  have a3 : cMul f f = true := cMul_of (by omega) (by omega)
  have a4 : cMul f 16807 = true := cMul_of (by omega) (by omega)
  have a5 : cMul 7 t = true := cMul_of (by omega) (by omega)
  have a6 : cDiv ((f * f + f * 16807 + 7 * t) % 2147483629) 7 = true := cDivS (by omega) (by omega)
  have nn : 0 ≤ ((f * f + f * 16807 + 7 * t) % 2147483629) := Int.emod_nonneg _ (by omega)
  refine ⟨((f * f + f * 16807 + 7 * t) % 2147483629) / 7, by omega, ?_⟩
  refine (fnOf_eq _ _ _ _ _ rfl).trans ?_
  unfold m__law_mixed
  simp [a1, a2, hf, a3, a4, a5, a6, fdiv_pos]

/-- the parts of a draw -/
def tl1 : MS := mIfS (asB (m2 fGt (m2 fIx (mVar 0) (mC (.int 2))) (mC (.int 0)))) (mSeq (mSet 3 (m2 fMod (mA1 fIntOf (maCons (m2 fIx (mVar 0) (mC (.int 2))) maNil)) (mVar 1))) (mSeq (mSetIx (m2 fDiv (m2 fIx (mVar 0) (mC (.int 2))) (mVar 1)) (mVar 0) (mC (.int 2))) (mRet (mVar 3)))) mSkip
def tl2 : MS := mSeq (mIfS (asB (m2 fGt (m2 fIx (mVar 0) (mC (.int 4))) (mC (.int 0)))) (mSetIx (m2 fSub (m2 fIx (mVar 0) (mC (.int 4))) (mC (.int 1))) (mVar 0) (mC (.int 4))) mSkip) (mRet (m2 fMod (mA1 fIntOf (maCons (mA1 (fCallN 2 F__law_mixed []) (maCons (m2 fIx (mVar 0) (mC (.int 3))) (maCons (m2 fIx (mVar 0) (mC (.int 5))) maNil))) maNil)) (mVar 1)))
def hd2 : MS := mSeq (mSet 2 (m2 fIx (m2 fIx (mVar 0) (mC (.int 0))) (m2 fIx (mVar 0) (mC (.int 1))))) (mSeq (mSetIx (m2 (fAdd false) (m2 fIx (mVar 0) (mC (.int 1))) (mC (.int 1))) (mVar 0) (mC (.int 1))) (mIfS (asB (m2 fGe (mA1 fAbs (maCons (mVar 2) maNil)) (m2 fPow (mC (.int 10)) (mC (.int 18))))) (mSetIx (mA1 fAbs (maCons (mVar 2) maNil)) (mVar 0) (mC (.int 2))) (mSeq (mSetIx (m2 (fAdd false) (m2 fMul (mC (.int 2)) (mA1 fAbs (maCons (mVar 2) maNil))) (mA1 fIntOf (maCons (m2 fLt (mVar 2) (mC (.int 0))) maNil))) (mVar 0) (mC (.int 3))) (mSetIx (mC (.int 15)) (mVar 0) (mC (.int 4))))))
theorem draw_parts : m__law_draw = mSeq (mIfS (asB (m2 fLt (mVar 1) (mC (.int 2)))) (mRet (mC (.int 0))) mSkip) (mSeq (mSetIx (m2 (fAdd false) (m2 fIx (mVar 0) (mC (.int 5))) (mC (.int 1))) (mVar 0) (mC (.int 5))) (mSeq (mIfS (tAndM (asB (m2 (fEq false) (m2 fIx (mVar 0) (mC (.int 2))) (mC (.int 0)))) (tAndM (asB (m2 (fEq false) (m2 fIx (mVar 0) (mC (.int 4))) (mC (.int 0)))) (asB (m2 fLt (m2 fIx (mVar 0) (mC (.int 1))) (mA1 fLen (maCons (m2 fIx (mVar 0) (mC (.int 0))) maNil)))))) hd2 mSkip) (mSeq tl1 tl2))) := rfl
abbrev envD (many : Int) (a b : Option Sl) : Vi.Env := [some (.d (.ref 0)), some (.d (.int many)), a, b]
@[simp] theorem bix (t : Hc) (ns : List Int) (p v sd l c i : Int) : fIx (.d (.ref 0)) (.d (.int i)) (bagC t ns p v sd l c) = (match atI [.lst (ns.map D.int), .int p, .int v, .int sd, .int l, .int c] i with
  | some d => .ok (.d d) (bagC t ns p v sd l c)
  | none => .stuck) := fIx_ref 0 i _ _ rfl
theorem at6 (a b c d e f : D) : atI [a, b, c, d, e, f] 0 = some a ∧ atI [a, b, c, d, e, f] 1 = some b ∧ atI [a, b, c, d, e, f] 2 = some c ∧ atI [a, b, c, d, e, f] 3 = some d ∧ atI [a, b, c, d, e, f] 4 = some e ∧ atI [a, b, c, d, e, f] 5 = some f := by
  refine ⟨?_, ?_, ?_, ?_, ?_, ?_⟩ <;> simp [atI, ixN]
theorem ix6 : ixN 6 0 = some 0 ∧ ixN 6 1 = some 1 ∧ ixN 6 2 = some 2 ∧ ixN 6 3 = some 3 ∧ ixN 6 4 = some 4 ∧ ixN 6 5 = some 5 := by
  refine ⟨?_, ?_, ?_, ?_, ?_, ?_⟩ <;> simp [ixN]
/-- a bag that may be drawn from m times at least -/
def BG (t : Hc) (m : Int) (h : Hc) : Prop := ∃ (ns : List Int) (p v sd l c : Int), h = bagC t ns p v sd l c ∧ 0 ≤ p ∧ 0 ≤ v ∧ 0 ≤ sd ∧ sd < 2 ^ 66 ∧ 0 ≤ l ∧ 0 ≤ c ∧ c ≤ m
theorem v_tl2 (t : Hc) (ns : List Int) {p v sd l c many : Int} {a b : Option Sl} (h1 : 0 ≤ sd) (h2 : sd < 2 ^ 66) (h3 : 0 ≤ l) (h4 : 0 ≤ c) (h5 : c < 2 ^ 66) (hm : 2 ≤ many) :
    ∃ r l', 0 ≤ r ∧ r < many ∧ 0 ≤ l' ∧ tl2 (envD many a b) (bagC t ns p v sd l c) = .ret (.int r) (bagC t ns p v sd l' c) := by
  have go : ∀ l' : Int, ∃ r, 0 ≤ r ∧ r < many ∧ (mRet (m2 fMod (mA1 fIntOf (maCons (mA1 (fCallN 2 F__law_mixed []) (maCons (m2 fIx (mVar 0) (mC (.int 3))) (maCons (m2 fIx (mVar 0) (mC (.int 5))) maNil))) maNil)) (mVar 1))) (envD many a b) (bagC t ns p v sd l' c) = .ret (.int r) (bagC t ns p v sd l' c) := fun l' => by
    obtain ⟨r, _, e⟩ := v_mixed (s := sd) (t := c) (h := bagC t ns p v sd l' c) h1 (by omega) h4 (by omega)
    refine ⟨r % many, Int.emod_nonneg _ (by omega), Int.emod_lt_of_pos _ (by omega), ?_⟩
    have hp : 0 < many := by omega
    simp [at6, e, hp]
  by_cases hl : 0 < l
  · obtain ⟨r, r1, r2, e⟩ := go (l - 1)
    refine ⟨r, l - 1, r1, r2, by omega, ?_⟩
    unfold tl2
    rw [mSeq_eq]
    have e0 : (mIfS (asB (m2 fGt (m2 fIx (mVar 0) (mC (.int 4))) (mC (.int 0)))) (mSetIx (m2 fSub (m2 fIx (mVar 0) (mC (.int 4))) (mC (.int 1))) (mVar 0) (mC (.int 4))) mSkip) (envD many a b) (bagC t ns p v sd l c) = .nx (envD many a b) (bagC t ns p v sd (l - 1) c) := by
      simp [at6, ix6, hl]
    rw [e0]
    exact e
  · obtain ⟨r, r1, r2, e⟩ := go l
    refine ⟨r, l, r1, r2, h3, ?_⟩
    unfold tl2
    rw [mSeq_eq]
    have e0 : (mIfS (asB (m2 fGt (m2 fIx (mVar 0) (mC (.int 4))) (mC (.int 0)))) (mSetIx (m2 fSub (m2 fIx (mVar 0) (mC (.int 4))) (mC (.int 1))) (mVar 0) (mC (.int 4))) mSkip) (envD many a b) (bagC t ns p v sd l c) = .nx (envD many a b) (bagC t ns p v sd l c) := by
      simp [at6, ix6, hl]
    rw [e0]
    exact e
theorem v_tl (t : Hc) (ns : List Int) {p v sd l c many : Int} {a b : Option Sl} (hv : 0 ≤ v) (h1 : 0 ≤ sd) (h2 : sd < 2 ^ 66) (h3 : 0 ≤ l) (h4 : 0 ≤ c) (h5 : c < 2 ^ 66) (hm : 2 ≤ many) (hm2 : many < 2 ^ 140) :
    ∃ r v' l', 0 ≤ r ∧ r < many ∧ 0 ≤ v' ∧ 0 ≤ l' ∧ (mSeq tl1 tl2) (envD many a b) (bagC t ns p v sd l c) = .ret (.int r) (bagC t ns p v' sd l' c) := by
  rw [mSeq_eq]
  by_cases h0 : 0 < v
  · refine ⟨v % many, v / many, l, Int.emod_nonneg _ (by omega), Int.emod_lt_of_pos _ (by omega), Int.ediv_nonneg hv (by omega), h3, ?_⟩
    have hp : 0 < many := by omega
    have cd : cDiv v many = true := cDivS (by omega) (by omega)
    unfold tl1
    simp [at6, ix6, h0, hp, cd, fdiv_pos hp]
  · obtain ⟨r, l', r1, r2, r3, e⟩ := v_tl2 t ns (p := p) (v := v) (a := a) (b := b) h1 h2 h3 h4 h5 hm
    refine ⟨r, v, l', r1, r2, hv, r3, ?_⟩
    have e0 : tl1 (envD many a b) (bagC t ns p v sd l c) = .nx (envD many a b) (bagC t ns p v sd l c) := by
      unfold tl1
      simp [at6, ix6, h0]
    rw [e0]
    exact e

theorem atI_map (ns : List Int) {p : Int} (h0 : 0 ≤ p) (h1 : p < ns.length) : ∃ z, atI (ns.map D.int) p = some (.int z) := by
  have hl : p.toNat < ns.length := by omega
  refine ⟨ns[p.toNat], ?_⟩
  unfold atI ixN
  rw [if_pos h0, List.length_map, if_pos h1]
  show (ns.map D.int)[p.toNat]? = _
  rw [List.getElem?_map, List.getElem?_eq_getElem hl]
  rfl
theorem v_hd2 (t : Hc) (ns : List Int) {p sd c many : Int} {a b : Option Sl} (h0 : 0 ≤ p) (hp : p < ns.length) (h1 : 0 ≤ sd) (h2 : sd < 2 ^ 66) :
    ∃ a' v' sd' l', 0 ≤ v' ∧ 0 ≤ sd' ∧ sd' < 2 ^ 66 ∧ 0 ≤ l' ∧ hd2 (envD many a b) (bagC t ns p 0 sd 0 c) = .nx (envD many a' b) (bagC t ns (p + 1) v' sd' l' c) := by
  obtain ⟨z, ez⟩ := atI_map ns h0 hp
  have pw : cPow 10 18 = true := by decide
  by_cases hz : (1000000000000000000 : Int) ≤ (z.natAbs : Int)
  · refine ⟨some (.d (.int z)), z.natAbs, sd, 0, by omega, h1, h2, by omega, ?_⟩
    unfold hd2
    simp [at6, ix6, ez, pw, abs_if, hz]
  · have cm : cMul 2 (z.natAbs : Int) = true := cMul_of (by omega) (by omega)
    refine ⟨some (.d (.int z)), 0, 2 * (z.natAbs : Int) + (if z < 0 then 1 else 0), 15, by omega, by split <;> omega, by split <;> omega, by omega, ?_⟩
    unfold hd2
    simp [at6, ix6, ez, pw, abs_if, hz, cm]
/-- a draw -/
theorem v_draw {t : Hc} {m many : Int} {h : Hc} (g : BG t m h) (hm : m < 2 ^ 60) (h0 : 0 ≤ many) (h1 : many < 2 ^ 140) :
    ∃ r h', F__law_draw [.ref 0, .int many] h = .ok (.int r) h' ∧ BG t (m + 1) h' ∧ 0 ≤ r ∧ (2 ≤ many → r < many) ∧ (many < 2 → r = 0) := by
  obtain ⟨ns, p, v, sd, l, c, rfl, g1, g2, g3, g4, g5, g6, g7⟩ := g
  by_cases hs : many < 2
  · refine ⟨0, bagC t ns p v sd l c, ?_, ⟨ns, p, v, sd, l, c, rfl, g1, g2, g3, g4, g5, g6, by omega⟩, by omega, fun z => by omega, fun _ => rfl⟩
    refine (fnOf_eq _ _ _ _ _ rfl).trans ?_
    rw [draw_parts]
    simp [hs]
  · have fin : ∀ {p' v' sd' l' : Int} {a : Option Sl}, 0 ≤ p' → 0 ≤ v' → 0 ≤ sd' → sd' < 2 ^ 66 → 0 ≤ l' → (mIfS (tAndM (asB (m2 (fEq false) (m2 fIx (mVar 0) (mC (.int 2))) (mC (.int 0)))) (tAndM (asB (m2 (fEq false) (m2 fIx (mVar 0) (mC (.int 4))) (mC (.int 0)))) (asB (m2 fLt (m2 fIx (mVar 0) (mC (.int 1))) (mA1 fLen (maCons (m2 fIx (mVar 0) (mC (.int 0))) maNil)))))) hd2 mSkip) (envD many none none) (bagC t ns p v sd l (c + 1)) = .nx (envD many a none) (bagC t ns p' v' sd' l' (c + 1)) →
        ∃ r h', F__law_draw [.ref 0, .int many] (bagC t ns p v sd l c) = .ok (.int r) h' ∧ BG t (m + 1) h' ∧ 0 ≤ r ∧ (2 ≤ many → r < many) ∧ (many < 2 → r = 0) := fun {p' v' sd' l' a} k1 k2 k3 k4 k5 e => by
      obtain ⟨r, v2, l2, r1, r2, r3, r4, e2⟩ := v_tl t ns (p := p') (v := v') (sd := sd') (l := l') (c := c + 1) (many := many) (a := a) (b := none) k2 k3 k4 k5 (by omega) (by omega) (by omega) h1
      refine ⟨r, bagC t ns p' v2 sd' l2 (c + 1), ?_, ⟨ns, p', v2, sd', l2, c + 1, rfl, k1, r3, k3, k4, r4, by omega, by omega⟩, r1, fun _ => r2, fun z => absurd z hs⟩
      refine (fnOf_eq _ _ _ _ _ rfl).trans ?_
      rw [draw_parts, mSeq_eq]
      have e3 : (mIfS (asB (m2 fLt (mVar 1) (mC (.int 2)))) (mRet (mC (.int 0))) mSkip) (mkEnv 4 [.ref 0, .int many]) (bagC t ns p v sd l c) = .nx (envD many none none) (bagC t ns p v sd l c) := by simp [hs]
      rw [e3, RS.seq_nx, mSeq_eq]
      have e4 : (mSetIx (m2 (fAdd false) (m2 fIx (mVar 0) (mC (.int 5))) (mC (.int 1))) (mVar 0) (mC (.int 5))) (envD many none none) (bagC t ns p v sd l c) = .nx (envD many none none) (bagC t ns p v sd l (c + 1)) := by simp [at6, ix6]
      rw [e4, RS.seq_nx, mSeq_eq, e, RS.seq_nx, e2]
      rfl
    by_cases hv : v = 0
    · by_cases hl : l = 0
      · by_cases hp : p < ns.length
        · subst hv hl
          obtain ⟨a', v', sd', l', q1, q2, q3, q4, e⟩ := v_hd2 t ns (p := p) (sd := sd) (c := c + 1) (many := many) (a := none) (b := none) g1 hp g3 g4
          refine fin (p' := p + 1) (v' := v') (sd' := sd') (l' := l') (a := a') (by omega) q1 q2 q3 q4 ?_
          rw [← e]
          simp [at6, hp, fLen_lst]
        · exact fin (a := none) g1 g2 g3 g4 g5 (by simp [at6, hv, hl, hp, fLen_lst])
      · exact fin (a := none) g1 g2 g3 g4 g5 (by simp [at6, hv, hl])
    · exact fin (a := none) g1 g2 g3 g4 g5 (by simp [at6, hv])
end G07

set_option Elab.async false
set_option linter.all false
set_option maxRecDepth 100000
set_option maxHeartbeats 1000000
namespace G07
open PySem L2 Vi
abbrev gg (a b : Int) : Int := (Nat.gcd a.natAbs b.natAbs : Nat)
/-- what both sides reckon: in lowest terms, the lower one above 0 -/
def lowA (a b : Int) : Int := if b < 0 then -(a / gg a b) else a / gg a b
def lowB (a b : Int) : Int := if b < 0 then -(b / gg a b) else b / gg a b
/-- small enough to be reckoned with -/
abbrev Sm (a : Int) : Prop := a.natAbs.log2 < 8000
theorem gg_pos {a b : Int} (hb : b ≠ 0) : 0 < gg a b := by
  have : 0 < Nat.gcd a.natAbs b.natAbs := Nat.gcd_pos_of_pos_right _ (Int.natAbs_pos.mpr hb)
  exact Int.natCast_pos.mpr this
theorem log2_mono {a b : Nat} (h : a ≤ b) : a.log2 ≤ b.log2 := by
  by_cases ha : a = 0
  · subst ha
    simp
  · exact (Nat.le_log2 (by omega)).mpr (Nat.le_trans (Nat.log2_self_le ha) h)
theorem gg_small {a b : Int} (hb : b ≠ 0) (s : Sm b) : (gg a b).natAbs.log2 < 8000 := by
  refine Nat.lt_of_le_of_lt (log2_mono ?_) s
  exact Nat.le_of_dvd (Int.natAbs_pos.mpr hb) (Nat.gcd_dvd_right _ _)
theorem fdiv_neg' {a g : Int} (hg : 0 < g) (hd : g ∣ a) : a.fdiv (-g) = -(a / g) := by
  obtain ⟨c, rfl⟩ := hd
  have e1 : g * c / g = c := Int.mul_ediv_cancel_left c (by omega)
  rw [e1]
  have e2 : g * c = (-g) * (-c) := by rw [Int.neg_mul_neg]
  rw [e2, Int.mul_fdiv_cancel_left _ (by omega)]
theorem gg_dvd_l {a b : Int} : gg a b ∣ a := Int.natAbs_dvd_natAbs.mp (by
  show (gg a b).natAbs ∣ a.natAbs
  exact Nat.gcd_dvd_left _ _)
theorem gg_dvd_r {a b : Int} : gg a b ∣ b := Int.natAbs_dvd_natAbs.mp (by
  show (gg a b).natAbs ∣ b.natAbs
  exact Nat.gcd_dvd_right _ _)
theorem v_lowest {a b : Int} {h : Hc} (hb : b ≠ 0) (s : Sm b) : F_lowest [.int a, .int b] h = .ok (.tup [.int (lowA a b), .int (lowB a b)]) h := by
  refine (fnOf_eq _ _ _ _ _ rfl).trans ?_
  unfold m_lowest lowA lowB
  have g0 := gg_pos (a := a) hb
  have gs := gg_small (a := a) hb s
  by_cases hn : b < 0
  · have c1 : cDiv a (-gg a b) = true := cDiv_of (by omega) (by rw [Int.natAbs_neg]; exact gs)
    have c2 : cDiv b (-gg a b) = true := cDiv_of (by omega) (by rw [Int.natAbs_neg]; exact gs)
    simp [hn, c1, c2, fdiv_neg' g0 gg_dvd_l, fdiv_neg' g0 gg_dvd_r]
  · have c1 : cDiv a (gg a b) = true := cDiv_of (by omega) gs
    have c2 : cDiv b (gg a b) = true := cDiv_of (by omega) gs
    simp [hn, c1, c2, fdiv_pos g0]
/-- Euclid's loop -/
theorem euclid_half {x y : Nat} (hy : 0 < y) (hr : 0 < x % y) : y % (x % y) < (y + 1) / 2 := by
  have h1 : x % y < y := Nat.mod_lt _ hy
  have h2 : y % (x % y) < x % y := Nat.mod_lt _ hr
  have h3 := Nat.div_add_mod y (x % y)
  have h4 : 1 ≤ y / (x % y) := Nat.div_pos (by omega) hr
  have h5 : x % y * 1 ≤ x % y * (y / (x % y)) := Nat.mul_le_mul_left _ h4
  omega

theorem loop_div (h : Hc) (z : Option Sl) : ∀ (k n x y : Nat), y < 2 ^ k → 2 * k + 1 ≤ n → ∃ z', mWhile n (asB (m2 fGt (mVar 1) (mC (.int 0)))) (mSeq (mSet 2 (m2 fMod (mA1 fIntOf (maCons (mVar 0) maNil)) (mVar 1))) (mSeq (mSet 0 (mVar 1)) (mSet 1 (mVar 2)))) [some (.d (.int x)), some (.d (.int y)), z] h = .nx [some (.d (.int (Nat.gcd x y : Nat))), some (.d (.int 0)), z'] h := by
  have stop : ∀ (n x : Nat) (z : Option Sl), 1 ≤ n → mWhile n (asB (m2 fGt (mVar 1) (mC (.int 0)))) (mSeq (mSet 2 (m2 fMod (mA1 fIntOf (maCons (mVar 0) maNil)) (mVar 1))) (mSeq (mSet 0 (mVar 1)) (mSet 1 (mVar 2)))) [some (.d (.int x)), some (.d (.int (0 : Nat))), z] h = .nx [some (.d (.int x)), some (.d (.int 0)), z] h := fun n x z hn => by
    obtain ⟨m, rfl⟩ : ∃ m, n = m + 1 := ⟨n - 1, by omega⟩
    rw [mWhile_succ]
    simp
  have step : ∀ (n x y : Nat) (z : Option Sl), 0 < y → mWhile (n + 1) (asB (m2 fGt (mVar 1) (mC (.int 0)))) (mSeq (mSet 2 (m2 fMod (mA1 fIntOf (maCons (mVar 0) maNil)) (mVar 1))) (mSeq (mSet 0 (mVar 1)) (mSet 1 (mVar 2)))) [some (.d (.int x)), some (.d (.int y)), z] h
      = mWhile n (asB (m2 fGt (mVar 1) (mC (.int 0)))) (mSeq (mSet 2 (m2 fMod (mA1 fIntOf (maCons (mVar 0) maNil)) (mVar 1))) (mSeq (mSet 0 (mVar 1)) (mSet 1 (mVar 2)))) [some (.d (.int y)), some (.d (.int (x % y : Nat))), some (.d (.int (x % y : Nat)))] h := fun n x y z hy => by
    rw [mWhile_succ]
    simp [hy]
  intro k
  induction k generalizing z with
  | zero =>
    intro n x y hy hn
    obtain rfl : y = 0 := by simpa using hy
    exact ⟨z, by rw [stop n x z (by omega), Nat.gcd_zero_right]⟩
  | succ k ih =>
    intro n x y hy hn
    by_cases h0 : y = 0
    · subst h0
      exact ⟨z, by rw [stop n x z (by omega), Nat.gcd_zero_right]⟩
    · obtain ⟨m, rfl⟩ : ∃ m, n = m + 1 := ⟨n - 1, by omega⟩
      rw [step m x y z (by omega)]
      have e1 : Nat.gcd x y = Nat.gcd y (x % y) := by rw [Nat.gcd_comm x y, Nat.gcd_rec y x, Nat.gcd_comm]
      by_cases h1 : x % y = 0
      · rw [h1, stop m y _ (by omega), e1, h1, Nat.gcd_zero_right]
        exact ⟨_, rfl⟩
      · obtain ⟨m', rfl⟩ : ∃ m', m = m' + 1 := ⟨m - 1, by omega⟩
        rw [step m' y (x % y) _ (by omega)]
        have hh := euclid_half (x := x) (y := y) (by omega) (by omega)
        have hp : 2 ^ (k + 1) = 2 * 2 ^ k := by rw [Nat.pow_succ]; omega
        have e2 : Nat.gcd y (x % y) = Nat.gcd (x % y) (y % (x % y)) := by rw [Nat.gcd_comm y (x % y), Nat.gcd_rec (x % y) y, Nat.gcd_comm]
        rw [e1, e2]
        exact ih _ m' (x % y) (y % (x % y)) (by omega) (by omega)
theorem v_divisor {a b : Int} {k : Nat} {h : Hc} (hk : k ≤ 7000) (hb : b.natAbs < 2 ^ k) : F__law_divisor [.int a, .int b] h = .ok (.int (gg a b)) h := by
  refine (fnOf_eq _ _ _ _ _ rfl).trans ?_
  unfold m__law_divisor
  obtain ⟨z', e⟩ := loop_div h none k 20000 a.natAbs b.natAbs hb (by omega)
  simp [abs_if]
  rw [e]
  simp

theorem gg_neg (a b : Int) : gg (-a) (-b) = gg a b := by
  unfold gg
  rw [Int.natAbs_neg, Int.natAbs_neg]
theorem neg_div {a g : Int} (hd : g ∣ a) : -a / g = -(a / g) := Int.neg_ediv_of_dvd hd
theorem max_gg {g : Int} (h : 0 < g) : (if g > 1 then g else 1) = g := by split <;> omega
theorem v_low {a b : Int} {k : Nat} {h : Hc} (hk : k ≤ 7000) (hb : b ≠ 0) (s : b.natAbs < 2 ^ k) : F__law_low [.int a, .int b] h = .ok (.tup [.int (lowA a b), .int (lowB a b)]) h := by
  refine (fnOf_eq _ _ _ _ _ rfl).trans ?_
  have g0 := gg_pos (a := a) hb
  have gs := gg_small (a := a) hb (show b.natAbs.log2 < 8000 from Nat.lt_trans (log2_lt (Nat.lt_of_lt_of_le s (Nat.pow_le_pow_right (by omega) (Nat.le_succ k))) (Nat.succ_pos k)) (by omega))
  have c1 : ∀ i, cDiv i (gg a b) = true := fun i => cDiv_of (by omega) gs
  unfold m__law_low lowA lowB
  by_cases hn : b < 0
  · have e := v_divisor (a := -a) (b := -b) (h := h) hk (by rw [Int.natAbs_neg]; exact s)
    rw [gg_neg] at e
    simp [hn, e, max_gg g0, c1, fdiv_pos g0, neg_div gg_dvd_l, neg_div gg_dvd_r]
  · have e := v_divisor (a := a) (b := b) (h := h) hk s
    simp [hn, e, max_gg g0, c1, fdiv_pos g0]
end G07

set_option Elab.async false
set_option linter.all false
set_option maxRecDepth 100000
set_option maxHeartbeats 2000000
namespace G07
open PySem L2 Vi
/-! ### fractions are numbers -/
abbrev fr (q : Rat) : D := .tup [.int q.num, .int (q.den : Int)]
structure Sz (k : Nat) (q : Rat) : Prop where
  n : q.num.natAbs < 2 ^ k
  d : q.den < 2 ^ k
theorem gg_gcd (a b : Int) : gg a b = ((b.gcd a : Nat) : Int) := by
  show ((Nat.gcd a.natAbs b.natAbs : Nat) : Int) = ((Nat.gcd b.natAbs a.natAbs : Nat) : Int)
  rw [Nat.gcd_comm]
theorem low_num {a b : Int} (hb : b ≠ 0) : lowA a b = (Rat.divInt a b).num := by
  rw [Rat.num_divInt, ← gg_gcd]
  unfold lowA
  by_cases hn : b < 0
  · rw [if_pos hn, Int.sign_eq_neg_one_of_neg hn]
    have e : -1 * a = -a := by omega
    rw [e, Int.neg_ediv_of_dvd gg_dvd_l]
  · rw [if_neg hn, Int.sign_eq_one_of_pos (by omega), Int.one_mul]
theorem low_den {a b : Int} (hb : b ≠ 0) : lowB a b = ((Rat.divInt a b).den : Int) := by
  rw [Rat.den_divInt, if_neg hb]
  unfold lowB
  rw [gg_gcd]
  by_cases hn : b < 0
  · rw [if_pos hn]
    have h1 : ((b.gcd a : Nat) : Int) ∣ b := Int.gcd_dvd_left ..
    rw [← Int.neg_ediv_of_dvd h1]
    have e : -b = (b.natAbs : Int) := by omega
    rw [e]
    exact (Int.natCast_ediv ..).symm
  · rw [if_neg hn]
    have e : b = (b.natAbs : Int) := by omega
    have : b / ((b.gcd a : Nat) : Int) = ((b.natAbs : Int)) / ((b.gcd a : Nat) : Int) := by rw [← e]
    rw [this]
    exact (Int.natCast_ediv ..).symm
theorem low_fr {a b : Int} (hb : b ≠ 0) : (.tup [.int (lowA a b), .int (lowB a b)] : D) = fr (Rat.divInt a b) := by
  rw [low_num hb, low_den hb]
theorem den_pos (q : Rat) : (0 : Int) < q.den := Int.natCast_pos.mpr q.den_pos
theorem add_q (p q : Rat) : Rat.divInt (p.num * q.den + q.num * p.den) (p.den * q.den) = p + q := by
  have := den_pos p
  have := den_pos q
  rw [← Rat.divInt_add_divInt _ _ (by omega) (by omega), Rat.num_divInt_den, Rat.num_divInt_den]
theorem mul_q (p q : Rat) : Rat.divInt (p.num * q.num) (p.den * q.den) = p * q := by
  rw [← Rat.divInt_mul_divInt, Rat.num_divInt_den, Rat.num_divInt_den]
theorem mul_lt {a b j k : Nat} (h1 : a < 2 ^ j) (h2 : b < 2 ^ k) : a * b < 2 ^ (j + k) := by
  rw [Nat.pow_add]
  exact Nat.mul_lt_mul'' h1 h2
theorem fr_inj {p q : Rat} (h : p.num = q.num) (h2 : (p.den : Int) = q.den) : p = q := Rat.ext h (by omega)
theorem lt_up {a j k : Nat} (h : a < 2 ^ j) (hk : j ≤ k) : a < 2 ^ k := Nat.lt_of_lt_of_le h (Nat.pow_le_pow_right (by omega) hk)
theorem Sz.up {j k : Nat} {q : Rat} (s : Sz j q) (h : j ≤ k) : Sz k q := ⟨lt_up s.n h, lt_up s.d h⟩
/-- what is reckoned is no larger than what is put in -/
theorem sz_div {a b : Int} {k : Nat} (hb : b ≠ 0) (h1 : a.natAbs < 2 ^ k) (h2 : b.natAbs < 2 ^ k) : Sz k (Rat.divInt a b) := by
  refine ⟨?_, ?_⟩
  · rw [← low_num hb]
    refine Nat.lt_of_le_of_lt ?_ h1
    unfold lowA
    have : (a / gg a b).natAbs ≤ a.natAbs := Int.natAbs_ediv_le_natAbs ..
    split
    · rw [Int.natAbs_neg]; exact this
    · exact this
  · have e := low_den (a := a) hb
    refine Nat.lt_of_le_of_lt ?_ h2
    have : (lowB a b).natAbs ≤ b.natAbs := by
      unfold lowB
      have : (b / gg a b).natAbs ≤ b.natAbs := Int.natAbs_ediv_le_natAbs ..
      split
      · rw [Int.natAbs_neg]; exact this
      · exact this
    rw [e] at this
    simpa using this
theorem Sz.add {j k : Nat} {p q : Rat} (s : Sz j p) (t : Sz k q) : Sz (j + k + 1) (p + q) := by
  have h1 := den_pos p
  have h2 := den_pos q
  have m1 := mul_lt s.n t.d
  have m2 := mul_lt s.d t.n
  have m3 := mul_lt s.d t.d
  rw [← add_q]
  refine sz_div (Int.mul_ne_zero (by omega) (by omega)) ?_ ?_
  · refine Nat.lt_of_le_of_lt (Int.natAbs_add_le ..) ?_
    rw [Int.natAbs_mul, Int.natAbs_mul, Int.natAbs_natCast, Int.natAbs_natCast, Nat.pow_succ]
    have : q.num.natAbs * p.den = p.den * q.num.natAbs := Nat.mul_comm ..
    omega
  · rw [Int.natAbs_mul, Int.natAbs_natCast, Int.natAbs_natCast]
    exact lt_up m3 (by omega)
theorem Sz.mul {j k : Nat} {p q : Rat} (s : Sz j p) (t : Sz k q) : Sz (j + k) (p * q) := by
  have h1 := den_pos p
  have h2 := den_pos q
  rw [← mul_q]
  refine sz_div (Int.mul_ne_zero (by omega) (by omega)) ?_ ?_
  · rw [Int.natAbs_mul]
    exact mul_lt s.n t.n
  · rw [Int.natAbs_mul, Int.natAbs_natCast, Int.natAbs_natCast]
    exact mul_lt s.d t.d
end G07

set_option Elab.async false
set_option linter.all false
set_option maxRecDepth 100000
set_option maxHeartbeats 2000000
namespace G07
open PySem L2 Vi
@[simp] theorem w_int (i : Int) (h : Hc) : F_is_whole [.int i] h = .ok (.bl true) h := rfl
@[simp] theorem lw_int (i : Int) (h : Hc) : F__law_is_int [.int i] h = .ok (.bl true) h := rfl
@[simp] theorem isi_tup (xs : List D) (h : Hc) : fIsi g0 (.bt "tuple") (.d (.tup xs)) h = .ok (.d (.bl true)) h := rfl
@[simp] theorem at20 (a b : D) : atI [a, b] 0 = some a := rfl
@[simp] theorem at21 (a b : D) : atI [a, b] 1 = some b := rfl
theorem log2_le {a k : Nat} (h : a < 2 ^ k) : a.log2 ≤ k := by
  by_cases ha : a = 0
  · subst ha
    simp
  · exact Nat.le_of_lt ((Nat.log2_lt ha).mpr h)
theorem cm {i l : Int} {j k : Nat} (h1 : i.natAbs < 2 ^ j) (h2 : l.natAbs < 2 ^ k) (hk : j + k ≤ 7000) : cMul i l = true := by
  have := log2_le h1
  have := log2_le h2
  unfold cMul
  exact decide_eq_true (by omega)
theorem sm_of {b : Int} {k : Nat} (h : b.natAbs < 2 ^ k) (hk : k ≤ 7000) : Sm b := by
  have := log2_le h
  show b.natAbs.log2 < 8000
  omega
section
variable {h : Hc} {p q : Rat} {j k : Nat}
theorem dens (s : Sz j p) (t : Sz k q) : ((p.den : Int) * q.den) ≠ 0 ∧ ((p.den : Int) * q.den).natAbs < 2 ^ (j + k) := by
  have h1 := den_pos p
  have h2 := den_pos q
  refine ⟨Int.mul_ne_zero (by omega) (by omega), ?_⟩
  rw [Int.natAbs_mul, Int.natAbs_natCast, Int.natAbs_natCast]
  exact mul_lt s.d t.d
theorem add_same (e : (p.den : Int) = q.den) : Rat.divInt (p.num + q.num) p.den = p + q := by
  have h1 := den_pos p
  rw [← add_q p q, ← e, ← Int.add_mul, Rat.divInt_mul_right (by omega)]
theorem v_plus (s : Sz j p) (t : Sz k q) (hk : j + k ≤ 7000) : F_plus [fr p, fr q] h = .ok (fr (p + q)) h := by
  refine (fnOf_eq 2 2 m_plus [fr p, fr q] h rfl).trans ?_
  have h1 := den_pos p
  obtain ⟨d0, d1⟩ := dens s t
  have c1 : cMul p.num q.den = true := cm s.n (by simpa using t.d) hk
  have c2 : cMul q.num p.den = true := cm t.n (by simpa using s.d) (by omega)
  have c3 : cMul (p.den : Int) q.den = true := cm (by simpa using s.d) (by simpa using t.d) hk
  unfold m_plus
  by_cases e : (p.den : Int) = q.den
  · have l := v_lowest (a := p.num + q.num) (b := p.den) (h := h) (by omega) (sm_of (by simpa using s.d) (by omega))
    rw [low_fr (by omega), add_same e] at l
    have en : p.den = q.den := by omega
    simp [en] at l ⊢
    rw [l]
    simp
  · have l := v_lowest (a := p.num * q.den + q.num * p.den) (b := p.den * q.den) (h := h) d0 (sm_of d1 (by omega))
    rw [low_fr d0, add_q] at l
    have de : decide ((p.den : Int) = q.den) = false := decide_eq_false e
    simp [de, c1, c2, c3, l]
theorem v_times (s : Sz j p) (t : Sz k q) (hk : j + k ≤ 7000) : F_times [fr p, fr q] h = .ok (fr (p * q)) h := by
  refine (fnOf_eq 2 2 m_times [fr p, fr q] h rfl).trans ?_
  obtain ⟨d0, d1⟩ := dens s t
  have c1 : cMul p.num q.num = true := cm s.n t.n hk
  have c3 : cMul (p.den : Int) q.den = true := cm (by simpa using s.d) (by simpa using t.d) hk
  have l := v_lowest (a := p.num * q.num) (b := p.den * q.den) (h := h) d0 (sm_of d1 (by omega))
  rw [low_fr d0, mul_q] at l
  unfold m_times
  simp [c1, c3, l]
theorem v_lplus (s : Sz j p) (t : Sz k q) (hk : j + k ≤ 7000) : F__law_plus [fr p, fr q] h = .ok (fr (p + q)) h := by
  refine (fnOf_eq 2 2 m__law_plus [fr p, fr q] h rfl).trans ?_
  obtain ⟨d0, d1⟩ := dens s t
  have c1 : cMul p.num q.den = true := cm s.n (by simpa using t.d) hk
  have c2 : cMul q.num p.den = true := cm t.n (by simpa using s.d) (by omega)
  have c3 : cMul (p.den : Int) q.den = true := cm (by simpa using s.d) (by simpa using t.d) hk
  have l := v_low (a := p.num * q.den + q.num * p.den) (b := p.den * q.den) (h := h) hk d0 d1
  rw [low_fr d0, add_q] at l
  unfold m__law_plus
  simp [c1, c2, c3, l]
theorem v_ltimes (s : Sz j p) (t : Sz k q) (hk : j + k ≤ 7000) : F__law_times [fr p, fr q] h = .ok (fr (p * q)) h := by
  refine (fnOf_eq 2 2 m__law_times [fr p, fr q] h rfl).trans ?_
  obtain ⟨d0, d1⟩ := dens s t
  have c1 : cMul p.num q.num = true := cm s.n t.n hk
  have c3 : cMul (p.den : Int) q.den = true := cm (by simpa using s.d) (by simpa using t.d) hk
  have l := v_low (a := p.num * q.num) (b := p.den * q.den) (h := h) hk d0 d1
  rw [low_fr d0, mul_q] at l
  unfold m__law_times
  simp [c1, c3, l]
/-- what is drawn is put in lowest terms -/
theorem v_lowq {a b : Int} (hk : k ≤ 7000) (hb : b ≠ 0) (s : b.natAbs < 2 ^ k) : F__law_low [.int a, .int b] h = .ok (fr (Rat.divInt a b)) h := by
  rw [v_low hk hb s, low_fr hb]
theorem gg_one (q : Rat) : gg q.num q.den = 1 := by
  show ((Nat.gcd q.num.natAbs ((q.den : Int)).natAbs : Nat) : Int) = 1
  rw [Int.natAbs_natCast, q.reduced]
  rfl
theorem v_isf (q : Rat) : F_is_fraction [fr q] h = .ok (.bl true) h := by
  refine (fnOf_eq 3 1 m_is_fraction [fr q] h rfl).trans ?_
  have h1 : (1 : Int) ≤ q.den := by have := den_pos q; omega
  have h2 : 1 ≤ q.den := by omega
  have e : q.num.natAbs.gcd q.den = 1 := q.reduced
  unfold m_is_fraction
  simp [h1, h2, e]
theorem v_lfr (s : Sz k q) (hk : k ≤ 7000) : F__law_fraction [fr q] h = .ok (.bl true) h := by
  refine (fnOf_eq 1 1 m__law_fraction [fr q] h rfl).trans ?_
  have h1 : ¬ (q.den : Int) < 1 := by have := den_pos q; omega
  have h2 : ¬ q.den < 1 := by omega
  have l := v_divisor (a := q.num) (b := q.den) (h := h) hk (by simpa using s.d)
  rw [gg_one] at l
  unfold m__law_fraction
  simp [h1, h2, l]
end
end G07

set_option Elab.async false
set_option linter.all false
set_option maxRecDepth 100000
set_option maxHeartbeats 2000000
namespace G07
open PySem L2 Vi
/-! ### pairs of an unknown and a number -/
abbrev Un : Type := PySem.Str × PySem.Str
abbrev uD (u : Un) : D := .tup [.str u.1, .str u.2]
abbrev ky (u : Un) : List Key := [.inr u.1, .inr u.2]
abbrev Pr : Type := Un × Rat
abbrev pD (p : Pr) : D := .tup [uD p.1, fr p.2]
abbrev kvD (p : Pr) : List Key × D := (ky p.1, fr p.2)
theorem ky_inj {u v : Un} (h : ky u = ky v) : u = v := by
  injection h with h1 h2
  injection h2 with h2 _
  injection h1 with h1
  injection h2 with h2
  exact Prod.ext h1 h2
theorem ky_iff {u v : Un} : ky u = ky v ↔ u = v := ⟨ky_inj, fun e => e ▸ rfl⟩
/-- what stands at an unknown -/
def getU : List Pr → Un → Option Rat
  | [], _ => none
  | p :: r, u => if p.1 = u then some p.2 else getU r u
def putU (ps : List Pr) (u : Un) (q : Rat) : List Pr := match getU ps u with
  | some _ => ps.map fun p => if p.1 = u then (p.1, q) else p
  | none => ps ++ [(u, q)]
theorem getD_kv : ∀ (ps : List Pr) (u : Un), getD' (ps.map kvD) (ky u) = (getU ps u).map fr
  | [], u => rfl
  | p :: r, u => by
    show (if ky p.1 = ky u then some (fr p.2) else getD' (r.map kvD) (ky u)) = ((if p.1 = u then some p.2 else getU r u).map fr)
    by_cases h : p.1 = u
    · rw [if_pos (ky_iff.mpr h), if_pos h]
      rfl
    · rw [if_neg fun z => h (ky_inj z), if_neg h, getD_kv r u]
theorem putD_kv (ps : List Pr) (u : Un) (q : Rat) : putD' (ps.map kvD) (ky u) (fr q) = (putU ps u q).map kvD := by
  unfold putD' putU
  rw [getD_kv]
  cases getU ps u with
  | none =>
    show ps.map kvD ++ [(ky u, fr q)] = (ps ++ [(u, q)]).map kvD
    rw [List.map_append]
    rfl
  | some x =>
    show (ps.map kvD).map (fun kv => if kv.1 = ky u then (kv.1, fr q) else kv) = (ps.map fun p => if p.1 = u then (p.1, q) else p).map kvD
    rw [List.map_map, List.map_map]
    refine List.map_congr_left fun p _ => ?_
    show (if ky p.1 = ky u then (ky p.1, fr q) else kvD p) = kvD (if p.1 = u then (p.1, q) else p)
    by_cases h : p.1 = u
    · rw [if_pos (ky_iff.mpr h), if_pos h]
    · rw [if_neg fun z => h (ky_inj z), if_neg h]
/-! ### sums -/
def stepU (acc : List Pr) (p : Pr) : List Pr := putU acc p.1 ((getU acc p.1).getD 0 + p.2)
def sumU (ps : List Pr) : List Pr := ps.foldl stepU []
/-- the sum of what is told of an unknown -/
def tot : List Pr → Un → Rat
  | [], _ => 0
  | p :: r, u => (if p.1 = u then p.2 else 0) + tot r u
theorem getU_map_ne {ps : List Pr} {u v : Un} {q : Rat} (h : v ≠ u) : getU (ps.map fun p => if p.1 = u then (p.1, q) else p) v = getU ps v := by
  induction ps with
  | nil => rfl
  | cons p r ih =>
    show (if (if p.1 = u then (p.1, q) else p).1 = v then some (if p.1 = u then (p.1, q) else p).2 else getU (r.map fun p => if p.1 = u then (p.1, q) else p) v) = if p.1 = v then some p.2 else getU r v
    rw [ih]
    by_cases hp : p.1 = u
    · rw [if_pos hp]
      have : ¬ p.1 = v := fun z => h (by rw [← z, hp])
      rw [if_neg this, if_neg this]
    · rw [if_neg hp]
theorem getU_map_eq {ps : List Pr} {u : Un} {q x : Rat} (h : getU ps u = some x) : getU (ps.map fun p => if p.1 = u then (p.1, q) else p) u = some q := by
  induction ps with
  | nil => cases h
  | cons p r ih =>
    show (if (if p.1 = u then (p.1, q) else p).1 = u then some (if p.1 = u then (p.1, q) else p).2 else getU (r.map fun p => if p.1 = u then (p.1, q) else p) u) = some q
    by_cases hp : p.1 = u
    · rw [if_pos hp, if_pos hp]
    · rw [if_neg hp, if_neg hp]
      refine ih ?_
      have : (if p.1 = u then some p.2 else getU r u) = some x := h
      rwa [if_neg hp] at this
theorem getU_app {ps : List Pr} {u v : Un} {q : Rat} (h : getU ps u = none) : getU (ps ++ [(u, q)]) v = if v = u then some q else getU ps v := by
  induction ps with
  | nil =>
    show (if u = v then some q else none) = if v = u then some q else none
    by_cases e : v = u
    · rw [if_pos e, if_pos e.symm]
    · rw [if_neg e, if_neg fun z => e z.symm]
  | cons p r ih =>
    have hu : ¬ p.1 = u ∧ getU r u = none := by
      have h : (if p.1 = u then some p.2 else getU r u) = none := h
      by_cases hp : p.1 = u
      · rw [if_pos hp] at h; cases h
      · rw [if_neg hp] at h; exact ⟨hp, h⟩
    show (if p.1 = v then some p.2 else getU (r ++ [(u, q)]) v) = if v = u then some q else if p.1 = v then some p.2 else getU r v
    rw [ih hu.2]
    by_cases e : v = u
    · rw [if_pos e, if_neg (fun z => hu.1 (by rw [z, e])), if_pos e]
    · rw [if_neg e, if_neg e]
theorem getU_put (ps : List Pr) (u v : Un) (q : Rat) : getU (putU ps u q) v = if v = u then some q else getU ps v := by
  unfold putU
  cases h : getU ps u with
  | none => exact getU_app h
  | some x =>
    by_cases e : v = u
    · subst e
      rw [if_pos rfl]
      exact getU_map_eq h
    · rw [if_neg e]
      exact getU_map_ne e
theorem sum_get : ∀ (ps acc : List Pr) (u : Un), (getU (ps.foldl stepU acc) u).getD 0 = (getU acc u).getD 0 + tot ps u
  | [], acc, u => by
    show (getU acc u).getD 0 = (getU acc u).getD 0 + 0
    grind
  | p :: r, acc, u => by
    show (getU (r.foldl stepU (stepU acc p)) u).getD 0 = (getU acc u).getD 0 + ((if p.1 = u then p.2 else 0) + tot r u)
    rw [sum_get r (stepU acc p) u]
    unfold stepU
    rw [getU_put]
    by_cases e : u = p.1
    · subst e
      rw [if_pos rfl, if_pos rfl]
      show ((getU acc p.1).getD 0 + p.2) + tot r p.1 = _
      grind
    · rw [if_neg e, if_neg fun z => e z.symm]
      grind
theorem getU_mem {ps : List Pr} {u : Un} : (getU ps u).isSome = true ↔ u ∈ ps.map (·.1) := by
  induction ps with
  | nil => simp [getU]
  | cons p r ih =>
    show (if p.1 = u then some p.2 else getU r u).isSome = true ↔ u ∈ p.1 :: r.map (·.1)
    by_cases h : p.1 = u
    · rw [if_pos h]
      simp [h]
    · rw [if_neg h, ih, List.mem_cons]
      exact ⟨.inr, fun z => z.resolve_left fun e => h e.symm⟩
theorem put_keys (ps : List Pr) (u : Un) (q : Rat) : (putU ps u q).map (·.1) = if u ∈ ps.map (·.1) then ps.map (·.1) else ps.map (·.1) ++ [u] := by
  have z := getU_mem (ps := ps) (u := u)
  unfold putU
  cases h : getU ps u with
  | none =>
    rw [h] at z
    have hn : ¬ u ∈ ps.map (·.1) := fun w => by have := z.mpr w; cases this
    rw [if_neg hn]
    show (ps ++ [(u, q)]).map (·.1) = _
    rw [List.map_append]
    rfl
  | some x =>
    rw [h] at z
    rw [if_pos (z.mp rfl)]
    show (ps.map fun p => if p.1 = u then (p.1, q) else p).map (·.1) = _
    rw [List.map_map]
    refine List.map_congr_left fun p _ => ?_
    show (if p.1 = u then (p.1, q) else p).1 = p.1
    by_cases h : p.1 = u
    · rw [if_pos h]
    · rw [if_neg h]
theorem sum_keys : ∀ (ps acc : List Pr), (acc.map (·.1)).Nodup → ((ps.foldl stepU acc).map (·.1)).Nodup ∧ ∀ u, u ∈ (ps.foldl stepU acc).map (·.1) ↔ u ∈ acc.map (·.1) ∨ u ∈ ps.map (·.1)
  | [], acc, hn => ⟨hn, fun u => ⟨.inl, fun z => z.resolve_right (by simp)⟩⟩
  | p :: r, acc, hn => by
    have e := put_keys acc p.1 ((getU acc p.1).getD 0 + p.2)
    have e : (stepU acc p).map (·.1) = if p.1 ∈ acc.map (·.1) then acc.map (·.1) else acc.map (·.1) ++ [p.1] := e
    have hn2 : ((stepU acc p).map (·.1)).Nodup := by
      rw [e]
      by_cases h : p.1 ∈ acc.map (·.1)
      · rw [if_pos h]; exact hn
      · rw [if_neg h]
        exact List.nodup_append.mpr ⟨hn, by simp, fun a ha b hb => by
          rw [List.mem_singleton.mp hb]
          exact fun z => h (z ▸ ha)⟩
    obtain ⟨h1, h2⟩ := sum_keys r (stepU acc p) hn2
    refine ⟨h1, fun u => ?_⟩
    show u ∈ (r.foldl stepU (stepU acc p)).map (·.1) ↔ u ∈ acc.map (·.1) ∨ u ∈ p.1 :: r.map (·.1)
    rw [h2 u, e, List.mem_cons]
    by_cases h : p.1 ∈ acc.map (·.1)
    · rw [if_pos h]
      exact ⟨fun z => z.elim .inl (fun w => .inr (.inr w)), fun z => z.elim .inl (fun w => w.elim (fun e => .inl (e ▸ h)) .inr)⟩
    · rw [if_neg h, List.mem_append, List.mem_singleton]
      exact ⟨fun z => z.elim (fun w => w.elim .inl (fun e => .inr (.inl e))) (fun w => .inr (.inr w)), fun z => z.elim (fun w => .inl (.inl w)) (fun w => w.elim (fun e => .inl (.inr e)) .inr)⟩
end G07

set_option Elab.async false
set_option linter.all false
set_option maxRecDepth 100000
set_option maxHeartbeats 2000000
namespace G07
open PySem L2 Vi
/-! ### sizes -/
def sz (q : Rat) : Nat := max q.num.natAbs.log2 q.den.log2 + 1
theorem sz_ok (q : Rat) : Sz (sz q) q := by
  unfold sz
  have lt : ∀ a m : Nat, a.log2 ≤ m → a < 2 ^ (m + 1) := fun a m h => by
    by_cases ha : a = 0
    · subst ha
      exact Nat.two_pow_pos _
    · exact (Nat.log2_lt ha).mp (by omega)
  exact ⟨lt _ _ (Nat.le_max_left ..), lt _ _ (Nat.le_max_right ..)⟩
theorem sz_le {k : Nat} {q : Rat} (s : Sz k q) : sz q ≤ k := by
  have hd := q.den_pos
  have hk : 0 < k := by
    rcases Nat.eq_zero_or_pos k with rfl | h
    · have := s.d
      omega
    · exact h
  have h1 : q.den.log2 < k := (Nat.log2_lt (by omega)).mpr s.d
  have h2 : q.num.natAbs.log2 < k := by
    by_cases ha : q.num.natAbs = 0
    · rw [ha]
      simpa using hk
    · exact (Nat.log2_lt ha).mpr s.n
  unfold sz
  omega
theorem sz_zero : Sz 1 0 := ⟨by decide, by decide⟩
def wsum : List Pr → Un → Nat
  | [], _ => 0
  | p :: r, u => (if p.1 = u then sz p.2 + 1 else 0) + wsum r u
theorem tot_sz : ∀ (ps : List Pr) (u : Un), Sz (wsum ps u + 1) (tot ps u)
  | [], u => sz_zero
  | p :: r, u => by
    have ih := tot_sz r u
    show Sz ((if p.1 = u then sz p.2 + 1 else 0) + wsum r u + 1) ((if p.1 = u then p.2 else 0) + tot r u)
    by_cases h : p.1 = u
    · rw [if_pos h, if_pos h]
      exact ((sz_ok p.2).add ih).up (by omega)
    · rw [if_neg h, if_neg h, Rat.zero_add]
      exact ih.up (by omega)
theorem wsum_app (ps qs : List Pr) (u : Un) : wsum (ps ++ qs) u = wsum ps u + wsum qs u := by
  induction ps with
  | nil => show wsum qs u = 0 + wsum qs u; omega
  | cons p r ih =>
    show (if p.1 = u then sz p.2 + 1 else 0) + wsum (r ++ qs) u = (if p.1 = u then sz p.2 + 1 else 0) + wsum r u + wsum qs u
    rw [ih]
    omega
theorem tot_app (ps qs : List Pr) (u : Un) : tot (ps ++ qs) u = tot ps u + tot qs u := by
  induction ps with
  | nil => show tot qs u = 0 + tot qs u; rw [Rat.zero_add]
  | cons p r ih =>
    show (if p.1 = u then p.2 else 0) + tot (r ++ qs) u = (if p.1 = u then p.2 else 0) + tot r u + tot qs u
    rw [ih, Rat.add_assoc]
/-! ### the parts -/
def unky : List Key → Un
  | [.inr a, .inr b] => (a, b)
  | _ => ("", "")
theorem unky_ky (u : Un) : unky (ky u) = u := rfl
def srtU (us : List Un) : List Un := (sortL ksLt (us.map ky)).map unky
theorem srtU_ky (us : List Un) : (srtU us).map ky = sortL ksLt (us.map ky) := by
  unfold srtU
  rw [List.map_map]
  have : ∀ k ∈ sortL ksLt (us.map ky), (ky ∘ unky) k = k := fun k hk => by
    have hk := (sortL_perm (lt := ksLt) (us.map ky)).mem_iff.mp hk
    obtain ⟨u, _, rfl⟩ := List.mem_map.mp hk
    rfl
  rw [List.map_congr_left this, List.map_id']
theorem srtU_perm (us : List Un) : (srtU us).Perm us := by
  have z := (sortL_perm (lt := ksLt) (us.map ky)).map unky
  rw [List.map_map] at z
  have e : us.map (unky ∘ ky) = us := (List.map_congr_left (g := id) fun u _ => rfl).trans (List.map_id _)
  rw [e] at z
  exact z
theorem srtU_srtd (us : List Un) : SrtO.Srtd ksLt ((srtU us).map ky) := by
  rw [srtU_ky]
  exact sortL_srtd tot_keys _
abbrev keysU (ps : List Pr) : List Un := (sumU ps).map (·.1)
def kept (ps : List Pr) : List Un := (srtU (keysU ps)).filter fun u => decide (tot ps u ≠ 0)
def parts (ps : List Pr) : List Pr := (kept ps).map fun u => (u, tot ps u)
theorem keysU_nodup (ps : List Pr) : (keysU ps).Nodup := (sum_keys ps [] (by simp)).1
theorem keysU_mem {ps : List Pr} {u : Un} : u ∈ keysU ps ↔ u ∈ ps.map (·.1) := by
  refine ((sum_keys ps [] (by simp)).2 u).trans ?_
  exact ⟨fun z => z.resolve_left (by simp), .inr⟩
theorem sum_tot (ps : List Pr) (u : Un) : (getU (sumU ps) u).getD 0 = tot ps u := by
  have z := sum_get ps [] u
  rw [show (getU [] u).getD 0 = 0 from rfl, Rat.zero_add] at z
  exact z
theorem tot_out {ps : List Pr} {u : Un} (h : u ∉ ps.map (·.1)) : tot ps u = 0 := by
  induction ps with
  | nil => rfl
  | cons p r ih =>
    have h : u ∉ p.1 :: r.map (·.1) := h
    rw [List.mem_cons] at h
    show (if p.1 = u then p.2 else 0) + tot r u = 0
    rw [if_neg fun e => h (.inl e.symm), ih fun z => h (.inr z), Rat.zero_add]
theorem kept_nodup (ps : List Pr) : (kept ps).Nodup := ((srtU_perm (keysU ps)).nodup_iff.mpr (keysU_nodup ps)).sublist List.filter_sublist
theorem kept_mem {ps : List Pr} {u : Un} : u ∈ kept ps ↔ tot ps u ≠ 0 := by
  unfold kept
  rw [List.mem_filter, (srtU_perm _).mem_iff, keysU_mem]
  refine ⟨fun z => of_decide_eq_true z.2, fun z => ⟨?_, decide_eq_true z⟩⟩
  exact Classical.byContradiction fun h => z (tot_out h)
theorem kept_srtd (ps : List Pr) : SrtO.Srtd ksLt ((kept ps).map ky) := by
  have z := srtU_srtd (keysU ps)
  exact List.Pairwise.sublist (List.Sublist.map ky List.filter_sublist) z
/-- parts tell nothing but the sums -/
theorem parts_ext {ps qs : List Pr} (h : ∀ u, tot ps u = tot qs u) : parts ps = parts qs := by
  have hp : (kept ps).Perm (kept qs) := (List.perm_ext_iff_of_nodup (kept_nodup ps) (kept_nodup qs)).mpr fun u => by rw [kept_mem, kept_mem, h u]
  have e := srtd_uniq tot_keys (kept_srtd ps) (kept_srtd qs) (hp.map ky)
  have e2 : kept ps = kept qs := by
    have z := congrArg (List.map unky) e
    rw [List.map_map, List.map_map] at z
    have k : ∀ us : List Un, us.map (unky ∘ ky) = us := fun us => (List.map_congr_left (g := id) fun u _ => rfl).trans (List.map_id _)
    rw [k, k] at z
    exact z
  unfold parts
  rw [e2]
  exact List.map_congr_left fun u _ => by rw [h u]
theorem parts_keys (ps : List Pr) : (parts ps).map (·.1) = kept ps := by
  unfold parts
  rw [List.map_map]
  exact (List.map_congr_left (g := id) fun u _ => rfl).trans (List.map_id _)
theorem tot_nodup : ∀ {us : List Un} {f : Un → Rat}, us.Nodup → ∀ u, tot (us.map fun u => (u, f u)) u = if u ∈ us then f u else 0
  | [], f, _, u => by simp [tot]
  | v :: r, f, hn, u => by
    obtain ⟨h1, h2⟩ := List.nodup_cons.mp hn
    have ih := tot_nodup (f := f) h2 u
    show (if v = u then f v else 0) + tot (r.map fun u => (u, f u)) u = _
    rw [ih]
    by_cases e : v = u
    · subst e
      rw [if_pos rfl, if_neg h1, if_pos (List.mem_cons_self ..), Rat.add_zero]
    · have : (u ∈ v :: r) ↔ u ∈ r := by rw [List.mem_cons]; exact ⟨fun z => z.resolve_left fun w => e w.symm, .inr⟩
      rw [if_neg e, Rat.zero_add]
      by_cases h : u ∈ r
      · rw [if_pos h, if_pos (this.mpr h)]
      · rw [if_neg h, if_neg fun z => h (this.mp z)]
/-- the parts sum up to the same -/
theorem tot_parts (ps : List Pr) (u : Un) : tot (parts ps) u = tot ps u := by
  unfold parts
  rw [tot_nodup (kept_nodup ps) u]
  by_cases h : u ∈ kept ps
  · rw [if_pos h]
  · rw [if_neg h]
    have := fun z => h (kept_mem.mpr z)
    exact (Classical.not_not.mp this).symm
end G07

set_option Elab.async false
set_option linter.all false
set_option maxRecDepth 100000
set_option maxHeartbeats 2000000
namespace G07
open PySem L2 Vi
/-- a comprehension with a test, its parts reckoned item by item -/
theorem comp_map (o : Bool) (i : Nat) (mt : MB) (me : ME) (f : D → D) (b : D → Bool) (env : Vi.Env) (h : Hc) : ∀ (xs acc : List D), (∀ x ∈ xs, mt (env.set i (some (.d x))) h = .ok (b x) h ∧ (b x = true → me (env.set i (some (.d x))) h = .ok (.d (f x)) h)) → acc.length + xs.length < 16000000 →
    compL o (gtN i) mt me xs acc env h = .ok (Vl.ofL o (acc ++ (xs.filter b).map f)) h := by
  intro xs
  induction xs with
  | nil =>
    intro acc _ _
    show R.ok (Vl.ofL o acc) h = _
    rw [List.filter_nil, List.map_nil, List.append_nil]
  | cons x r ih =>
    intro acc hx hl
    rw [List.length_cons] at hl
    obtain ⟨e1, e2⟩ := hx x (List.mem_cons_self ..)
    have hr := fun y hy => hx y (List.mem_cons_of_mem _ hy)
    show (match mt (env.set i (some (.d x))) h with
      | .ok b h1 => if b then (match me (env.set i (some (.d x))) h1 with
        | .ok (.d y) h2 => if acc.length < 16000000 then compL o (gtN i) mt me r (acc ++ [y]) env h2 else .stuck
        | _ => .stuck) else compL o (gtN i) mt me r acc env h1
      | _ => .stuck) = _
    rw [e1]
    cases hb : b x with
    | true =>
      have e2 := e2 hb
      dsimp only
      rw [if_pos rfl, e2]
      dsimp only
      rw [if_pos (by omega), ih _ hr (by rw [List.length_append, List.length_singleton]; omega), List.filter_cons_of_pos hb, List.map_cons, List.append_assoc]
      rfl
    | false =>
      dsimp only
      rw [if_neg Bool.false_ne_true, ih _ hr (by omega), List.filter_cons_of_neg (by rw [hb]; exact Bool.false_ne_true)]
theorem filter_yes {α : Type} (xs : List α) : xs.filter (fun _ => true) = xs := List.filter_eq_self.mpr fun _ _ => rfl
/-- .. without a test -/
theorem comp_all (o : Bool) (i : Nat) (me : ME) (f : D → D) (env : Vi.Env) (h : Hc) (xs : List D) (hx : ∀ x ∈ xs, me (env.set i (some (.d x))) h = .ok (.d (f x)) h) (hl : xs.length < 16000000) :
    compL o (gtN i) mYes me xs [] env h = .ok (Vl.ofL o (xs.map f)) h := by
  rw [comp_map o i mYes me f (fun _ => true) env h xs [] (fun x hm => ⟨rfl, fun _ => hx x hm⟩) (by simpa using hl), filter_yes]
  rfl
theorem mA1_eq (F : List Vl → Hc → R Vl) (m : MA) (env : Vi.Env) (h : Hc) : mA1 F m env h = (m env h).bind fun xs h1 => F xs h1 := rfl
theorem maCons_eq (a : ME) (b : MA) (env : Vi.Env) (h : Hc) : maCons a b env h = (a env h).bind fun x h1 => (b env h1).bind fun xs h2 => .ok (x :: xs) h2 := rfl
theorem m2_eq (F : Vl → Vl → Hc → R Vl) (a b : ME) (env : Vi.Env) (h : Hc) : m2 F a b env h = (a env h).bind fun x h1 => (b env h1).bind fun y h2 => F x y h2 := rfl
theorem asB_eq (m : ME) (env : Vi.Env) (h : Hc) (b : Bool) (h' : Hc) (e : m env h = .ok (.d (.bl b)) h') : asB m env h = .ok b h' := by
  unfold asB
  rw [e]
  rfl
theorem call2 {F : Fn} {env : Vi.Env} {a b : ME} {x y d : D} {h h1 h2 h3 : Hc} (ea : a env h = .ok (.d x) h1) (eb : b env h1 = .ok (.d y) h2) (e : F [x, y] h2 = .ok d h3) : mA1 (fCallN 2 F []) (maCons a (maCons b maNil)) env h = .ok (.d d) h3 := by
  rw [mA1_eq, maCons_eq, ea, R.bind_ok, maCons_eq, eb, R.bind_ok]
  show ((F [x, y] h2).bind fun d h' => R.ok (Vl.d d) h') = _
  rw [e]
  rfl
theorem ret_of {m : ME} {env : Vi.Env} {d : D} {h h' : Hc} (e : m env h = .ok (.d d) h') : mRet m env h = .ret d h' := by
  unfold mRet
  rw [e]
  rfl
/-! ### the cell of the sums -/
abbrev cT (h : Hc) (acc : List Pr) : Hc := h ++ [.dT (acc.map kvD)]
theorem cT_get (h : Hc) (acc : List Pr) : (cT h acc)[h.length]? = some (.dT (acc.map kvD)) := by
  rw [List.getElem?_append_right (Nat.le_refl _), Nat.sub_self]
  rfl
theorem cT_set (h : Hc) (acc : List Pr) (c : Cell) : (cT h acc).set h.length c = h ++ [c] := by
  rw [List.set_append_right _ _ (Nat.le_refl _), Nat.sub_self]
  rfl
theorem cT_dv (h : Hc) (acc : List Pr) : dv? (.d (.ref h.length)) (cT h acc) = some (.t (acc.map kvD)) := by
  show (match (cT h acc)[h.length]?.map Cell.bare with
    | some (.dK kvs) => some (DV.k kvs)
    | some (.dT kvs) => some (.t kvs)
    | _ => none) = _
  rw [cT_get]
  rfl
theorem zero_fr : d_ZERO = fr 0 := rfl
theorem kc_un (u : Un) : g0.kc [.str u.1, .str u.2] = false := rfl
theorem dget_u (acc : List Pr) (u : Un) : dGet g0.kc (.t (acc.map kvD)) (uD u) = some ((getU acc u).map fr) := by
  show (if g0.kc [.str u.1, .str u.2] then none else some (getD' (acc.map kvD) (ky u))) = _
  rw [kc_un, if_neg Bool.false_ne_true, getD_kv]
abbrev envG (x : D) (n : Nat) (a b : Option Sl) : Vi.Env := [some (.d x), some (.d (.ref n)), a, b]
def gB (F : Fn) (z : ME) : MS := mDPut g0.kc (mA1 (fCallN 2 F []) (maCons (mDGet2 g0.kc (mVar 1) (mVar 2) z) (maCons (mVar 3) maNil))) (mVar 1) (mVar 2)
abbrev gT : TgF := gtT 2 (gtCons (gtN 2) (gtCons (gtN 3) gtNil))
section
variable {F : Fn} {z : ME} {x : D} {h : Hc}
theorem put_len (acc : List Pr) (u : Un) (q : Rat) : (putU acc u q).length ≤ acc.length + 1 := by
  unfold putU
  cases getU acc u with
  | none =>
    show (acc ++ [(u, q)]).length ≤ _
    rw [List.length_append, List.length_singleton]
    exact Nat.le_refl _
  | some x =>
    show (acc.map _).length ≤ _
    rw [List.length_map]
    omega
theorem sum_len (ps acc : List Pr) : (ps.foldl stepU acc).length ≤ acc.length + ps.length := by
  induction ps generalizing acc with
  | nil => exact Nat.le_refl _
  | cons p r ih =>
    have := ih (stepU acc p)
    have := put_len acc p.1 ((getU acc p.1).getD 0 + p.2)
    show (r.foldl stepU (stepU acc p)).length ≤ acc.length + (r.length + 1)
    have e : (stepU acc p).length ≤ acc.length + 1 := this
    omega
theorem g_turn (hz : ∀ env h, z env h = .ok (.d (fr 0)) h) (acc : List Pr) (p : Pr) (hF : ∀ h, F [fr ((getU acc p.1).getD 0), fr p.2] h = .ok (fr ((getU acc p.1).getD 0 + p.2)) h) (hl : acc.length < 100000) :
    gB F z (envG x h.length (some (.d (uD p.1))) (some (.d (fr p.2)))) (cT h acc) = .nx (envG x h.length (some (.d (uD p.1))) (some (.d (fr p.2)))) (cT h (stepU acc p)) := by
  have e1 : mDGet2 g0.kc (mVar 1) (mVar 2) z (envG x h.length (some (.d (uD p.1))) (some (.d (fr p.2)))) (cT h acc) = .ok (.d (fr ((getU acc p.1).getD 0))) (cT h acc) := by
    show (if (dv? (.d (.ref h.length)) (cT h acc)).isSome then ((R.ok (Vl.d (uD p.1)) (cT h acc)).bind fun y h2 => (z (envG x h.length (some (.d (uD p.1))) (some (.d (fr p.2)))) h2).bind fun z h3 => match z with
      | .d z => fDGet g0.kc (.d (.ref h.length)) y z h3
      | _ => .stuck) else .stuck) = _
    rw [cT_dv, if_pos (show (some (DV.t (acc.map kvD))).isSome = true from rfl), R.bind_ok, hz, R.bind_ok]
    show (match dv? (.d (.ref h.length)) (cT h acc), Vl.d (uD p.1) with
      | some dv, .d y => (match dGet g0.kc dv y with
        | some (some d) => R.ok (Vl.d d) (cT h acc)
        | some none => R.ok (Vl.d (fr 0)) (cT h acc)
        | none => .stuck)
      | _, _ => .stuck) = _
    rw [cT_dv]
    show (match dGet g0.kc (.t (acc.map kvD)) (uD p.1) with
        | some (some d) => R.ok (Vl.d d) (cT h acc)
        | some none => R.ok (Vl.d (fr 0)) (cT h acc)
        | none => .stuck) = _
    rw [dget_u]
    cases getU acc p.1 <;> rfl
  have e2 := call2 (F := F) e1 (b := mVar 3) (h2 := cT h acc) rfl (hF (cT h acc))
  unfold gB mDPut
  rw [e2]
  show fDPut g0.kc _ (.d (fr ((getU acc p.1).getD 0 + p.2))) (.d (.ref h.length)) (.d (uD p.1)) (cT h acc) = _
  unfold fDPut
  dsimp only
  rw [cT_get]
  show (match (if g0.kc [.str p.1.1, .str p.1.2] then none else if (acc.map kvD).length < 100000 then some (Cell.dT (putD' (acc.map kvD) (ky p.1) (fr ((getU acc p.1).getD 0 + p.2)))) else none) with
      | some c' => RS.nx _ ((cT h acc).set h.length c')
      | none => .stuck) = _
  rw [kc_un, if_neg Bool.false_ne_true, if_pos (by rw [List.length_map]; exact hl), putD_kv]
  show RS.nx _ ((cT h acc).set h.length _) = _
  rw [cT_set]
  rfl
theorem g_loop (hz : ∀ env h, z env h = .ok (.d (fr 0)) h) (hF : ∀ (p q : Rat) (j k : Nat) (h : Hc), Sz j p → Sz k q → j + k ≤ 7000 → F [fr p, fr q] h = .ok (fr (p + q)) h) :
    ∀ (rest done : List Pr) (a b : Option Sl), (∀ u, wsum (done ++ rest) u + 1 ≤ 7000) → done.length + rest.length < 90000 →
    ∃ a' b', forL gT (gB F z) (rest.map pD) (envG x h.length a b) (cT h (sumU done)) = .nx (envG x h.length a' b') (cT h (sumU (done ++ rest))) := by
  intro rest
  induction rest with
  | nil =>
    intro done a b _ _
    refine ⟨a, b, ?_⟩
    rw [List.append_nil]
    rfl
  | cons p r ih =>
    intro done a b hw hl
    rw [List.length_cons] at hl
    have st := tot_sz done p.1
    have hw1 := hw p.1
    rw [wsum_app] at hw1
    have hw2 : wsum (p :: r) p.1 = sz p.2 + 1 + wsum r p.1 := by
      show (if p.1 = p.1 then sz p.2 + 1 else 0) + wsum r p.1 = _
      rw [if_pos rfl]
    have hp := g_turn (x := x) (h := h) hz (sumU done) p (fun h => by
      rw [sum_tot]
      exact hF _ _ _ _ h st (sz_ok p.2) (by omega)) (by
      have := sum_len done []
      have e : (sumU done).length ≤ 0 + done.length := this
      omega)
    have es : stepU (sumU done) p = sumU (done ++ [p]) := by
      unfold sumU
      rw [List.foldl_append]
      rfl
    obtain ⟨a', b', e⟩ := ih (done ++ [p]) (some (.d (uD p.1))) (some (.d (fr p.2))) (by rw [List.append_assoc]; exact hw) (by rw [List.length_append, List.length_singleton]; omega)
    refine ⟨a', b', ?_⟩
    rw [List.append_assoc] at e
    rw [List.map_cons, forL_cons]
    show ((gB F z (envG x h.length (some (.d (uD p.1))) (some (.d (fr p.2)))) (cT h (sumU done))).again _) = _
    rw [hp, es]
    exact e
end
end G07

set_option Elab.async false
set_option linter.all false
set_option maxRecDepth 100000
set_option maxHeartbeats 2000000
namespace G07
open PySem L2 Vi
theorem compat_ky (u v : Un) : compat (ky u) (ky v) = true := by
  show (true && (if (Sum.inr u.1 : Key) = .inr v.1 then (true && (if (Sum.inr u.2 : Key) = .inr v.2 then true else true)) else true)) = true
  split
  · split <;> rfl
  · rfl
theorem compat_all (us : List Un) : compatAll (us.map ky) = true := by
  unfold compatAll
  refine List.all_eq_true.mpr fun x hx => ?_
  obtain ⟨u, _, rfl⟩ := List.mem_map.mp hx
  refine Bool.and_eq_true_iff.mpr ⟨rfl, List.all_eq_true.mpr fun y hy => ?_⟩
  obtain ⟨v, _, rfl⟩ := List.mem_map.mp hy
  exact compat_ky u v
theorem eq_int (a b : Int) : PyData.eqv (.int a) (.int b) = decide (a = b) := by
  simp only [PyData.eqv]
  rw [Bool.eq_iff_iff]
  simp
/-- two numbers alike -/
theorem eq_fr (neg : Bool) (p q : Rat) (h : Hc) : fEq neg (.d (fr p)) (.d (fr q)) h = .ok (.d (.bl (if neg then !decide (p = q) else decide (p = q)))) h := by
  have e : eqD (fr p) (fr q) = decide (p = q) := by
    show PyData.eqv (.tuple [.int p.num, .int (p.den : Int)]) (.tuple [.int q.num, .int (q.den : Int)]) = _
    simp only [PyData.eqv, PyData.eqvAll]
    rw [Bool.eq_iff_iff]
    simp only [Bool.and_true, Bool.and_eq_true, beq_iff_eq, decide_eq_true_eq]
    exact ⟨fun z => fr_inj z.1 z.2, fun z => by rw [z]; exact ⟨rfl, rfl⟩⟩
  have e2 : fEq neg (.d (fr p)) (.d (fr q)) h = (if shp (fr p) && shp (fr q) then .ok (.d (.bl (if neg then !eqD (fr p) (fr q) else eqD (fr p) (fr q)))) h else .stuck) := rfl
  have s : ∀ q : Rat, shp (fr q) = true := fun q => by
    show (PyData.canLay0 (.tuple [.int q.num, .int (q.den : Int)]) && decide (PyData.depth (.tuple [.int q.num, .int (q.den : Int)]) ≤ 64)) = true
    simp [PyData.canLay0, PyData.canLayAll0, PyData.depth, PyData.depthAll]
  rw [e2, s p, s q, e]
  rfl
section
variable {x : D} {h : Hc} {a b : Option Sl}
theorem src_sorted (env : Vi.Env) (he : ∀ h, mVar 1 env h = .ok (.d (.ref n)) h) (hn : n = h.length) (acc : List Pr) : mA1 (fSortedD g0.kc false) (maCons (mVar 1) maNil) env (cT h acc) = .ok (.d (.lst ((srtU (acc.map (·.1))).map uD))) (cT h acc) := by
  subst hn
  rw [mA1_eq, maCons_eq, he, R.bind_ok]
  show fSortedD g0.kc false [.d (.ref h.length)] (cT h acc) = _
  unfold fSortedD
  dsimp only
  rw [cT_dv]
  have ek : (acc.map kvD).map (·.1) = (acc.map (·.1)).map ky := by
    rw [List.map_map, List.map_map]
    rfl
  show (if compatAll ((acc.map kvD).map (·.1)) then R.ok (Vl.ofL false ((sortL ksLt ((acc.map kvD).map (·.1))).map tupD)) (cT h acc) else .stuck) = _
  rw [ek, if_pos (compat_all _), ← srtU_ky, List.map_map]
  rfl
theorem ix_u (acc : List Pr) {u : Un} {q : Rat} (hq : getU acc u = some q) : fIxD g0.kc (.d (.ref h.length)) (.d (uD u)) (cT h acc) = .ok (.d (fr q)) (cT h acc) := by
  unfold fIxD
  rw [cT_dv, if_pos (show (some (DV.t (acc.map kvD))).isSome = true from rfl)]
  unfold fDIx
  rw [cT_dv]
  show (match dGet g0.kc (.t (acc.map kvD)) (uD u) with
      | some (some d) => R.ok (Vl.d d) (cT h acc)
      | _ => .stuck) = _
  rw [dget_u, hq]
  rfl
theorem get_key {ps : List Pr} {u : Un} (hu : u ∈ keysU ps) : getU (sumU ps) u = some (tot ps u) := by
  have z := getU_mem.mpr hu
  have e := sum_tot ps u
  cases h : getU (sumU ps) u with
  | none => rw [h] at z; cases z
  | some q =>
    rw [h] at e
    have e : q = tot ps u := e
    rw [e]
/-- the parts, from the sums -/
theorem g_comp {mt : MB} {n : Nat} (hn : n = h.length) (ps : List Pr) (hl : ps.length < 90000) (hmt : ∀ u ∈ keysU ps, mt (envG x n (some (.d (uD u))) b) (cT h (sumU ps)) = .ok (decide (tot ps u ≠ 0)) (cT h (sumU ps))) :
    mA1 fTuple (maCons (mComp false [2] (gtN 2) mt (mA1 fTup (maCons (mVar 2) (maCons (m2 (fIxD g0.kc) (mVar 1) (mVar 2)) maNil))) (mA1 (fSortedD g0.kc false) (maCons (mVar 1) maNil))) maNil) (envG x n a b) (cT h (sumU ps)) = .ok (.d (.tup ((parts ps).map pD))) (cT h (sumU ps)) := by
  subst hn
  have hs := src_sorted (n := h.length) (h := h) (envG x h.length a b) (fun _ => rfl) rfl (sumU ps)
  have lk : (srtU (keysU ps)).length < 16000000 := by
    rw [(srtU_perm _).length_eq, List.length_map]
    have := sum_len ps []
    have e : (sumU ps).length ≤ 0 + ps.length := this
    omega
  have hc : mComp false [2] (gtN 2) mt (mA1 fTup (maCons (mVar 2) (maCons (m2 (fIxD g0.kc) (mVar 1) (mVar 2)) maNil))) (mA1 (fSortedD g0.kc false) (maCons (mVar 1) maNil)) (envG x h.length a b) (cT h (sumU ps)) = .ok (.d (.lst ((parts ps).map pD))) (cT h (sumU ps)) := by
    unfold mComp
    rw [hs, R.bind_ok]
    show compL false (gtN 2) mt (mA1 fTup (maCons (mVar 2) (maCons (m2 (fIxD g0.kc) (mVar 1) (mVar 2)) maNil))) ((srtU (keysU ps)).map uD) [] (wipeE (envG x h.length a b) [2]) (cT h (sumU ps)) = _
    have un : ∀ u : Un, (match uD u with
      | .tup [.str a, .str b] => (a, b)
      | _ => ("", "")) = u := fun u => rfl
    rw [comp_map false 2 mt _ (fun d => match d with
        | .tup [.str a, .str b] => pD ((a, b), tot ps (a, b))
        | d => d) (fun d => match d with
        | .tup [.str a, .str b] => decide (tot ps (a, b) ≠ 0)
        | _ => false) _ _ ((srtU (keysU ps)).map uD) [] (fun d hd => by
      obtain ⟨u, hu, rfl⟩ := List.mem_map.mp hd
      have hu := (srtU_perm _).mem_iff.mp hu
      refine ⟨hmt u hu, fun _ => ?_⟩
      have e1 : m2 (fIxD g0.kc) (mVar 1) (mVar 2) ((wipeE (envG x h.length a b) [2]).set 2 (some (.d (uD u)))) (cT h (sumU ps)) = .ok (.d (fr (tot ps u))) (cT h (sumU ps)) := ix_u (sumU ps) (get_key hu)
      rw [mA1_eq, maCons_eq, show mVar 2 ((wipeE (envG x h.length a b) [2]).set 2 (some (.d (uD u)))) (cT h (sumU ps)) = .ok (.d (uD u)) (cT h (sumU ps)) from rfl, R.bind_ok, maCons_eq, e1]
      rfl) (by rw [List.length_map]; simpa using lk)]
    rw [List.nil_append, List.filter_map, List.map_map]
    show R.ok (Vl.d (.lst _)) _ = _
    unfold parts kept
    rw [List.map_map]
    rfl
  rw [mA1_eq, maCons_eq, hc]
  rfl
/-- nothing of the heap below names a cell -/
def Cl (h : Hc) : Prop := h.all (cellRefs h.length) = true
theorem refs_parts (n : Nat) (ps : List Pr) : refsD n (.tup (ps.map pD)) = true := by
  have : ∀ ps : List Pr, refsDs n (ps.map pD) = true := fun ps => by
    induction ps with
    | nil => simp [refsDs]
    | cons p r ih =>
      show refsDs n (pD p :: r.map pD) = true
      simp only [refsDs, refsD, ih, Bool.and_true]
  simp only [refsD]
  exact this ps
theorem cut_ok (c : Cl h) (ps acc : List Pr) : (RS.ret (.tup (ps.map pD)) (cT h acc)).cut h.length = .ret (.tup (ps.map pD)) h := by
  show (if refsD h.length (.tup (ps.map pD)) then (match cutH h.length (cT h acc) with
    | some h2 => RS.ret (.tup (ps.map pD)) h2
    | none => .stuck) else .stuck) = _
  rw [refs_parts, if_pos rfl]
  have e : cutH h.length (cT h acc) = some h := by
    unfold cutH
    rw [List.take_left']
    · rw [if_pos (show h.all (cellRefs h.length) = true from c)]
    · rfl
  rw [e]
end
/-- what may be summed up -/
structure Okp (ps : List Pr) : Prop where
  w : ∀ u, wsum ps u + 1 ≤ 7000
  l : ps.length < 90000
theorem v_gathered {x : D} {h : Hc} {bb : Bool} {ps : List Pr} (hx : seqD? (cT h []) (.d x) = some (bb, ps.map pD)) (o : Okp ps) (c : Cl h) : F_gathered [x] h = .ok (.tup ((parts ps).map pD)) h := by
  refine (fnOf_eq 4 1 m_gathered [x] h rfl).trans ?_
  obtain ⟨a', b', e⟩ := g_loop (F := F_plus) (z := mC d_ZERO) (x := x) (h := h) (fun _ _ => rfl) (fun p q j k h s t hk => v_plus s t hk) ps [] none none o.w (by simpa using o.l)
  have p : m_gathered = mCut (mSeq (mSet 1 mNewT) (mSeq (mFor gT (mVar 0) (gB F_plus (mC d_ZERO))) (mRet (mA1 fTuple (maCons (mComp false [2] (gtN 2) (asB (m2 (fEq true) (m2 (fIxD g0.kc) (mVar 1) (mVar 2)) (mC d_ZERO))) (mA1 fTup (maCons (mVar 2) (maCons (m2 (fIxD g0.kc) (mVar 1) (mVar 2)) maNil))) (mA1 (fSortedD g0.kc false) (maCons (mVar 1) maNil))) maNil))))) := rfl
  have w1 : mSet 1 mNewT (mkEnv 4 [x]) h = .nx (envG x h.length none none) (cT h []) := rfl
  have w2 : mFor gT (mVar 0) (gB F_plus (mC d_ZERO)) (envG x h.length none none) (cT h []) = .nx (envG x h.length a' b') (cT h (sumU ps)) := by
    unfold mFor
    show ((R.ok (Vl.d x) (cT h [])).thenS _ fun x h1 => match seqD? h1 x with
      | some (_, xs) => forL gT (gB F_plus (mC d_ZERO)) xs (envG _ h.length none none) h1
      | none => .stuck) = _
    rw [R.thenS_ok, hx]
    exact e
  have w3 := g_comp (x := x) (h := h) (a := a') (b := b') (n := h.length) rfl ps o.l (mt := asB (m2 (fEq true) (m2 (fIxD g0.kc) (mVar 1) (mVar 2)) (mC d_ZERO))) (fun u hu => by
    refine asB_eq _ _ _ _ _ ?_
    have e1 : m2 (fIxD g0.kc) (mVar 1) (mVar 2) (envG x h.length (some (.d (uD u))) b') (cT h (sumU ps)) = .ok (.d (fr (tot ps u))) (cT h (sumU ps)) := ix_u (sumU ps) (get_key hu)
    rw [m2_eq, e1, R.bind_ok]
    show fEq true (.d (fr (tot ps u))) (.d (fr 0)) (cT h (sumU ps)) = _
    rw [eq_fr]
    congr 3
    simp)
  rw [p]
  unfold mCut
  rw [mSeq_eq, w1, RS.seq_nx, mSeq_eq, w2, RS.seq_nx, ret_of w3, cut_ok c]
  rfl
theorem num_zero (q : Rat) : q.num = 0 ↔ q = 0 := ⟨fun h => Rat.num_eq_zero.mp h, fun h => by rw [h]; rfl⟩
theorem v_due {x : D} {h : Hc} {bb : Bool} {ps : List Pr} (hx : seqD? (cT h []) (.d x) = some (bb, ps.map pD)) (o : Okp ps) (c : Cl h) : F__law_p1_due [x] h = .ok (.tup ((parts ps).map pD)) h := by
  refine (fnOf_eq 4 1 m__law_p1_due [x] h rfl).trans ?_
  obtain ⟨a', b', e⟩ := g_loop (F := F__law_plus) (z := mA1 fTup (maCons (mC (.int 0)) (maCons (mC (.int 1)) maNil))) (x := x) (h := h) (fun _ _ => rfl) (fun p q j k h s t hk => v_lplus s t hk) ps [] none none o.w (by simpa using o.l)
  have p : m__law_p1_due = mCut (mSeq (mSet 1 mNewT) (mSeq (mFor gT (mVar 0) (gB F__law_plus (mA1 fTup (maCons (mC (.int 0)) (maCons (mC (.int 1)) maNil))))) (mRet (mA1 fTuple (maCons (mComp false [2] (gtN 2) (asB (m2 (fEq true) (m2 (fIxD g0.kc) (m2 (fIxD g0.kc) (mVar 1) (mVar 2)) (mC (.int 0))) (mC (.int 0)))) (mA1 fTup (maCons (mVar 2) (maCons (m2 (fIxD g0.kc) (mVar 1) (mVar 2)) maNil))) (mA1 (fSortedD g0.kc false) (maCons (mVar 1) maNil))) maNil))))) := rfl
  have w1 : mSet 1 mNewT (mkEnv 4 [x]) h = .nx (envG x h.length none none) (cT h []) := rfl
  have w2 : mFor gT (mVar 0) (gB F__law_plus (mA1 fTup (maCons (mC (.int 0)) (maCons (mC (.int 1)) maNil)))) (envG x h.length none none) (cT h []) = .nx (envG x h.length a' b') (cT h (sumU ps)) := by
    unfold mFor
    show ((R.ok (Vl.d x) (cT h [])).thenS _ fun x h1 => match seqD? h1 x with
      | some (_, xs) => forL gT (gB F__law_plus (mA1 fTup (maCons (mC (.int 0)) (maCons (mC (.int 1)) maNil)))) xs (envG _ h.length none none) h1
      | none => .stuck) = _
    rw [R.thenS_ok, hx]
    exact e
  have w3 := g_comp (x := x) (h := h) (a := a') (b := b') (n := h.length) rfl ps o.l (mt := asB (m2 (fEq true) (m2 (fIxD g0.kc) (m2 (fIxD g0.kc) (mVar 1) (mVar 2)) (mC (.int 0))) (mC (.int 0)))) (fun u hu => by
    refine asB_eq _ _ _ _ _ ?_
    have e1 : m2 (fIxD g0.kc) (mVar 1) (mVar 2) (envG x h.length (some (.d (uD u))) b') (cT h (sumU ps)) = .ok (.d (fr (tot ps u))) (cT h (sumU ps)) := ix_u (sumU ps) (get_key hu)
    rw [m2_eq, m2_eq, e1, R.bind_ok]
    show fEq true (.d (.int (tot ps u).num)) (.d (.int 0)) (cT h (sumU ps)) = .ok (.d (.bl (decide (tot ps u ≠ 0)))) (cT h (sumU ps))
    have e2 : fEq true (.d (.int (tot ps u).num)) (.d (.int 0)) (cT h (sumU ps)) = .ok (.d (.bl (!PyData.eqv (.int (tot ps u).num) (.int 0)))) (cT h (sumU ps)) := rfl
    rw [e2, eq_int]
    congr 3
    have z := num_zero (tot ps u)
    by_cases hz : tot ps u = 0
    · simp [z.mpr hz, hz]
    · have : ¬ (tot ps u).num = 0 := fun w => hz (z.mp w)
      simp [this, hz])
  rw [p]
  unfold mCut
  rw [mSeq_eq, w1, RS.seq_nx, mSeq_eq, w2, RS.seq_nx, ret_of w3, cut_ok c]
  rfl
end G07

set_option Elab.async false
set_option linter.all false
set_option maxRecDepth 100000
set_option maxHeartbeats 2000000
namespace G07
open PySem L2 Vi
theorem comp_gen {α : Type} (T : TgF) (me : ME) (g f : α → D) (env : Vi.Env) (h : Hc) : ∀ (xs : List α) (acc : List D), (∀ x ∈ xs, ∃ env1, T (g x) env = some env1 ∧ me env1 h = .ok (.d (f x)) h) → acc.length + xs.length < 16000000 →
    compL false T mYes me (xs.map g) acc env h = .ok (.d (.lst (acc ++ xs.map f))) h := by
  intro xs
  induction xs with
  | nil =>
    intro acc _ _
    show R.ok (Vl.d (.lst acc)) h = _
    rw [List.map_nil, List.append_nil]
  | cons x r ih =>
    intro acc hx hl
    rw [List.length_cons] at hl
    obtain ⟨env1, e1, e2⟩ := hx x (List.mem_cons_self ..)
    show (match T (g x) env with
      | none => R.stuck
      | some env1 => (match mYes env1 h with
        | .ok b h1 => if b then (match me env1 h1 with
          | .ok (.d y) h2 => if acc.length < 16000000 then compL false T mYes me (r.map g) (acc ++ [y]) env h2 else .stuck
          | _ => R.stuck) else compL false T mYes me (r.map g) acc env h1
        | _ => .stuck)) = _
    rw [e1]
    show (match me env1 h with
          | .ok (.d y) h2 => if acc.length < 16000000 then compL false T mYes me (r.map g) (acc ++ [y]) env h2 else .stuck
          | _ => .stuck) = _
    rw [e2]
    dsimp only
    rw [if_pos (by omega), ih _ (fun y hy => hx y (List.mem_cons_of_mem _ hy)) (by rw [List.length_append, List.length_singleton]; omega), List.map_cons, List.append_assoc]
    rfl
/-! ### times a number -/
def mulP (ps : List Pr) (w : Rat) : List Pr := ps.map fun p => (p.1, p.2 * w)
theorem tot_mul (ps : List Pr) (w : Rat) (u : Un) : tot (mulP ps w) u = tot ps u * w := by
  induction ps with
  | nil => show (0 : Rat) = 0 * w; rw [Rat.zero_mul]
  | cons p r ih =>
    show (if p.1 = u then p.2 * w else 0) + tot (mulP r w) u = ((if p.1 = u then p.2 else 0) + tot r u) * w
    rw [ih, Rat.add_mul]
    by_cases h : p.1 = u
    · rw [if_pos h, if_pos h]
    · rw [if_neg h, if_neg h, Rat.zero_mul]
/-- a list of pairs, none of them larger than K -/
structure Bp (K n : Nat) (ps : List Pr) : Prop where
  k : ∀ p ∈ ps, sz p.2 ≤ K
  n : ps.length ≤ n
theorem Bp.w {K n : Nat} {ps : List Pr} (b : Bp K n ps) (u : Un) : wsum ps u ≤ (K + 1) * n := by
  refine Nat.le_trans ?_ (Nat.mul_le_mul_left (K + 1) b.n)
  have := b.k
  clear b
  induction ps with
  | nil => exact Nat.zero_le _
  | cons p r ih =>
    have h1 := this p (List.mem_cons_self ..)
    have h2 := ih fun q hq => this q (List.mem_cons_of_mem _ hq)
    show (if p.1 = u then sz p.2 + 1 else 0) + wsum r u ≤ (K + 1) * (r.length + 1)
    rw [Nat.mul_add, Nat.mul_one]
    split <;> omega
theorem Bp.ok {K n : Nat} {ps : List Pr} (b : Bp K n ps) (h : (K + 1) * n + 1 ≤ 7000) (hn : n < 90000) : Okp ps := ⟨fun u => Nat.le_trans (Nat.add_le_add_right (b.w u) 1) h, Nat.lt_of_le_of_lt b.n hn⟩
theorem Bp.app {K n m : Nat} {ps qs : List Pr} (a : Bp K n ps) (b : Bp K m qs) : Bp K (n + m) (ps ++ qs) := ⟨fun p hp => (List.mem_append.mp hp).elim (a.k p) (b.k p), by rw [List.length_append]; exact Nat.add_le_add a.n b.n⟩
theorem Bp.up {K L n m : Nat} {ps : List Pr} (a : Bp K n ps) (h1 : K ≤ L) (h2 : n ≤ m) : Bp L m ps := ⟨fun p hp => Nat.le_trans (a.k p hp) h1, Nat.le_trans a.n h2⟩
theorem Bp.mul {K n : Nat} {ps : List Pr} {w : Rat} (a : Bp K n ps) : Bp (K + sz w) n (mulP ps w) := ⟨fun p hp => by
  obtain ⟨q, hq, rfl⟩ := List.mem_map.mp hp
  have := a.k q hq
  exact Nat.le_trans (sz_le ((sz_ok q.2).mul (sz_ok w))) (by omega), by unfold mulP; rw [List.length_map]; exact a.n⟩
theorem v_lmul {ps : List Pr} {w : Rat} {h : Hc} {x : D} (hx : seqC? h (.d x) = some (true, ps.map pD) ) (hs : ∀ p ∈ ps, sz p.2 + sz w ≤ 7000) (hl : ps.length < 90000) : F__law_p1_multiplied [x, fr w] h = .ok (.lst ((mulP ps w).map pD)) h := by
  refine (fnOf_eq 3 2 m__law_p1_multiplied [x, fr w] h rfl).trans ?_
  have e : mComp false [2] (gtN 2) mYes (mA1 fTup (maCons (m2 fIx (mVar 2) (mC (.int 0))) (maCons (mA1 (fCallN 2 F__law_times []) (maCons (m2 fIx (mVar 2) (mC (.int 1))) (maCons (mVar 1) maNil))) maNil))) (mVar 0) (mkEnv 3 [x, fr w]) h = .ok (.d (.lst ((mulP ps w).map pD))) h := by
    unfold mComp
    show ((R.ok (Vl.d x) h).bind fun x h1 => match seqC? h1 x with
      | some (_, xs) => compL false (gtN 2) mYes _ xs [] (wipeE (mkEnv 3 [_, fr w]) [2]) h1
      | none => .stuck) = _
    rw [R.bind_ok, hx]
    dsimp only
    rw [comp_gen (gtN 2) _ pD (fun p => pD (p.1, p.2 * w)) _ h ps [] (fun p hp => ⟨_, rfl, by
      have e1 := call2 (F := F__law_times) (env := (wipeE (mkEnv 3 [x, fr w]) [2]).set 2 (some (.d (pD p)))) (a := m2 fIx (mVar 2) (mC (.int 1))) (b := mVar 1) (h := h) (h1 := h) (h2 := h) rfl rfl (v_ltimes (sz_ok p.2) (sz_ok w) (hs p hp))
      rw [mA1_eq, maCons_eq, show m2 fIx (mVar 2) (mC (.int 0)) ((wipeE (mkEnv 3 [x, fr w]) [2]).set 2 (some (.d (pD p)))) h = .ok (.d (uD p.1)) h from rfl, R.bind_ok, maCons_eq, e1]
      rfl⟩) (by simp only [List.length_nil]; omega)]
    unfold mulP
    rw [List.map_map]
    rfl
  show (mRet _ (mkEnv 3 [x, fr w]) h).fin = _
  rw [ret_of e]
  rfl
/-- what the program gives -/
def mulR (ps : List Pr) (w : Rat) : List Pr := if w = 0 then [] else mulP ps w
theorem tot_mulR (ps : List Pr) (w : Rat) (u : Un) : tot (mulR ps w) u = tot ps u * w := by
  unfold mulR
  by_cases h : w = 0
  · rw [if_pos h, h, Rat.mul_zero]
    rfl
  · rw [if_neg h, tot_mul]
theorem v_multiplied {ps : List Pr} {w : Rat} {h : Hc} (hs : ∀ p ∈ ps, sz p.2 + sz w ≤ 7000) (hl : ps.length < 90000) : F_multiplied [.tup (ps.map pD), fr w] h = .ok (.tup ((mulR ps w).map pD)) h := by
  refine (fnOf_eq 4 2 m_multiplied [.tup (ps.map pD), fr w] h rfl).trans ?_
  have p : m_multiplied = mSeq (mIfS (asB (m2 (fEq false) (mVar 1) (mC d_ZERO))) (mRet (mA1 fTup maNil)) mSkip) (mRet (mA1 fTuple (maCons (mComp false [2, 3] gT mYes (mA1 fTup (maCons (mVar 2) (maCons (mA1 (fCallN 2 F_times []) (maCons (mVar 3) (maCons (mVar 1) maNil))) maNil))) (mVar 0)) maNil))) := rfl
  have c : asB (m2 (fEq false) (mVar 1) (mC d_ZERO)) (mkEnv 4 [.tup (ps.map pD), fr w]) h = .ok (decide (w = 0)) h := by
    refine asB_eq _ _ _ _ _ ?_
    show fEq false (.d (fr w)) (.d (fr 0)) h = _
    rw [eq_fr]
    rfl
  rw [p, mSeq_eq, mIfS_eq, c, R.thenS_ok]
  unfold mulR
  by_cases hw : w = 0
  · rw [decide_eq_true hw, if_pos hw]
    rfl
  · rw [decide_eq_false hw, if_neg hw, pick_f]
    have e : mComp false [2, 3] gT mYes (mA1 fTup (maCons (mVar 2) (maCons (mA1 (fCallN 2 F_times []) (maCons (mVar 3) (maCons (mVar 1) maNil))) maNil))) (mVar 0) (mkEnv 4 [.tup (ps.map pD), fr w]) h = .ok (.d (.lst ((mulP ps w).map pD))) h := by
      show compL false gT mYes _ (ps.map pD) [] (wipeE (mkEnv 4 [.tup (ps.map pD), fr w]) [2, 3]) h = _
      rw [comp_gen gT _ pD (fun p => pD (p.1, p.2 * w)) _ h ps [] (fun p hp => ⟨_, rfl, by
        have e1 := call2 (F := F_times) (env := [some (.d (.tup (ps.map pD))), some (.d (fr w)), some (.d (uD p.1)), some (.d (fr p.2))]) (a := mVar 3) (b := mVar 1) (h := h) (h1 := h) (h2 := h) rfl rfl (v_times (sz_ok p.2) (sz_ok w) (hs p hp))
        show mA1 fTup _ [some (.d (.tup (ps.map pD))), some (.d (fr w)), some (.d (uD p.1)), some (.d (fr p.2))] h = _
        rw [mA1_eq, maCons_eq, show mVar 2 [some (.d (.tup (ps.map pD))), some (.d (fr w)), some (.d (uD p.1)), some (.d (fr p.2))] h = .ok (.d (uD p.1)) h from rfl, R.bind_ok, maCons_eq, e1]
        rfl⟩) (by simp only [List.length_nil]; omega)]
      unfold mulP
      rw [List.map_map]
      rfl
    have e2 : mA1 fTuple (maCons (mComp false [2, 3] gT mYes (mA1 fTup (maCons (mVar 2) (maCons (mA1 (fCallN 2 F_times []) (maCons (mVar 3) (maCons (mVar 1) maNil))) maNil))) (mVar 0)) maNil) (mkEnv 4 [.tup (ps.map pD), fr w]) h = .ok (.d (.tup ((mulP ps w).map pD))) h := by
      rw [mA1_eq, maCons_eq, e]
      rfl
    show (mRet _ (mkEnv 4 [.tup (ps.map pD), fr w]) h).fin = _
    rw [ret_of e2]
    rfl
/-! ### forms -/
abbrev formF (ps : List Pr) : List (PySem.Str × D) := [("parts", .tup (ps.map pD)), ("names", .tup (ps.map fun p => uD p.1))]
/-- the form with these parts -/
abbrev form (ps : List Pr) : D := .obj 0 (formF ps)
abbrev envI (fs : List (PySem.Str × D)) (x : D) : Vi.Env := [some (.oi 0 fs), some (.d x), none, none]
theorem v_init {x : D} {h : Hc} {bb : Bool} {ps : List Pr} (hx : seqD? (cT h []) (.d x) = some (bb, ps.map pD)) (o : Okp ps) (c : Cl h) : FI_Form_xinitx [x] h = .ok (formF (parts ps)) h := by
  have e := v_gathered hx o c
  have lp : (parts ps).length < 16000000 := by
    unfold parts kept
    rw [List.length_map]
    refine Nat.lt_of_le_of_lt (List.length_filter_le ..) ?_
    rw [(srtU_perm _).length_eq, List.length_map]
    have := sum_len ps []
    have e : (sumU ps).length ≤ 0 + ps.length := this
    have := o.l
    omega
  have w1 : mSetFld g0 0 "parts" (mA1 (fCallN 1 F_gathered []) (maCons (mVar 1) maNil)) (envI [] x) h = .nx (envI [("parts", .tup ((parts ps).map pD))] x) h := by
    have e1 : mA1 (fCallN 1 F_gathered []) (maCons (mVar 1) maNil) (envI [] x) h = .ok (.d (.tup ((parts ps).map pD))) h := by
      show ((F_gathered [x] h).bind fun d h' => R.ok (Vl.d d) h') = _
      rw [e]
      rfl
    unfold mSetFld
    rw [e1]
    rfl
  have w2 : mSetFld g0 0 "names" (mA1 fTuple (maCons (mComp false [2, 3] gT mYes (mVar 2) (m1 (fFld g0 "parts") (mVar 0))) maNil)) (envI [("parts", .tup ((parts ps).map pD))] x) h = .nx (envI (formF (parts ps)) x) h := by
    have e1 : mComp false [2, 3] gT mYes (mVar 2) (m1 (fFld g0 "parts") (mVar 0)) (envI [("parts", .tup ((parts ps).map pD))] x) h = .ok (.d (.lst ((parts ps).map fun p => uD p.1))) h := by
      show compL false gT mYes (mVar 2) ((parts ps).map pD) [] (wipeE (envI [("parts", .tup ((parts ps).map pD))] x) [2, 3]) h = _
      rw [comp_gen gT (mVar 2) pD (fun p => uD p.1) _ h (parts ps) [] (fun p hp => ⟨_, rfl, rfl⟩) (by simpa using lp)]
      rfl
    have e2 : mA1 fTuple (maCons (mComp false [2, 3] gT mYes (mVar 2) (m1 (fFld g0 "parts") (mVar 0))) maNil) (envI [("parts", .tup ((parts ps).map pD))] x) h = .ok (.d (.tup ((parts ps).map fun p => uD p.1))) h := by
      rw [mA1_eq, maCons_eq, e1]
      rfl
    unfold mSetFld
    rw [e2]
    rfl
  show (match (mSeq (mSetFld g0 0 "parts" (mA1 (fCallN 1 F_gathered []) (maCons (mVar 1) maNil))) (mSetFld g0 0 "names" (mA1 fTuple (maCons (mComp false [2, 3] gT mYes (mVar 2) (m1 (fFld g0 "parts") (mVar 0))) maNil)))) (envI [] x) h with
  | .nx (some (.oi c' fs) :: _) h => if c' = 0 then R.ok fs h else .stuck
  | .exc _ x h => .exc x h
  | _ => .stuck) = _
  rw [mSeq_eq, w1, RS.seq_nx, w2]
  rfl
end G07

set_option Elab.async false
set_option linter.all false
set_option maxRecDepth 100000
set_option maxHeartbeats 2000000
namespace G07
open PySem L2 Vi
section
variable {h : Hc} {A B ps : List Pr} {w : Rat} {x : D}
theorem add_t (a b : List D) (h : Hc) (hl : a.length + b.length ≤ 100000) : fAdd false (.d (.tup a)) (.d (.tup b)) h = .ok (.d (.tup (a ++ b))) h := by
  show (if a.length + b.length ≤ 100000 then R.ok (Vl.d (.tup (a ++ b))) h else .stuck) = _
  rw [if_pos hl]
theorem add_l (a b : List D) (h : Hc) (hl : a.length + b.length ≤ 100000) : fAdd false (.d (.lst a)) (.d (.lst b)) h = .ok (.d (.lst (a ++ b))) h := by
  show (if a.length + b.length ≤ 100000 then R.ok (Vl.ofL false (a ++ b)) h else .stuck) = _
  rw [if_pos hl]
  rfl
theorem v_make {bb : Bool} (hx : seqD? (cT h []) (.d x) = some (bb, ps.map pD)) (o : Okp ps) (c : Cl h) : fMake 0 1 FI_Form_xinitx [] [.d x] h = .ok (.d (form (parts ps))) h := by
  show ((FI_Form_xinitx [x] h).bind fun fs h' => R.ok (Vl.d (.obj 0 fs)) h') = _
  rw [v_init hx o c]
  rfl
theorem pf (A : List Pr) (i : Nat) (env : Vi.Env) (he : ∀ h, mVar i env h = .ok (.d (form A)) h) (h : Hc) : m1 (fFld g0 "parts") (mVar i) env h = .ok (.d (.tup (A.map pD))) h := by
  show ((mVar i env h).bind fun x h1 => fFld g0 "parts" x h1) = _
  rw [he]
  rfl
theorem v_fadd (o : Okp (A ++ B)) (c : Cl h) : F_Form_xaddx [form A, form B] h = .ok (form (parts (A ++ B))) h := by
  refine (fnOf_eq 2 2 m_Form_xaddx [form A, form B] h rfl).trans ?_
  have e : m2 (fAdd false) (m1 (fFld g0 "parts") (mVar 0)) (m1 (fFld g0 "parts") (mVar 1)) (mkEnv 2 [form A, form B]) h = .ok (.d (.tup ((A ++ B).map pD))) h := by
    rw [m2_eq, pf A 0 _ (fun _ => rfl), R.bind_ok, pf B 1 _ (fun _ => rfl), R.bind_ok, add_t _ _ _ (by
      have := o.l
      rw [List.length_append] at this
      rw [List.length_map, List.length_map]
      omega), List.map_append]
  have e2 : mA1 (fMake 0 1 FI_Form_xinitx []) (maCons (m2 (fAdd false) (m1 (fFld g0 "parts") (mVar 0)) (m1 (fFld g0 "parts") (mVar 1))) maNil) (mkEnv 2 [form A, form B]) h = .ok (.d (form (parts (A ++ B)))) h := by
    rw [mA1_eq, maCons_eq, e]
    exact v_make (x := .tup ((A ++ B).map pD)) (bb := false) rfl o c
  show ((mRet (mA1 (fMake 0 1 FI_Form_xinitx []) (maCons (m2 (fAdd false) (m1 (fFld g0 "parts") (mVar 0)) (m1 (fFld g0 "parts") (mVar 1))) maNil))) (mkEnv 2 [form A, form B]) h).fin = _
  rw [ret_of e2]
  rfl
theorem minus_fr : d_MINUS_ONE = fr (-1) := rfl
theorem mul_part (hs : ∀ p ∈ A, sz p.2 + sz w ≤ 7000) (hl : A.length < 90000) (env : Vi.Env) {i : Nat} {z : ME} (he : ∀ h, mVar i env h = .ok (.d (form A)) h) (hz : z env h = .ok (.d (fr w)) h) : mA1 (fCallN 2 F_multiplied []) (maCons (m1 (fFld g0 "parts") (mVar i)) (maCons z maNil)) env h = .ok (.d (.tup ((mulR A w).map pD))) h :=
  call2 (pf A i env he h) hz (v_multiplied hs hl)
theorem v_fsub (hs : ∀ p ∈ B, sz p.2 + sz (-1) ≤ 7000) (hl : B.length < 90000) (o : Okp (A ++ mulR B (-1))) (c : Cl h) : F_Form_xsubx [form A, form B] h = .ok (form (parts (A ++ mulR B (-1)))) h := by
  refine (fnOf_eq 2 2 m_Form_xsubx [form A, form B] h rfl).trans ?_
  have e0 := mul_part (h := h) (w := -1) hs hl (mkEnv 2 [form A, form B]) (i := 1) (z := mC d_MINUS_ONE) (fun _ => rfl) rfl
  have e : m2 (fAdd false) (m1 (fFld g0 "parts") (mVar 0)) (mA1 (fCallN 2 F_multiplied []) (maCons (m1 (fFld g0 "parts") (mVar 1)) (maCons (mC d_MINUS_ONE) maNil))) (mkEnv 2 [form A, form B]) h = .ok (.d (.tup ((A ++ mulR B (-1)).map pD))) h := by
    rw [m2_eq, pf A 0 _ (fun _ => rfl), R.bind_ok, e0, R.bind_ok, add_t _ _ _ (by
      have := o.l
      rw [List.length_append] at this
      rw [List.length_map, List.length_map]
      omega), List.map_append]
  have e2 : mA1 (fMake 0 1 FI_Form_xinitx []) (maCons (m2 (fAdd false) (m1 (fFld g0 "parts") (mVar 0)) (mA1 (fCallN 2 F_multiplied []) (maCons (m1 (fFld g0 "parts") (mVar 1)) (maCons (mC d_MINUS_ONE) maNil)))) maNil) (mkEnv 2 [form A, form B]) h = .ok (.d (form (parts (A ++ mulR B (-1))))) h := by
    rw [mA1_eq, maCons_eq, e]
    exact v_make (x := .tup ((A ++ mulR B (-1)).map pD)) (bb := false) rfl o c
  show ((mRet (mA1 (fMake 0 1 FI_Form_xinitx []) (maCons (m2 (fAdd false) (m1 (fFld g0 "parts") (mVar 0)) (mA1 (fCallN 2 F_multiplied []) (maCons (m1 (fFld g0 "parts") (mVar 1)) (maCons (mC d_MINUS_ONE) maNil)))) maNil))) (mkEnv 2 [form A, form B]) h).fin = _
  rw [ret_of e2]
  rfl
theorem v_fneg (hs : ∀ p ∈ A, sz p.2 + sz (-1) ≤ 7000) (hl : A.length < 90000) (o : Okp (mulR A (-1))) (c : Cl h) : F_Form_xnegx [form A] h = .ok (form (parts (mulR A (-1)))) h := by
  refine (fnOf_eq 1 1 m_Form_xnegx [form A] h rfl).trans ?_
  have e0 := mul_part (h := h) (w := -1) hs hl (mkEnv 1 [form A]) (i := 0) (z := mC d_MINUS_ONE) (fun _ => rfl) rfl
  have e2 : mA1 (fMake 0 1 FI_Form_xinitx []) (maCons (mA1 (fCallN 2 F_multiplied []) (maCons (m1 (fFld g0 "parts") (mVar 0)) (maCons (mC d_MINUS_ONE) maNil))) maNil) (mkEnv 1 [form A]) h = .ok (.d (form (parts (mulR A (-1))))) h := by
    rw [mA1_eq, maCons_eq, e0]
    exact v_make (x := .tup ((mulR A (-1)).map pD)) (bb := false) rfl o c
  show (mRet _ (mkEnv 1 [form A]) h).fin = _
  rw [ret_of e2]
  rfl
theorem v_fmul (hs : ∀ p ∈ A, sz p.2 + sz w ≤ 7000) (hl : A.length < 90000) (o : Okp (mulR A w)) (c : Cl h) : F_Form_xmulx [form A, fr w] h = .ok (form (parts (mulR A w))) h := by
  refine (fnOf_eq 2 2 m_Form_xmulx [form A, fr w] h rfl).trans ?_
  have e0 := mul_part (h := h) (w := w) hs hl (mkEnv 2 [form A, fr w]) (i := 0) (z := mVar 1) (fun _ => rfl) rfl
  have e2 : mA1 (fMake 0 1 FI_Form_xinitx []) (maCons (mA1 (fCallN 2 F_multiplied []) (maCons (m1 (fFld g0 "parts") (mVar 0)) (maCons (mVar 1) maNil))) maNil) (mkEnv 2 [form A, fr w]) h = .ok (.d (form (parts (mulR A w)))) h := by
    rw [mA1_eq, maCons_eq, e0]
    exact v_make (x := .tup ((mulR A w).map pD)) (bb := false) rfl o c
  have p : m_Form_xmulx = mSeq (mIfS (tNotM (asB (mA1 (fCallN 1 F_is_fraction []) (maCons (mVar 1) maNil)))) mNever mSkip) (mRet (mA1 (fMake 0 1 FI_Form_xinitx []) (maCons (mA1 (fCallN 2 F_multiplied []) (maCons (m1 (fFld g0 "parts") (mVar 0)) (maCons (mVar 1) maNil))) maNil))) := rfl
  have c1 : mIfS (tNotM (asB (mA1 (fCallN 1 F_is_fraction []) (maCons (mVar 1) maNil)))) mNever mSkip (mkEnv 2 [form A, fr w]) h = .nx (mkEnv 2 [form A, fr w]) h := by
    have b := asB_eq (mA1 (fCallN 1 F_is_fraction []) (maCons (mVar 1) maNil)) (mkEnv 2 [form A, fr w]) h true h (by
      show ((F_is_fraction [fr w] h).bind fun d h' => R.ok (Vl.d d) h') = _
      rw [v_isf]
      rfl)
    rw [mIfS_eq]
    unfold tNotM
    rw [b]
    rfl
  rw [p, mSeq_eq, c1, RS.seq_nx, ret_of e2]
  rfl
/-! ### ==, len, [..] -/
structure NmU (u : Un) : Prop where
  a : PyData.strOk u.1 = true
  b : PyData.strOk u.2 = true
def eqP (A B : List Pr) : Bool := PyData.eqvAll (toPs (A.map pD)) (toPs (B.map pD))
theorem shp_pr (hn : ∀ p ∈ A, NmU p.1) : PyData.canLayAll0 (toPs (A.map pD)) = true ∧ PyData.depthAll (toPs (A.map pD)) ≤ 2 := by
  induction A with
  | nil => exact ⟨by simp [toPs, PyData.canLayAll0], by simp [toPs, PyData.depthAll]⟩
  | cons p r ih =>
    obtain ⟨h1, h2⟩ := ih fun q hq => hn q (List.mem_cons_of_mem _ hq)
    have n := hn p (List.mem_cons_self ..)
    refine ⟨?_, ?_⟩
    · show PyData.canLayAll0 (.tuple [.tuple [.str p.1.1, .str p.1.2], .tuple [.int p.2.num, .int (p.2.den : Int)]] :: toPs (r.map pD)) = true
      simp only [PyData.canLayAll0, PyData.canLay0, h1, n.a, n.b, Bool.and_self, Bool.and_true]
    · show PyData.depthAll (.tuple [.tuple [.str p.1.1, .str p.1.2], .tuple [.int p.2.num, .int (p.2.den : Int)]] :: toPs (r.map pD)) ≤ 2
      simp only [PyData.depthAll, PyData.depth]
      omega
theorem dat_pr : dats (A.map pD) = true := by
  induction A with
  | nil => rfl
  | cons p r ih =>
    show (dat (pD p) && dats (r.map pD)) = true
    rw [ih]
    rfl
theorem shp_t (hn : ∀ p ∈ A, NmU p.1) : shp (.tup (A.map pD)) = true := by
  obtain ⟨h1, h2⟩ := shp_pr hn
  show (PyData.canLay0 (.tuple (toPs (A.map pD))) && decide (PyData.depth (.tuple (toPs (A.map pD))) ≤ 64)) = true
  rw [show PyData.canLay0 (.tuple (toPs (A.map pD))) = true by simpa [PyData.canLay0] using h1]
  exact decide_eq_true (by simp only [PyData.depth]; omega)
theorem eq_pr (neg : Bool) (ha : ∀ p ∈ A, NmU p.1) (hb : ∀ p ∈ B, NmU p.1) (h : Hc) : fEq neg (.d (.tup (A.map pD))) (.d (.tup (B.map pD))) h = .ok (.d (.bl (if neg then !eqP A B else eqP A B))) h := by
  have e : fEq neg (.d (.tup (A.map pD))) (.d (.tup (B.map pD))) h = (match (if dats (A.map pD) then some (D.tup (A.map pD)) else none), (if dats (B.map pD) then some (D.tup (B.map pD)) else none) with
    | some d, some e => if shp d && shp e then .ok (.d (.bl (if neg then !eqD d e else eqD d e))) h else .stuck
    | _, _ => .stuck) := rfl
  rw [e, dat_pr, dat_pr, if_pos rfl, if_pos rfl]
  dsimp only
  rw [shp_t ha, shp_t hb]
  have e2 : eqD (.tup (A.map pD)) (.tup (B.map pD)) = eqP A B := by
    show PyData.eqv (.tuple (toPs (A.map pD))) (.tuple (toPs (B.map pD))) = _
    simp only [PyData.eqv, eqP]
  rw [e2]
  rfl
theorem eqP_refl (ha : ∀ p ∈ A, NmU p.1) : eqP A A = true := PySem.SeqAt.eqvAll_refl _ (shp_pr ha).1
theorem v_peq (ha : ∀ p ∈ A, NmU p.1) (hb : ∀ p ∈ B, NmU p.1) : F_Form_xeqx [form A, form B] h = .ok (.bl (eqP A B)) h := by
  refine (fnOf_eq 2 2 m_Form_xeqx [form A, form B] h rfl).trans ?_
  have e : mAnd (m1 (fIsi g0 (.own 0)) (mVar 1)) (m2 (fEq false) (m1 (fFld g0 "parts") (mVar 0)) (m1 (fFld g0 "parts") (mVar 1))) (mkEnv 2 [form A, form B]) h = .ok (.d (.bl (eqP A B))) h := by
    show fEq false (.d (.tup (A.map pD))) (.d (.tup (B.map pD))) h = _
    rw [eq_pr false ha hb]
    rfl
  show (mRet _ (mkEnv 2 [form A, form B]) h).fin = _
  rw [ret_of e]
  rfl
theorem v_eqs (ha : ∀ p ∈ A, NmU p.1) (hb : ∀ p ∈ B, NmU p.1) : fEqs g0 T_eq nfB (fEq false) (.d (form A)) (.d (form B)) h = .ok (.d (.bl (eqP A B))) h := by
  show (if nfB 0 (.own 0) then (F_Form_xeqx [form A, form B] h).bind fun d h' => R.ok (Vl.d d) h' else .stuck) = _
  rw [if_pos (by decide), v_peq ha hb]
  rfl
theorem v_eqs_t (xs : List D) : fEqs g0 T_eq nfB (fEq false) (.d (form A)) (.d (.tup xs)) h = .ok (.d (.bl false)) h := by
  show (if nfB 0 (.bt "tuple") then (F_Form_xeqx [form A, .tup xs] h).bind fun d h' => R.ok (Vl.d d) h' else .stuck) = _
  rw [if_pos (by decide)]
  rfl
theorem v_eqs_l (xs : List D) : fEqs g0 T_eq nfB (fEq false) (.d (form A)) (.d (.lst xs)) h = .ok (.d (.bl false)) h := by
  show (if nfB 0 (.bt "list") then (F_Form_xeqx [form A, .lst xs] h).bind fun d h' => R.ok (Vl.d d) h' else .stuck) = _
  rw [if_pos (by decide)]
  rfl
theorem v_flen : F_Form_xlenx [form A] h = .ok (.int A.length) h := by
  refine (fnOf_eq 1 1 m_Form_xlenx [form A] h rfl).trans ?_
  show R.ok (D.int ((A.map pD).length : Nat)) h = _
  rw [List.length_map]
/-- what a list of pairs tells of an unknown: the first pair's -/
def lk : List Pr → Un → Rat
  | [], _ => 0
  | p :: r, u => if p.1 = u then p.2 else lk r u
theorem eq_un (neg : Bool) {u v : Un} (hu : NmU u) (hv : NmU v) (h : Hc) : fEq neg (.d (uD u)) (.d (uD v)) h = .ok (.d (.bl (if neg then !decide (u = v) else decide (u = v)))) h := by
  have s : ∀ u : Un, NmU u → shp (uD u) = true := fun u n => by
    show (PyData.canLay0 (.tuple [.str u.1, .str u.2]) && decide (PyData.depth (.tuple [.str u.1, .str u.2]) ≤ 64)) = true
    simp [PyData.canLay0, PyData.canLayAll0, PyData.depth, PyData.depthAll, n.a, n.b]
  have e : eqD (uD u) (uD v) = decide (u = v) := by
    show PyData.eqv (.tuple [.str u.1, .str u.2]) (.tuple [.str v.1, .str v.2]) = _
    simp only [PyData.eqv, PyData.eqvAll]
    rw [Bool.eq_iff_iff]
    simp only [Bool.and_true, Bool.and_eq_true, beq_iff_eq, decide_eq_true_eq]
    exact ⟨fun z => Prod.ext z.1 z.2, fun z => by rw [z]; exact ⟨rfl, rfl⟩⟩
  have e2 : fEq neg (.d (uD u)) (.d (uD v)) h = (if shp (uD u) && shp (uD v) then .ok (.d (.bl (if neg then !eqD (uD u) (uD v) else eqD (uD u) (uD v)))) h else .stuck) := rfl
  rw [e2, s u hu, s v hv, e]
  rfl
end
end G07

set_option Elab.async false
set_option linter.all false
set_option maxRecDepth 100000
set_option maxHeartbeats 2000000
namespace G07
open PySem L2 Vi
section
variable {h : Hc} {A : List Pr} {u : Un} {x : D}
def giB : MS := mIfS (asB (m2 (fEq false) (mVar 2) (mVar 1))) (mRet (mVar 3)) mSkip
theorem gi_loop (hu : NmU u) (p : D) : ∀ (A : List Pr) (a b : Option Sl), (∀ q ∈ A, NmU q.1) → (forL gT giB (A.map pD) [some (.d p), some (.d (uD u)), a, b] h).seq (mRet (mC d_ZERO)) = .ret (fr (lk A u)) h
  | [], a, b, _ => rfl
  | q :: r, a, b, hn => by
    have c : asB (m2 (fEq false) (mVar 2) (mVar 1)) [some (.d p), some (.d (uD u)), some (.d (uD q.1)), some (.d (fr q.2))] h = .ok (decide (q.1 = u)) h := by
      refine asB_eq _ _ _ _ _ ?_
      show fEq false (.d (uD q.1)) (.d (uD u)) h = _
      rw [eq_un false (hn q (List.mem_cons_self ..)) hu]
      rfl
    rw [List.map_cons, forL_cons]
    show ((((giB [some (.d p), some (.d (uD u)), some (.d (uD q.1)), some (.d (fr q.2))] h)).again (forL gT giB (r.map pD))).seq _) = _
    unfold lk
    by_cases e : q.1 = u
    · rw [if_pos e]
      have w : giB [some (.d p), some (.d (uD u)), some (.d (uD q.1)), some (.d (fr q.2))] h = .ret (fr q.2) h := by
        unfold giB
        rw [mIfS_eq, c, decide_eq_true e]
        rfl
      rw [w]
      rfl
    · rw [if_neg e]
      have w : giB [some (.d p), some (.d (uD u)), some (.d (uD q.1)), some (.d (fr q.2))] h = .nx [some (.d p), some (.d (uD u)), some (.d (uD q.1)), some (.d (fr q.2))] h := by
        unfold giB
        rw [mIfS_eq, c, decide_eq_false e]
        rfl
      rw [w]
      exact gi_loop hu p r _ _ fun z hz => hn z (List.mem_cons_of_mem _ hz)
theorem v_getitem (hu : NmU u) (hn : ∀ q ∈ A, NmU q.1) : F_Form_xgetitemx [form A, uD u] h = .ok (fr (lk A u)) h := by
  refine (fnOf_eq 4 2 m_Form_xgetitemx _ h rfl).trans ?_
  have e := gi_loop (h := h) hu (form A) A none none hn
  show ((forL gT giB (A.map pD) [some (.d (form A)), some (.d (uD u)), none, none] h).seq (mRet (mC d_ZERO))).fin = _
  rw [e]
  rfl
def atB : MS := mIfS (asB (m2 (fEq false) (m2 fIx (mVar 2) (mC (.int 0))) (mVar 1))) (mRet (m2 fIx (mVar 2) (mC (.int 1)))) mSkip
theorem at_loop (hu : NmU u) (p : D) : ∀ (A : List Pr) (a : Option Sl), (∀ q ∈ A, NmU q.1) → (forL (gtN 2) atB (A.map pD) [some (.d p), some (.d (uD u)), a] h).seq (mRet (mA1 fTup (maCons (mC (.int 0)) (maCons (mC (.int 1)) maNil)))) = .ret (fr (lk A u)) h
  | [], a, _ => rfl
  | q :: r, a, hn => by
    have c : asB (m2 (fEq false) (m2 fIx (mVar 2) (mC (.int 0))) (mVar 1)) [some (.d p), some (.d (uD u)), some (.d (pD q))] h = .ok (decide (q.1 = u)) h := by
      refine asB_eq _ _ _ _ _ ?_
      show fEq false (.d (uD q.1)) (.d (uD u)) h = _
      rw [eq_un false (hn q (List.mem_cons_self ..)) hu]
      rfl
    rw [List.map_cons, forL_cons]
    show ((((atB [some (.d p), some (.d (uD u)), some (.d (pD q))] h)).again (forL (gtN 2) atB (r.map pD))).seq _) = _
    unfold lk
    by_cases e : q.1 = u
    · rw [if_pos e]
      have w : atB [some (.d p), some (.d (uD u)), some (.d (pD q))] h = .ret (fr q.2) h := by
        unfold atB
        rw [mIfS_eq, c, decide_eq_true e]
        rfl
      rw [w]
      rfl
    · rw [if_neg e]
      have w : atB [some (.d p), some (.d (uD u)), some (.d (pD q))] h = .nx [some (.d p), some (.d (uD u)), some (.d (pD q))] h := by
        unfold atB
        rw [mIfS_eq, c, decide_eq_false e]
        rfl
      rw [w]
      exact at_loop hu p r _ fun z hz => hn z (List.mem_cons_of_mem _ hz)
theorem v_at {bb : Bool} (hx : seqD? h (.d x) = some (bb, A.map pD)) (hu : NmU u) (hn : ∀ q ∈ A, NmU q.1) : F__law_p1_at [x, uD u] h = .ok (fr (lk A u)) h := by
  refine (fnOf_eq 3 2 m__law_p1_at _ h rfl).trans ?_
  have e := at_loop (h := h) hu x A none hn
  have p : m__law_p1_at = mSeq (mFor (gtN 2) (mVar 0) atB) (mRet (mA1 fTup (maCons (mC (.int 0)) (maCons (mC (.int 1)) maNil)))) := rfl
  rw [p, mSeq_eq]
  have w : mFor (gtN 2) (mVar 0) atB (mkEnv 3 [x, uD u]) h = forL (gtN 2) atB (A.map pD) [some (.d x), some (.d (uD u)), none] h := by
    unfold mFor
    show ((R.ok (Vl.d x) h).thenS _ fun x h1 => match seqD? h1 x with
      | some (_, xs) => forL (gtN 2) atB xs [some (.d _), some (.d (uD u)), none] h1
      | none => .stuck) = _
    rw [R.thenS_ok, hx]
  rw [w, e]
  rfl
theorem v_same {q : Rat} (hk : sz q ≤ 7000) : F__law_p1_same [fr q, fr q] h = .ok (.bl true) h := by
  refine (fnOf_eq 2 2 m__law_p1_same _ h rfl).trans ?_
  have e1 : mA1 (fCallN 1 F__law_fraction []) (maCons (mVar 0) maNil) (mkEnv 2 [fr q, fr q]) h = .ok (.d (.bl true)) h := by
    show ((F__law_fraction [fr q] h).bind fun d h' => R.ok (Vl.d d) h') = _
    rw [v_lfr (sz_ok q) hk]
    rfl
  have e : mAnd (mA1 (fCallN 1 F__law_fraction []) (maCons (mVar 0) maNil)) (m2 (fEq false) (mVar 0) (mVar 1)) (mkEnv 2 [fr q, fr q]) h = .ok (.d (.bl true)) h := by
    unfold mAnd
    rw [e1]
    show fEq false (.d (fr q)) (.d (fr q)) h = _
    rw [eq_fr]
    simp
  show (mRet _ (mkEnv 2 [fr q, fr q]) h).fin = _
  rw [ret_of e]
  rfl
/-! ### is it as it is due -/
abbrev nmD (A : List Pr) : List D := A.map fun p => uD p.1
theorem eq_nm (hn : ∀ p ∈ A, NmU p.1) (h : Hc) : fEq true (.d (.lst (nmD A))) (.d (.lst (nmD A))) h = .ok (.d (.bl false)) h := by
  have hd : dats (nmD A) = true := by
    clear hn
    induction A with
    | nil => rfl
    | cons p r ih =>
      show (dat (uD p.1) && dats (nmD r)) = true
      rw [ih]
      rfl
  have hl : PyData.canLayAll0 (toPs (nmD A)) = true ∧ PyData.depthAll (toPs (nmD A)) ≤ 2 := by
    clear hd
    induction A with
    | nil => exact ⟨by simp [toPs, PyData.canLayAll0], by simp [toPs, PyData.depthAll]⟩
    | cons p r ih =>
      obtain ⟨h1, h2⟩ := ih fun q hq => hn q (List.mem_cons_of_mem _ hq)
      have n := hn p (List.mem_cons_self ..)
      refine ⟨?_, ?_⟩
      · show PyData.canLayAll0 (.tuple [.str p.1.1, .str p.1.2] :: toPs (nmD r)) = true
        simp only [PyData.canLayAll0, PyData.canLay0, h1, n.a, n.b, Bool.and_self, Bool.and_true]
      · show PyData.depthAll (.tuple [.str p.1.1, .str p.1.2] :: toPs (nmD r)) ≤ 2
        simp only [PyData.depthAll, PyData.depth]
        omega
  have e : fEq true (.d (.lst (nmD A))) (.d (.lst (nmD A))) h = (match (if dats (nmD A) then some (D.lst (nmD A)) else none), (if dats (nmD A) then some (D.lst (nmD A)) else none) with
    | some d, some e => if shp d && shp e then .ok (.d (.bl (!eqD d e))) h else .stuck
    | _, _ => .stuck) := rfl
  have s : shp (.lst (nmD A)) = true := by
    show (PyData.canLay0 (.list (toPs (nmD A))) && decide (PyData.depth (.list (toPs (nmD A))) ≤ 64)) = true
    rw [show PyData.canLay0 (.list (toPs (nmD A))) = true by simpa [PyData.canLay0] using hl.1]
    exact decide_eq_true (by simp only [PyData.depth]; omega)
  rw [e, hd, if_pos rfl]
  dsimp only
  rw [s]
  have e2 : eqD (.lst (nmD A)) (.lst (nmD A)) = true := by
    show PyData.eqv (.list (toPs (nmD A))) (.list (toPs (nmD A))) = _
    simp only [PyData.eqv]
    exact PySem.SeqAt.eqvAll_refl _ hl.1
  rw [e2]
  rfl
theorem lk_sz (hs : ∀ p ∈ A, sz p.2 ≤ 7000) (u : Un) : sz (lk A u) ≤ 7000 := by
  induction A with
  | nil => exact Nat.le_trans (sz_le sz_zero) (by omega)
  | cons p r ih =>
    unfold lk
    split
    · exact hs p (List.mem_cons_self ..)
    · exact ih fun q hq => hs q (List.mem_cons_of_mem _ hq)
abbrev envU (A : List Pr) (us : List Un) (o3 : Option Sl) : Vi.Env := [some (.d (form A)), some (.d (.tup (A.map pD))), some (.d (.lst (us.map uD))), o3, none, none]
theorem v_is (hn : ∀ p ∈ A, NmU p.1) (hs : ∀ p ∈ A, sz p.2 ≤ 7000) (hl : A.length < 90000) {us : List Un} (hu : ∀ u ∈ us, NmU u) (hul : us.length < 90000) : F__law_p1_is [form A, .tup (A.map pD), .lst (us.map uD)] h = .ok (.bl true) h := by
  refine (fnOf_eq 6 3 m__law_p1_is _ h rfl).trans ?_
  have p : m__law_p1_is = mSeq (mIfS (tOrM (tNotM (asB (m1 (fIsi g0 (.own 0)) (mVar 0)))) (tOrM (tNotM (asB (m1 (fIsi g0 (.bt "tuple")) (m1 (fFld g0 "parts") (mVar 0))))) (asB (m2 (fNes g0 T_eq nfB (fEq true)) (m1 (fFld g0 "parts") (mVar 0)) (mVar 1))))) (mRet (mC (.bl false))) mSkip) (mSeq (mIfS (asB (m2 fGt (mA1 (fLens T_len) (maCons (mComp false [5] (gtN 5) (tNotM (asB (mA1 (fCallN 1 F__law_fraction []) (maCons (m2 (fIxs T_getitem fIx) (mVar 5) (mC (.int 1))) maNil)))) (mVar 5) (m1 (fFld g0 "parts") (mVar 0))) maNil)) (mC (.int 0)))) (mRet (mC (.bl false))) mSkip) (mSeq (mIfS (tOrM (asB (m2 (fNes g0 T_eq nfB (fEq true)) (mA1 (fLens T_len) (maCons (mVar 0) maNil)) (mA1 (fLens T_len) (maCons (mVar 1) maNil)))) (asB (m2 (fNes g0 T_eq nfB (fEq true)) (mA1 (fListO false TI_iter T_len) (maCons (mVar 0) maNil)) (mComp false [5] (gtN 5) mYes (m2 (fIxs T_getitem fIx) (mVar 5) (mC (.int 0))) (mVar 1))))) (mRet (mC (.bl false))) mSkip) (mSeq (mSet 3 (mComp false [4] (gtN 4) (tNotM (asB (mA1 (fCallN 2 F__law_p1_same []) (maCons (m2 (fIxs T_getitem fIx) (mVar 0) (mVar 4)) (maCons (mA1 (fCallN 2 F__law_p1_at []) (maCons (mVar 1) (maCons (mVar 4) maNil))) maNil))))) (mVar 4) (mVar 2))) (mRet (m2 (fEqs g0 T_eq nfB (fEq false)) (mA1 (fLens T_len) (maCons (mVar 3) maNil)) (mC (.int 0))))))) := rfl
  have eL : fLens T_len [.d (form A)] h = .ok (.d (.int A.length)) h := by
    show ((F_Form_xlenx [form A] h).bind fun d h' => match d with
      | .int i => if 0 ≤ i ∧ i < 2 ^ 62 then R.ok (Vl.d (.int i)) h' else .stuck
      | _ => .stuck) = _
    rw [v_flen, R.bind_ok]
    dsimp only
    rw [if_pos ⟨by omega, by omega⟩]
  have c1 : asB (m2 (fNes g0 T_eq nfB (fEq true)) (m1 (fFld g0 "parts") (mVar 0)) (mVar 1)) (envU A us none) h = .ok false h := by
    refine asB_eq _ _ _ _ _ ?_
    show fEq true (.d (.tup (A.map pD))) (.d (.tup (A.map pD))) h = _
    rw [eq_pr true hn hn, eqP_refl hn]
    rfl
  have w1 : mIfS (tOrM (tNotM (asB (m1 (fIsi g0 (.own 0)) (mVar 0)))) (tOrM (tNotM (asB (m1 (fIsi g0 (.bt "tuple")) (m1 (fFld g0 "parts") (mVar 0))))) (asB (m2 (fNes g0 T_eq nfB (fEq true)) (m1 (fFld g0 "parts") (mVar 0)) (mVar 1))))) (mRet (mC (.bl false))) mSkip (envU A us none) h = .nx (envU A us none) h := by
    have t : tOrM (tNotM (asB (m1 (fIsi g0 (.own 0)) (mVar 0)))) (tOrM (tNotM (asB (m1 (fIsi g0 (.bt "tuple")) (m1 (fFld g0 "parts") (mVar 0))))) (asB (m2 (fNes g0 T_eq nfB (fEq true)) (m1 (fFld g0 "parts") (mVar 0)) (mVar 1)))) (envU A us none) h = .ok false h := by
      show asB (m2 (fNes g0 T_eq nfB (fEq true)) (m1 (fFld g0 "parts") (mVar 0)) (mVar 1)) (envU A us none) h = _
      rw [c1]
    rw [mIfS_eq, t]
    rfl
  have e2 : mComp false [5] (gtN 5) (tNotM (asB (mA1 (fCallN 1 F__law_fraction []) (maCons (m2 (fIxs T_getitem fIx) (mVar 5) (mC (.int 1))) maNil)))) (mVar 5) (m1 (fFld g0 "parts") (mVar 0)) (envU A us none) h = .ok (.d (.lst [])) h := by
    show compL false (gtN 5) (tNotM (asB (mA1 (fCallN 1 F__law_fraction []) (maCons (m2 (fIxs T_getitem fIx) (mVar 5) (mC (.int 1))) maNil)))) (mVar 5) (A.map pD) [] (wipeE (envU A us none) [5]) h = _
    rw [comp_map false 5 _ (mVar 5) (fun x => x) (fun _ => false) _ h (A.map pD) [] (fun z hz => ?_) (by rw [List.length_map]; simp only [List.length_nil]; omega)]
    · rw [List.filter_eq_nil_iff.mpr (fun _ _ => Bool.false_ne_true)]
      rfl
    · obtain ⟨q, hq, rfl⟩ := List.mem_map.mp hz
      refine ⟨?_, fun e => by cases e⟩
      have b := asB_eq (mA1 (fCallN 1 F__law_fraction []) (maCons (m2 (fIxs T_getitem fIx) (mVar 5) (mC (.int 1))) maNil)) ((wipeE (envU A us none) [5]).set 5 (some (.d (pD q)))) h true h (by
        show ((F__law_fraction [fr q.2] h).bind fun d h' => R.ok (Vl.d d) h') = _
        rw [v_lfr (sz_ok q.2) (hs q hq)]
        rfl)
      unfold tNotM
      rw [b]
      rfl
  have w2 : mIfS (asB (m2 fGt (mA1 (fLens T_len) (maCons (mComp false [5] (gtN 5) (tNotM (asB (mA1 (fCallN 1 F__law_fraction []) (maCons (m2 (fIxs T_getitem fIx) (mVar 5) (mC (.int 1))) maNil)))) (mVar 5) (m1 (fFld g0 "parts") (mVar 0))) maNil)) (mC (.int 0)))) (mRet (mC (.bl false))) mSkip (envU A us none) h = .nx (envU A us none) h := by
    have b := asB_eq (m2 fGt (mA1 (fLens T_len) (maCons (mComp false [5] (gtN 5) (tNotM (asB (mA1 (fCallN 1 F__law_fraction []) (maCons (m2 (fIxs T_getitem fIx) (mVar 5) (mC (.int 1))) maNil)))) (mVar 5) (m1 (fFld g0 "parts") (mVar 0))) maNil)) (mC (.int 0))) (envU A us none) h false h (by
      rw [m2_eq, mA1_eq, maCons_eq, e2]
      rfl)
    rw [mIfS_eq, b]
    rfl
  have c3 : asB (m2 (fNes g0 T_eq nfB (fEq true)) (mA1 (fLens T_len) (maCons (mVar 0) maNil)) (mA1 (fLens T_len) (maCons (mVar 1) maNil))) (envU A us none) h = .ok false h := by
    refine asB_eq _ _ _ _ _ ?_
    have a1 : mA1 (fLens T_len) (maCons (mVar 0) maNil) (envU A us none) h = .ok (.d (.int A.length)) h := by
      rw [mA1_eq, maCons_eq, show mVar 0 (envU A us none) h = .ok (.d (form A)) h from rfl, R.bind_ok, show maNil (envU A us none) h = .ok [] h from rfl, R.bind_ok, R.bind_ok, eL]
    have a2 : mA1 (fLens T_len) (maCons (mVar 1) maNil) (envU A us none) h = .ok (.d (.int A.length)) h := by
      show R.ok (Vl.d (.int ((A.map pD).length : Nat))) h = _
      rw [List.length_map]
    rw [m2_eq, a1, R.bind_ok, a2, R.bind_ok]
    show R.ok (Vl.d (.bl (!PyData.eqv (.int A.length) (.int A.length)))) h = _
    rw [eq_int, decide_eq_true rfl]
    rfl
  have c4 : asB (m2 (fNes g0 T_eq nfB (fEq true)) (mA1 (fListO false TI_iter T_len) (maCons (mVar 0) maNil)) (mComp false [5] (gtN 5) mYes (m2 (fIxs T_getitem fIx) (mVar 5) (mC (.int 0))) (mVar 1))) (envU A us none) h = .ok false h := by
    refine asB_eq _ _ _ _ _ ?_
    have a1 : mA1 (fListO false TI_iter T_len) (maCons (mVar 0) maNil) (envU A us none) h = .ok (.d (.lst (nmD A))) h := by
      show (match F_Form_xlenx [form A] h with
        | .ok (.int k) h2 => if 0 ≤ k ∧ k ≤ 100000 ∧ (nmD A).length ≤ 100000 then R.ok (Vl.ofL false (nmD A)) h2 else .stuck
        | _ => .stuck) = _
      rw [v_flen]
      dsimp only
      rw [if_pos ⟨by omega, by omega, by rw [List.length_map]; omega⟩]
      rfl
    have a2 : mComp false [5] (gtN 5) mYes (m2 (fIxs T_getitem fIx) (mVar 5) (mC (.int 0))) (mVar 1) (envU A us none) h = .ok (.d (.lst (nmD A))) h := by
      show compL false (gtN 5) mYes (m2 (fIxs T_getitem fIx) (mVar 5) (mC (.int 0))) (A.map pD) [] (wipeE (envU A us none) [5]) h = _
      rw [comp_gen (gtN 5) _ pD (fun p => uD p.1) _ h A [] (fun p hp => ⟨_, rfl, rfl⟩) (by simp only [List.length_nil]; omega)]
      rfl
    rw [m2_eq, a1, R.bind_ok, a2, R.bind_ok]
    show fEq true (.d (.lst (nmD A))) (.d (.lst (nmD A))) h = _
    rw [eq_nm hn]
  have w3 : mIfS (tOrM (asB (m2 (fNes g0 T_eq nfB (fEq true)) (mA1 (fLens T_len) (maCons (mVar 0) maNil)) (mA1 (fLens T_len) (maCons (mVar 1) maNil)))) (asB (m2 (fNes g0 T_eq nfB (fEq true)) (mA1 (fListO false TI_iter T_len) (maCons (mVar 0) maNil)) (mComp false [5] (gtN 5) mYes (m2 (fIxs T_getitem fIx) (mVar 5) (mC (.int 0))) (mVar 1))))) (mRet (mC (.bl false))) mSkip (envU A us none) h = .nx (envU A us none) h := by
    rw [mIfS_eq, tOrM_eq, c3, R.bind_ok, pick_f, c4]
    rfl
  have e4 : mComp false [4] (gtN 4) (tNotM (asB (mA1 (fCallN 2 F__law_p1_same []) (maCons (m2 (fIxs T_getitem fIx) (mVar 0) (mVar 4)) (maCons (mA1 (fCallN 2 F__law_p1_at []) (maCons (mVar 1) (maCons (mVar 4) maNil))) maNil))))) (mVar 4) (mVar 2) (envU A us none) h = .ok (.d (.lst [])) h := by
    show compL false (gtN 4) (tNotM (asB (mA1 (fCallN 2 F__law_p1_same []) (maCons (m2 (fIxs T_getitem fIx) (mVar 0) (mVar 4)) (maCons (mA1 (fCallN 2 F__law_p1_at []) (maCons (mVar 1) (maCons (mVar 4) maNil))) maNil))))) (mVar 4) (us.map uD) [] (wipeE (envU A us none) [4]) h = _
    rw [comp_map false 4 _ (mVar 4) (fun x => x) (fun _ => false) _ h (us.map uD) [] (fun z hz => ?_) (by rw [List.length_map]; simp only [List.length_nil]; omega)]
    · rw [List.filter_eq_nil_iff.mpr (fun _ _ => Bool.false_ne_true)]
      rfl
    · obtain ⟨u, hm, rfl⟩ := List.mem_map.mp hz
      refine ⟨?_, fun e => by cases e⟩
      have a1 : m2 (fIxs T_getitem fIx) (mVar 0) (mVar 4) ((wipeE (envU A us none) [4]).set 4 (some (.d (uD u)))) h = .ok (.d (fr (lk A u))) h := by
        show ((F_Form_xgetitemx [form A, uD u] h).bind fun d h' => R.ok (Vl.d d) h') = _
        rw [v_getitem (hu u hm) hn]
        rfl
      have a2 : mA1 (fCallN 2 F__law_p1_at []) (maCons (mVar 1) (maCons (mVar 4) maNil)) ((wipeE (envU A us none) [4]).set 4 (some (.d (uD u)))) h = .ok (.d (fr (lk A u))) h :=
        call2 (h1 := h) (h2 := h) rfl rfl (v_at (x := .tup (A.map pD)) (bb := false) rfl (hu u hm) hn)
      have b := asB_eq (mA1 (fCallN 2 F__law_p1_same []) (maCons (m2 (fIxs T_getitem fIx) (mVar 0) (mVar 4)) (maCons (mA1 (fCallN 2 F__law_p1_at []) (maCons (mVar 1) (maCons (mVar 4) maNil))) maNil))) ((wipeE (envU A us none) [4]).set 4 (some (.d (uD u)))) h true h (call2 a1 a2 (v_same (lk_sz hs u)))
      unfold tNotM
      rw [b]
      rfl
  have w4 : mSet 3 (mComp false [4] (gtN 4) (tNotM (asB (mA1 (fCallN 2 F__law_p1_same []) (maCons (m2 (fIxs T_getitem fIx) (mVar 0) (mVar 4)) (maCons (mA1 (fCallN 2 F__law_p1_at []) (maCons (mVar 1) (maCons (mVar 4) maNil))) maNil))))) (mVar 4) (mVar 2)) (envU A us none) h = .nx (envU A us (some (.d (.lst [])))) h := by
    unfold mSet
    rw [e4]
    rfl
  rw [p, mSeq_eq, show mkEnv 6 [form A, .tup (A.map pD), .lst (us.map uD)] = envU A us none from rfl, w1, RS.seq_nx, mSeq_eq, w2, RS.seq_nx, mSeq_eq, w3, RS.seq_nx, mSeq_eq, w4, RS.seq_nx]
  rfl
end
end G07

set_option Elab.async false
set_option linter.all false
set_option maxRecDepth 100000
set_option maxHeartbeats 2000000
namespace G07
open PySem L2 Vi
/-! ### values at a point -/
theorem lk_getU (Q : List Pr) (u : Un) : (getU Q u).getD 0 = lk Q u := by
  induction Q with
  | nil => rfl
  | cons p r ih =>
    show (if p.1 = u then some p.2 else getU r u).getD 0 = if p.1 = u then p.2 else lk r u
    by_cases h : p.1 = u
    · rw [if_pos h, if_pos h]
      rfl
    · rw [if_neg h, if_neg h, ih]
theorem put_new {acc : List Pr} {u : Un} {q : Rat} (h : u ∉ acc.map (·.1)) : putU acc u q = acc ++ [(u, q)] := by
  have z := getU_mem (ps := acc) (u := u)
  unfold putU
  cases e : getU acc u with
  | none => rfl
  | some x => rw [e] at z; exact absurd (z.mp rfl) h
theorem put_all : ∀ (Q acc : List Pr), ((acc ++ Q).map (·.1)).Nodup → Q.foldl (fun acc p => putU acc p.1 p.2) acc = acc ++ Q
  | [], acc, _ => by rw [List.append_nil]; rfl
  | p :: r, acc, hn => by
    have h1 : p.1 ∉ acc.map (·.1) := by
      rw [List.map_append, List.map_cons] at hn
      obtain ⟨_, _, h⟩ := List.nodup_append.mp hn
      exact fun z => h _ z _ (List.mem_cons_self ..) rfl
    show r.foldl (fun acc p => putU acc p.1 p.2) (putU acc p.1 p.2) = _
    rw [put_new h1, put_all r _ (by rw [List.append_assoc]; exact hn), List.append_assoc]
    rfl
theorem pairs_q (Q : List Pr) : pairsT? g0.kc (Q.map pD) = some (Q.map kvD) := by
  induction Q with
  | nil => rfl
  | cons p r ih =>
    show (if g0.kc [.str p.1.1, .str p.1.2] then none else (match keys? [.str p.1.1, .str p.1.2], pairsT? g0.kc (r.map pD) with
      | some k, some kvs => some ((k, fr p.2) :: kvs)
      | _, _ => none)) = _
    rw [kc_un, if_neg Bool.false_ne_true, ih]
    rfl
theorem allT_q (Q : List Pr) (hn : (Q.map (·.1)).Nodup) : allT (Q.map kvD) = Q.map kvD := by
  have go : ∀ (Q acc : List Pr), (Q.map kvD).foldl (fun acc kv => putD' acc kv.1 kv.2) (acc.map kvD) = (Q.foldl (fun acc p => putU acc p.1 p.2) acc).map kvD := fun Q => by
    induction Q with
    | nil => exact fun _ => rfl
    | cons p r ih =>
      intro acc
      show (r.map kvD).foldl (fun acc kv => putD' acc kv.1 kv.2) (putD' (acc.map kvD) (ky p.1) (fr p.2)) = _
      rw [putD_kv, ih]
      rfl
  have e := go Q []
  rw [put_all Q [] (by rw [List.nil_append]; exact hn), List.nil_append] at e
  exact e
theorem v_dict (Q : List Pr) (hn : (Q.map (·.1)).Nodup) (hl : Q.length < 90000) (h : Hc) : fDictX g0.kc [.d (.xtup (Q.map pD))] h = .ok (.d (.dT (Q.map kvD))) h := by
  unfold fDictX
  dsimp only
  rw [pairs_q]
  dsimp only
  rw [if_pos (by rw [List.length_map]; omega), allT_q Q hn]
def valF (Q : List Pr) (A : List Pr) (acc : Rat) : Rat := A.foldl (fun acc p => acc + p.2 * lk Q p.1) acc
def vsum (L : Nat) : List Pr → Nat
  | [] => 0
  | p :: r => sz p.2 + L + 1 + vsum L r
section
variable {h : Hc} {A Q : List Pr} {L : Nat}
theorem q_get (Q : List Pr) (u : Un) (h : Hc) : fDGet g0.kc (.d (.dT (Q.map kvD))) (.d (uD u)) (fr 0) h = .ok (.d (fr (lk Q u))) h := by
  show (match dGet g0.kc (.t (Q.map kvD)) (uD u) with
    | some (some d) => R.ok (Vl.d d) h
    | some none => R.ok (Vl.d (fr 0)) h
    | none => .stuck) = _
  rw [dget_u, ← lk_getU]
  cases getU Q u <;> rfl
def vaB : MS := mSet 2 (mA1 (fCallN 2 F_plus []) (maCons (mVar 2) (maCons (mA1 (fCallN 2 F_times []) (maCons (mVar 4) (maCons (mDGet2 g0.kc (mVar 1) (mVar 3) (mC d_ZERO)) maNil))) maNil)))
abbrev vT : TgF := gtT 2 (gtCons (gtN 3) (gtCons (gtN 4) gtNil))
theorem va_loop (p : D) (hq : ∀ u, sz (lk Q u) ≤ L) : ∀ (A : List Pr) (acc : Rat) (k : Nat) (a b : Option Sl), Sz k acc → k + vsum L A ≤ 7000 →
    ∃ a' b', forL vT vaB (A.map pD) [some (.d p), some (.d (.dT (Q.map kvD))), some (.d (fr acc)), a, b] h = .nx [some (.d p), some (.d (.dT (Q.map kvD))), some (.d (fr (valF Q A acc))), a', b'] h
  | [], acc, k, a, b, _, _ => ⟨a, b, rfl⟩
  | q :: r, acc, k, a, b, sa, hk => by
    have hk : k + (sz q.2 + L + 1 + vsum L r) ≤ 7000 := hk
    have hl := hq q.1
    have st := (sz_ok q.2).mul (sz_ok (lk Q q.1))
    have e1 : mDGet2 g0.kc (mVar 1) (mVar 3) (mC d_ZERO) [some (.d p), some (.d (.dT (Q.map kvD))), some (.d (fr acc)), some (.d (uD q.1)), some (.d (fr q.2))] h = .ok (.d (fr (lk Q q.1))) h := by
      show fDGet g0.kc (.d (.dT (Q.map kvD))) (.d (uD q.1)) (fr 0) h = _
      rw [q_get]
    have e2 := call2 (F := F_times) (a := mVar 4) (h := h) (h1 := h) rfl e1 (v_times (sz_ok q.2) (sz_ok (lk Q q.1)) (by omega))
    have e3 := call2 (F := F_plus) (a := mVar 2) (h := h) (h1 := h) rfl e2 (v_plus sa (st.up (show _ ≤ sz q.2 + L by omega)) (by omega))
    have w : vaB [some (.d p), some (.d (.dT (Q.map kvD))), some (.d (fr acc)), some (.d (uD q.1)), some (.d (fr q.2))] h = .nx [some (.d p), some (.d (.dT (Q.map kvD))), some (.d (fr (acc + q.2 * lk Q q.1))), some (.d (uD q.1)), some (.d (fr q.2))] h := by
      unfold vaB mSet
      rw [e3]
      rfl
    obtain ⟨a', b', e⟩ := va_loop p hq r (acc + q.2 * lk Q q.1) (k + (sz q.2 + L) + 1) (some (.d (uD q.1))) (some (.d (fr q.2))) (sa.add (st.up (by omega))) (by omega)
    refine ⟨a', b', ?_⟩
    rw [List.map_cons, forL_cons]
    show ((vaB [some (.d p), some (.d (.dT (Q.map kvD))), some (.d (fr acc)), some (.d (uD q.1)), some (.d (fr q.2))] h).again _) = _
    rw [w]
    exact e
theorem v_value_at (hq : ∀ u, sz (lk Q u) ≤ L) (hk : 1 + vsum L A ≤ 7000) : F_value_at [.tup (A.map pD), .dT (Q.map kvD)] h = .ok (fr (valF Q A 0)) h := by
  refine (fnOf_eq 5 2 m_value_at _ h rfl).trans ?_
  obtain ⟨a', b', e⟩ := va_loop (h := h) (Q := Q) (.tup (A.map pD)) hq A 0 1 none none sz_zero hk
  show (((forL vT vaB (A.map pD) [some (.d (.tup (A.map pD))), some (.d (.dT (Q.map kvD))), some (.d (fr 0)), none, none] h)).seq (mRet (mVar 2))).fin = _
  rw [e]
  rfl
theorem v_fat (hn : (Q.map (·.1)).Nodup) (hl : Q.length < 90000) (hq : ∀ u, sz (lk Q u) ≤ L) (hk : 1 + vsum L A ≤ 7000) : F_Form_at [form A, .xtup (Q.map pD)] h = .ok (fr (valF Q A 0)) h := by
  refine (fnOf_eq 2 2 m_Form_at _ h rfl).trans ?_
  have e1 : mA1 (fDictX g0.kc) (maCons (mVar 1) maNil) (mkEnv 2 [form A, .xtup (Q.map pD)]) h = .ok (.d (.dT (Q.map kvD))) h := by
    show fDictX g0.kc [.d (.xtup (Q.map pD))] h = _
    rw [v_dict Q hn hl]
  have e2 := call2 (F := F_value_at) (pf A 0 (mkEnv 2 [form A, .xtup (Q.map pD)]) (fun _ => rfl) h) e1 (v_value_at hq hk)
  show (mRet _ (mkEnv 2 [form A, .xtup (Q.map pD)]) h).fin = _
  rw [ret_of e2]
  rfl
def lvB : MS := mSet 2 (mA1 (fCallN 2 F__law_plus []) (maCons (mVar 2) (maCons (mA1 (fCallN 2 F__law_times []) (maCons (mVar 4) (maCons (mA1 (fCallN 2 F__law_p1_at []) (maCons (mVar 1) (maCons (mVar 3) maNil))) maNil))) maNil)))
theorem lv_loop (p : D) (hQ : ∀ q ∈ Q, NmU q.1) (hq : ∀ u, sz (lk Q u) ≤ L) : ∀ (A : List Pr) (acc : Rat) (k : Nat) (a b : Option Sl), (∀ q ∈ A, NmU q.1) → Sz k acc → k + vsum L A ≤ 7000 →
    ∃ a' b', forL vT lvB (A.map pD) [some (.d p), some (.d (.xtup (Q.map pD))), some (.d (fr acc)), a, b] h = .nx [some (.d p), some (.d (.xtup (Q.map pD))), some (.d (fr (valF Q A acc))), a', b'] h
  | [], acc, k, a, b, _, _, _ => ⟨a, b, rfl⟩
  | q :: r, acc, k, a, b, hA, sa, hk => by
    have hk : k + (sz q.2 + L + 1 + vsum L r) ≤ 7000 := hk
    have hl := hq q.1
    have st := (sz_ok q.2).mul (sz_ok (lk Q q.1))
    have e1 : mA1 (fCallN 2 F__law_p1_at []) (maCons (mVar 1) (maCons (mVar 3) maNil)) [some (.d p), some (.d (.xtup (Q.map pD))), some (.d (fr acc)), some (.d (uD q.1)), some (.d (fr q.2))] h = .ok (.d (fr (lk Q q.1))) h :=
      call2 (h1 := h) (h2 := h) rfl rfl (v_at (x := .xtup (Q.map pD)) (bb := false) rfl (hA q (List.mem_cons_self ..)) hQ)
    have e2 := call2 (F := F__law_times) (a := mVar 4) (h := h) (h1 := h) rfl e1 (v_ltimes (sz_ok q.2) (sz_ok (lk Q q.1)) (by omega))
    have e3 := call2 (F := F__law_plus) (a := mVar 2) (h := h) (h1 := h) rfl e2 (v_lplus sa (st.up (show _ ≤ sz q.2 + L by omega)) (by omega))
    have w : lvB [some (.d p), some (.d (.xtup (Q.map pD))), some (.d (fr acc)), some (.d (uD q.1)), some (.d (fr q.2))] h = .nx [some (.d p), some (.d (.xtup (Q.map pD))), some (.d (fr (acc + q.2 * lk Q q.1))), some (.d (uD q.1)), some (.d (fr q.2))] h := by
      unfold lvB mSet
      rw [e3]
      rfl
    obtain ⟨a', b', e⟩ := lv_loop p hQ hq r (acc + q.2 * lk Q q.1) (k + (sz q.2 + L) + 1) (some (.d (uD q.1))) (some (.d (fr q.2))) (fun z hz => hA z (List.mem_cons_of_mem _ hz)) (sa.add (st.up (by omega))) (by omega)
    refine ⟨a', b', ?_⟩
    rw [List.map_cons, forL_cons]
    show ((lvB [some (.d p), some (.d (.xtup (Q.map pD))), some (.d (fr acc)), some (.d (uD q.1)), some (.d (fr q.2))] h).again _) = _
    rw [w]
    exact e
theorem v_lvalue (hA : ∀ q ∈ A, NmU q.1) (hQ : ∀ q ∈ Q, NmU q.1) (hq : ∀ u, sz (lk Q u) ≤ L) (hk : 1 + vsum L A ≤ 7000) : F__law_p1_value [.tup (A.map pD), .xtup (Q.map pD)] h = .ok (fr (valF Q A 0)) h := by
  refine (fnOf_eq 5 2 m__law_p1_value _ h rfl).trans ?_
  obtain ⟨a', b', e⟩ := lv_loop (h := h) (.tup (A.map pD)) hQ hq A 0 1 none none hA sz_zero hk
  show (((forL vT lvB (A.map pD) [some (.d (.tup (A.map pD))), some (.d (.xtup (Q.map pD))), some (.d (fr 0)), none, none] h)).seq (mRet (mVar 2))).fin = _
  rw [e]
  rfl
theorem val_sz (hq : ∀ u, sz (lk Q u) ≤ L) : ∀ (A : List Pr) (acc : Rat) (k : Nat), Sz k acc → Sz (k + vsum L A) (valF Q A acc)
  | [], acc, k, s => s
  | q :: r, acc, k, s => by
    have hl := hq q.1
    have st := (sz_ok q.2).mul (sz_ok (lk Q q.1))
    have := val_sz hq r (acc + q.2 * lk Q q.1) (k + (sz q.2 + L) + 1) (s.add (st.up (by omega)))
    show Sz (k + (sz q.2 + L + 1 + vsum L r)) (valF Q r (acc + q.2 * lk Q q.1))
    exact this.up (by omega)
end
end G07

set_option Elab.async false
set_option linter.all false
set_option maxRecDepth 100000
set_option maxHeartbeats 4000000
set_option exponentiation.threshold 2000
namespace G07
open PySem L2 Vi
/-! ### names -/
abbrev letL : List Nat := (Str.ofString "abcdefghijklmnopqrstuvwxyz").cps.toList
abbrev sgnL : List Nat := (Str.ofString "abcdefghijklmnopqrstuvwxyz0123456789").cps.toList
abbrev resL : List PySem.Str := ["and", "or", "not", "free", "untouched", "least", "most", "of", "since", "until", "single", "recipe", "take", "move", "drain", "wash", "pack", "repeat", "when", "else", "end", "done", "yes", "no", "none"]
structure NameOk (x : PySem.Str) : Prop where
  n1 : 1 ≤ x.cps.size
  n8 : x.cps.size ≤ 8
  first : ∀ c, x.cps[0]? = some c → c ∈ letL
  all : ∀ c ∈ x.cps.toList, c ∈ sgnL
  res : x ∉ resL
theorem sub_let : ∀ c ∈ letL, hasSub "abcdefghijklmnopqrstuvwxyz" ⟨#[c]⟩ = true := by decide +kernel
theorem sub_sgn : ∀ c ∈ sgnL, hasSub "abcdefghijklmnopqrstuvwxyz0123456789" ⟨#[c]⟩ = true := by decide +kernel
theorem let_sgn : ∀ c ∈ letL, c ∈ sgnL := by decide +kernel
theorem vOfs_str : ∀ xs : List PySem.Str, vOfs (xs.map D.str) = some (xs.map L2.V.str)
  | [] => rfl
  | x :: r => by
    show (match vOf (.str x), vOfs (r.map D.str) with
      | some v, some vs => some (v :: vs)
      | _, _ => none) = _
    rw [vOfs_str r]
    rfl
theorem inV_str (x : PySem.Str) (xs : List PySem.Str) : inV (.str x) (xs.map L2.V.str) = decide (x ∈ xs) := by
  unfold inV
  rw [List.any_map]
  induction xs with
  | nil => rfl
  | cons y r ih =>
    rw [List.any_cons, ih]
    have e : eqV (.str y) (.str x) = decide (x = y) := by
      show (y == x) = _
      rw [Bool.eq_iff_iff, decide_eq_true_iff, beq_iff_eq]
      exact eq_comm
    show (eqV (.str y) (.str x) || _) = _
    rw [e, Bool.eq_iff_iff]
    simp
/-- a text in a tuple or list of texts -/
theorem in_txt (x : PySem.Str) (neg : Bool) (h : Hc) (y : Vl) (xs : List PySem.Str) (hy : seq? h y = some (xs.map D.str)) (hs : ∀ z, y ≠ .d (.str z)) : fIn neg (.d (.str x)) y h = .ok (.d (nB neg (decide (x ∈ xs)))) h := by
  have e : fIn neg (.d (.str x)) y h = fInS neg (.d (.str x)) y h := by
    unfold fIn
    split
    · next a b => exact absurd rfl (hs _)
    · rfl
  rw [e]
  unfold fInS
  simp only [hy, vOf, vOfs_str, inV_str]
theorem bools_map {α : Type} (f : α → Bool) : ∀ xs : List α, bools? (xs.map fun x => .bl (f x)) = some (xs.map f)
  | [] => rfl
  | x :: r => by
    show (bools? (r.map fun x => .bl (f x))).map (f x :: ·) = _
    rw [bools_map f r]
    rfl
theorem all_map {α : Type} (f : α → Bool) (xs : List α) (h : Hc) : fAll false [.d (.lst (xs.map fun x => .bl (f x)))] h = .ok (.d (.bl (xs.all f))) h := by
  show (match bools? (xs.map fun x => D.bl (f x)) with
    | some bs => R.ok (Vl.d (.bl (if false then bs.any id else bs.all id))) h
    | none => .stuck) = _
  rw [bools_map]
  show R.ok (Vl.d (.bl ((xs.map f).all id))) h = _
  rw [List.all_map]
  rfl
theorem BG.up {t : Hc} {m n : Int} {h : Hc} (g : BG t m h) (hm : m ≤ n) : BG t n h := by
  obtain ⟨ns, p, v, sd, l, c, e, g1, g2, g3, g4, g5, g6, g7⟩ := g
  exact ⟨ns, p, v, sd, l, c, e, g1, g2, g3, g4, g5, g6, by omega⟩
theorem atI_get {α : Type} {xs : List α} {i : Int} (h0 : 0 ≤ i) (h1 : i < xs.length) : ∃ x, atI xs i = some x ∧ x ∈ xs := by
  have hl : i.toNat < xs.length := by omega
  refine ⟨xs[i.toNat], ?_, List.getElem_mem hl⟩
  unfold atI ixN
  rw [if_pos h0, if_pos h1]
  show xs[i.toNat]? = _
  exact List.getElem?_eq_getElem hl
theorem v_pick {t : Hc} {m : Int} {h : Hc} {xs : List D} (g : BG t m h) (hm : m < 2 ^ 60) (h0 : 0 < xs.length) (h1 : xs.length < 2 ^ 60) : ∃ x h', F__law_pick [.ref 0, .lst xs] h = .ok x h' ∧ BG t (m + 1) h' ∧ x ∈ xs := by
  obtain ⟨r, h2, e, g2, r0, r1, r2⟩ := v_draw (many := xs.length) g hm (by omega) (by omega)
  have r3 : r < xs.length := by
    by_cases h2 : (xs.length : Int) < 2
    · have := r2 h2
      omega
    · exact r1 (by omega)
  obtain ⟨x, ex, hx⟩ := atI_get r0 r3
  refine ⟨x, h2, ?_, g2, hx⟩
  refine (fnOf_eq 2 2 m__law_pick [.ref 0, .lst xs] h rfl).trans ?_
  unfold m__law_pick
  simp [e, ex]
/-- the beginning of a name -/
structure Pre (n : Nat) (x : PySem.Str) : Prop where
  n : x.cps.size = n
  first : ∀ c, x.cps[0]? = some c → c ∈ letL
  all : ∀ c ∈ x.cps.toList, c ∈ sgnL
theorem Pre.one {c : Nat} (h : c ∈ letL) : Pre 1 ⟨#[c]⟩ := ⟨rfl, fun d e => by
  have e : some c = some d := e
  cases e
  exact h, fun d hd => by
  have : d = c := by simpa using hd
  subst this
  exact let_sgn _ h⟩
theorem Pre.more {n : Nat} {x : PySem.Str} {c : Nat} (p : Pre n x) (hn : 1 ≤ n) (h : c ∈ sgnL) : Pre (n + 1) (x ++ ⟨#[c]⟩) := by
  have e : (x ++ (⟨#[c]⟩ : PySem.Str)).cps = x.cps ++ #[c] := rfl
  refine ⟨by rw [e, Array.size_append, p.n]; rfl, fun d hd => ?_, fun d hd => ?_⟩
  · rw [e, Array.getElem?_append_left (by rw [p.n]; exact hn)] at hd
    exact p.first d hd
  · rw [e, Array.toList_append, List.mem_append] at hd
    rcases hd with z | z
    · exact p.all d z
    · have : d = c := by simpa using z
      subst this
      exact h
theorem Pre.name {n : Nat} {x : PySem.Str} (p : Pre n x) (h1 : 1 ≤ n) (h8 : n ≤ 8) (hr : x ∉ resL) : NameOk x := ⟨by rw [p.n]; exact h1, by rw [p.n]; exact h8, p.first, p.all, hr⟩
abbrev bigW : PySem.Str := " and or not free untouched least most of since until single recipe take move drain wash pack repeat when else end done yes no none "
theorem res_big : ∀ x ∈ resL, hasSub bigW (" " ++ x ++ " ") = true := by decide +kernel
theorem lets_at : ∀ r ∈ List.range 26, atI sgnL (r : Nat) = atI letL (r : Nat) := by decide +kernel
theorem fIx_str (z : PySem.Str) (i : Int) (c : Nat) (h : Hc) (e : atI z.cps.toList i = some c) (hl : z.cps.size ≤ 100000) : fIx (.d (.str z)) (.d (.int i)) h = .ok (.d (.str ⟨#[c]⟩)) h := by
  show (match atI z.cps.toList i with
    | some c => if z.length ≤ 100000 then R.ok (Vl.d (.str ⟨#[c]⟩)) h else .stuck
    | none => .stuck) = _
  rw [e]
  exact if_pos hl
abbrev sgnS : PySem.Str := "abcdefghijklmnopqrstuvwxyz0123456789"
theorem fAdd_str (o : Bool) (a b : PySem.Str) (h : Hc) (hl : a.cps.size + b.cps.size ≤ 100000) : fAdd o (.d (.str a)) (.d (.str b)) h = .ok (.d (.str (a ++ b))) h := by
  show (if a.length + b.length ≤ 100000 then R.ok (Vl.d (.str (a ++ b))) h else .stuck) = _
  exact if_pos hl
def nmB : MS := mSet 3 (m2 (fAdd false) (mVar 3) (m2 fIx (mVar 2) (mA1 (fCallN 2 F__law_draw []) (maCons (mVar 0) (maCons (mC (.int 36)) maNil)))))
/-- the further signs -/
theorem nm_loop {t : Hc} {tk : D} : ∀ (xs : List D) (j : Nat) (m : Int) (x : PySem.Str) (kv : Option Sl) (h : Hc), BG t m h → m + xs.length < 2 ^ 60 → 1 ≤ j → j + xs.length ≤ 100 → Pre j x →
    ∃ x' kv' h', forL (gtN 4) nmB xs [some (.d (.ref 0)), some (.d tk), some (.d (.str sgnS)), some (.d (.str x)), kv, none, none] h = .nx [some (.d (.ref 0)), some (.d tk), some (.d (.str sgnS)), some (.d (.str x')), kv', none, none] h' ∧ BG t (m + xs.length) h' ∧ Pre (j + xs.length) x' := by
  intro xs
  induction xs with
  | nil =>
    intro j m x kv h g hm hj hs p
    exact ⟨x, kv, h, rfl, by simpa using g, p⟩
  | cons z xs ih =>
    intro j m x kv h g hm hj hs p
    simp only [List.length_cons] at hm hs ⊢
    obtain ⟨r, h2, e, g2, r1, r2, _⟩ := v_draw (many := 36) g (by omega) (by omega) (by omega)
    have r2 := r2 (by omega)
    obtain ⟨c, ec, hc⟩ := atI_get (xs := sgnL) r1 (show r < ((36 : Nat) : Int) from r2)
    obtain ⟨x', kv', h', e4, g4, p4⟩ := ih (j + 1) (m + 1) (x ++ ⟨#[c]⟩) (some (.d z)) h2 g2 (by omega) (by omega) (by omega) (p.more hj hc)
    refine ⟨x', kv', h', ?_, g4.up (by omega), by rw [show j + (xs.length + 1) = j + 1 + xs.length by omega]; exact p4⟩
    have ei := fIx_str sgnS r c h2 ec (by decide)
    have ea := fAdd_str false x ⟨#[c]⟩ h2 (by have e0 := p.n; have e1 : (⟨#[c]⟩ : PySem.Str).cps.size = 1 := rfl; omega)
    rw [forL_cons, ← e4]
    unfold nmB gtN
    simp [e, ei, ea]
/-- a spare name -/
def spare (k : Nat) : PySem.Str := "q" ++ Str.ofString (toString (k : Int))
theorem spare_ok : ∀ k ∈ List.range 30, (spare k).cps.size ≤ 8 ∧ 1 ≤ (spare k).cps.size ∧ (∀ c ∈ (spare k).cps.toList, c ∈ sgnL) ∧ (spare k).cps[0]? = some 113 ∧ spare k ∉ resL := by decide +kernel
theorem spare_name {k : Nat} (h : k < 30) : NameOk (spare k) := by
  obtain ⟨h1, h2, h3, h4, h5⟩ := spare_ok k (List.mem_range.mpr h)
  exact ⟨h2, h1, fun c e => by
    rw [h4] at e
    cases e
    decide +kernel, h3, h5⟩
theorem spare_inj : ∀ i ∈ List.range 30, ∀ j ∈ List.range 30, spare i = spare j → i = j := by decide +kernel
/-- among more numbers than are taken one is free -/
theorem spare_free {tk : List PySem.Str} (hl : tk.length < 29) : ∃ k, k < tk.length + 1 ∧ spare k ∉ tk := by
  apply Classical.byContradiction
  intro hn
  have all : ∀ k, k < tk.length + 1 → spare k ∈ tk := fun k hk => Classical.byContradiction fun z => hn ⟨k, hk, z⟩
  have sub : ((List.range (tk.length + 1)).map spare) ⊆ tk := fun x hx => by
    obtain ⟨k, hk, rfl⟩ := List.mem_map.mp hx
    exact all k (List.mem_range.mp hk)
  have nd : ((List.range (tk.length + 1)).map spare).Nodup := by
    refine List.pairwise_map.mpr (List.Pairwise.imp_of_mem (fun {a b} ha hb ne e => ne ?_) (List.nodup_range (n := tk.length + 1)))
    have := List.mem_range.mp ha
    have := List.mem_range.mp hb
    exact spare_inj a (List.mem_range.mpr (by omega)) b (List.mem_range.mpr (by omega)) e
  have := List.Nodup.length_le_of_subset nd sub
  rw [List.length_map, List.length_range] at this
  omega

def nmC : MB := tAndM (asB (m2 (fIn true) (mVar 3) (mVar 1))) (asB (m2 (fIn true) (m2 (fAdd false) (m2 (fAdd false) (mC (.str " ")) (mVar 3)) (mC (.str " "))) (m2 (fAdd false) (mVar 5) (mC (.str "repeat when else end done yes no none ")))))
def nmF : MS := mRet (m2 fIx (mComp false [6] (gtN 6) (asB (m2 (fIn true) (mVar 6) (mVar 1))) (mVar 6) (mCompR false [4] (gtN 4) mYes (m2 (fAdd false) (mC (.str "q")) (mA1 fStrOf (maCons (mVar 4) maNil))) (maCons (m2 (fAdd false) (mA1 fLen (maCons (mVar 1) maNil)) (mC (.int 1))) maNil))) (mC (.int 0)))
theorem name_parts : m__law_name = mSeq (mSet 2 (mC (.str sgnS))) (mSeq (mSet 3 (m2 fIx (mVar 2) (mA1 (fCallN 2 F__law_draw []) (maCons (mVar 0) (maCons (mC (.int 26)) maNil))))) (mSeq (mForR (gtN 4) (maCons (m2 fIx (mA1 (fLst false) (maCons (mC (.int 0)) (maCons (mC (.int 1)) (maCons (mC (.int 2)) (maCons (mC (.int 7)) maNil))))) (mA1 (fCallN 2 F__law_draw []) (maCons (mVar 0) (maCons (mC (.int 4)) maNil)))) maNil) nmB) (mSeq (mSet 5 (mC (.str " and or not free untouched least most of since until single recipe take move drain wash pack "))) (mSeq (mIfS nmC (mRet (mVar 3)) mSkip) nmF)))) := rfl
abbrev envN (tk : List PySem.Str) (x : PySem.Str) (kv w : Option Sl) : Vi.Env := [some (.d (.ref 0)), some (.d (.lst (tk.map D.str))), some (.d (.str sgnS)), some (.d (.str x)), kv, w, none]
/-- the spare one -/
theorem e_nmF {tk : List PySem.Str} (hl : tk.length < 29) (x : PySem.Str) (kv w : Option Sl) (h : Hc) : ∃ y, nmF (envN tk x kv w) h = .ret (.str y) h ∧ NameOk y ∧ y ∉ tk := by
  obtain ⟨k, hk, hf⟩ := spare_free hl
  have c1 : mCompR false [4] (gtN 4) mYes (m2 (fAdd false) (mC (.str "q")) (mA1 fStrOf (maCons (mVar 4) maNil))) (maCons (m2 (fAdd false) (mA1 fLen (maCons (mVar 1) maNil)) (mC (.int 1))) maNil) (envN tk x kv w) h = .ok (.d (.lst (((List.range (tk.length + 1)).map spare).map D.str))) h := by
    have ea : maCons (m2 (fAdd false) (mA1 fLen (maCons (mVar 1) maNil)) (mC (.int 1))) maNil (envN tk x kv w) h = .ok [.d (.int ((tk.length : Int) + 1))] h := by
      simp [fLen_lst]
    unfold mCompR
    rw [ea, R.bind_ok]
    dsimp only
    have cd : -(2 ^ 62) ≤ (tk.length : Int) + 1 ∧ (tk.length : Int) + 1 < 2 ^ 62 := by omega
    rw [if_pos cd, show ((tk.length : Int) + 1).toNat = tk.length + 1 by omega]
    rw [comp_all false 4 (m2 (fAdd false) (mC (.str "q")) (mA1 fStrOf (maCons (mVar 4) maNil))) (fun d => match d with
      | .int i => .str ("q" ++ Str.ofString (toString i))
      | d => d) (wipeE (envN tk x kv w) [4]) h (rangeD 0 (tk.length + 1)) ?_ (by rw [rangeD_len]; omega)]
    · unfold rangeD
      rw [List.map_map, List.map_map]
      refine congrArg (fun l => R.ok (Vl.d (.lst l)) h) (List.map_congr_left fun i _ => ?_)
      show D.str ("q" ++ Str.ofString (toString (0 + (i : Int)))) = .str (spare i)
      rw [Int.zero_add]
      rfl
    · intro d hd
      unfold rangeD at hd
      obtain ⟨i, hi, rfl⟩ := List.mem_map.mp hd
      have hi := List.mem_range.mp hi
      have e1 : fStrOf [.d (.int (0 + (i : Int)))] h = .ok (.d (.str (Str.ofString (toString (0 + (i : Int)))))) h := by
        show (if (0 + (i : Int)).natAbs.log2 < 1920 then R.ok (Vl.d (.str (toString (0 + (i : Int))))) h else .stuck) = _
        rw [if_pos (log2_lt (show (0 + (i : Int)).natAbs < 2 ^ 1920 from Nat.lt_of_lt_of_le (show (0 + (i : Int)).natAbs < 2 ^ 10 by omega) (Nat.pow_le_pow_right (by omega) (by omega))) (by omega))]
      have e2 : fAdd false (.d (.str "q")) (.d (.str (Str.ofString (toString (0 + (i : Int)))))) h = .ok (.d (.str ("q" ++ Str.ofString (toString (0 + (i : Int)))))) h := fAdd_str _ _ _ _ (by
        have := (spare_ok i (List.mem_range.mpr (by omega))).1
        have e3 : (spare i).cps.size = ("q" : PySem.Str).cps.size + (Str.ofString (toString ((i : Int)))).cps.size := Array.size_append ..
        rw [Int.zero_add]
        omega)
      show (m2 (fAdd false) (mC (.str "q")) (mA1 fStrOf (maCons (mVar 4) maNil))) ((wipeE (envN tk x kv w) [4]).set 4 (some (.d (.int (0 + (i : Int)))))) h = _
      show ((fStrOf [.d (.int (0 + (i : Int)))] h).bind fun y h2 => fAdd false (.d (.str "q")) y h2) = _
      rw [e1, R.bind_ok, e2]
  have c2 : mComp false [6] (gtN 6) (asB (m2 (fIn true) (mVar 6) (mVar 1))) (mVar 6) (mCompR false [4] (gtN 4) mYes (m2 (fAdd false) (mC (.str "q")) (mA1 fStrOf (maCons (mVar 4) maNil))) (maCons (m2 (fAdd false) (mA1 fLen (maCons (mVar 1) maNil)) (mC (.int 1))) maNil)) (envN tk x kv w) h = .ok (.d (.lst (((List.range (tk.length + 1)).map spare).filter (fun y => decide (y ∉ tk)) |>.map D.str))) h := by
    have c3 := comp_map false 6 (asB (m2 (fIn true) (mVar 6) (mVar 1))) (mVar 6) (fun d => d) (fun d => match d with
      | .str y => decide (y ∉ tk)
      | _ => false) (wipeE (envN tk x kv w) [6]) h (((List.range (tk.length + 1)).map spare).map D.str) [] ?_ (by rw [List.length_map, List.length_map, List.length_range]; simp only [List.length_nil]; omega)
    · unfold mComp
      rw [c1]
      show compL false (gtN 6) (asB (m2 (fIn true) (mVar 6) (mVar 1))) (mVar 6) (((List.range (tk.length + 1)).map spare).map D.str) [] (wipeE (envN tk x kv w) [6]) h = _
      rw [c3, List.nil_append, List.filter_map, List.map_id']
      rfl
    · intro d hd
      obtain ⟨y, hy, rfl⟩ := List.mem_map.mp hd
      refine ⟨?_, fun _ => rfl⟩
      have e1 := in_txt y true h (.d (.lst (tk.map D.str))) tk rfl (fun z e => by cases e)
      show (asB (m2 (fIn true) (mVar 6) (mVar 1))) ((wipeE (envN tk x kv w) [6]).set 6 (some (.d (.str y)))) h = _
      simp only [wipeE]
      simp [e1, nB]
  have ne : (((List.range (tk.length + 1)).map spare).filter (fun y => decide (y ∉ tk))) ≠ [] := fun e => by
    have := List.eq_nil_iff_forall_not_mem.mp e (spare k)
    exact this (List.mem_filter.mpr ⟨List.mem_map.mpr ⟨k, List.mem_range.mpr hk, rfl⟩, decide_eq_true hf⟩)
  obtain ⟨y, r, er⟩ := List.exists_cons_of_ne_nil ne
  have hy : y ∈ ((List.range (tk.length + 1)).map spare).filter (fun y => decide (y ∉ tk)) := by rw [er]; exact List.mem_cons_self ..
  obtain ⟨h1, h2⟩ := List.mem_filter.mp hy
  obtain ⟨i, hi, rfl⟩ := List.mem_map.mp h1
  refine ⟨_, ?_, spare_name (by have := List.mem_range.mp hi; omega), of_decide_eq_true h2⟩
  unfold nmF
  rw [er] at c2
  simp [c2, atI, ixN]
abbrev w1 : PySem.Str := " and or not free untouched least most of since until single recipe take move drain wash pack "
theorem big_eq : w1 ++ ("repeat when else end done yes no none " : PySem.Str) = bigW := by decide +kernel
theorem big_n : (" and or not free untouched least most of since until single recipe take move drain wash pack " : PySem.Str).cps.size + ("repeat when else end done yes no none " : PySem.Str).cps.size ≤ 100000 := by decide +kernel
theorem e_nmC {tk : List PySem.Str} {x : PySem.Str} {kv : Option Sl} {h : Hc} (hx : x.cps.size ≤ 8) : nmC (envN tk x kv (some (.d (.str w1)))) h = .ok (decide (x ∉ tk) && !hasSub bigW (" " ++ x ++ " ")) h := by
  have e1 := in_txt x true h (.d (.lst (tk.map D.str))) tk rfl (fun z e => by cases e)
  have n1 : (" " : PySem.Str).cps.size = 1 := rfl
  have n2 : (" " ++ x : PySem.Str).cps.size = 1 + x.cps.size := Array.size_append ..
  have e2 := fAdd_str false " " x h (by omega)
  have e3 := fAdd_str false (" " ++ x) " " h (by omega)
  have e4 := fAdd_str false w1 "repeat when else end done yes no none " h big_n
  rw [big_eq] at e4
  have e5 : fIn true (.d (.str (" " ++ x ++ " "))) (.d (.str bigW)) h = .ok (.d (.bl (!hasSub bigW (" " ++ x ++ " ")))) h := rfl
  unfold nmC
  by_cases hm : x ∈ tk
  · simp [e1, hm, nB]
  · simp [e1, hm, nB, e2, e3, e4, e5]
theorem lens4 {r : Int} (h0 : 0 ≤ r) (h1 : r < 4) : ∃ k : Nat, atI [D.int 0, .int 1, .int 2, .int 7] r = some (.int k) ∧ k ≤ 7 := by
  have : r = 0 ∨ r = 1 ∨ r = 2 ∨ r = 3 := by omega
  rcases this with rfl | rfl | rfl | rfl
  · exact ⟨0, by simp [atI, ixN], by omega⟩
  · exact ⟨1, by simp [atI, ixN], by omega⟩
  · exact ⟨2, by simp [atI, ixN], by omega⟩
  · exact ⟨7, by simp [atI, ixN], by omega⟩
theorem v_lname {t : Hc} {m : Int} {h : Hc} {tk : List PySem.Str} (g : BG t m h) (hm : m < 2 ^ 50) (hl : tk.length < 29) : ∃ y h', F__law_name [.ref 0, .lst (tk.map D.str)] h = .ok (.str y) h' ∧ BG t (m + 10) h' ∧ NameOk y ∧ y ∉ tk := by
  obtain ⟨r, h1, e1, g1, r0, r1, _⟩ := v_draw (many := 26) g (by omega) (by omega) (by omega)
  have r1 := r1 (by omega)
  obtain ⟨c, ec, hc⟩ := atI_get (xs := letL) r0 (show r < ((26 : Nat) : Int) from r1)
  have ec2 : atI sgnL r = some c := by
    have z := lets_at r.toNat (List.mem_range.mpr (by omega))
    rw [show ((r.toNat : Nat) : Int) = r by omega] at z
    rw [z, ec]
  obtain ⟨q, h2, e2, g2, q0, q1, _⟩ := v_draw (many := 4) g1 (by omega) (by omega) (by omega)
  obtain ⟨k, ek, hk⟩ := lens4 q0 (q1 (by omega))
  have lk : (rangeD 0 k).length = k := rangeD_len 0 k
  obtain ⟨x, kv, h3, e3, g3, p⟩ := nm_loop (tk := .lst (tk.map D.str)) (rangeD 0 k) 1 _ ⟨#[c]⟩ none h2 g2 (by omega) (by omega) (by omega) (Pre.one hc)
  rw [lk] at p g3
  have s1 : mSet 2 (mC (.str sgnS)) (mkEnv 7 [.ref 0, .lst (tk.map D.str)]) h = .nx [some (.d (.ref 0)), some (.d (.lst (tk.map D.str))), some (.d (.str sgnS)), none, none, none, none] h := rfl
  have i1 := fIx_str sgnS r c h1 ec2 (by decide)
  have s2 : mSet 3 (m2 fIx (mVar 2) (mA1 (fCallN 2 F__law_draw []) (maCons (mVar 0) (maCons (mC (.int 26)) maNil)))) [some (.d (.ref 0)), some (.d (.lst (tk.map D.str))), some (.d (.str sgnS)), none, none, none, none] h = .nx (envN tk ⟨#[c]⟩ none none) h1 := by
    simp [e1, i1]
  have s3 : mForR (gtN 4) (maCons (m2 fIx (mA1 (fLst false) (maCons (mC (.int 0)) (maCons (mC (.int 1)) (maCons (mC (.int 2)) (maCons (mC (.int 7)) maNil))))) (mA1 (fCallN 2 F__law_draw []) (maCons (mVar 0) (maCons (mC (.int 4)) maNil)))) maNil) nmB (envN tk ⟨#[c]⟩ none none) h1 = .nx (envN tk x kv none) h3 := by
    have ea : maCons (m2 fIx (mA1 (fLst false) (maCons (mC (.int 0)) (maCons (mC (.int 1)) (maCons (mC (.int 2)) (maCons (mC (.int 7)) maNil))))) (mA1 (fCallN 2 F__law_draw []) (maCons (mVar 0) (maCons (mC (.int 4)) maNil)))) maNil (envN tk ⟨#[c]⟩ none none) h1 = .ok [.d (.int k)] h2 := by
      simp [e2, ek]
    unfold mForR
    rw [ea, R.thenS_ok]
    dsimp only
    have cd : -(2 ^ 62) ≤ (k : Int) ∧ (k : Int) < 2 ^ 62 := by omega
    rw [if_pos cd, Int.toNat_natCast]
    exact e3
  have s4 : mSet 5 (mC (.str " and or not free untouched least most of since until single recipe take move drain wash pack ")) (envN tk x kv none) h3 = .nx (envN tk x kv (some (.d (.str w1)))) h3 := rfl
  have hx : x.cps.size ≤ 8 := by rw [p.n]; omega
  have s5 := e_nmC (tk := tk) (kv := kv) (h := h3) hx
  have go : F__law_name [.ref 0, .lst (tk.map D.str)] h = ((mSeq (mIfS nmC (mRet (mVar 3)) mSkip) nmF) (envN tk x kv (some (.d (.str w1)))) h3).fin := by
    refine (fnOf_eq 7 2 m__law_name _ h rfl).trans ?_
    rw [name_parts, mSeq_eq, s1, RS.seq_nx, mSeq_eq, s2, RS.seq_nx, mSeq_eq, s3, RS.seq_nx, mSeq_eq, s4, RS.seq_nx]
  rw [go]
  by_cases hb : (decide (x ∉ tk) && !hasSub bigW (" " ++ x ++ " ")) = true
  · obtain ⟨b1, b2⟩ := Bool.and_eq_true_iff.mp hb
    refine ⟨x, h3, ?_, g3.up (by omega), p.name (by omega) (by omega) fun hr => ?_, of_decide_eq_true b1⟩
    · rw [hb] at s5
      rw [mSeq_eq, mIfS_eq, s5, R.thenS_ok, pick_t]
      rfl
    · rw [res_big x hr] at b2
      cases b2
  · obtain ⟨y, ey, ny, hy⟩ := e_nmF hl x kv (some (.d (.str w1))) h3
    refine ⟨y, h3, ?_, g3.up (by omega), ny, hy⟩
    rw [Bool.eq_false_iff.mpr hb] at s5
    rw [mSeq_eq, mIfS_eq, s5, R.thenS_ok, pick_f]
    rw [show mSkip (envN tk x kv (some (.d (.str w1)))) h3 = .nx (envN tk x kv (some (.d (.str w1)))) h3 from rfl, RS.seq_nx, ey]
    rfl
/-! ### rows of names -/
structure Names (xs : List PySem.Str) : Prop where
  ok : ∀ x ∈ xs, NameOk x
  nodup : xs.Nodup
def nsB : MS := mAppend 3 (mA1 (fCallN 2 F__law_name []) (maCons (mVar 0) (maCons (m2 (fAdd false) (mVar 2) (mVar 3)) maNil)))
theorem ns_loop {t : Hc} {tk : List PySem.Str} {n : D} : ∀ (zs : List D) (m : Int) (xs : List PySem.Str) (kv : Option Sl) (h : Hc), BG t m h → m + 10 * zs.length < 2 ^ 50 → tk.length + xs.length + zs.length < 29 → Names xs → (∀ x ∈ xs, x ∉ tk) →
    ∃ xs' kv' h', forL (gtN 4) nsB zs [some (.d (.ref 0)), some (.d n), some (.d (.lst (tk.map D.str))), some (.ol (xs.map D.str)), kv] h = .nx [some (.d (.ref 0)), some (.d n), some (.d (.lst (tk.map D.str))), some (.ol (xs'.map D.str)), kv'] h' ∧ BG t (m + 10 * zs.length) h' ∧ Names xs' ∧ (∀ x ∈ xs', x ∉ tk) ∧ xs'.length = xs.length + zs.length := by
  intro zs
  induction zs with
  | nil =>
    intro m xs kv h g hm hl n1 n2
    exact ⟨xs, kv, h, rfl, by simpa using g, n1, n2, by simp⟩
  | cons z zs ih =>
    intro m xs kv h g hm hl n1 n2
    simp only [List.length_cons] at hm hl ⊢
    obtain ⟨y, h1, e1, g1, ny, hy⟩ := v_lname (tk := tk ++ xs) g (by omega) (by rw [List.length_append]; omega)
    have hy1 : y ∉ tk := fun z => hy (List.mem_append_left _ z)
    have hy2 : y ∉ xs := fun z => hy (List.mem_append_right _ z)
    obtain ⟨xs', kv', h', e4, g4, q1, q2, q3⟩ := ih (m + 10) (xs ++ [y]) (some (.d z)) h1 g1 (by omega) (by rw [List.length_append, List.length_singleton]; omega)
      ⟨fun x hx => by
        rcases List.mem_append.mp hx with hx | hx
        · exact n1.ok x hx
        · rw [List.mem_singleton.mp hx]; exact ny, List.nodup_append.mpr ⟨n1.nodup, by simp, fun a ha b hb => by
        rw [List.mem_singleton.mp hb]
        exact fun e => hy2 (e ▸ ha)⟩⟩ (fun x hx => by
        rcases List.mem_append.mp hx with hx | hx
        · exact n2 x hx
        · rw [List.mem_singleton.mp hx]; exact hy1)
    refine ⟨xs', kv', h', ?_, g4.up (by omega), q1, q2, by rw [q3, List.length_append, List.length_singleton]; omega⟩
    rw [List.map_append] at e1
    have ea : fAdd false (.d (.lst (tk.map D.str))) (.bl (xs.map D.str)) h = .ok (.d (.lst (tk.map D.str ++ xs.map D.str))) h := by
      show (if (tk.map D.str).length + (xs.map D.str).length ≤ 100000 then R.ok (Vl.ofL false (tk.map D.str ++ xs.map D.str)) h else .stuck) = _
      rw [if_pos (by rw [List.length_map, List.length_map]; omega)]
      rfl
    rw [forL_cons, ← e4]
    unfold nsB gtN
    have hs : xs.length < 100000 := by omega
    simp [ea, e1, mAppend, hs]
theorem v_lnames {t : Hc} {m : Int} {h : Hc} {tk : List PySem.Str} {n : Nat} (g : BG t m h) (hm : m < 2 ^ 49) (hl : tk.length + n < 29) : ∃ xs h', F__law_names [.ref 0, .int n, .lst (tk.map D.str)] h = .ok (.lst (xs.map D.str)) h' ∧ BG t (m + 300) h' ∧ Names xs ∧ (∀ x ∈ xs, x ∉ tk) ∧ xs.length = n := by
  have ln : (rangeD 0 n).length = n := rangeD_len 0 n
  obtain ⟨xs, kv, h1, e1, g1, q1, q2, q3⟩ := ns_loop (tk := tk) (n := .int n) (rangeD 0 n) m [] none h g (by omega) (by rw [ln]; simpa using hl) ⟨by simp, List.nodup_nil⟩ (by simp)
  rw [ln] at q3 g1
  refine ⟨xs, h1, ?_, g1.up (by omega), q1, q2, by simpa using q3⟩
  refine (fnOf_eq 5 3 m__law_names _ h rfl).trans ?_
  have p : m__law_names = mSeq (mSet 3 (mA1 (fLst true) maNil)) (mSeq (mForR (gtN 4) (maCons (mVar 1) maNil) nsB) (mFrz 3 (mRet (mVar 3)))) := rfl
  have s2 : mForR (gtN 4) (maCons (mVar 1) maNil) nsB [some (.d (.ref 0)), some (.d (.int n)), some (.d (.lst (tk.map D.str))), some (.ol []), none] h = .nx [some (.d (.ref 0)), some (.d (.int n)), some (.d (.lst (tk.map D.str))), some (.ol (xs.map D.str)), kv] h1 := by
    have ea : maCons (mVar 1) maNil [some (.d (.ref 0)), some (.d (.int n)), some (.d (.lst (tk.map D.str))), some (.ol []), none] h = .ok [.d (.int n)] h := rfl
    unfold mForR
    rw [ea, R.thenS_ok]
    dsimp only
    have cd : -(2 ^ 62) ≤ (n : Int) ∧ (n : Int) < 2 ^ 62 := by omega
    rw [if_pos cd, Int.toNat_natCast]
    exact e1
  rw [p, mSeq_eq, show mSet 3 (mA1 (fLst true) maNil) (mkEnv 5 [.ref 0, .int n, .lst (tk.map D.str)]) h = .nx [some (.d (.ref 0)), some (.d (.int n)), some (.d (.lst (tk.map D.str))), some (.ol []), none] h from rfl, RS.seq_nx, mSeq_eq, s2, RS.seq_nx]
  rfl
end G07

set_option Elab.async false
set_option linter.all false
set_option maxRecDepth 100000
set_option maxHeartbeats 4000000
set_option exponentiation.threshold 2000
namespace G07
open PySem L2 Vi
theorem sgn_cp : ∀ c ∈ sgnL, c < 0x110000 := by decide +kernel
theorem NameOk.lay {x : PySem.Str} (n : NameOk x) : PyData.strOk x = true := by
  unfold PyData.strOk
  rw [← Array.all_toList]
  exact List.all_eq_true.mpr fun c hc => decide_eq_true (sgn_cp c (n.all c hc))
/-! ### numbers drawn -/
theorem v_worth {t : Hc} {m : Int} {h : Hc} (g : BG t m h) (hm : m < 2 ^ 50) : ∃ q h', F__law_p1_worth [.ref 0] h = .ok (fr q) h' ∧ BG t (m + 10) h' ∧ sz q ≤ 130 := by
  obtain ⟨r, h1, e1, g1, r0, r1, _⟩ := v_draw (many := 16) g (by omega) (by omega) (by omega)
  have c6 : cPow 10 6 = true := by decide +kernel
  have c39 : cPow 10 39 = true := by decide +kernel
  by_cases w : r < 2
  · obtain ⟨d, h2, e2, g2, d0, d1, _⟩ := v_draw (many := 1000000) g1 (by omega) (by omega) (by omega)
    have d1 := d1 (by omega)
    obtain ⟨a, h3, e3, g3, a0, a1, _⟩ := v_draw (many := 1000000000000000000000000000000000000000) g2 (by omega) (by omega) (by omega)
    have a1 := a1 (by omega)
    obtain ⟨b, h4, e4, g4, b0, b1, _⟩ := v_draw (many := 1000000000000000000000000000000000000000) g3 (by omega) (by omega) (by omega)
    have b1 := b1 (by omega)
    have l := v_lowq (a := a - b) (b := 1 + d) (k := 130) (h := h4) (by omega) (by omega) (by omega)
    refine ⟨_, h4, ?_, g4.up (by omega), sz_le (sz_div (k := 130) (a := a - b) (b := 1 + d) (by omega) (by omega) (by omega))⟩
    refine (fnOf_eq 3 1 m__law_p1_worth _ h rfl).trans ?_
    unfold m__law_p1_worth
    simp [e1, w, c6, c39, e2, e3, e4, l]
  · by_cases w2 : r = 2
    · subst w2
      refine ⟨0, h1, ?_, g1.up (by omega), Nat.le_trans (sz_le sz_zero) (by omega)⟩
      refine (fnOf_eq 3 1 m__law_p1_worth _ h rfl).trans ?_
      have p : ∀ env h, asB (m2 (fEq false) (mVar 1) (mC (.int 2))) [some (.d (.ref 0)), some (.d (.int 2)), env] h = .ok true h := fun _ _ => rfl
      unfold m__law_p1_worth
      simp [e1, p]
    · obtain ⟨a, h3, e3, g3, a0, a1, _⟩ := v_draw (many := 13) g1 (by omega) (by omega) (by omega)
      have a1 := a1 (by omega)
      obtain ⟨bd, h4, e4, g4, hb⟩ := v_pick (xs := [.int 1, .int 1, .int 1, .int 2, .int 3, .int 4, .int 6, .int 12]) g3 (by omega) (by decide) (by decide)
      have : ∃ b : Int, bd = .int b ∧ 0 < b ∧ b ≤ 12 := by
        simp only [List.mem_cons, List.not_mem_nil, or_false] at hb
        rcases hb with rfl | rfl | rfl | rfl | rfl | rfl | rfl | rfl <;> exact ⟨_, rfl, by omega, by omega⟩
      obtain ⟨b, rfl, b0, b1⟩ := this
      have l := v_lowq (a := a - 6) (b := b) (k := 130) (h := h4) (by omega) (by omega) (by omega)
      refine ⟨_, h4, ?_, g4.up (by omega), sz_le (sz_div (k := 130) (a := a - 6) (b := b) (by omega) (by omega) (by omega))⟩
      refine (fnOf_eq 3 1 m__law_p1_worth _ h rfl).trans ?_
      have p : ∀ env h, asB (m2 (fEq false) (mVar 1) (mC (.int 2))) [some (.d (.ref 0)), some (.d (.int r)), env] h = .ok false h := fun env h => by
        refine asB_eq _ _ _ _ _ ?_
        show R.ok (Vl.d (.bl (PyData.eqv (.int r) (.int 2)))) h = _
        rw [eq_int, decide_eq_false w2]
      have dr : decide (r = 2) = false := decide_eq_false w2
      unfold m__law_p1_worth
      simp [e1, w, dr, e3, e4, l]
/-! ### pairs drawn -/
theorem pr_loop {t : Hc} {us : List Un} {n : D} (hu : 0 < us.length) (hul : us.length < 1000) : ∀ (xs : List D) (m : Int) (acc : List D) (h : Hc), BG t m h → m + 20 * xs.length < 2 ^ 40 → acc.length + xs.length < 1000 →
    ∃ (ps : List Pr) (h' : Hc), compL false (gtN 3) mYes (mA1 fTup (maCons (mA1 (fCallN 2 F__law_pick []) (maCons (mVar 0) (maCons (mVar 1) maNil))) (maCons (mA1 (fCallN 1 F__law_p1_worth []) (maCons (mVar 0) maNil)) maNil))) xs acc [some (.d (.ref 0)), some (.d (.lst (us.map uD))), some (.d n), none] h = .ok (.d (.lst (acc ++ ps.map pD))) h' ∧ BG t (m + 20 * xs.length) h' ∧ ps.length = xs.length ∧ (∀ p ∈ ps, p.1 ∈ us) ∧ (∀ p ∈ ps, sz p.2 ≤ 130)
  | [], m, acc, h, g, _, _ => ⟨[], h, by rw [List.map_nil, List.append_nil]; rfl, by simpa using g, rfl, (fun _ z => nomatch z), (fun _ z => nomatch z)⟩
  | x :: r, m, acc, h, g, hm, hl => by
    rw [List.length_cons] at hm hl
    obtain ⟨d, h1, e1, g1, hd⟩ := v_pick (xs := us.map uD) g (by omega) (by rw [List.length_map]; exact hu) (by rw [List.length_map]; omega)
    obtain ⟨u, hm1, rfl⟩ := List.mem_map.mp hd
    obtain ⟨q, h2, e2, g2, sq⟩ := v_worth g1 (by omega)
    obtain ⟨ps, h3, e3, g3, l3, m3, s3⟩ := pr_loop hu hul (n := n) r (m + 1 + 10) (acc ++ [pD (u, q)]) h2 g2 (by omega) (by rw [List.length_append, List.length_singleton]; omega)
    refine ⟨(u, q) :: ps, h3, ?_, g3.up (by rw [List.length_cons]; omega), by rw [List.length_cons, List.length_cons, l3], fun p hp => ?_, fun p hp => ?_⟩
    · have b1 : mA1 (fCallN 2 F__law_pick []) (maCons (mVar 0) (maCons (mVar 1) maNil)) [some (.d (.ref 0)), some (.d (.lst (us.map uD))), some (.d n), some (.d x)] h = .ok (.d (uD u)) h1 := call2 (h1 := h) (h2 := h) rfl rfl e1
      have b2 : mA1 (fCallN 1 F__law_p1_worth []) (maCons (mVar 0) maNil) [some (.d (.ref 0)), some (.d (.lst (us.map uD))), some (.d n), some (.d x)] h1 = .ok (.d (fr q)) h2 := by
        show ((F__law_p1_worth [.ref 0] h1).bind fun d h' => R.ok (Vl.d d) h') = _
        rw [e2]
        rfl
      have b3 : mA1 fTup (maCons (mA1 (fCallN 2 F__law_pick []) (maCons (mVar 0) (maCons (mVar 1) maNil))) (maCons (mA1 (fCallN 1 F__law_p1_worth []) (maCons (mVar 0) maNil)) maNil)) [some (.d (.ref 0)), some (.d (.lst (us.map uD))), some (.d n), some (.d x)] h = .ok (.d (pD (u, q))) h2 := by
        rw [mA1_eq, maCons_eq, b1, R.bind_ok, maCons_eq, b2]
        rfl
      show (match mA1 fTup (maCons (mA1 (fCallN 2 F__law_pick []) (maCons (mVar 0) (maCons (mVar 1) maNil))) (maCons (mA1 (fCallN 1 F__law_p1_worth []) (maCons (mVar 0) maNil)) maNil)) [some (.d (.ref 0)), some (.d (.lst (us.map uD))), some (.d n), some (.d x)] h with
          | .ok (.d y) h2 => if acc.length < 16000000 then compL false (gtN 3) mYes _ r (acc ++ [y]) [some (.d (.ref 0)), some (.d (.lst (us.map uD))), some (.d n), none] h2 else .stuck
          | _ => .stuck) = _
      rw [b3]
      dsimp only
      rw [if_pos (by omega), e3, List.append_assoc]
      rfl
    · rcases List.mem_cons.mp hp with rfl | hp
      · exact hm1
      · exact m3 p hp
    · rcases List.mem_cons.mp hp with rfl | hp
      · exact sq
      · exact s3 p hp
theorem v_pairs {t : Hc} {m : Int} {h : Hc} {us : List Un} {n : Nat} (g : BG t m h) (hm : m < 2 ^ 39) (hu : 0 < us.length) (hul : us.length < 1000) (hn : n ≤ 20) : ∃ (ps : List Pr) (h' : Hc), F__law_p1_pairs [.ref 0, .lst (us.map uD), .int n] h = .ok (.lst (ps.map pD)) h' ∧ BG t (m + 400) h' ∧ ps.length = n ∧ (∀ p ∈ ps, p.1 ∈ us) ∧ (∀ p ∈ ps, sz p.2 ≤ 130) := by
  have ln : (rangeD 0 n).length = n := rangeD_len 0 n
  obtain ⟨ps, h1, e, g1, l1, m1, s1⟩ := pr_loop (t := t) (us := us) (n := .int n) hu hul (rangeD 0 n) m [] h g (by omega) (by rw [ln]; simp only [List.length_nil]; omega)
  rw [ln] at g1 l1
  refine ⟨ps, h1, ?_, g1.up (by omega), l1, m1, s1⟩
  refine (fnOf_eq 4 3 m__law_p1_pairs _ h rfl).trans ?_
  have ec : mCompR false [3] (gtN 3) mYes (mA1 fTup (maCons (mA1 (fCallN 2 F__law_pick []) (maCons (mVar 0) (maCons (mVar 1) maNil))) (maCons (mA1 (fCallN 1 F__law_p1_worth []) (maCons (mVar 0) maNil)) maNil))) (maCons (mVar 2) maNil) (mkEnv 4 [.ref 0, .lst (us.map uD), .int n]) h = .ok (.d (.lst (ps.map pD))) h1 := by
    have ea : maCons (mVar 2) maNil (mkEnv 4 [.ref 0, .lst (us.map uD), .int n]) h = .ok [.d (.int n)] h := rfl
    unfold mCompR
    rw [ea, R.bind_ok]
    dsimp only
    have cd : -(2 ^ 62) ≤ (n : Int) ∧ (n : Int) < 2 ^ 62 := by omega
    rw [if_pos cd, Int.toNat_natCast]
    exact e
  show (mRet _ (mkEnv 4 [.ref 0, .lst (us.map uD), .int n]) h).fin = _
  rw [ret_of ec]
  rfl
end G07

set_option Elab.async false
set_option linter.all false
set_option maxRecDepth 100000
set_option maxHeartbeats 4000000
set_option exponentiation.threshold 2000
namespace G07
open PySem L2 Vi
/-! ### unknowns drawn -/
def prod (ls fs : List PySem.Str) : List Un := ls.flatMap fun l => fs.map fun f => (l, f)
theorem app_eq {i : Nat} {env : Vi.Env} {e : ME} {xs : List D} {d : D} {h h' : Hc} (h5 : env[i]? = some (some (.ol xs))) (he : e env h = .ok (.d d) h') (hl : xs.length < 100000) : mAppend i e env h = .nx (env.set i (some (.ol (xs ++ [d])))) h' := by
  unfold mAppend
  rw [h5]
  dsimp only
  rw [he, R.thenS_ok]
  dsimp only
  rw [if_pos hl]
abbrev envQ (r a b : D) (acc : List D) (o4 o5 : Option Sl) : Vi.Env := [some (.d r), some (.d a), some (.d b), some (.ol acc), o4, o5]
def inB : MS := mAppend 3 (mA1 fTup (maCons (mVar 4) (maCons (mVar 5) maNil)))
theorem in_loop {h : Hc} {r a b : D} (l : PySem.Str) : ∀ (fs : List PySem.Str) (acc : List D) (o5 : Option Sl), acc.length + fs.length < 1000 →
    ∃ o5', forL (gtN 5) inB (fs.map D.str) (envQ r a b acc (some (.d (.str l))) o5) h = .nx (envQ r a b (acc ++ fs.map fun f => uD (l, f)) (some (.d (.str l))) o5') h
  | [], acc, o5, _ => ⟨o5, by rw [List.map_nil, List.map_nil, List.append_nil]; rfl⟩
  | f :: fs, acc, o5, hl => by
    rw [List.length_cons] at hl
    obtain ⟨o5', e⟩ := in_loop (h := h) (r := r) (a := a) (b := b) l fs (acc ++ [uD (l, f)]) (some (.d (.str f))) (by rw [List.length_append, List.length_singleton]; omega)
    refine ⟨o5', ?_⟩
    have w : inB (envQ r a b acc (some (.d (.str l))) (some (.d (.str f)))) h = .nx (envQ r a b (acc ++ [uD (l, f)]) (some (.d (.str l))) (some (.d (.str f)))) h := by
      unfold inB
      rw [app_eq (xs := acc) (d := uD (l, f)) rfl rfl (by omega)]
      rfl
    rw [List.map_cons, forL_cons]
    show ((inB (envQ r a b acc (some (.d (.str l))) (some (.d (.str f)))) h).again _) = _
    rw [w]
    rw [List.append_assoc] at e
    exact e
def outB : MS := mFor (gtN 5) (mVar 2) inB
theorem out_loop {h : Hc} {r a : D} (fs : List PySem.Str) (hf : fs.length ≤ 5) : ∀ (ls : List PySem.Str) (acc : List D) (o4 o5 : Option Sl), acc.length + 5 * ls.length < 500 →
    ∃ o4' o5', forL (gtN 4) outB (ls.map D.str) (envQ r a (.lst (fs.map D.str)) acc o4 o5) h = .nx (envQ r a (.lst (fs.map D.str)) (acc ++ (prod ls fs).map uD) o4' o5') h
  | [], acc, o4, o5, _ => ⟨o4, o5, by
    show RS.nx (envQ r a (.lst (fs.map D.str)) acc o4 o5) h = .nx (envQ r a (.lst (fs.map D.str)) (acc ++ []) o4 o5) h
    rw [List.append_nil]⟩
  | l :: ls, acc, o4, o5, hl => by
    rw [List.length_cons] at hl
    obtain ⟨o5', e⟩ := in_loop (h := h) (r := r) (a := a) (b := .lst (fs.map D.str)) l fs acc o5 (by omega)
    obtain ⟨o4'', o5'', e2⟩ := out_loop (h := h) (r := r) (a := a) fs hf ls (acc ++ fs.map fun f => uD (l, f)) (some (.d (.str l))) o5' (by rw [List.length_append, List.length_map]; omega)
    refine ⟨o4'', o5'', ?_⟩
    rw [List.map_cons, forL_cons]
    show ((forL (gtN 5) inB (fs.map D.str) (envQ r a (.lst (fs.map D.str)) acc (some (.d (.str l))) o5) h).again _) = _
    rw [e]
    have ep : (prod (l :: ls) fs).map uD = (fs.map fun f => uD (l, f)) ++ (prod ls fs).map uD := by
      unfold prod
      rw [List.flatMap_cons, List.map_append, List.map_map]
      rfl
    rw [ep, ← List.append_assoc]
    exact e2
theorem prod_nodup {ls fs : List PySem.Str} (h1 : ls.Nodup) (h2 : fs.Nodup) : (prod ls fs).Nodup := by
  induction ls with
  | nil => exact List.nodup_nil
  | cons l r ih =>
    obtain ⟨n1, n2⟩ := List.nodup_cons.mp h1
    show ((fs.map fun f => (l, f)) ++ prod r fs).Nodup
    refine List.nodup_append.mpr ⟨?_, ih n2, fun a ha b hb e => ?_⟩
    · exact List.pairwise_map.mpr (h2.imp fun hn e => hn (congrArg Prod.snd e))
    · obtain ⟨f, _, rfl⟩ := List.mem_map.mp ha
      subst e
      unfold prod at hb
      obtain ⟨l', hl, hm⟩ := List.mem_flatMap.mp hb
      obtain ⟨f', _, e⟩ := List.mem_map.mp hm
      have q : l' = l := congrArg Prod.fst e
      exact n1 (q ▸ hl)
theorem prod_mem {ls fs : List PySem.Str} {u : Un} (h : u ∈ prod ls fs) : u.1 ∈ ls ∧ u.2 ∈ fs := by
  unfold prod at h
  obtain ⟨l, hl, hm⟩ := List.mem_flatMap.mp h
  obtain ⟨f, hf, rfl⟩ := List.mem_map.mp hm
  exact ⟨hl, hf⟩
theorem prod_len (ls fs : List PySem.Str) : (prod ls fs).length = ls.length * fs.length := by
  induction ls with
  | nil => simp [prod]
  | cons l r ih =>
    show ((fs.map fun f => (l, f)) ++ prod r fs).length = (r.length + 1) * fs.length
    rw [List.length_append, List.length_map, ih, Nat.add_mul, Nat.one_mul, Nat.add_comm]
/-- what is drawn as unknowns -/
structure Uns (us : List Un) : Prop where
  n : us.Nodup
  ok : ∀ u ∈ us, NmU u
  l0 : 0 < us.length
  l9 : us.length ≤ 9
theorem v_unknowns {t : Hc} {m : Int} {h : Hc} (g : BG t m h) (hm : m < 2 ^ 40) : ∃ (us : List Un) (h' : Hc), F__law_p1_unknowns [.ref 0] h = .ok (.lst (us.map uD)) h' ∧ BG t (m + 700) h' ∧ Uns us := by
  obtain ⟨r, h1, e1, g1, r0, r1, _⟩ := v_draw (many := 3) g (by omega) (by omega) (by omega)
  have r1 := r1 (by omega)
  obtain ⟨ls, h2, e2, g2, n2, _, l2⟩ := v_lnames (tk := []) (n := (1 + r).toNat) g1 (by omega) (by simp only [List.length_nil]; omega)
  have e2 : F__law_names [.ref 0, .int (1 + r), .lst []] h1 = .ok (.lst (ls.map D.str)) h2 := by
    have z : (((1 + r).toNat : Nat) : Int) = 1 + r := by omega
    rw [← z]
    exact e2
  obtain ⟨s, h3, e3, g3, s0, s1, _⟩ := v_draw (many := 3) g2 (by omega) (by omega) (by omega)
  have s1 := s1 (by omega)
  obtain ⟨fs, h4, e4, g4, n4, _, l4⟩ := v_lnames (tk := []) (n := (1 + s).toNat) g3 (by omega) (by simp only [List.length_nil]; omega)
  have e4 : F__law_names [.ref 0, .int (1 + s), .lst []] h3 = .ok (.lst (fs.map D.str)) h4 := by
    have z : (((1 + s).toNat : Nat) : Int) = 1 + s := by omega
    rw [← z]
    exact e4
  obtain ⟨o4, o5, e5⟩ := out_loop (h := h4) (r := .ref 0) (a := .lst (ls.map D.str)) fs (by omega) ls [] none none (by simp only [List.length_nil]; omega)
  have ll : ls.length ≤ 3 := by omega
  have lf : fs.length ≤ 3 := by omega
  refine ⟨prod ls fs, h4, ?_, g4.up (by omega), ⟨prod_nodup n2.nodup n4.nodup, fun u hu => ?_, ?_, ?_⟩⟩
  · refine (fnOf_eq 6 1 m__law_p1_unknowns _ h rfl).trans ?_
    have b1 : ∀ (env : Vi.Env) (h0 h1 h2 : Hc) (r : Int) (xs : List PySem.Str), (∀ h, mVar 0 env h = .ok (.d (.ref 0)) h) → F__law_draw [.ref 0, .int 3] h0 = .ok (.int r) h1 → F__law_names [.ref 0, .int (1 + r), .lst []] h1 = .ok (.lst (xs.map D.str)) h2 → mA1 (fCallN 3 F__law_names []) (maCons (mVar 0) (maCons (m2 (fAdd false) (mC (.int 1)) (mA1 (fCallN 2 F__law_draw []) (maCons (mVar 0) (maCons (mC (.int 3)) maNil)))) (maCons (mA1 (fLst false) maNil) maNil))) env h0 = .ok (.d (.lst (xs.map D.str))) h2 := by
      intro env h0 h1 h2 r xs hv d1 d2
      have a1 : mA1 (fCallN 2 F__law_draw []) (maCons (mVar 0) (maCons (mC (.int 3)) maNil)) env h0 = .ok (.d (.int r)) h1 := call2 (h1 := h0) (h2 := h0) (hv h0) rfl d1
      have a2 : m2 (fAdd false) (mC (.int 1)) (mA1 (fCallN 2 F__law_draw []) (maCons (mVar 0) (maCons (mC (.int 3)) maNil))) env h0 = .ok (.d (.int (1 + r))) h1 := by
        rw [m2_eq, show mC (.int 1) env h0 = .ok (.d (.int 1)) h0 from rfl, R.bind_ok, a1]
        rfl
      rw [mA1_eq, maCons_eq, hv, R.bind_ok, maCons_eq, a2, R.bind_ok]
      show ((F__law_names [.ref 0, .int (1 + r), .lst []] h1).bind fun d h' => R.ok (Vl.d d) h') = _
      rw [d2]
      rfl
    have p : m__law_p1_unknowns = mSeq (mSet 1 (mA1 (fCallN 3 F__law_names []) (maCons (mVar 0) (maCons (m2 (fAdd false) (mC (.int 1)) (mA1 (fCallN 2 F__law_draw []) (maCons (mVar 0) (maCons (mC (.int 3)) maNil)))) (maCons (mA1 (fLst false) maNil) maNil))))) (mSeq (mSet 2 (mA1 (fCallN 3 F__law_names []) (maCons (mVar 0) (maCons (m2 (fAdd false) (mC (.int 1)) (mA1 (fCallN 2 F__law_draw []) (maCons (mVar 0) (maCons (mC (.int 3)) maNil)))) (maCons (mA1 (fLst false) maNil) maNil))))) (mSeq (mSet 3 (mA1 (fLst true) maNil)) (mSeq (mFor (gtN 4) (mVar 1) outB) (mFrz 3 (mRet (mVar 3)))))) := rfl
    have w1 : mSet 1 (mA1 (fCallN 3 F__law_names []) (maCons (mVar 0) (maCons (m2 (fAdd false) (mC (.int 1)) (mA1 (fCallN 2 F__law_draw []) (maCons (mVar 0) (maCons (mC (.int 3)) maNil)))) (maCons (mA1 (fLst false) maNil) maNil)))) (mkEnv 6 [.ref 0]) h = .nx [some (.d (.ref 0)), some (.d (.lst (ls.map D.str))), none, none, none, none] h2 := by
      unfold mSet
      rw [b1 _ _ _ _ _ _ (fun _ => rfl) e1 e2]
      rfl
    have w2 : mSet 2 (mA1 (fCallN 3 F__law_names []) (maCons (mVar 0) (maCons (m2 (fAdd false) (mC (.int 1)) (mA1 (fCallN 2 F__law_draw []) (maCons (mVar 0) (maCons (mC (.int 3)) maNil)))) (maCons (mA1 (fLst false) maNil) maNil)))) [some (.d (.ref 0)), some (.d (.lst (ls.map D.str))), none, none, none, none] h2 = .nx [some (.d (.ref 0)), some (.d (.lst (ls.map D.str))), some (.d (.lst (fs.map D.str))), none, none, none] h4 := by
      unfold mSet
      rw [b1 _ _ _ _ _ _ (fun _ => rfl) e3 e4]
      rfl
    rw [p, mSeq_eq, w1, RS.seq_nx, mSeq_eq, w2, RS.seq_nx, mSeq_eq, show mSet 3 (mA1 (fLst true) maNil) [some (.d (.ref 0)), some (.d (.lst (ls.map D.str))), some (.d (.lst (fs.map D.str))), none, none, none] h4 = .nx (envQ (.ref 0) (.lst (ls.map D.str)) (.lst (fs.map D.str)) [] none none) h4 from rfl, RS.seq_nx, mSeq_eq]
    have w4 : mFor (gtN 4) (mVar 1) outB (envQ (.ref 0) (.lst (ls.map D.str)) (.lst (fs.map D.str)) [] none none) h4 = .nx (envQ (.ref 0) (.lst (ls.map D.str)) (.lst (fs.map D.str)) ([] ++ (prod ls fs).map uD) o4 o5) h4 := e5
    rw [w4, RS.seq_nx]
    rfl
  · obtain ⟨a1, a2⟩ := prod_mem hu
    exact ⟨(n2.ok _ a1).lay, (n4.ok _ a2).lay⟩
  · rw [prod_len]
    exact Nat.mul_pos (by omega) (by omega)
  · rw [prod_len]
    exact Nat.mul_le_mul ll lf
end G07

set_option Elab.async false
set_option linter.all false
set_option maxRecDepth 100000
set_option maxHeartbeats 4000000
set_option exponentiation.threshold 2000
namespace G07
open PySem L2 Vi
/-! ### a point drawn -/
theorem tupKs_u (us : List Un) : tupKs? g0.kc (us.map uD) = some (us.map ky) := by
  induction us with
  | nil => rfl
  | cons u r ih =>
    show (if g0.kc [.str u.1, .str u.2] then none else (match keys? [.str u.1, .str u.2], tupKs? g0.kc (r.map uD) with
      | some ks, some kss => some (ks :: kss)
      | _, _ => none)) = _
    rw [kc_un, if_neg Bool.false_ne_true, ih]
    rfl
theorem sort_u {us : List Un} (h0 : 0 < us.length) : sortD? g0.kc (us.map uD) = some ((srtU us).map uD) := by
  unfold sortD?
  have e : keys? (us.map uD) = none := by
    cases us with
    | nil => cases h0
    | cons u r => rfl
  rw [e]
  dsimp only
  rw [tupKs_u]
  dsimp only
  rw [if_pos (compat_all us), ← srtU_ky, List.map_map]
  rfl
abbrev envP (r x : D) (acc : List D) (o : Option Sl) : Vi.Env := [some (.d r), some (.d x), some (.ol acc), o]
def ptB : MS := mIfS (asB (m2 fGt (mA1 (fCallN 2 F__law_draw []) (maCons (mVar 0) (maCons (mC (.int 4)) maNil))) (mC (.int 0)))) (mAppend 2 (mA1 fTup (maCons (mVar 3) (maCons (mA1 (fCallN 1 F__law_p1_worth []) (maCons (mVar 0) maNil)) maNil)))) mSkip
theorem pt_loop {t : Hc} {x : D} : ∀ (vs : List Un) (m : Int) (acc : List Pr) (o : Option Sl) (h : Hc), BG t m h → m + 20 * vs.length < 2 ^ 40 → acc.length + vs.length < 1000 →
    ∃ (Q : List Pr) (o' : Option Sl) (h' : Hc), forL (gtN 3) ptB (vs.map uD) (envP (.ref 0) x (acc.map pD) o) h = .nx (envP (.ref 0) x ((acc ++ Q).map pD) o') h' ∧ BG t (m + 20 * vs.length) h' ∧ (Q.map (·.1)).Sublist vs ∧ (∀ p ∈ Q, sz p.2 ≤ 130)
  | [], m, acc, o, h, g, _, _ => ⟨[], o, h, by rw [List.append_nil]; rfl, by simpa using g, List.Sublist.refl _, (fun _ z => nomatch z)⟩
  | v :: vs, m, acc, o, h, g, hm, hl => by
    rw [List.length_cons] at hm hl
    obtain ⟨r, h1, e1, g1, r0, r1, _⟩ := v_draw (many := 4) g (by omega) (by omega) (by omega)
    have c : ∀ env h0, mVar 0 env h0 = .ok (.d (.ref 0)) h0 → F__law_draw [.ref 0, .int 4] h0 = .ok (.int r) h1 → asB (m2 fGt (mA1 (fCallN 2 F__law_draw []) (maCons (mVar 0) (maCons (mC (.int 4)) maNil))) (mC (.int 0))) env h0 = .ok (decide ((0 : Int) < r)) h1 := fun env h0 hv d => by
      have a1 : mA1 (fCallN 2 F__law_draw []) (maCons (mVar 0) (maCons (mC (.int 4)) maNil)) env h0 = .ok (.d (.int r)) h1 := call2 (h1 := h0) (h2 := h0) hv rfl d
      refine asB_eq _ _ _ _ _ ?_
      rw [m2_eq, a1]
      rfl
    by_cases hr : (0 : Int) < r
    · obtain ⟨q, h2, e2, g2, sq⟩ := v_worth g1 (by omega)
      obtain ⟨Q, o', h3, e3, g3, s3, z3⟩ := pt_loop (x := x) vs (m + 1 + 10) (acc ++ [(v, q)]) (some (.d (uD v))) h2 g2 (by omega) (by rw [List.length_append, List.length_singleton]; omega)
      refine ⟨(v, q) :: Q, o', h3, ?_, g3.up (by rw [List.length_cons]; omega), ?_, fun p hp => ?_⟩
      · have w : ptB (envP (.ref 0) x (acc.map pD) (some (.d (uD v)))) h = .nx (envP (.ref 0) x ((acc ++ [(v, q)]).map pD) (some (.d (uD v)))) h2 := by
          have a2 : mA1 fTup (maCons (mVar 3) (maCons (mA1 (fCallN 1 F__law_p1_worth []) (maCons (mVar 0) maNil)) maNil)) (envP (.ref 0) x (acc.map pD) (some (.d (uD v)))) h1 = .ok (.d (pD (v, q))) h2 := by
            have a3 : mA1 (fCallN 1 F__law_p1_worth []) (maCons (mVar 0) maNil) (envP (.ref 0) x (acc.map pD) (some (.d (uD v)))) h1 = .ok (.d (fr q)) h2 := by
              show ((F__law_p1_worth [.ref 0] h1).bind fun d h' => R.ok (Vl.d d) h') = _
              rw [e2]
              rfl
            rw [mA1_eq, maCons_eq, show mVar 3 (envP (.ref 0) x (acc.map pD) (some (.d (uD v)))) h1 = .ok (.d (uD v)) h1 from rfl, R.bind_ok, maCons_eq, a3]
            rfl
          unfold ptB
          rw [mIfS_eq, c _ _ rfl e1, decide_eq_true hr, R.thenS_ok, pick_t, app_eq (xs := acc.map pD) rfl a2 (by rw [List.length_map]; omega), List.map_append]
          rfl
        rw [List.map_cons, forL_cons]
        show ((ptB (envP (.ref 0) x (acc.map pD) (some (.d (uD v)))) h).again _) = _
        rw [w]
        rw [List.append_assoc] at e3
        exact e3
      · exact List.Sublist.cons_cons v s3
      · rcases List.mem_cons.mp hp with rfl | hp
        · exact sq
        · exact z3 p hp
    · obtain ⟨Q, o', h3, e3, g3, s3, z3⟩ := pt_loop (x := x) vs (m + 1) acc (some (.d (uD v))) h1 g1 (by omega) (by omega)
      refine ⟨Q, o', h3, ?_, g3.up (by rw [List.length_cons]; omega), List.Sublist.cons v s3, z3⟩
      have w : ptB (envP (.ref 0) x (acc.map pD) (some (.d (uD v)))) h = .nx (envP (.ref 0) x (acc.map pD) (some (.d (uD v)))) h1 := by
        unfold ptB
        rw [mIfS_eq, c _ _ rfl e1, decide_eq_false hr]
        rfl
      rw [List.map_cons, forL_cons]
      show ((ptB (envP (.ref 0) x (acc.map pD) (some (.d (uD v)))) h).again _) = _
      rw [w]
      exact e3
/-- a point: different unknowns, small numbers -/
structure Pt (Q : List Pr) : Prop where
  n : (Q.map (·.1)).Nodup
  ok : ∀ p ∈ Q, NmU p.1
  s : ∀ p ∈ Q, sz p.2 ≤ 130
  l : Q.length < 90000
theorem v_point {t : Hc} {m : Int} {h : Hc} {us : List Un} (g : BG t m h) (hm : m < 2 ^ 39) (hn : us.Nodup) (ho : ∀ u ∈ us, NmU u) (h0 : 0 < us.length) (hl : us.length ≤ 20) : ∃ (Q : List Pr) (h' : Hc), F__law_p1_point [.ref 0, .lst (us.map uD)] h = .ok (.xtup (Q.map pD)) h' ∧ BG t (m + 400) h' ∧ Pt Q := by
  have hp := srtU_perm us
  have ls : (srtU us).length ≤ 20 := by rw [hp.length_eq]; exact hl
  obtain ⟨Q, o', h1, e, g1, sb, sq⟩ := pt_loop (x := .lst (us.map uD)) (srtU us) m [] none h g (by omega) (by simp only [List.length_nil]; omega)
  refine ⟨Q, h1, ?_, g1.up (by omega), ⟨(hp.nodup_iff.mpr hn).sublist sb, fun p hp' => ?_, sq, ?_⟩⟩
  · refine (fnOf_eq 4 2 m__law_p1_point _ h rfl).trans ?_
    have p : m__law_p1_point = mSeq (mSet 2 (mA1 (fLst true) maNil)) (mSeq (mFor (gtN 3) (mA1 (fSorted g0.kc false) (maCons (mVar 1) maNil)) ptB) (mFrz 2 (mRet (mA1 fTupleX (maCons (mVar 2) maNil))))) := rfl
    have es : mA1 (fSorted g0.kc false) (maCons (mVar 1) maNil) (envP (.ref 0) (.lst (us.map uD)) [] none) h = .ok (.d (.lst ((srtU us).map uD))) h := by
      show (match sortD? g0.kc (us.map uD) with
        | some es => R.ok (Vl.ofL false es) h
        | none => .stuck) = _
      rw [sort_u h0]
      rfl
    have w : mFor (gtN 3) (mA1 (fSorted g0.kc false) (maCons (mVar 1) maNil)) ptB (envP (.ref 0) (.lst (us.map uD)) [] none) h = .nx (envP (.ref 0) (.lst (us.map uD)) (([] ++ Q).map pD) o') h1 := by
      unfold mFor
      rw [es, R.thenS_ok]
      exact e
    rw [p, mSeq_eq, show mSet 2 (mA1 (fLst true) maNil) (mkEnv 4 [.ref 0, .lst (us.map uD)]) h = .nx (envP (.ref 0) (.lst (us.map uD)) [] none) h from rfl, RS.seq_nx, mSeq_eq, w, RS.seq_nx]
    rfl
  · have := sb.subset (List.mem_map.mpr ⟨p, hp', rfl⟩)
    exact ho _ (hp.mem_iff.mp this)
  · have := sb.length_le
    rw [List.length_map] at this
    omega
theorem pt_lk {Q : List Pr} (p : Pt Q) (u : Un) : sz (lk Q u) ≤ 130 := by
  have := p.s
  clear p
  induction Q with
  | nil => exact Nat.le_trans (sz_le sz_zero) (by omega)
  | cons p r ih =>
    unfold lk
    split
    · exact this p (List.mem_cons_self ..)
    · exact ih fun q hq => this q (List.mem_cons_of_mem _ hq)
end G07

set_option Elab.async false
set_option linter.all false
set_option maxRecDepth 100000
set_option maxHeartbeats 4000000
set_option exponentiation.threshold 2000
namespace G07
open PySem L2 Vi
/-! ### sizes of parts -/
def tsz : List Pr → Nat
  | [] => 0
  | p :: r => sz p.2 + 1 + tsz r
def ssum (L : List Pr) : List Un → Nat
  | [] => 0
  | u :: r => wsum L u + ssum L r
theorem ssum_cons (p : Pr) (r : List Pr) : ∀ (us : List Un), us.Nodup → ssum (p :: r) us ≤ sz p.2 + 1 + ssum r us ∧ (p.1 ∉ us → ssum (p :: r) us = ssum r us)
  | [], _ => ⟨Nat.zero_le _, fun _ => rfl⟩
  | u :: us, hn => by
    obtain ⟨n1, n2⟩ := List.nodup_cons.mp hn
    obtain ⟨h1, h2⟩ := ssum_cons p r us n2
    have e : ssum (p :: r) (u :: us) = (if p.1 = u then sz p.2 + 1 else 0) + wsum r u + ssum (p :: r) us := rfl
    have e2 : ssum r (u :: us) = wsum r u + ssum r us := rfl
    by_cases h : p.1 = u
    · have := h2 (h ▸ n1)
      rw [e, e2, if_pos h, this]
      refine ⟨by omega, fun z => absurd (h ▸ List.mem_cons_self ..) z⟩
    · rw [e, e2, if_neg h]
      refine ⟨by omega, fun z => ?_⟩
      have := h2 fun w => z (List.mem_cons_of_mem _ w)
      omega
theorem ssum_le (L : List Pr) {us : List Un} (hn : us.Nodup) : ssum L us ≤ tsz L := by
  induction L with
  | nil =>
    have : ∀ us : List Un, ssum [] us = 0 := fun us => by
      induction us with
      | nil => rfl
      | cons u r ih => show 0 + ssum [] r = 0; omega
    rw [this]
    exact Nat.zero_le _
  | cons p r ih =>
    have := (ssum_cons p r us hn).1
    show ssum (p :: r) us ≤ sz p.2 + 1 + tsz r
    omega
theorem tsz_le {K n : Nat} {L : List Pr} (b : Bp K n L) : tsz L ≤ (K + 1) * n := by
  refine Nat.le_trans ?_ (Nat.mul_le_mul_left (K + 1) b.n)
  have := b.k
  clear b
  induction L with
  | nil => exact Nat.zero_le _
  | cons p r ih =>
    have h1 := this p (List.mem_cons_self ..)
    have h2 := ih fun q hq => this q (List.mem_cons_of_mem _ hq)
    show sz p.2 + 1 + tsz r ≤ (K + 1) * (r.length + 1)
    rw [Nat.mul_add, Nat.mul_one]
    omega
theorem vs_parts (L : List Pr) : ∀ us : List Un, vsum 130 (us.map fun u => (u, tot L u)) ≤ ssum L us + 132 * us.length
  | [] => Nat.zero_le _
  | u :: r => by
    have h1 := vs_parts L r
    have h2 := sz_le (tot_sz L u)
    show sz (tot L u) + 130 + 1 + vsum 130 (r.map fun u => (u, tot L u)) ≤ wsum L u + ssum L r + 132 * (r.length + 1)
    omega
/-- parts that are as they are due -/
structure Ga (A : List Pr) : Prop where
  n : ∀ p ∈ A, NmU p.1
  s : ∀ p ∈ A, sz p.2 ≤ 7000
  l : A.length < 90000
  v : 1 + vsum 130 A ≤ 7000
theorem kept_len (L : List Pr) : (kept L).length ≤ L.length := by
  have h : (kept L) ⊆ L.map (·.1) := fun u hu => by
    have := kept_mem.mp hu
    exact Classical.byContradiction fun z => this (tot_out z)
  have := List.Nodup.length_le_of_subset (kept_nodup L) h
  rwa [List.length_map] at this
theorem parts_ga {K n : Nat} {L : List Pr} (b : Bp K n L) (h1 : (K + 1) * n ≤ 4000) (h2 : n ≤ 16) (hn : ∀ p ∈ L, NmU p.1) : Ga (parts L) := by
  have hk := kept_len L
  have bn := b.n
  refine ⟨fun p hp => ?_, fun p hp => ?_, ?_, ?_⟩
  · obtain ⟨u, hu, rfl⟩ := List.mem_map.mp hp
    have hm : u ∈ L.map (·.1) := Classical.byContradiction fun z => kept_mem.mp hu (tot_out z)
    obtain ⟨q, hq, e⟩ := List.mem_map.mp hm
    rw [← e]
    exact hn q hq
  · obtain ⟨u, hu, rfl⟩ := List.mem_map.mp hp
    have := sz_le (tot_sz L u)
    have := b.w u
    show sz (tot L u) ≤ 7000
    omega
  · show ((kept L).map _).length < 90000
    rw [List.length_map]
    omega
  · have a1 := vs_parts L (kept L)
    have a2 := ssum_le L (kept_nodup L)
    have a3 := tsz_le b
    show 1 + vsum 130 ((kept L).map fun u => (u, tot L u)) ≤ 7000
    omega
theorem parts_sz {K n : Nat} {L : List Pr} (b : Bp K n L) (p : Pr) (hp : p ∈ parts L) : sz p.2 ≤ (K + 1) * n + 1 := by
  obtain ⟨u, hu, rfl⟩ := List.mem_map.mp hp
  have := sz_le (tot_sz L u)
  have := b.w u
  show sz (tot L u) ≤ _
  omega
theorem wsum_parts {K n : Nat} {L : List Pr} (b : Bp K n L) (u : Un) : wsum (parts L) u ≤ (K + 1) * n + 2 := by
  have hw := b.w
  have go : ∀ us : List Un, us.Nodup → wsum (us.map fun u => (u, tot L u)) u ≤ (K + 1) * n + 2 ∧ (u ∉ us → wsum (us.map fun u => (u, tot L u)) u = 0) := fun us hn => by
    induction us with
    | nil => exact ⟨Nat.zero_le _, fun _ => rfl⟩
    | cons v r ih =>
      obtain ⟨n1, n2⟩ := List.nodup_cons.mp hn
      obtain ⟨h1, h2⟩ := ih n2
      have e : wsum ((v :: r).map fun u => (u, tot L u)) u = (if v = u then sz (tot L v) + 1 else 0) + wsum (r.map fun u => (u, tot L u)) u := rfl
      rw [e]
      by_cases h : v = u
      · subst h
        have := sz_le (tot_sz L v)
        have := hw v
        rw [if_pos rfl, h2 n1]
        exact ⟨by omega, fun z => absurd (List.mem_cons_self ..) z⟩
      · rw [if_neg h]
        exact ⟨by omega, fun z => by rw [h2 fun w => z (List.mem_cons_of_mem _ w)]⟩
  exact (go (kept L) (kept_nodup L)).1
theorem neg_sz : sz (-1) ≤ 1 := sz_le ⟨by decide, by decide⟩
theorem Bp.mulR {K n : Nat} {ps : List Pr} {w : Rat} (a : Bp K n ps) : Bp (K + sz w) n (mulR ps w) := by
  unfold G07.mulR
  by_cases h : w = 0
  · rw [if_pos h]
    exact ⟨(fun _ z => nomatch z), Nat.zero_le _⟩
  · rw [if_neg h]
    exact a.mul
theorem wsum_mulR {ps : List Pr} {w : Rat} {M : Nat} (hs : ∀ p ∈ ps, sz p.2 ≤ M) (hn : (ps.map (·.1)).Nodup) (u : Un) : wsum (mulR ps w) u ≤ M + sz w + 1 := by
  unfold mulR
  by_cases h : w = 0
  · rw [if_pos h]
    exact Nat.zero_le _
  · rw [if_neg h]
    have go : ∀ ps : List Pr, (∀ p ∈ ps, sz p.2 ≤ M) → (ps.map (·.1)).Nodup → wsum (mulP ps w) u ≤ M + sz w + 1 ∧ (u ∉ ps.map (·.1) → wsum (mulP ps w) u = 0) := fun ps => by
      induction ps with
      | nil => exact fun _ _ => ⟨Nat.zero_le _, fun _ => rfl⟩
      | cons p r ih =>
        intro hs hn
        obtain ⟨n1, n2⟩ := List.nodup_cons.mp (show (p.1 :: r.map (·.1)).Nodup from hn)
        obtain ⟨h1, h2⟩ := ih (fun q hq => hs q (List.mem_cons_of_mem _ hq)) n2
        have e : wsum (mulP (p :: r) w) u = (if p.1 = u then sz (p.2 * w) + 1 else 0) + wsum (mulP r w) u := rfl
        have z := sz_le ((sz_ok p.2).mul (sz_ok w))
        have hp := hs p (List.mem_cons_self ..)
        rw [e]
        by_cases h : p.1 = u
        · subst h
          rw [if_pos rfl, h2 n1]
          exact ⟨by omega, fun z => absurd (List.mem_cons_self ..) z⟩
        · rw [if_neg h]
          exact ⟨by omega, fun z => by rw [h2 fun w => z (List.mem_cons_of_mem _ w)]⟩
    exact (go ps hs hn).1
theorem parts_nodup (L : List Pr) : ((parts L).map (·.1)).Nodup := by rw [parts_keys]; exact kept_nodup L
end G07

set_option Elab.async false
set_option linter.all false
set_option maxRecDepth 100000
set_option maxHeartbeats 4000000
set_option exponentiation.threshold 2000
namespace G07
open PySem L2 Vi
/-! ### the questions -/
def lb0 : MS := (mIfS (tNotM (asB (mA1 (fCallN 3 F__law_p1_is []) (maCons (mVar 15) (maCons (mVar 16) (maCons (m2 (fOps T_add (fAdd false)) (mVar 2) (mA1 (fLst false) (maCons (mVar 3) maNil))) maNil)))))) (mRet (mC (.bl false))) mSkip)
def lb1b : MS := (mIfS (tNotM (asB (mA1 (fCallN 2 F__law_p1_same []) (maCons (mMeth 0 "at" 1 F_Form_at [] (mVar 15) (maCons (mVar 17) maNil)) (maCons (mA1 (fCallN 2 F__law_p1_value []) (maCons (mVar 16) (maCons (mVar 17) maNil))) maNil))))) (mRet (mC (.bl false))) mSkip)
def lb1 : MS := (mFor (gtN 17) (mVar 7) lb1b)
def lb2 : MS := (mIfS (tOrM (asB (m2 (fEqs g0 T_eq nfB (fEq false)) (mVar 15) (mVar 16))) (asB (m2 (fEqs g0 T_eq nfB (fEq false)) (mVar 15) (mA1 (fList false) (maCons (mVar 16) maNil))))) (mRet (mC (.bl false))) mSkip)
def lb3b : MS := (mIfS (asB (m2 (fNes g0 T_eq nfB (fEq true)) (m2 (fEqs g0 T_eq nfB (fEq false)) (mVar 15) (mVar 18)) (m2 (fEqs g0 T_eq nfB (fEq false)) (mVar 16) (mVar 19)))) (mRet (mC (.bl false))) mSkip)
def lb3 : MS := (mForZ (gtT 2 (gtCons (gtN 18) (gtCons (gtN 19) gtNil))) (maCons (mVar 12) (maCons (mVar 14) maNil)) lb3b)
def lbB : MS := mSeq lb0 (mSeq lb1 (mSeq lb2 lb3))
theorem call3 {F : Fn} {env : Vi.Env} {a b c : ME} {x y z d : D} {h h1 h2 h3 h4 : Hc} (ea : a env h = .ok (.d x) h1) (eb : b env h1 = .ok (.d y) h2) (ec : c env h2 = .ok (.d z) h3) (e : F [x, y, z] h3 = .ok d h4) : mA1 (fCallN 3 F []) (maCons a (maCons b (maCons c maNil))) env h = .ok (.d d) h4 := by
  rw [mA1_eq, maCons_eq, ea, R.bind_ok, maCons_eq, eb, R.bind_ok, maCons_eq, ec, R.bind_ok]
  show ((F [x, y, z] h3).bind fun d h' => R.ok (Vl.d d) h') = _
  rw [e]
  rfl
abbrev fmD (L : List Pr) : D := form (parts L)
abbrev duD (L : List Pr) : D := .tup ((parts L).map pD)
structure Fx where
  a0 : D
  us : List Un
  st : Un
  a4 : D
  a5 : D
  a6 : D
  Q1 : List Pr
  Q2 : List Pr
  a8 : D
  a9 : D
  a10 : D
  a11 : D
  a13 : D
  Ls : List (List Pr)
abbrev eZ (c : Fx) (o15 o16 o17 o18 o19 : Option Sl) : Vi.Env := [some (.d c.a0), some (.d (.ref 0)), some (.d (.lst (c.us.map uD))), some (.d (uD c.st)), some (.d c.a4), some (.d c.a5), some (.d c.a6), some (.d (.lst [.xtup (c.Q1.map pD), .xtup (c.Q2.map pD)])), some (.d c.a8), some (.d c.a9), some (.d c.a10), some (.d c.a11), some (.d (.lst (c.Ls.map fmD))), some (.d c.a13), some (.d (.lst (c.Ls.map duD))), o15, o16, o17, o18, o19, none, none, none]
structure FxOk (c : Fx) : Prop where
  us : ∀ u ∈ c.us ++ [c.st], NmU u
  ul : c.us.length ≤ 20
  q1 : Pt c.Q1
  q2 : Pt c.Q2
  ls : ∀ L ∈ c.Ls, Ga (parts L)
section
variable {c : Fx} {h : Hc} {L : List Pr}
theorem not_skip {t : MB} {env : Vi.Env} {m : MS} (e : t env h = .ok true h) : mIfS (tNotM t) m mSkip env h = .nx env h := by
  rw [mIfS_eq]
  unfold tNotM
  rw [e]
  rfl
theorem if_skip {t : MB} {env : Vi.Env} {m : MS} (e : t env h = .ok false h) : mIfS t m mSkip env h = .nx env h := by
  rw [mIfS_eq, e]
  rfl
theorem us_st (k : FxOk c) (o15 o16 o17 o18 o19 : Option Sl) : m2 (fOps T_add (fAdd false)) (mVar 2) (mA1 (fLst false) (maCons (mVar 3) maNil)) (eZ c o15 o16 o17 o18 o19) h = .ok (.d (.lst ((c.us ++ [c.st]).map uD))) h := by
  have := k.ul
  show fAdd false (.d (.lst (c.us.map uD))) (.d (.lst [uD c.st])) h = _
  rw [add_l _ _ _ (by rw [List.length_map, List.length_singleton]; omega), List.map_append]
  rfl
theorem b0 (k : FxOk c) (g : Ga (parts L)) (o17 o18 o19 : Option Sl) : lb0 (eZ c (some (.d (fmD L))) (some (.d (duD L))) o17 o18 o19) h = .nx (eZ c (some (.d (fmD L))) (some (.d (duD L))) o17 o18 o19) h := by
  have := k.ul
  exact not_skip (asB_eq _ _ _ _ _ (call3 (h1 := h) (h2 := h) rfl rfl (us_st k _ _ _ _ _) (v_is g.n g.s g.l k.us (by rw [List.length_append, List.length_singleton]; omega))))
theorem b1b (g : Ga (parts L)) {Q : List Pr} (q : Pt Q) (o18 o19 : Option Sl) : lb1b (eZ c (some (.d (fmD L))) (some (.d (duD L))) (some (.d (.xtup (Q.map pD)))) o18 o19) h = .nx (eZ c (some (.d (fmD L))) (some (.d (duD L))) (some (.d (.xtup (Q.map pD)))) o18 o19) h := by
  have e1 : mMeth 0 "at" 1 F_Form_at [] (mVar 15) (maCons (mVar 17) maNil) (eZ c (some (.d (fmD L))) (some (.d (duD L))) (some (.d (.xtup (Q.map pD)))) o18 o19) h = .ok (.d (fr (valF Q (parts L) 0))) h := by
    show ((F_Form_at [fmD L, .xtup (Q.map pD)] h).bind fun d h' => R.ok (Vl.d d) h') = _
    rw [v_fat q.n q.l (pt_lk q) g.v]
    rfl
  have e2 : mA1 (fCallN 2 F__law_p1_value []) (maCons (mVar 16) (maCons (mVar 17) maNil)) (eZ c (some (.d (fmD L))) (some (.d (duD L))) (some (.d (.xtup (Q.map pD)))) o18 o19) h = .ok (.d (fr (valF Q (parts L) 0))) h :=
    call2 (h1 := h) (h2 := h) rfl rfl (v_lvalue g.n q.ok (pt_lk q) g.v)
  have z := sz_le (val_sz (pt_lk q) (parts L) 0 1 sz_zero)
  have := g.v
  exact not_skip (asB_eq _ _ _ _ _ (call2 e1 e2 (v_same (by omega))))
theorem b1 (k : FxOk c) (g : Ga (parts L)) (o17 o18 o19 : Option Sl) : ∃ o17', lb1 (eZ c (some (.d (fmD L))) (some (.d (duD L))) o17 o18 o19) h = .nx (eZ c (some (.d (fmD L))) (some (.d (duD L))) o17' o18 o19) h := by
  refine ⟨some (.d (.xtup (c.Q2.map pD))), ?_⟩
  show forL (gtN 17) lb1b [.xtup (c.Q1.map pD), .xtup (c.Q2.map pD)] (eZ c (some (.d (fmD L))) (some (.d (duD L))) o17 o18 o19) h = _
  rw [forL_cons]
  show ((lb1b (eZ c (some (.d (fmD L))) (some (.d (duD L))) (some (.d (.xtup (c.Q1.map pD)))) o18 o19) h).again _) = _
  rw [b1b g k.q1]
  show forL (gtN 17) lb1b [.xtup (c.Q2.map pD)] (eZ c (some (.d (fmD L))) (some (.d (duD L))) (some (.d (.xtup (c.Q1.map pD)))) o18 o19) h = _
  rw [forL_cons]
  show ((lb1b (eZ c (some (.d (fmD L))) (some (.d (duD L))) (some (.d (.xtup (c.Q2.map pD)))) o18 o19) h).again _) = _
  rw [b1b g k.q2]
  rfl
theorem b2 (g : Ga (parts L)) (o17 o18 o19 : Option Sl) : lb2 (eZ c (some (.d (fmD L))) (some (.d (duD L))) o17 o18 o19) h = .nx (eZ c (some (.d (fmD L))) (some (.d (duD L))) o17 o18 o19) h := by
  have c1 : asB (m2 (fEqs g0 T_eq nfB (fEq false)) (mVar 15) (mVar 16)) (eZ c (some (.d (fmD L))) (some (.d (duD L))) o17 o18 o19) h = .ok false h := asB_eq _ _ _ _ _ (v_eqs_t (A := parts L) ((parts L).map pD))
  have a2 : mA1 (fList false) (maCons (mVar 16) maNil) (eZ c (some (.d (fmD L))) (some (.d (duD L))) o17 o18 o19) h = .ok (.d (.lst ((parts L).map pD))) h := rfl
  have c2 : asB (m2 (fEqs g0 T_eq nfB (fEq false)) (mVar 15) (mA1 (fList false) (maCons (mVar 16) maNil))) (eZ c (some (.d (fmD L))) (some (.d (duD L))) o17 o18 o19) h = .ok false h := by
    refine asB_eq _ _ _ _ _ ?_
    rw [m2_eq, show mVar 15 (eZ c (some (.d (fmD L))) (some (.d (duD L))) o17 o18 o19) h = .ok (.d (fmD L)) h from rfl, R.bind_ok, a2, R.bind_ok]
    exact v_eqs_l (A := parts L) _
  refine if_skip ?_
  rw [tOrM_eq, c1, R.bind_ok, pick_f, c2]
theorem bl_eq (b : Bool) (h : Hc) : fEq true (.d (.bl b)) (.d (.bl b)) h = .ok (.d (.bl false)) h := by cases b <;> rfl
theorem b3b {M : List Pr} (g : Ga (parts L)) (g' : Ga (parts M)) (o17 : Option Sl) : lb3b (eZ c (some (.d (fmD L))) (some (.d (duD L))) o17 (some (.d (fmD M))) (some (.d (duD M)))) h = .nx (eZ c (some (.d (fmD L))) (some (.d (duD L))) o17 (some (.d (fmD M))) (some (.d (duD M)))) h := by
  refine if_skip (asB_eq _ _ _ _ _ ?_)
  have a1 : m2 (fEqs g0 T_eq nfB (fEq false)) (mVar 15) (mVar 18) (eZ c (some (.d (fmD L))) (some (.d (duD L))) o17 (some (.d (fmD M))) (some (.d (duD M)))) h = .ok (.d (.bl (eqP (parts L) (parts M)))) h := v_eqs g.n g'.n
  have a2 : m2 (fEqs g0 T_eq nfB (fEq false)) (mVar 16) (mVar 19) (eZ c (some (.d (fmD L))) (some (.d (duD L))) o17 (some (.d (fmD M))) (some (.d (duD M)))) h = .ok (.d (.bl (eqP (parts L) (parts M)))) h := eq_pr false g.n g'.n h
  rw [m2_eq, a1, R.bind_ok, a2, R.bind_ok]
  exact bl_eq _ h
theorem zip_map : ∀ Ls : List (List Pr), zipD (Ls.map fmD) (Ls.map duD) = Ls.map fun L => .tup [fmD L, duD L]
  | [] => rfl
  | L :: r => by
    show D.tup [fmD L, duD L] :: zipD (r.map fmD) (r.map duD) = _
    rw [zip_map r]
    rfl
abbrev zT (i j : Nat) : TgF := gtT 2 (gtCons (gtN i) (gtCons (gtN j) gtNil))
theorem b3_loop (g : Ga (parts L)) (o17 : Option Sl) : ∀ (Ms : List (List Pr)) (o18 o19 : Option Sl), (∀ M ∈ Ms, Ga (parts M)) → ∃ o18' o19', forL (zT 18 19) lb3b (Ms.map fun M => .tup [fmD M, duD M]) (eZ c (some (.d (fmD L))) (some (.d (duD L))) o17 o18 o19) h = .nx (eZ c (some (.d (fmD L))) (some (.d (duD L))) o17 o18' o19') h
  | [], o18, o19, _ => ⟨o18, o19, rfl⟩
  | M :: r, o18, o19, hm => by
    obtain ⟨p, q, e⟩ := b3_loop g o17 r (some (.d (fmD M))) (some (.d (duD M))) fun N hN => hm N (List.mem_cons_of_mem _ hN)
    refine ⟨p, q, ?_⟩
    rw [List.map_cons, forL_cons]
    show ((lb3b (eZ c (some (.d (fmD L))) (some (.d (duD L))) o17 (some (.d (fmD M))) (some (.d (duD M)))) h).again _) = _
    rw [b3b g (hm M (List.mem_cons_self ..))]
    exact e
theorem b3 (k : FxOk c) (g : Ga (parts L)) (o17 o18 o19 : Option Sl) : ∃ o18' o19', lb3 (eZ c (some (.d (fmD L))) (some (.d (duD L))) o17 o18 o19) h = .nx (eZ c (some (.d (fmD L))) (some (.d (duD L))) o17 o18' o19') h := by
  obtain ⟨p, q, e⟩ := b3_loop (c := c) (h := h) g o17 c.Ls o18 o19 k.ls
  refine ⟨p, q, ?_⟩
  show forL (zT 18 19) lb3b (zipD (c.Ls.map fmD) (c.Ls.map duD)) (eZ c (some (.d (fmD L))) (some (.d (duD L))) o17 o18 o19) h = _
  rw [zip_map]
  exact e
theorem bB (k : FxOk c) (g : Ga (parts L)) (o17 o18 o19 : Option Sl) : ∃ o17' o18' o19', lbB (eZ c (some (.d (fmD L))) (some (.d (duD L))) o17 o18 o19) h = .nx (eZ c (some (.d (fmD L))) (some (.d (duD L))) o17' o18' o19') h := by
  obtain ⟨x, e1⟩ := b1 (h := h) k g o17 o18 o19
  obtain ⟨y, z, e3⟩ := b3 (h := h) k g x o18 o19
  refine ⟨x, y, z, ?_⟩
  unfold lbB
  rw [mSeq_eq, b0 k g, RS.seq_nx, mSeq_eq, e1, RS.seq_nx, mSeq_eq, b2 g, RS.seq_nx, e3]
theorem all_loop (k : FxOk c) : ∀ (Ms : List (List Pr)) (o15 o16 o17 o18 o19 : Option Sl), (∀ M ∈ Ms, Ga (parts M)) → ∃ o15' o16' o17' o18' o19', forL (zT 15 16) lbB (Ms.map fun M => .tup [fmD M, duD M]) (eZ c o15 o16 o17 o18 o19) h = .nx (eZ c o15' o16' o17' o18' o19') h
  | [], o15, o16, o17, o18, o19, _ => ⟨o15, o16, o17, o18, o19, rfl⟩
  | M :: r, o15, o16, o17, o18, o19, hm => by
    obtain ⟨x, y, z, e1⟩ := bB (h := h) k (hm M (List.mem_cons_self ..)) o17 o18 o19
    obtain ⟨p5, p6, p7, p8, p9, e⟩ := all_loop k r (some (.d (fmD M))) (some (.d (duD M))) x y z fun N hN => hm N (List.mem_cons_of_mem _ hN)
    refine ⟨p5, p6, p7, p8, p9, ?_⟩
    rw [List.map_cons, forL_cons]
    show ((lbB (eZ c (some (.d (fmD M))) (some (.d (duD M))) o17 o18 o19) h).again _) = _
    rw [e1]
    exact e
/-- what is asked of all of them holds -/
theorem all_asked (k : FxOk c) : ∃ env', mForZ (zT 15 16) (maCons (mVar 12) (maCons (mVar 14) maNil)) lbB (eZ c none none none none none) h = .nx env' h := by
  obtain ⟨p5, p6, p7, p8, p9, e⟩ := all_loop (c := c) (h := h) k c.Ls none none none none none k.ls
  refine ⟨eZ c p5 p6 p7 p8 p9, ?_⟩
  show forL (zT 15 16) lbB (zipD (c.Ls.map fmD) (c.Ls.map duD)) (eZ c none none none none none) h = _
  rw [zip_map]
  exact e
end
end G07

set_option Elab.async false
set_option linter.all false
set_option maxRecDepth 100000
set_option maxHeartbeats 4000000
set_option exponentiation.threshold 2000
namespace G07
open PySem L2 Vi
/-! ### what is drawn -/
def lw0 : MS := (mSet 1 (mA1 (fCallN 1 F__law_bag []) (maCons (mVar 0) maNil)))
def lw1 : MS := (mSet 2 (mA1 (fCallN 1 F__law_p1_unknowns []) (maCons (mVar 1) maNil)))
def lw2 : MS := (mSet 3 (mA1 fTup (maCons (mA1 (fCallN 2 F__law_name []) (maCons (mVar 1) (maCons (mComp false [22] (gtN 22) mYes (m2 (fIxs T_getitem fIx) (mVar 22) (mC (.int 0))) (mVar 2)) maNil))) (maCons (m2 (fIxs T_getitem fIx) (m2 (fIxs T_getitem fIx) (mVar 2) (mC (.int 0))) (mC (.int 1))) maNil))))
def lw3 : MS := (mSet 4 (mA1 (fCallN 3 F__law_p1_pairs []) (maCons (mVar 1) (maCons (mVar 2) (maCons (mA1 (fCallN 2 F__law_draw []) (maCons (mVar 1) (maCons (mC (.int 7)) maNil))) maNil)))))
def lw4 : MS := (mSet 5 (mA1 (fCallN 3 F__law_p1_pairs []) (maCons (mVar 1) (maCons (mVar 2) (maCons (mA1 (fCallN 2 F__law_draw []) (maCons (mVar 1) (maCons (mC (.int 5)) maNil))) maNil)))))
def lw5 : MS := (mIfS (asB (m2 (fEqs g0 T_eq nfB (fEq false)) (mA1 (fCallN 2 F__law_draw []) (maCons (mVar 1) (maCons (mC (.int 2)) maNil))) (mC (.int 1)))) (mSet 5 (m2 (fOps T_add (fAdd false)) (mVar 5) (mA1 (fCallN 2 F__law_p1_multiplied []) (maCons (mSl false (mVar 4) (moS (mA1 (fCallN 2 F__law_draw []) (maCons (mVar 1) (maCons (mC (.int 3)) maNil)))) moN) (maCons (mA1 fTup (maCons (m1 (fNegs T_neg) (mC (.int 1))) (maCons (mC (.int 1)) maNil))) maNil))))) mSkip)
def lw6 : MS := (mSet 6 (mA1 (fCallN 1 F__law_p1_worth []) (maCons (mVar 1) maNil)))
def lw7 : MS := (mIfS (asB (m2 (fEqs g0 T_eq nfB (fEq false)) (mA1 (fCallN 2 F__law_draw []) (maCons (mVar 1) (maCons (mC (.int 8)) maNil))) (mC (.int 3)))) (mSet 6 (mA1 (fCallN 2 F__law_low []) (maCons (m2 (fOps T_sub fSub) (mA1 (fCallN 2 F__law_draw []) (maCons (mVar 1) (maCons (m2 fPow (mC (.int 10)) (mC (.int 39))) maNil))) (mA1 (fCallN 2 F__law_draw []) (maCons (mVar 1) (maCons (m2 fPow (mC (.int 10)) (mC (.int 39))) maNil)))) (maCons (m2 (fOps T_add (fAdd false)) (mC (.int 1)) (mA1 (fCallN 2 F__law_draw []) (maCons (mVar 1) (maCons (m2 fPow (mC (.int 10)) (mC (.int 39))) maNil)))) maNil)))) mSkip)
def lw8 : MS := (mSet 7 (mCompR false [20] (gtN 20) mYes (mA1 (fCallN 2 F__law_p1_point []) (maCons (mVar 1) (maCons (m2 (fOps T_add (fAdd false)) (mVar 2) (mA1 (fLst false) (maCons (mVar 3) maNil))) maNil))) (maCons (mC (.int 2)) maNil)))
abbrev nr (k : Nat) : Vi.Env := List.replicate k none
theorem set_d {i : Nat} {env : Vi.Env} {m : ME} {d : D} {h h' : Hc} (e : m env h = .ok (.d d) h') : mSet i m env h = .nx (env.set i (some (.d d))) h' := by
  unfold mSet
  rw [e]
  rfl
theorem call1 {F : Fn} {env : Vi.Env} {a : ME} {x d : D} {h h1 h2 : Hc} (ea : a env h = .ok (.d x) h1) (e : F [x] h1 = .ok d h2) : mA1 (fCallN 1 F []) (maCons a maNil) env h = .ok (.d d) h2 := by
  rw [mA1_eq, maCons_eq, ea, R.bind_ok]
  show ((F [x] h1).bind fun d h' => R.ok (Vl.d d) h') = _
  rw [e]
  rfl
abbrev drM (k : Int) : ME := mA1 (fCallN 2 F__law_draw []) (maCons (mVar 1) (maCons (mC (.int k)) maNil))
theorem drM_of {k r : Int} {a : Option Sl} {t : Vi.Env} {h h' : Hc} (e : F__law_draw [.ref 0, .int k] h = .ok (.int r) h') : drM k (a :: some (.d (.ref 0)) :: t) h = .ok (.d (.int r)) h' := call2 (h1 := h) (h2 := h) rfl rfl e
section
variable {m : Int} {h : Hc} {sc : D} {us : List Un} {st : Un} {f s : List Pr} {w : Rat}
theorem cutL_map {α β : Type} (F : α → β) (xs : List α) (lo hi : Option Int) : cutL (xs.map F) lo hi = (cutL xs lo hi).map F := by
  unfold cutL
  rw [List.length_map, List.map_take, List.map_drop]
theorem cutL_mem {α : Type} {xs : List α} {lo hi : Option Int} {x : α} (hx : x ∈ cutL xs lo hi) : x ∈ xs := by
  unfold cutL at hx
  exact List.mem_of_mem_drop (List.mem_of_mem_take hx)
theorem cutL_len {α : Type} (xs : List α) (lo hi : Option Int) : (cutL xs lo hi).length ≤ xs.length := by
  unfold cutL
  rw [List.length_take, List.length_drop]
  omega
theorem r_lw2 (g : BG [] m h) (hm : m < 2 ^ 40) (u : Uns us) : ∃ (st : Un) (h' : Hc), lw2 (some (.d sc) :: some (.d (.ref 0)) :: some (.d (.lst (us.map uD))) :: nr 20) h = .nx (some (.d sc) :: some (.d (.ref 0)) :: some (.d (.lst (us.map uD))) :: some (.d (uD st)) :: nr 19) h' ∧ BG [] (m + 10) h' ∧ NmU st ∧ st ∉ us := by
  have l9 := u.l9
  have n9 : (us.map (·.1)).length < 29 := by rw [List.length_map]; omega
  obtain ⟨y, h1, e1, g1, ny, hy⟩ := v_lname (tk := us.map (·.1)) g (by omega) n9
  obtain ⟨u0, r, eu⟩ := List.exists_cons_of_length_pos u.l0
  refine ⟨(y, u0.2), h1, ?_, g1, ⟨ny.lay, (u.ok u0 (by rw [eu]; exact List.mem_cons_self ..)).b⟩, fun z => hy (List.mem_map.mpr ⟨_, z, rfl⟩)⟩
  have c1 : mComp false [22] (gtN 22) mYes (m2 (fIxs T_getitem fIx) (mVar 22) (mC (.int 0))) (mVar 2) (some (.d sc) :: some (.d (.ref 0)) :: some (.d (.lst (us.map uD))) :: nr 20) h = .ok (.d (.lst ((us.map (·.1)).map D.str))) h := by
    show compL false (gtN 22) mYes (m2 (fIxs T_getitem fIx) (mVar 22) (mC (.int 0))) (us.map uD) [] (wipeE (some (.d sc) :: some (.d (.ref 0)) :: some (.d (.lst (us.map uD))) :: nr 20) [22]) h = _
    rw [comp_gen (gtN 22) _ uD (fun u => .str u.1) _ h us [] (fun p hp => ⟨_, rfl, rfl⟩) (by simp only [List.length_nil]; omega), List.map_map]
    rfl
  have c2 : m2 (fIxs T_getitem fIx) (m2 (fIxs T_getitem fIx) (mVar 2) (mC (.int 0))) (mC (.int 1)) (some (.d sc) :: some (.d (.ref 0)) :: some (.d (.lst (us.map uD))) :: nr 20) h1 = .ok (.d (.str u0.2)) h1 := by
    rw [eu]
    have a1 : m2 (fIxs T_getitem fIx) (mVar 2) (mC (.int 0)) (some (.d sc) :: some (.d (.ref 0)) :: some (.d (.lst ((u0 :: r).map uD))) :: nr 20) h1 = .ok (.d (uD u0)) h1 := by
      show fIx (.d (.lst (uD u0 :: r.map uD))) (.d (.int 0)) h1 = _
      have z : atI (uD u0 :: r.map uD) 0 = some (uD u0) := by simp [atI, ixN]
      show (match atI (uD u0 :: r.map uD) 0 with
        | some d => R.ok (Vl.d d) h1
        | none => .stuck) = _
      rw [z]
    rw [m2_eq, a1]
    rfl
  have c3 := call2 (F := F__law_name) (env := (some (.d sc) :: some (.d (.ref 0)) :: some (.d (.lst (us.map uD))) :: nr 20)) (a := mVar 1) (h := h) (h1 := h) rfl c1 e1
  refine set_d ?_
  rw [mA1_eq, maCons_eq, c3, R.bind_ok, maCons_eq, c2]
  rfl
theorem r_pairs {k : Int} (hk : 2 ≤ k) (hk2 : k ≤ 20) {t : Vi.Env} (g : BG [] m h) (hm : m < 2 ^ 38) (u : Uns us) : ∃ (f : List Pr) (h' : Hc), mA1 (fCallN 3 F__law_p1_pairs []) (maCons (mVar 1) (maCons (mVar 2) (maCons (drM k) maNil))) (some (.d sc) :: some (.d (.ref 0)) :: some (.d (.lst (us.map uD))) :: t) h = .ok (.d (.lst (f.map pD))) h' ∧ BG [] (m + 500) h' ∧ (f.length : Int) < k ∧ (∀ p ∈ f, p.1 ∈ us) ∧ (∀ p ∈ f, sz p.2 ≤ 130) := by
  have l9 := u.l9
  obtain ⟨r, h1, e1, g1, r0, r1, _⟩ := v_draw (many := k) g (by omega) (by omega) (by omega)
  have r1 := r1 hk
  obtain ⟨f, h2, e2, g2, l2, m2', s2⟩ := v_pairs (us := us) (n := r.toNat) g1 (by omega) u.l0 (by omega) (by omega)
  rw [show ((r.toNat : Nat) : Int) = r by omega] at e2
  exact ⟨f, h2, call3 (h1 := h) (h2 := h) rfl rfl (drM_of e1) e2, g2.up (by omega), by omega, m2', s2⟩
theorem r_lw5 (g : BG [] m h) (hm : m < 2 ^ 40) (hf : f.length ≤ 6) (hs : s.length ≤ 4) (sf : ∀ p ∈ f, sz p.2 ≤ 130) (ss : ∀ p ∈ s, sz p.2 ≤ 130) (uf : ∀ p ∈ f, p.1 ∈ us) (us' : ∀ p ∈ s, p.1 ∈ us) : ∃ (s' : List Pr) (h' : Hc),
    lw5 (some (.d sc) :: some (.d (.ref 0)) :: some (.d (.lst (us.map uD))) :: some (.d (uD st)) :: some (.d (.lst (f.map pD))) :: some (.d (.lst (s.map pD))) :: nr 17) h = .nx (some (.d sc) :: some (.d (.ref 0)) :: some (.d (.lst (us.map uD))) :: some (.d (uD st)) :: some (.d (.lst (f.map pD))) :: some (.d (.lst (s'.map pD))) :: nr 17) h' ∧ BG [] (m + 10) h' ∧ s'.length ≤ 10 ∧ (∀ p ∈ s', p.1 ∈ us) ∧ (∀ p ∈ s', sz p.2 ≤ 131) := by
  obtain ⟨r, h1, e1, g1, r0, r1, _⟩ := v_draw (many := 2) g (by omega) (by omega) (by omega)
  have c : asB (m2 (fEqs g0 T_eq nfB (fEq false)) (drM 2) (mC (.int 1))) (some (.d sc) :: some (.d (.ref 0)) :: some (.d (.lst (us.map uD))) :: some (.d (uD st)) :: some (.d (.lst (f.map pD))) :: some (.d (.lst (s.map pD))) :: nr 17) h = .ok (decide (r = 1)) h1 := by
    refine asB_eq _ _ _ _ _ ?_
    rw [m2_eq, drM_of e1, R.bind_ok]
    show R.ok (Vl.d (.bl (PyData.eqv (.int r) (.int 1)))) h1 = _
    rw [eq_int]
  by_cases hr : r = 1
  · obtain ⟨q, h2, e2, g2, q0, q1, _⟩ := v_draw (many := 3) g1 (by omega) (by omega) (by omega)
    have b1 : mSl false (mVar 4) (moS (drM 3)) moN (some (.d sc) :: some (.d (.ref 0)) :: some (.d (.lst (us.map uD))) :: some (.d (uD st)) :: some (.d (.lst (f.map pD))) :: some (.d (.lst (s.map pD))) :: nr 17) h1 = .ok (.d (.lst ((cutL f (some q) none).map pD))) h2 := by
      show ((moS (drM 3) (some (.d sc) :: some (.d (.ref 0)) :: some (.d (.lst (us.map uD))) :: some (.d (uD st)) :: some (.d (.lst (f.map pD))) :: some (.d (.lst (s.map pD))) :: nr 17) h1).bind fun l h2 => (moN _ h2).bind fun u h3 => fSl false (.d (.lst (f.map pD))) l u h3) = _
      unfold moS
      rw [drM_of e2]
      show R.ok (Vl.d (.lst (cutL (f.map pD) (some q) none))) h2 = _
      rw [cutL_map]
    have hc : (cutL f (some q) none).length ≤ 6 := Nat.le_trans (cutL_len ..) hf
    have n1 := neg_sz
    have b2 := call2 (F := F__law_p1_multiplied) (b := mA1 fTup (maCons (m1 (fNegs T_neg) (mC (.int 1))) (maCons (mC (.int 1)) maNil))) (y := fr (-1)) b1 rfl (v_lmul (w := -1) (x := .lst ((cutL f (some q) none).map pD)) (h := h2) rfl (fun p hp => by have := sf p (cutL_mem hp); omega) (by omega))
    refine ⟨s ++ mulP (cutL f (some q) none) (-1), h2, ?_, g2.up (by omega), ?_, fun p hp => ?_, fun p hp => ?_⟩
    · unfold lw5
      rw [mIfS_eq, c, decide_eq_true hr, R.thenS_ok, pick_t]
      refine set_d ?_
      rw [m2_eq, show mVar 5 (some (.d sc) :: some (.d (.ref 0)) :: some (.d (.lst (us.map uD))) :: some (.d (uD st)) :: some (.d (.lst (f.map pD))) :: some (.d (.lst (s.map pD))) :: nr 17) h1 = .ok (.d (.lst (s.map pD))) h1 from rfl, R.bind_ok, b2, R.bind_ok, List.map_append]
      exact add_l _ _ _ (by unfold mulP; rw [List.length_map, List.length_map, List.length_map]; omega)
    · unfold mulP
      rw [List.length_append, List.length_map]
      omega
    · rcases List.mem_append.mp hp with hp | hp
      · exact us' p hp
      · obtain ⟨q', hq, rfl⟩ := List.mem_map.mp hp
        exact uf q' (cutL_mem hq)
    · rcases List.mem_append.mp hp with hp | hp
      · exact Nat.le_trans (ss p hp) (by omega)
      · obtain ⟨q', hq, rfl⟩ := List.mem_map.mp hp
        have := sf q' (cutL_mem hq)
        exact Nat.le_trans (sz_le ((sz_ok q'.2).mul (sz_ok (-1)))) (by omega)
  · refine ⟨s, h1, ?_, g1.up (by omega), by omega, us', fun p hp => Nat.le_trans (ss p hp) (by omega)⟩
    unfold lw5
    rw [mIfS_eq, c, decide_eq_false hr]
    rfl
abbrev e7 (sc : D) (us : List Un) (st : Un) (f s : List Pr) (w : Rat) : Vi.Env := some (.d sc) :: some (.d (.ref 0)) :: some (.d (.lst (us.map uD))) :: some (.d (uD st)) :: some (.d (.lst (f.map pD))) :: some (.d (.lst (s.map pD))) :: some (.d (fr w)) :: nr 16
theorem pow39 (env : Vi.Env) (h : Hc) : m2 fPow (mC (.int 10)) (mC (.int 39)) env h = .ok (.d (.int 1000000000000000000000000000000000000000)) h := by
  have c39 : cPow 10 39 = true := by decide +kernel
  simp [c39]
theorem r_lw7 (g : BG [] m h) (hm : m < 2 ^ 40) (hw : sz w ≤ 130) : ∃ (w' : Rat) (h' : Hc), lw7 (e7 sc us st f s w) h = .nx (e7 sc us st f s w') h' ∧ BG [] (m + 10) h' ∧ sz w' ≤ 130 := by
  obtain ⟨r, h1, e1, g1, r0, r1, _⟩ := v_draw (many := 8) g (by omega) (by omega) (by omega)
  have c : asB (m2 (fEqs g0 T_eq nfB (fEq false)) (drM 8) (mC (.int 3))) (e7 sc us st f s w) h = .ok (decide (r = 3)) h1 := by
    refine asB_eq _ _ _ _ _ ?_
    rw [m2_eq, drM_of e1, R.bind_ok]
    show R.ok (Vl.d (.bl (PyData.eqv (.int r) (.int 3)))) h1 = _
    rw [eq_int]
  by_cases hr : r = 3
  · have dr : ∀ {m : Int} {h : Hc}, BG [] m h → m < 2 ^ 50 → ∃ (a : Int) (h' : Hc), mA1 (fCallN 2 F__law_draw []) (maCons (mVar 1) (maCons (m2 fPow (mC (.int 10)) (mC (.int 39))) maNil)) (e7 sc us st f s w) h = .ok (.d (.int a)) h' ∧ BG [] (m + 1) h' ∧ 0 ≤ a ∧ a < 1000000000000000000000000000000000000000 := fun {m h} g hm => by
      obtain ⟨a, h', e, g', a0, a1, _⟩ := v_draw (many := 1000000000000000000000000000000000000000) g (by omega) (by omega) (by omega)
      exact ⟨a, h', call2 (h1 := h) (h2 := h) rfl (pow39 _ h) e, g', a0, a1 (by omega)⟩
    obtain ⟨a, h2, e2, g2, a0, a1⟩ := dr g1 (by omega)
    obtain ⟨b, h3, e3, g3, b0, b1⟩ := dr g2 (by omega)
    obtain ⟨d, h4, e4, g4, d0, d1⟩ := dr g3 (by omega)
    have l := v_lowq (a := a - b) (b := 1 + d) (k := 130) (h := h4) (by omega) (by omega) (by omega)
    have q1 : m2 (fOps T_sub fSub) (mA1 (fCallN 2 F__law_draw []) (maCons (mVar 1) (maCons (m2 fPow (mC (.int 10)) (mC (.int 39))) maNil))) (mA1 (fCallN 2 F__law_draw []) (maCons (mVar 1) (maCons (m2 fPow (mC (.int 10)) (mC (.int 39))) maNil))) (e7 sc us st f s w) h1 = .ok (.d (.int (a - b))) h3 := by
      rw [m2_eq, e2, R.bind_ok, e3]
      rfl
    have q2 : m2 (fOps T_add (fAdd false)) (mC (.int 1)) (mA1 (fCallN 2 F__law_draw []) (maCons (mVar 1) (maCons (m2 fPow (mC (.int 10)) (mC (.int 39))) maNil))) (e7 sc us st f s w) h3 = .ok (.d (.int (1 + d))) h4 := by
      rw [m2_eq, show mC (.int 1) (e7 sc us st f s w) h3 = .ok (.d (.int 1)) h3 from rfl, R.bind_ok, e4]
      rfl
    refine ⟨_, h4, ?_, g4.up (by omega), sz_le (sz_div (k := 130) (a := a - b) (b := 1 + d) (by omega) (by omega) (by omega))⟩
    unfold lw7
    rw [mIfS_eq, c, decide_eq_true hr, R.thenS_ok, pick_t]
    exact set_d (call2 q1 q2 l)
  · refine ⟨w, h1, ?_, g1.up (by omega), hw⟩
    unfold lw7
    rw [mIfS_eq, c, decide_eq_false hr]
    rfl
abbrev e8 (sc : D) (us : List Un) (st : Un) (f s : List Pr) (w : Rat) (Q1 Q2 : List Pr) : Vi.Env := some (.d sc) :: some (.d (.ref 0)) :: some (.d (.lst (us.map uD))) :: some (.d (uD st)) :: some (.d (.lst (f.map pD))) :: some (.d (.lst (s.map pD))) :: some (.d (fr w)) :: some (.d (.lst [.xtup (Q1.map pD), .xtup (Q2.map pD)])) :: nr 15
theorem r_lw8 (g : BG [] m h) (hm : m < 2 ^ 38) (u : Uns us) (hs : NmU st) (hn : st ∉ us) : ∃ (Q1 Q2 : List Pr) (h' : Hc), lw8 (e7 sc us st f s w) h = .nx (e8 sc us st f s w Q1 Q2) h' ∧ BG [] (m + 800) h' ∧ Pt Q1 ∧ Pt Q2 := by
  have l9 := u.l9
  have n1 : (us ++ [st]).Nodup := List.nodup_append.mpr ⟨u.n, by simp, fun a ha b hb e => by
    rw [List.mem_singleton.mp hb] at e
    exact hn (e ▸ ha)⟩
  have n2 : ∀ v ∈ us ++ [st], NmU v := fun v hv => by
    rcases List.mem_append.mp hv with hv | hv
    · exact u.ok v hv
    · rw [List.mem_singleton.mp hv]; exact hs
  have ll : (us ++ [st]).length ≤ 20 := by rw [List.length_append, List.length_singleton]; omega
  have l0 : 0 < (us ++ [st]).length := by rw [List.length_append, List.length_singleton]; omega
  obtain ⟨Q1, h1, e1, g1, p1⟩ := v_point g (by omega) n1 n2 l0 ll
  obtain ⟨Q2, h2, e2, g2, p2⟩ := v_point g1 (by omega) n1 n2 l0 ll
  refine ⟨Q1, Q2, h2, ?_, g2.up (by omega), p1, p2⟩
  refine set_d ?_
  have st1 : ∀ (i : Int) (h h' : Hc) (Q : List Pr), F__law_p1_point [.ref 0, .lst ((us ++ [st]).map uD)] h = .ok (.xtup (Q.map pD)) h' → mA1 (fCallN 2 F__law_p1_point []) (maCons (mVar 1) (maCons (m2 (fOps T_add (fAdd false)) (mVar 2) (mA1 (fLst false) (maCons (mVar 3) maNil))) maNil)) ((e7 sc us st f s w).set 20 (some (.d (.int i)))) h = .ok (.d (.xtup (Q.map pD))) h' := fun i h h' Q e => by
    refine call2 (h1 := h) (h2 := h) rfl ?_ e
    show fAdd false (.d (.lst (us.map uD))) (.d (.lst [uD st])) h = _
    rw [add_l _ _ _ (by rw [List.length_map, List.length_singleton]; omega), List.map_append]
    rfl
  show compL false (gtN 20) mYes _ [.int 0, .int 1] [] (e7 sc us st f s w) h = _
  show (match mA1 (fCallN 2 F__law_p1_point []) (maCons (mVar 1) (maCons (m2 (fOps T_add (fAdd false)) (mVar 2) (mA1 (fLst false) (maCons (mVar 3) maNil))) maNil)) ((e7 sc us st f s w).set 20 (some (.d (.int 0)))) h with
    | .ok (.d y) h2 => if ([] : List D).length < 16000000 then compL false (gtN 20) mYes _ [.int 1] ([] ++ [y]) (e7 sc us st f s w) h2 else .stuck
    | _ => .stuck) = _
  rw [st1 0 h h1 Q1 e1]
  show (match mA1 (fCallN 2 F__law_p1_point []) (maCons (mVar 1) (maCons (m2 (fOps T_add (fAdd false)) (mVar 2) (mA1 (fLst false) (maCons (mVar 3) maNil))) maNil)) ((e7 sc us st f s w).set 20 (some (.d (.int 1)))) h1 with
    | .ok (.d y) h2 => if ([D.xtup (Q1.map pD)] : List D).length < 16000000 then compL false (gtN 20) mYes _ [] ([D.xtup (Q1.map pD)] ++ [y]) (e7 sc us st f s w) h2 else .stuck
    | _ => .stuck) = _
  rw [st1 1 h1 h2 Q2 e2]
  rfl
/-- what the draws give -/
structure Dr (us : List Un) (st : Un) (f s : List Pr) (w : Rat) (Q1 Q2 : List Pr) : Prop where
  un : Uns us
  sn : NmU st
  fl : f.length ≤ 6
  sl : s.length ≤ 10
  fu : ∀ p ∈ f, p.1 ∈ us
  su : ∀ p ∈ s, p.1 ∈ us
  fs : ∀ p ∈ f, sz p.2 ≤ 131
  ss : ∀ p ∈ s, sz p.2 ≤ 131
  ws : sz w ≤ 130
  q1 : Pt Q1
  q2 : Pt Q2
theorem r_draws (ns : List Int) (rest : MS) : ∃ us st f s w Q1 Q2 h, (mSeq lw0 (mSeq lw1 (mSeq lw2 (mSeq lw3 (mSeq lw4 (mSeq lw5 (mSeq lw6 (mSeq lw7 (mSeq lw8 rest))))))))) (mkEnv 23 [.kl (ns.map D.int)]) [] = rest (e8 (.kl (ns.map D.int)) us st f s w Q1 Q2) h ∧ BG [] 100000 h ∧ Dr us st f s w Q1 Q2 := by
  have g0' : BG [] 0 (bagC [] ns 0 0 (ns.sum % 1000003) 0 0) := ⟨ns, 0, 0, ns.sum % 1000003, 0, 0, rfl, by omega, by omega, Int.emod_nonneg _ (by omega), by
    have := Int.emod_lt_of_pos ns.sum (show (0 : Int) < 1000003 by omega)
    omega, by omega, by omega, by omega⟩
  obtain ⟨us, h1, e1, g1, u⟩ := v_unknowns g0' (by omega)
  obtain ⟨st, h2, e2, g2, ns2, nn2⟩ := r_lw2 (sc := .kl (ns.map D.int)) g1 (by omega) u
  obtain ⟨f, h3, e3, g3, l3, u3, s3⟩ := r_pairs (k := 7) (sc := .kl (ns.map D.int)) (t := some (.d (uD st)) :: nr 19) (by omega) (by omega) g2 (by omega) u
  obtain ⟨s, h4, e4, g4, l4, u4, s4⟩ := r_pairs (k := 5) (sc := .kl (ns.map D.int)) (t := some (.d (uD st)) :: some (.d (.lst (f.map pD))) :: nr 18) (by omega) (by omega) g3 (by omega) u
  obtain ⟨s', h5, e5, g5, l5, u5, s5⟩ := r_lw5 (sc := .kl (ns.map D.int)) (st := st) g4 (by omega) (by omega) (by omega) s3 s4 u3 u4
  obtain ⟨w, h6, e6, g6, s6⟩ := v_worth g5 (by omega)
  obtain ⟨w', h7, e7', g7, s7⟩ := r_lw7 (sc := .kl (ns.map D.int)) (us := us) (st := st) (f := f) (s := s') g6 (by omega) s6
  obtain ⟨Q1, Q2, h8, e8', g8, p1, p2⟩ := r_lw8 (sc := .kl (ns.map D.int)) (f := f) (s := s') (w := w') g7 (by omega) u ns2 nn2
  refine ⟨us, st, f, s', w', Q1, Q2, h8, ?_, g8.up (by omega), ⟨u, ns2, by omega, l5, u3, u5, fun p hp => Nat.le_trans (s3 p hp) (by omega), s5, s7, p1, p2⟩⟩
  have w0 : lw0 (mkEnv 23 [.kl (ns.map D.int)]) [] = .nx (some (.d (.kl (ns.map D.int))) :: some (.d (.ref 0)) :: nr 21) (bagC [] ns 0 0 (ns.sum % 1000003) 0 0) := set_d (call1 (h1 := []) rfl (v_bag ns))
  have w1 : lw1 (some (.d (.kl (ns.map D.int))) :: some (.d (.ref 0)) :: nr 21) (bagC [] ns 0 0 (ns.sum % 1000003) 0 0) = .nx (some (.d (.kl (ns.map D.int))) :: some (.d (.ref 0)) :: some (.d (.lst (us.map uD))) :: nr 20) h1 := set_d (call1 (h1 := bagC [] ns 0 0 (ns.sum % 1000003) 0 0) rfl e1)
  have w3 : lw3 (some (.d (.kl (ns.map D.int))) :: some (.d (.ref 0)) :: some (.d (.lst (us.map uD))) :: some (.d (uD st)) :: nr 19) h2 = .nx (some (.d (.kl (ns.map D.int))) :: some (.d (.ref 0)) :: some (.d (.lst (us.map uD))) :: some (.d (uD st)) :: some (.d (.lst (f.map pD))) :: nr 18) h3 := set_d e3
  have w4 : lw4 (some (.d (.kl (ns.map D.int))) :: some (.d (.ref 0)) :: some (.d (.lst (us.map uD))) :: some (.d (uD st)) :: some (.d (.lst (f.map pD))) :: nr 18) h3 = .nx (some (.d (.kl (ns.map D.int))) :: some (.d (.ref 0)) :: some (.d (.lst (us.map uD))) :: some (.d (uD st)) :: some (.d (.lst (f.map pD))) :: some (.d (.lst (s.map pD))) :: nr 17) h4 := set_d e4
  have w6 : lw6 (some (.d (.kl (ns.map D.int))) :: some (.d (.ref 0)) :: some (.d (.lst (us.map uD))) :: some (.d (uD st)) :: some (.d (.lst (f.map pD))) :: some (.d (.lst (s'.map pD))) :: nr 17) h5 = .nx (e7 (.kl (ns.map D.int)) us st f s' w) h6 := set_d (call1 (h1 := h5) rfl e6)
  rw [mSeq_eq, w0, RS.seq_nx, mSeq_eq, w1, RS.seq_nx, mSeq_eq, e2, RS.seq_nx, mSeq_eq, w3, RS.seq_nx, mSeq_eq, w4, RS.seq_nx, mSeq_eq, e5, RS.seq_nx, mSeq_eq, w6, RS.seq_nx, mSeq_eq, e7', RS.seq_nx, mSeq_eq, e8', RS.seq_nx]
end
end G07

set_option Elab.async false
set_option linter.all false
set_option maxRecDepth 100000
set_option maxHeartbeats 4000000
set_option exponentiation.threshold 2000
namespace G07
open PySem L2 Vi
/-! ### sizes -/
theorem Bp.of {K n : Nat} {L : List Pr} (h1 : ∀ p ∈ L, sz p.2 ≤ K) (h2 : L.length ≤ n) : Bp K n L := ⟨h1, h2⟩
theorem plen {K n : Nat} {L : List Pr} (b : Bp K n L) : (parts L).length ≤ n := by
  have := kept_len L
  have := b.n
  show ((kept L).map _).length ≤ n
  rw [List.length_map]
  omega
theorem mulR_len (ps : List Pr) (w : Rat) : (mulR ps w).length ≤ ps.length := by
  unfold mulR
  by_cases h : w = 0
  · rw [if_pos h]; exact Nat.zero_le _
  · rw [if_neg h]
    unfold mulP
    rw [List.length_map]
    exact Nat.le_refl _
section
variable {K n M m : Nat} {L N : List Pr} {w : Rat}
theorem ok_app (b : Bp K n L) (b' : Bp M m N) (h : (K + 1) * n + (M + 1) * m + 5 ≤ 7000) (h2 : n + m < 90000) : Okp (parts L ++ parts N) := ⟨fun u => by
  have := wsum_parts b u
  have := wsum_parts b' u
  rw [wsum_app]
  omega, by
  have := plen b
  have := plen b'
  rw [List.length_append]
  omega⟩
theorem ok_mulR (b : Bp K n L) (h : (K + 1) * n + sz w + 3 ≤ 7000) (h2 : n < 90000) : Okp (mulR (parts L) w) := ⟨fun u => by
  have := wsum_mulR (w := w) (parts_sz b) (parts_nodup L) u
  omega, by
  have := plen b
  have := mulR_len (parts L) w
  omega⟩
theorem ok_appR (b : Bp K n L) (b' : Bp M m N) (h : (K + 1) * n + (M + 1) * m + sz w + 5 ≤ 7000) (h2 : n + m < 90000) : Okp (parts L ++ mulR (parts N) w) := ⟨fun u => by
  have := wsum_parts b u
  have := wsum_mulR (w := w) (parts_sz b') (parts_nodup N) u
  rw [wsum_app]
  omega, by
  have := plen b
  have := plen b'
  have := mulR_len (parts N) w
  rw [List.length_append]
  omega⟩
theorem msz (b : Bp K n L) (h : (K + 1) * n + 1 + sz w ≤ 7000) : ∀ p ∈ parts L, sz p.2 + sz w ≤ 7000 := fun p hp => by
  have := parts_sz b p hp
  omega
/-! ### the same parts -/
theorem tot_rev (L : List Pr) (u : Un) : tot L.reverse u = tot L u := by
  induction L with
  | nil => rfl
  | cons p r ih =>
    rw [List.reverse_cons, tot_app, ih]
    show tot r u + ((if p.1 = u then p.2 else 0) + 0) = (if p.1 = u then p.2 else 0) + tot r u
    rw [Rat.add_zero, Rat.add_comm]
theorem p_add (L N : List Pr) : parts (parts L ++ parts N) = parts (L ++ N) := parts_ext fun u => by rw [tot_app, tot_app, tot_parts, tot_parts]
theorem p_sub (L N : List Pr) (w : Rat) : parts (parts L ++ mulR (parts N) w) = parts (L ++ mulP N w) := parts_ext fun u => by rw [tot_app, tot_app, tot_parts, tot_mulR, tot_mul, tot_parts]
theorem p_mul (L : List Pr) (w : Rat) : parts (mulR (parts L) w) = parts (mulP L w) := parts_ext fun u => by rw [tot_mulR, tot_mul, tot_parts]
theorem p_back (L N : List Pr) : parts (parts (L ++ N) ++ mulR (parts N) (-1)) = parts L := parts_ext fun u => by
  rw [tot_app, tot_parts, tot_mulR, tot_parts, tot_app]
  grind
theorem p_rev (L : List Pr) : parts L.reverse = parts L := parts_ext fun u => tot_rev L u
end
/-! ### the heap -/
abbrev hW (ps : List Pr) (ns : List Int) (p v sd l c : Int) : Hc := bagC [.lst (ps.map pD)] ns p v sd l c
theorem refs_ints (n : Nat) (ns : List Int) : refsDs n (ns.map D.int) = true := by
  induction ns with
  | nil => simp [refsDs]
  | cons i r ih =>
    show refsDs n (.int i :: r.map D.int) = true
    simp only [refsDs, refsD, ih, Bool.and_true]
theorem refs_prs (n : Nat) (ps : List Pr) : refsDs n (ps.map pD) = true := by
  induction ps with
  | nil => simp [refsDs]
  | cons p r ih =>
    show refsDs n (pD p :: r.map pD) = true
    simp only [refsDs, refsD, ih, Bool.and_true]
theorem cl_hW (ps : List Pr) (ns : List Int) (p v sd l c : Int) : Cl (hW ps ns p v sd l c) := by
  show (cellRefs 2 (.lst [.lst (ns.map D.int), .int p, .int v, .int sd, .int l, .int c]) && (cellRefs 2 (.lst (ps.map pD)) && true)) = true
  simp only [cellRefs, refsDs, refsD, refs_ints, refs_prs, Bool.and_true]
theorem cl_hF (ps : List Pr) (ns : List Int) (p v sd l c : Int) : Cl (bagC [.frz (.lst (ps.map pD))] ns p v sd l c) := by
  show (cellRefs 2 (.lst [.lst (ns.map D.int), .int p, .int v, .int sd, .int l, .int c]) && (cellRefs 2 (.frz (.lst (ps.map pD))) && true)) = true
  simp only [cellRefs, refsDs, refsD, refs_ints, refs_prs, Bool.and_true]
theorem frz_hW (ps : List Pr) (ns : List Int) (p v sd l c : Int) : frzAll (hW ps ns p v sd l c) = bagC [.frz (.lst (ps.map pD))] ns p v sd l c := by
  unfold frzAll
  simp [List.mapIdx, List.mapIdx.go, frzOne, Cell.isF]
theorem thaw_hW (ps : List Pr) (ns : List Int) (p v sd l c : Int) : thaw (hW ps ns p v sd l c) (bagC [.frz (.lst (ps.map pD))] ns p v sd l c) = hW ps ns p v sd l c := by
  unfold thaw
  simp [List.mapIdx, List.mapIdx.go, thawOne, ourZ, Cell.isF, Cell.bare]
end G07

set_option Elab.async false
set_option linter.all false
set_option maxRecDepth 100000
set_option maxHeartbeats 4000000
set_option exponentiation.threshold 2000
namespace G07
open PySem L2 Vi
def lw9 : MS := (mSet 8 (mA1 fListC (maCons (mVar 4) maNil)))
def lw10 : MS := (mFrzd (mSet 9 (mA1 (fMake 0 1 FI_Form_xinitx []) (maCons (mVar 8) maNil))))
def lw11 : MS := (mSet 10 (mA1 (fMake 0 1 FI_Form_xinitx []) (maCons (mA1 fTuple (maCons (mVar 5) maNil)) maNil)))
def lw12 : MS := (mDrop (mMetM lmAppend (mVar 8) (maCons (mA1 fTup (maCons (m2 (fIxs T_getitem fIx) (mVar 2) (mC (.int 0))) (maCons (mA1 fTup (maCons (mC (.int 1)) (maCons (mC (.int 1)) maNil))) maNil))) maNil)))
def lw13 : MS := (mSet 11 (mA1 (fCallN 2 F__law_p1_multiplied []) (maCons (mVar 5) (maCons (mA1 fTup (maCons (m1 (fNegs T_neg) (mC (.int 1))) (maCons (mC (.int 1)) maNil))) maNil))))
def lw14 : MS := (mSet 12 (mA1 (fLst false) (maCons (mVar 9) (maCons (mVar 10) (maCons (m2 (fOps T_add (fAdd false)) (mVar 9) (mVar 10)) (maCons (m2 (fOps T_sub fSub) (mVar 9) (mVar 10)) (maCons (m1 (fNegs T_neg) (mVar 9)) (maCons (m2 (fOpsX T_mul fMul) (mVar 9) (mVar 6)) (maCons (m2 (fOpsX T_mul fMul) (mVar 10) (mVar 6)) (maCons (m2 (fOps T_sub fSub) (m2 (fOps T_add (fAdd false)) (mVar 9) (mVar 10)) (mVar 10)) (maCons (mA1 (fMake 0 0 FI_Form_xinitx [(.tup [])]) maNil) (maCons (mA1 (fMake 0 1 FI_Form_xinitx []) (maCons (m1 (fRev false) (mVar 4)) maNil)) maNil))))))))))))
def lw15 : MS := (mSet 13 (mA1 (fLst false) (maCons (mVar 4) (maCons (mVar 5) (maCons (m2 (fOps T_add (fAdd false)) (mVar 4) (mVar 5)) (maCons (m2 (fOps T_add (fAdd false)) (mVar 4) (mVar 11)) (maCons (mA1 (fCallN 2 F__law_p1_multiplied []) (maCons (mVar 4) (maCons (mA1 fTup (maCons (m1 (fNegs T_neg) (mC (.int 1))) (maCons (mC (.int 1)) maNil))) maNil))) maNil)))))))
def lw16 : MS := (mSet 13 (m2 (fOps T_add (fAdd false)) (mVar 13) (mA1 (fLst false) (maCons (mA1 (fCallN 2 F__law_p1_multiplied []) (maCons (mVar 4) (maCons (mVar 6) maNil))) (maCons (mA1 (fCallN 2 F__law_p1_multiplied []) (maCons (mVar 5) (maCons (mVar 6) maNil))) (maCons (mVar 4) (maCons (mA1 (fLst false) maNil) (maCons (mVar 4) maNil))))))))
def lw17 : MS := (mSet 14 (mComp false [21] (gtN 21) mYes (mA1 (fCallN 1 F__law_p1_due []) (maCons (mVar 21) maNil)) (mVar 13)))
def lw18 : MS := (mForZ (gtT 2 (gtCons (gtN 15) (gtCons (gtN 16) gtNil))) (maCons (mVar 12) (maCons (mVar 14) maNil)) lbB)
def lw19 : MS := (mRet (mC (.bl true)))
theorem lw_parts : m_law = mSeq lw0 (mSeq lw1 (mSeq lw2 (mSeq lw3 (mSeq lw4 (mSeq lw5 (mSeq lw6 (mSeq lw7 (mSeq lw8 (mSeq lw9 (mSeq lw10 (mSeq lw11 (mSeq lw12 (mSeq lw13 (mSeq lw14 (mSeq lw15 (mSeq lw16 (mSeq lw17 (mSeq lw18 lw19)))))))))))))))))) := rfl
theorem ma_cons {a : ME} {b : MA} {env : Vi.Env} {d : D} {ds : List Vl} {h : Hc} (e1 : a env h = .ok (.d d) h) (e2 : b env h = .ok ds h) : maCons a b env h = .ok (.d d :: ds) h := by
  rw [maCons_eq, e1, R.bind_ok, e2, R.bind_ok]
theorem ma_nil {env : Vi.Env} {h : Hc} : maNil env h = .ok [] h := rfl
theorem mulM {ps : List Pr} {w : Rat} {h : Hc} {env : Vi.Env} {a b : ME} (ea : a env h = .ok (.d (.lst (ps.map pD))) h) (eb : b env h = .ok (.d (fr w)) h) (hs : ∀ p ∈ ps, sz p.2 + sz w ≤ 7000) (hl : ps.length < 90000) : mA1 (fCallN 2 F__law_p1_multiplied []) (maCons a (maCons b maNil)) env h = .ok (.d (.lst ((mulP ps w).map pD))) h :=
  call2 ea eb (v_lmul (x := .lst (ps.map pD)) rfl hs hl)
theorem addM {ps qs : List Pr} {h : Hc} {env : Vi.Env} {a b : ME} (ea : a env h = .ok (.d (.lst (ps.map pD))) h) (eb : b env h = .ok (.d (.lst (qs.map pD))) h) (hl : ps.length + qs.length ≤ 100000) : m2 (fOps T_add (fAdd false)) a b env h = .ok (.d (.lst ((ps ++ qs).map pD))) h := by
  rw [m2_eq, ea, R.bind_ok, eb, R.bind_ok, List.map_append]
  exact add_l _ _ _ (by rw [List.length_map, List.length_map]; exact hl)
section
variable {A B : List Pr} {w : Rat} {h : Hc} {env : Vi.Env} {a b : ME}
theorem faM (ea : a env h = .ok (.d (form A)) h) (eb : b env h = .ok (.d (form B)) h) (o : Okp (A ++ B)) (c : Cl h) : m2 (fOps T_add (fAdd false)) a b env h = .ok (.d (form (parts (A ++ B)))) h := by
  rw [m2_eq, ea, R.bind_ok, eb, R.bind_ok]
  show ((F_Form_xaddx [form A, form B] h).bind fun d h' => R.ok (Vl.d d) h') = _
  rw [v_fadd o c]
  rfl
theorem fsM (ea : a env h = .ok (.d (form A)) h) (eb : b env h = .ok (.d (form B)) h) (hs : ∀ p ∈ B, sz p.2 + sz (-1) ≤ 7000) (hl : B.length < 90000) (o : Okp (A ++ mulR B (-1))) (c : Cl h) : m2 (fOps T_sub fSub) a b env h = .ok (.d (form (parts (A ++ mulR B (-1))))) h := by
  rw [m2_eq, ea, R.bind_ok, eb, R.bind_ok]
  show ((F_Form_xsubx [form A, form B] h).bind fun d h' => R.ok (Vl.d d) h') = _
  rw [v_fsub hs hl o c]
  rfl
theorem fnM (ea : a env h = .ok (.d (form A)) h) (hs : ∀ p ∈ A, sz p.2 + sz (-1) ≤ 7000) (hl : A.length < 90000) (o : Okp (mulR A (-1))) (c : Cl h) : m1 (fNegs T_neg) a env h = .ok (.d (form (parts (mulR A (-1))))) h := by
  show ((a env h).bind fun x h1 => fNegs T_neg x h1) = _
  rw [ea, R.bind_ok]
  show ((F_Form_xnegx [form A] h).bind fun d h' => R.ok (Vl.d d) h') = _
  rw [v_fneg hs hl o c]
  rfl
theorem fmM (ea : a env h = .ok (.d (form A)) h) (eb : b env h = .ok (.d (fr w)) h) (hs : ∀ p ∈ A, sz p.2 + sz w ≤ 7000) (hl : A.length < 90000) (o : Okp (mulR A w)) (c : Cl h) : m2 (fOpsX T_mul fMul) a b env h = .ok (.d (form (parts (mulR A w)))) h := by
  rw [m2_eq, ea, R.bind_ok, eb, R.bind_ok]
  show ((F_Form_xmulx [form A, fr w] h).bind fun d h' => R.ok (Vl.d d) h') = _
  rw [v_fmul hs hl o c]
  rfl
end
/-- what the ten forms are made of -/
abbrev lsT (f s : List Pr) (w : Rat) : List (List Pr) := [f, s, f ++ s, f ++ mulP s (-1), mulP f (-1), mulP f w, mulP s w, f, [], f]
section
variable {us : List Un} {st : Un} {f s : List Pr} {w : Rat} {Q1 Q2 : List Pr}
theorem bf (d : Dr us st f s w Q1 Q2) : Bp 131 6 f := ⟨d.fs, d.fl⟩
theorem bs (d : Dr us st f s w Q1 Q2) : Bp 131 10 s := ⟨d.ss, d.sl⟩
theorem nm_us (d : Dr us st f s w Q1 Q2) : (∀ p ∈ f, NmU p.1) ∧ (∀ p ∈ s, NmU p.1) := ⟨fun p hp => d.un.ok _ (d.fu p hp), fun p hp => d.un.ok _ (d.su p hp)⟩
theorem nm_mul {L : List Pr} (h : ∀ p ∈ L, NmU p.1) (w : Rat) : ∀ p ∈ mulP L w, NmU p.1 := fun p hp => by
  obtain ⟨q, hq, rfl⟩ := List.mem_map.mp hp
  exact h q hq
theorem nm_app {L N : List Pr} (h : ∀ p ∈ L, NmU p.1) (h' : ∀ p ∈ N, NmU p.1) : ∀ p ∈ L ++ N, NmU p.1 := fun p hp => (List.mem_append.mp hp).elim (h p) (h' p)
/-- each of them is small -/
theorem ls_all (d : Dr us st f s w Q1 Q2) : ∀ L ∈ lsT f s w, (∃ K n, Bp K n L ∧ (K + 1) * n ≤ 4000 ∧ n ≤ 16) ∧ ∀ p ∈ L, NmU p.1 := by
  obtain ⟨nf, ns⟩ := nm_us d
  have n1 := neg_sz
  have nw := d.ws
  intro L hL
  simp only [lsT, List.mem_cons, List.not_mem_nil, or_false] at hL
  have c1 : (∃ K n, Bp K n f ∧ (K + 1) * n ≤ 4000 ∧ n ≤ 16) ∧ ∀ p ∈ f, NmU p.1 := ⟨⟨131, 6, bf d, by omega, by omega⟩, nf⟩
  rcases hL with rfl | rfl | rfl | rfl | rfl | rfl | rfl | rfl | rfl | rfl
  · exact c1
  · exact ⟨⟨131, 10, bs d, by omega, by omega⟩, ns⟩
  · exact ⟨⟨131, 16, (bf d).app (bs d), by omega, by omega⟩, nm_app nf ns⟩
  · exact ⟨⟨132, 16, ((bf d).up (by omega) (by omega)).app ((bs d).mul.up (by omega) (Nat.le_refl _)), by omega, by omega⟩, nm_app nf (nm_mul ns _)⟩
  · exact ⟨⟨132, 6, (bf d).mul.up (by omega) (Nat.le_refl _), by omega, by omega⟩, nm_mul nf _⟩
  · exact ⟨⟨261, 6, (bf d).mul.up (by omega) (Nat.le_refl _), by omega, by omega⟩, nm_mul nf _⟩
  · exact ⟨⟨261, 10, (bs d).mul.up (by omega) (Nat.le_refl _), by omega, by omega⟩, nm_mul ns _⟩
  · exact c1
  · exact ⟨⟨0, 0, ⟨(fun _ z => nomatch z), Nat.le_refl _⟩, by omega, by omega⟩, (fun _ z => nomatch z)⟩
  · exact c1
abbrev e9 (sc : D) (us : List Un) (st : Un) (f s : List Pr) (w : Rat) (Q1 Q2 : List Pr) (t : Vi.Env) : Vi.Env := some (.d sc) :: some (.d (.ref 0)) :: some (.d (.lst (us.map uD))) :: some (.d (uD st)) :: some (.d (.lst (f.map pD))) :: some (.d (.lst (s.map pD))) :: some (.d (fr w)) :: some (.d (.lst [.xtup (Q1.map pD), .xtup (Q2.map pD)])) :: some (.d (.ref 1)) :: t
variable {sc : D} {ns : List Int} {p v sd l c : Int}
theorem r_lw9 : lw9 (e8 sc us st f s w Q1 Q2) (bagC [] ns p v sd l c) = .nx (e9 sc us st f s w Q1 Q2 (nr 14)) (hW f ns p v sd l c) := rfl
theorem r_lw10 (d : Dr us st f s w Q1 Q2) : lw10 (e9 sc us st f s w Q1 Q2 (nr 14)) (hW f ns p v sd l c) = .nx (e9 sc us st f s w Q1 Q2 (some (.d (form (parts f))) :: nr 13)) (hW f ns p v sd l c) := by
  have e : mA1 (fMake 0 1 FI_Form_xinitx []) (maCons (mVar 8) maNil) (e9 sc us st f s w Q1 Q2 (nr 14)) (bagC [.frz (.lst (f.map pD))] ns p v sd l c) = .ok (.d (form (parts f))) (bagC [.frz (.lst (f.map pD))] ns p v sd l c) := by
    show fMake 0 1 FI_Form_xinitx [] [.d (.ref 1)] (bagC [.frz (.lst (f.map pD))] ns p v sd l c) = _
    exact v_make (x := .ref 1) (bb := true) (ps := f) rfl ((bf d).ok (by omega) (by omega)) (cl_hF f ns p v sd l c)
  have e2 : mSet 9 (mA1 (fMake 0 1 FI_Form_xinitx []) (maCons (mVar 8) maNil)) (e9 sc us st f s w Q1 Q2 (nr 14)) (bagC [.frz (.lst (f.map pD))] ns p v sd l c) = .nx (e9 sc us st f s w Q1 Q2 (some (.d (form (parts f))) :: nr 13)) (bagC [.frz (.lst (f.map pD))] ns p v sd l c) := set_d e
  unfold lw10 mFrzd
  rw [frz_hW, e2]
  show RS.nx _ (thaw (hW f ns p v sd l c) (bagC [.frz (.lst (f.map pD))] ns p v sd l c)) = _
  rw [thaw_hW]
theorem r_lw11 (d : Dr us st f s w Q1 Q2) : lw11 (e9 sc us st f s w Q1 Q2 (some (.d (form (parts f))) :: nr 13)) (hW f ns p v sd l c) = .nx (e9 sc us st f s w Q1 Q2 (some (.d (form (parts f))) :: some (.d (form (parts s))) :: nr 12)) (hW f ns p v sd l c) := by
  refine set_d ?_
  show fMake 0 1 FI_Form_xinitx [] [.d (.tup (s.map pD))] (hW f ns p v sd l c) = _
  exact v_make (x := .tup (s.map pD)) (bb := false) (ps := s) rfl ((bs d).ok (by omega) (by omega)) (cl_hW f ns p v sd l c)
theorem r_lw12 (d : Dr us st f s w Q1 Q2) : ∃ g : List Pr, lw12 (e9 sc us st f s w Q1 Q2 (some (.d (form (parts f))) :: some (.d (form (parts s))) :: nr 12)) (hW f ns p v sd l c) = .nx (e9 sc us st f s w Q1 Q2 (some (.d (form (parts f))) :: some (.d (form (parts s))) :: nr 12)) (hW g ns p v sd l c) := by
  obtain ⟨u0, r, eu⟩ := List.exists_cons_of_length_pos d.un.l0
  have fl := d.fl
  refine ⟨f ++ [(u0, 1)], ?_⟩
  have e1 : maCons (mA1 fTup (maCons (m2 (fIxs T_getitem fIx) (mVar 2) (mC (.int 0))) (maCons (mA1 fTup (maCons (mC (.int 1)) (maCons (mC (.int 1)) maNil))) maNil))) maNil (e9 sc us st f s w Q1 Q2 (some (.d (form (parts f))) :: some (.d (form (parts s))) :: nr 12)) (hW f ns p v sd l c) = .ok [.d (pD (u0, 1))] (hW f ns p v sd l c) := by
    rw [eu]
    have a1 : m2 (fIxs T_getitem fIx) (mVar 2) (mC (.int 0)) (e9 sc (u0 :: r) st f s w Q1 Q2 (some (.d (form (parts f))) :: some (.d (form (parts s))) :: nr 12)) (hW f ns p v sd l c) = .ok (.d (uD u0)) (hW f ns p v sd l c) := by
      have z : atI (uD u0 :: r.map uD) 0 = some (uD u0) := by simp [atI, ixN]
      show (match atI (uD u0 :: r.map uD) 0 with
        | some d => R.ok (Vl.d d) (hW f ns p v sd l c)
        | none => .stuck) = _
      rw [z]
    refine ma_cons ?_ ma_nil
    rw [mA1_eq, maCons_eq, a1]
    rfl
  have e2 : mMetM lmAppend (mVar 8) (maCons (mA1 fTup (maCons (m2 (fIxs T_getitem fIx) (mVar 2) (mC (.int 0))) (maCons (mA1 fTup (maCons (mC (.int 1)) (maCons (mC (.int 1)) maNil))) maNil))) maNil) (e9 sc us st f s w Q1 Q2 (some (.d (form (parts f))) :: some (.d (form (parts s))) :: nr 12)) (hW f ns p v sd l c) = .ok (.d .non) (hW (f ++ [(u0, 1)]) ns p v sd l c) := by
    unfold mMetM
    show ((maCons (mA1 fTup (maCons (m2 (fIxs T_getitem fIx) (mVar 2) (mC (.int 0))) (maCons (mA1 fTup (maCons (mC (.int 1)) (maCons (mC (.int 1)) maNil))) maNil))) maNil (e9 sc us st f s w Q1 Q2 (some (.d (form (parts f))) :: some (.d (form (parts s))) :: nr 12)) (hW f ns p v sd l c)).bind fun ys h2 => fMet lmAppend 1 ys h2) = _
    rw [e1, R.bind_ok]
    show (match (if (f.map pD).length < 100000 then some (f.map pD ++ [pD (u0, 1)], D.non) else none) with
      | some (xs', d) => R.ok (Vl.d d) ((hW f ns p v sd l c).set 1 (.lst xs'))
      | none => .stuck) = _
    rw [if_pos (by rw [List.length_map]; omega)]
    have z : (f ++ [(u0, (1 : Rat))]).map pD = f.map pD ++ [pD (u0, 1)] := List.map_append
    rw [show hW (f ++ [(u0, 1)]) ns p v sd l c = bagC [.lst ((f ++ [(u0, (1 : Rat))]).map pD)] ns p v sd l c from rfl, z]
    rfl
  unfold lw12 mDrop
  rw [e2]
  rfl
abbrev e11 (sc : D) (us : List Un) (st : Un) (f s : List Pr) (w : Rat) (Q1 Q2 : List Pr) (t : Vi.Env) : Vi.Env := e9 sc us st f s w Q1 Q2 (some (.d (form (parts f))) :: some (.d (form (parts s))) :: t)
variable {h : Hc}
theorem neg1 (env : Vi.Env) : mA1 fTup (maCons (m1 (fNegs T_neg) (mC (.int 1))) (maCons (mC (.int 1)) maNil)) env h = .ok (.d (fr (-1))) h := rfl
theorem s130 (d : Dr us st f s w Q1 Q2) {x : Rat} (hx : sz x ≤ 130) : (∀ p ∈ f, sz p.2 + sz x ≤ 7000) ∧ (∀ p ∈ s, sz p.2 + sz x ≤ 7000) := ⟨fun p hp => by have := d.fs p hp; omega, fun p hp => by have := d.ss p hp; omega⟩
theorem r_lw13 (d : Dr us st f s w Q1 Q2) : lw13 (e11 sc us st f s w Q1 Q2 (nr 12)) h = .nx (e11 sc us st f s w Q1 Q2 (some (.d (.lst ((mulP s (-1)).map pD))) :: nr 11)) h := by
  have n1 := neg_sz
  have := d.sl
  exact set_d (mulM rfl (neg1 _) (s130 d (by omega)).2 (by omega))
theorem r_lw14 (d : Dr us st f s w Q1 Q2) (cl : Cl h) : lw14 (e11 sc us st f s w Q1 Q2 (some (.d (.lst ((mulP s (-1)).map pD))) :: nr 11)) h = .nx (e11 sc us st f s w Q1 Q2 (some (.d (.lst ((mulP s (-1)).map pD))) :: some (.d (.lst ((lsT f s w).map fmD))) :: nr 10)) h := by
  have n1 := neg_sz
  have nw := d.ws
  have lf := d.fl
  have b1 := bf d
  have b2 := bs d
  have pf' := plen b1
  have ps' := plen b2
  have g1 : mVar 9 (e11 sc us st f s w Q1 Q2 (some (.d (.lst ((mulP s (-1)).map pD))) :: nr 11)) h = .ok (.d (form (parts f))) h := rfl
  have g2 : mVar 10 (e11 sc us st f s w Q1 Q2 (some (.d (.lst ((mulP s (-1)).map pD))) :: nr 11)) h = .ok (.d (form (parts s))) h := rfl
  have g6 : mVar 6 (e11 sc us st f s w Q1 Q2 (some (.d (.lst ((mulP s (-1)).map pD))) :: nr 11)) h = .ok (.d (fr w)) h := rfl
  have x3 := faM g1 g2 (ok_app b1 b2 (by omega) (by omega)) cl
  have x4 := fsM g1 g2 (msz b2 (by omega)) (by omega) (ok_appR b1 b2 (by omega) (by omega)) cl
  have x5 := fnM g1 (msz b1 (by omega)) (by omega) (ok_mulR b1 (by omega) (by omega)) cl
  have x6 := fmM g1 g6 (msz b1 (by omega)) (by omega) (ok_mulR b1 (by omega) (by omega)) cl
  have x7 := fmM g2 g6 (msz b2 (by omega)) (by omega) (ok_mulR b2 (by omega) (by omega)) cl
  rw [p_add] at x3
  have x8 := fsM x3 g2 (msz b2 (by omega)) (by omega) (ok_appR (b1.app b2) b2 (by omega) (by omega)) cl
  rw [p_sub] at x4
  rw [p_mul] at x5 x6 x7
  rw [p_back] at x8
  have x9 : mA1 (fMake 0 0 FI_Form_xinitx [(.tup [])]) maNil (e11 sc us st f s w Q1 Q2 (some (.d (.lst ((mulP s (-1)).map pD))) :: nr 11)) h = .ok (.d (form (parts []))) h := by
    show ((FI_Form_xinitx [.tup []] h).bind fun fs h' => R.ok (Vl.d (.obj 0 fs)) h') = _
    rw [v_init (x := .tup []) (bb := false) (ps := []) rfl ⟨fun u => by show 0 + 1 ≤ 7000; omega, by simp⟩ cl]
    rfl
  have x10 : mA1 (fMake 0 1 FI_Form_xinitx []) (maCons (m1 (fRev false) (mVar 4)) maNil) (e11 sc us st f s w Q1 Q2 (some (.d (.lst ((mulP s (-1)).map pD))) :: nr 11)) h = .ok (.d (form (parts f))) h := by
    show fMake 0 1 FI_Form_xinitx [] [.d (.lst (f.map pD).reverse)] h = _
    rw [← List.map_reverse, ← p_rev f]
    exact v_make (x := .lst (f.reverse.map pD)) (bb := true) (ps := f.reverse) rfl (Bp.ok (K := 131) (n := 6) ⟨fun p hp => d.fs p (List.mem_reverse.mp hp), by rw [List.length_reverse]; exact lf⟩ (by omega) (by omega)) cl
  refine set_d ?_
  rw [mA1_eq, ma_cons g1 (ma_cons g2 (ma_cons x3 (ma_cons x4 (ma_cons x5 (ma_cons x6 (ma_cons x7 (ma_cons x8 (ma_cons x9 (ma_cons x10 ma_nil)))))))))]
  rfl
abbrev e12 (sc : D) (us : List Un) (st : Un) (f s : List Pr) (w : Rat) (Q1 Q2 : List Pr) (t : Vi.Env) : Vi.Env := e11 sc us st f s w Q1 Q2 (some (.d (.lst ((mulP s (-1)).map pD))) :: some (.d (.lst ((lsT f s w).map fmD))) :: t)
abbrev liD (L : List Pr) : D := .lst (L.map pD)
theorem r_lw15 (d : Dr us st f s w Q1 Q2) : lw15 (e12 sc us st f s w Q1 Q2 (nr 10)) h = .nx (e12 sc us st f s w Q1 Q2 (some (.d (.lst [liD f, liD s, liD (f ++ s), liD (f ++ mulP s (-1)), liD (mulP f (-1))])) :: nr 9)) h := by
  have n1 := neg_sz
  have lf := d.fl
  have ls := d.sl
  have g4 : mVar 4 (e12 sc us st f s w Q1 Q2 (nr 10)) h = .ok (.d (.lst (f.map pD))) h := rfl
  have g5 : mVar 5 (e12 sc us st f s w Q1 Q2 (nr 10)) h = .ok (.d (.lst (s.map pD))) h := rfl
  have g11 : mVar 11 (e12 sc us st f s w Q1 Q2 (nr 10)) h = .ok (.d (.lst ((mulP s (-1)).map pD))) h := rfl
  have x3 := addM g4 g5 (by omega)
  have x4 := addM g4 g11 (by unfold mulP; rw [List.length_map]; omega)
  have x5 := mulM g4 (neg1 _) (s130 d (by omega)).1 (by omega)
  refine set_d ?_
  rw [mA1_eq, ma_cons g4 (ma_cons g5 (ma_cons x3 (ma_cons x4 (ma_cons x5 ma_nil))))]
  rfl
theorem r_lw16 (d : Dr us st f s w Q1 Q2) : lw16 (e12 sc us st f s w Q1 Q2 (some (.d (.lst [liD f, liD s, liD (f ++ s), liD (f ++ mulP s (-1)), liD (mulP f (-1))])) :: nr 9)) h = .nx (e12 sc us st f s w Q1 Q2 (some (.d (.lst ((lsT f s w).map liD))) :: nr 9)) h := by
  have nw := d.ws
  have lf := d.fl
  have ls := d.sl
  have g4 : mVar 4 (e12 sc us st f s w Q1 Q2 (some (.d (.lst [liD f, liD s, liD (f ++ s), liD (f ++ mulP s (-1)), liD (mulP f (-1))])) :: nr 9)) h = .ok (.d (.lst (f.map pD))) h := rfl
  have g5 : mVar 5 (e12 sc us st f s w Q1 Q2 (some (.d (.lst [liD f, liD s, liD (f ++ s), liD (f ++ mulP s (-1)), liD (mulP f (-1))])) :: nr 9)) h = .ok (.d (.lst (s.map pD))) h := rfl
  have g6 : mVar 6 (e12 sc us st f s w Q1 Q2 (some (.d (.lst [liD f, liD s, liD (f ++ s), liD (f ++ mulP s (-1)), liD (mulP f (-1))])) :: nr 9)) h = .ok (.d (fr w)) h := rfl
  have g13 : mVar 13 (e12 sc us st f s w Q1 Q2 (some (.d (.lst [liD f, liD s, liD (f ++ s), liD (f ++ mulP s (-1)), liD (mulP f (-1))])) :: nr 9)) h = .ok (.d (.lst [liD f, liD s, liD (f ++ s), liD (f ++ mulP s (-1)), liD (mulP f (-1))])) h := rfl
  have x1 := mulM g4 g6 (s130 d nw).1 (by omega)
  have x2 := mulM g5 g6 (s130 d nw).2 (by omega)
  have x4 : mA1 (fLst false) maNil (e12 sc us st f s w Q1 Q2 (some (.d (.lst [liD f, liD s, liD (f ++ s), liD (f ++ mulP s (-1)), liD (mulP f (-1))])) :: nr 9)) h = .ok (.d (.lst [])) h := rfl
  have y : mA1 (fLst false) (maCons (mA1 (fCallN 2 F__law_p1_multiplied []) (maCons (mVar 4) (maCons (mVar 6) maNil))) (maCons (mA1 (fCallN 2 F__law_p1_multiplied []) (maCons (mVar 5) (maCons (mVar 6) maNil))) (maCons (mVar 4) (maCons (mA1 (fLst false) maNil) (maCons (mVar 4) maNil))))) (e12 sc us st f s w Q1 Q2 (some (.d (.lst [liD f, liD s, liD (f ++ s), liD (f ++ mulP s (-1)), liD (mulP f (-1))])) :: nr 9)) h = .ok (.d (.lst [liD (mulP f w), liD (mulP s w), liD f, liD [], liD f])) h := by
    rw [mA1_eq, ma_cons x1 (ma_cons x2 (ma_cons g4 (ma_cons x4 (ma_cons g4 ma_nil))))]
    rfl
  refine set_d ?_
  rw [m2_eq, g13, R.bind_ok, y, R.bind_ok]
  exact add_l [liD f, liD s, liD (f ++ s), liD (f ++ mulP s (-1)), liD (mulP f (-1))] [liD (mulP f w), liD (mulP s w), liD f, liD [], liD f] h (show 5 + 5 ≤ 100000 by omega)
theorem r_lw17 (d : Dr us st f s w Q1 Q2) (cl : Cl h) : lw17 (e12 sc us st f s w Q1 Q2 (some (.d (.lst ((lsT f s w).map liD))) :: nr 9)) h = .nx (e12 sc us st f s w Q1 Q2 (some (.d (.lst ((lsT f s w).map liD))) :: some (.d (.lst ((lsT f s w).map duD))) :: nr 8)) h := by
  refine set_d ?_
  show compL false (gtN 21) mYes (mA1 (fCallN 1 F__law_p1_due []) (maCons (mVar 21) maNil)) ((lsT f s w).map liD) [] (wipeE (e12 sc us st f s w Q1 Q2 (some (.d (.lst ((lsT f s w).map liD))) :: nr 9)) [21]) h = _
  rw [comp_gen (gtN 21) _ liD duD _ h (lsT f s w) [] (fun L hL => ⟨_, rfl, by
    obtain ⟨⟨K, n, b, k1, k2⟩, _⟩ := ls_all d L hL
    exact call1 (h1 := h) rfl (v_due (x := .lst (L.map pD)) (bb := true) rfl (b.ok (by omega) (by omega)) cl)⟩) (show 0 + 10 < 16000000 by omega)]
  rfl
/-- the law -/
theorem says : Says1 F_law 63 := fun ns _ => by
  obtain ⟨us, st, f, s, w, Q1, Q2, h, e, g, d⟩ := r_draws ns (mSeq lw9 (mSeq lw10 (mSeq lw11 (mSeq lw12 (mSeq lw13 (mSeq lw14 (mSeq lw15 (mSeq lw16 (mSeq lw17 (mSeq lw18 lw19))))))))))
  obtain ⟨ns', p, v, sd, l, c, rfl, _⟩ := g
  obtain ⟨gg, e12'⟩ := r_lw12 (sc := .kl (ns.map D.int)) (ns := ns') (p := p) (v := v) (sd := sd) (l := l) (c := c) d
  have cl := cl_hW gg ns' p v sd l c
  have l9 := d.un.l9
  have k : FxOk ⟨.kl (ns.map D.int), us, st, .lst (f.map pD), .lst (s.map pD), fr w, Q1, Q2, .ref 1, form (parts f), form (parts s), .lst ((mulP s (-1)).map pD), .lst ((lsT f s w).map liD), lsT f s w⟩ := ⟨fun u hu => by
    rcases List.mem_append.mp hu with hu | hu
    · exact d.un.ok u hu
    · rw [List.mem_singleton.mp hu]; exact d.sn, by show us.length ≤ 20; omega, d.q1, d.q2, fun L hL => by
    obtain ⟨⟨K, n, b, k1, k2⟩, hn⟩ := ls_all d L hL
    exact parts_ga b k1 k2 hn⟩
  obtain ⟨env', e18⟩ := all_asked (h := hW gg ns' p v sd l c) k
  have e18 : lw18 (e12 (.kl (ns.map D.int)) us st f s w Q1 Q2 (some (.d (.lst ((lsT f s w).map liD))) :: some (.d (.lst ((lsT f s w).map duD))) :: nr 8)) (hW gg ns' p v sd l c) = .nx env' (hW gg ns' p v sd l c) := e18
  refine ⟨hW gg ns' p v sd l c, ?_⟩
  refine (fnOf_eq 23 1 m_law _ [] rfl).trans ?_
  rw [lw_parts, e, mSeq_eq, r_lw9, RS.seq_nx, mSeq_eq, r_lw10 d, RS.seq_nx, mSeq_eq, r_lw11 d, RS.seq_nx, mSeq_eq, e12', RS.seq_nx, mSeq_eq, r_lw13 d, RS.seq_nx, mSeq_eq, r_lw14 d cl, RS.seq_nx, mSeq_eq, r_lw15 d, RS.seq_nx, mSeq_eq, r_lw16 d, RS.seq_nx, mSeq_eq, r_lw17 d cl, RS.seq_nx, mSeq_eq, e18, RS.seq_nx]
  rfl
end
end G07

set_option Elab.async false
set_option linter.all false
set_option maxRecDepth 100000
set_option maxHeartbeats 0
namespace G07
open PySem L2 PyProof.Rows Vi
abbrev R : PySem.W.OpenRow := PySem.W.OpenLaw.row PySem.Challenge.rw_swornlots_k07_forms_added
abbrev hk : PySem.W.Hook := hookV 6 ck fn
def ob (s : PySem.W.SharedT) : AlV := obsVG 6 ck fn (HeadRun.getT s)
theorem ob_eq (s : PySem.W.SharedT) : ob s = hk.obs s.abs := obsVG_eq (HeadRun.getT_eq s)
def nl0 : List Str := ["is_whole", "ZERO", "lowest", "plus", "times", "is_fraction", "MINUS_ONE", "gathered", "multiplied", "value_at", "Form", "_law_bag", "_law_mixed", "_law_draw", "_law_pick", "_law_name", "_law_names", "_law_is_int", "_law_divisor", "_law_low"]
def nl1 : List Str := ["_law_plus", "_law_times", "_law_fraction", "_law_p1_unknowns", "_law_p1_worth", "_law_p1_pairs", "_law_p1_multiplied", "_law_p1_due", "_law_p1_at", "_law_p1_point", "_law_p1_value", "_law_p1_same", "_law_p1_is"]
theorem run (w : World) : HeadRun.RunEqI R (PySem.W.view R.prog [0, 38]) hk ob 4000 (nl0 ++ nl1) w := by
  unfold HeadRun.RunEqI
  kernel_rfl
end G07

set_option Elab.async false
set_option linter.all false
set_option maxRecDepth 100000
set_option maxHeartbeats 0
open PySem PySem.W PySem.Calls PyProof.Rows
theorem G07.ends (hs : Vi.Says1 G07.F_law 63) : PySem.Challenge.rw_swornlots_k07_forms_added.Holds := by
  w_on; o_law
  refine HeadRun.head_imp (r := G07.R) (q := view G07.R.prog [0, 38]) (H := G07.hk) (ob := G07.ob) (M := 4000) (loose := G07.nl0 ++ G07.nl1) (d := HeadRun.topDef G07.R.prog 38) (kwd := []) G07.ob_eq G07.run
    (by kernel_rfl) (by kernel_rfl) (by kernel_rfl) (by rfl) (by first | assumption | decide +kernel) (by decide +kernel) ⟨rfl, rfl, rfl, rfl, rfl, by decide +kernel⟩ ?hw ?hc
  case hw => w_witness2
  case hc =>
    refine Vi.walk_G (l := PySem.Challenge.rw_swornlots_k07_forms_added) (n := 63) (k := 8) (x := "_law_script") (F := G07.F_law) rfl (by decide) (by kernel_rfl) ⟨rfl, by decide, by decide⟩ hs ?T
    intro w mg fa h Y G hmg0
    obtain ⟨K, KX, c⟩ := Y
    have hmg : mg ("law" : PySem.Str) = some (.ref fa) := by
      have e : (HeadRun.topDef G07.R.prog 38).name = ("law" : PySem.Str) := by kernel_rfl
      rw [← e]
      exact hmg0
    have ok : G07.PDx.ok K = true := Vi.SaysV.fact c 0
    obtain ⟨fd, F⟩ := Vi.SaysV.fun_ c 40
    have b := L2.FunD.bindsA (ps := ["_law_script"]) F fun _ _ _ _ _ _ us hl => match us, hl with | [_], _ => rfl
    refine ⟨K, fd, G07.PDx.gi K, rfl, KX, fun s u => b s [u] rfl, fun base kin gn => ?_⟩
    have Z : G07.Gn K mg base := ⟨c, kin, gn, ok⟩
    obtain rfl : fa = G07.r_law.pth K := by
      have z := (He.glo_ok kin gn (Vi.SaysV.fact c 29)).symm.trans hmg
      cases z
      rfl
    exact G07.fg_law Z F

theorem PySem.Challenge.cw_swornlots_k07_forms_added_holds : PySem.Challenge.rw_swornlots_k07_forms_added.Holds :=
  G07.ends G07.says

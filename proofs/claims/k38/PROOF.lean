import PyProof.Rows.All
import Wide.All
import OpenK.AllK
import Wide.FinOn
import HandS.ForMost
import HandS.ForExc
import HandS.Defaults
import HandS.CallSlots
import HandS.Gcd
import HandS.Wide
import HandS.IsInst
import HandS.Property
import HandS.ClsMeth
import HandS.ExcInit
import HandS.ExcField
import HandS.ExcIs
import HandS.Flow
import HandS.TupAny
import HandS.Deep
import KE.KOpsOwn
import PyProof.ReprRoads
import PyProof.Rows.NestShow
import HandS.Comp
import HandS.HeadHook2
import HandS.Ends
import KE.HD3
import HandS.Codes
import PyProof.SliceSyntax
import KE.KRevSl
import HandS.SortInts
import KE.KSortTupAny
import KE.KDictCopyH
import KE.KDictSum
import HandS.Text
import HandS.OwnIter
import HandS.IterVal
import PyProof.WalksMore
import HandS.Strs
import HandS.Zip
import KE.KDictPairs
import PyProof.SeqRoads
import KE.GoesMore
import KE.GoesEnum
import HandS.Star
import HandS.Style
import HandS.More
import KE.GoesZip
import KE.KEqDict
import HandS.TupMul
import PyProof.Rows.StrMeet
import HandS.HotCalls
import HandS.DictComp
import KE.KDictZip
import HandS.HeadHook3
import PySem.Challenge.RW_swornlots_k38_bad_claim_texts
import HandS.Records
import HandS.WordsDict
import HandS.TupLen
import HandS.Walk
import HandS.Conv
import HandS.TryOnly
import HandS.SetFor
import KE.DataFind
import HandS.TupSets
import HandS.SetBool
import HandS.TupLe
import HandS.Rev
import PyProof.ListTruth
import HandS.RaiseMore
import PyProof.Rows.StrMul
import KE.DataCmp
import PyProof.ReprBulk
import PyProof.P3Eq
import PyProof.Rows.RegReprOcc
import PyProof.Rows.StrFirst
import KE.KIntText
set_option Elab.async false
set_option linter.all false
set_option maxRecDepth 100000
set_option maxHeartbeats 2000000
namespace Vi
open PySem L2
inductive D where
  | non | bl (b : Bool) | int (i : Int) | str (x : Str)
  | tup (xs : List D) | lst (xs : List D) | kl (xs : List D)
  | xtup (xs : List D)
  | ref (n : Nat)
  | obj (c : Nat) (fs : List (Str × D))
  | cls (c : Nat)
  | dK (kvs : List (Key × D)) | dT (kvs : List (List Key × D))
inductive Cell where
  | lst (xs : List D)
  | ins (c : Nat) (fs : List (Str × D))
  | dK (kvs : List (Key × D)) | dT (kvs : List (List Key × D))
  | lk (kvs : List (Key × D))
  | frz (c : Cell)
inductive Vl where
  | d (x : D) | tl (xs : List D) | bl (xs : List D) | bi (c : Nat) (fs : List (Str × D))
inductive Sl where
  | d (x : D) | ol (xs : List D) | oi (c : Nat) (fs : List (Str × D)) | xc (c : Nat) (fs : List (Str × D))
abbrev Env := List (Option Sl)
abbrev Hc := List Cell
inductive R (α : Type) where
  | ok (a : α) (h : Hc) | exc (x : D) (h : Hc) | stuck
def R.bind {α β : Type} (r : R α) (k : α → Hc → R β) : R β := match r with
  | .ok a h => k a h
  | .exc x h => .exc x h
  | .stuck => .stuck
@[simp] theorem R.bind_ok {α β : Type} {a : α} {h : Hc} {k : α → Hc → R β} : (R.ok a h).bind k = k a h := rfl
@[simp] theorem R.bind_exc {α β : Type} {a : D} {h : Hc} {k : α → Hc → R β} : (R.exc a h : R α).bind k = .exc a h := rfl
@[simp] theorem R.bind_stuck {α β : Type} {k : α → Hc → R β} : (R.stuck : R α).bind k = .stuck := rfl
inductive Ty where
  | bt (n : String) | own (c : Nat)
  deriving DecidableEq
structure Gi where
  K : PySem.W.Frag
  ca : Nat → Addr
  isC : Nat → Bool
  fld : Nat → Str → Bool
  isi : Ty → Ty → Option Bool
  kc : List D → Bool
def SqK (g : Gi) (ds : List D) (F : Hp) (a : Addr) (vs : List V) : Prop := F a = some (.tup vs) ∨ (g.kc ds = true ∧ SqT g.K F a vs)
theorem SqK.sq {g : Gi} {ds : List D} {F : Hp} {a : Addr} {vs : List V} (h : SqK g ds F a vs) : SqT g.K F a vs := by
  rcases h with h | h
  · exact .inl (.inl h)
  · exact h.2
mutual
def Rep (g : Gi) (F : Hp) (al : Nat → Option Addr) : D → V → Prop
  | .non, v => v = .non
  | .bl b, v => v = .bl b
  | .int i, v => v = .int i
  | .str x, v => v = .str x
  | .tup ds, v => ∃ (a : Addr) (vs : List V), v = .ref a ∧ SqK g ds F a vs ∧ Reps g F al ds vs
  | .lst ds, v => ∃ (a : Addr) (vs : List V), v = .ref a ∧ F a = some (.lst vs) ∧ Reps g F al ds vs
  | .xtup ds, v => ∃ (a : Addr) (o : Obj) (vs : List V), v = .ref a ∧ F a = some (.frz o (.tup vs)) ∧ o.dict = none ∧ Reps g F al ds vs
  | .kl ds, v => ∃ (a : Addr) (vs : List V), v = .ref a ∧ SqL g.K F a vs ∧ Reps g F al ds vs
  | .ref n, v => ∃ a, v = .ref a ∧ al n = some a
  | .obj c fs, v => ∃ (a dx : Addr) (vs : List (Str × V)), v = .ref a ∧ F a = some (.ins (g.ca c) dx vs) ∧ RepF g F al fs vs
  | .cls c, v => v = .ref (g.ca c)
  | .dK kvs, v => ∃ (a : Addr) (vs : List (Key × V)), v = .ref a ∧ F a = some (.dK vs) ∧ RepK g F al kvs vs
  | .dT kvs, v => ∃ (a : Addr) (vs : List (List Key × V)), v = .ref a ∧ F a = some (.dT vs) ∧ RepT g F al kvs vs
def Reps (g : Gi) (F : Hp) (al : Nat → Option Addr) : List D → List V → Prop
  | [], vs => vs = []
  | d :: ds, vs => ∃ v r, vs = v :: r ∧ Rep g F al d v ∧ Reps g F al ds r
def RepF (g : Gi) (F : Hp) (al : Nat → Option Addr) : List (Str × D) → List (Str × V) → Prop
  | [], vs => vs = []
  | (k, d) :: ds, vs => ∃ v r, vs = (k, v) :: r ∧ Rep g F al d v ∧ RepF g F al ds r
def RepK (g : Gi) (F : Hp) (al : Nat → Option Addr) : List (Key × D) → List (Key × V) → Prop
  | [], vs => vs = []
  | (k, d) :: ds, vs => ∃ v r, vs = (k, v) :: r ∧ Rep g F al d v ∧ RepK g F al ds r
def RepT (g : Gi) (F : Hp) (al : Nat → Option Addr) : List (List Key × D) → List (List Key × V) → Prop
  | [], vs => vs = []
  | (k, d) :: ds, vs => ∃ v r, vs = (k, v) :: r ∧ Rep g F al d v ∧ RepT g F al ds r
end
theorem sqT_mono {K : PySem.W.Frag} {F F' : Hp} {a : Addr} {vs : List V} (e : ∀ a o, F a = some o → F' a = some o) (h : SqT K F a vs) : SqT K F' a vs := by
  rcases h with (h | ⟨o, h⟩) | h
  · exact .inl (.inl (e _ _ h))
  · exact .inl (.inr ⟨o, e _ _ h⟩)
  · exact .inr h
theorem sqK_mono {g : Gi} {ds : List D} {F F' : Hp} {a : Addr} {vs : List V} (e : ∀ a o, F a = some o → F' a = some o) (h : SqK g ds F a vs) : SqK g ds F' a vs := by
  rcases h with h | h
  · exact .inl (e _ _ h)
  · exact .inr ⟨h.1, sqT_mono e h.2⟩
theorem sqL_mono {K : PySem.W.Frag} {F F' : Hp} {a : Addr} {vs : List V} (e : ∀ a o, F a = some o → F' a = some o) (h : SqL K F a vs) : SqL K F' a vs := by
  rcases h with (h | ⟨o, h⟩) | h
  · exact .inl (.inl (e _ _ h))
  · exact .inl (.inr ⟨o, e _ _ h⟩)
  · exact .inr h
section
variable {g : Gi} {F F' : Hp} {al al' : Nat → Option Addr}
mutual
theorem Rep.mono (e : ∀ a o, F a = some o → F' a = some o) (ea : ∀ n a, al n = some a → al' n = some a) : ∀ {d : D} {v : V}, Rep g F al d v → Rep g F' al' d v
  | .non, _, h => h
  | .bl _, _, h => h
  | .int _, _, h => h
  | .str _, _, h => h
  | .tup _, _, ⟨a, vs, h1, h2, h3⟩ => ⟨a, vs, h1, sqK_mono e h2, Reps.mono e ea h3⟩
  | .lst _, _, ⟨a, vs, h1, h2, h3⟩ => ⟨a, vs, h1, e _ _ h2, Reps.mono e ea h3⟩
  | .xtup _, _, ⟨a, o, vs, h1, h2, h3, h4⟩ => ⟨a, o, vs, h1, e _ _ h2, h3, Reps.mono e ea h4⟩
  | .kl _, _, ⟨a, vs, h1, h2, h3⟩ => ⟨a, vs, h1, sqL_mono e h2, Reps.mono e ea h3⟩
  | .ref _, _, ⟨a, h1, h2⟩ => ⟨a, h1, ea _ _ h2⟩
  | .obj _ _, _, ⟨a, dx, vs, h1, h2, h3⟩ => ⟨a, dx, vs, h1, e _ _ h2, RepF.mono e ea h3⟩
  | .cls _, _, h => h
  | .dK _, _, ⟨a, vs, h1, h2, h3⟩ => ⟨a, vs, h1, e _ _ h2, RepK.mono e ea h3⟩
  | .dT _, _, ⟨a, vs, h1, h2, h3⟩ => ⟨a, vs, h1, e _ _ h2, RepT.mono e ea h3⟩
theorem Reps.mono (e : ∀ a o, F a = some o → F' a = some o) (ea : ∀ n a, al n = some a → al' n = some a) : ∀ {d : List D} {v : List V}, Reps g F al d v → Reps g F' al' d v
  | [], _, h => h
  | _ :: _, _, ⟨v, r, h1, h2, h3⟩ => ⟨v, r, h1, Rep.mono e ea h2, Reps.mono e ea h3⟩
theorem RepF.mono (e : ∀ a o, F a = some o → F' a = some o) (ea : ∀ n a, al n = some a → al' n = some a) : ∀ {d : List (Str × D)} {v : List (Str × V)}, RepF g F al d v → RepF g F' al' d v
  | [], _, h => h
  | (_, _) :: _, _, ⟨v, r, h1, h2, h3⟩ => ⟨v, r, h1, Rep.mono e ea h2, RepF.mono e ea h3⟩
theorem RepK.mono (e : ∀ a o, F a = some o → F' a = some o) (ea : ∀ n a, al n = some a → al' n = some a) : ∀ {d : List (Key × D)} {v : List (Key × V)}, RepK g F al d v → RepK g F' al' d v
  | [], _, h => h
  | (_, _) :: _, _, ⟨v, r, h1, h2, h3⟩ => ⟨v, r, h1, Rep.mono e ea h2, RepK.mono e ea h3⟩
theorem RepT.mono (e : ∀ a o, F a = some o → F' a = some o) (ea : ∀ n a, al n = some a → al' n = some a) : ∀ {d : List (List Key × D)} {v : List (List Key × V)}, RepT g F al d v → RepT g F' al' d v
  | [], _, h => h
  | (_, _) :: _, _, ⟨v, r, h1, h2, h3⟩ => ⟨v, r, h1, Rep.mono e ea h2, RepT.mono e ea h3⟩
end
end
structure Sta where
  F : Hp
  al : Nat → Option Addr
  h : Hc
  z : Nat → Option HO
abbrev RepS (g : Gi) (s : Sta) : D → V → Prop := Rep g s.F s.al
abbrev RepsS (g : Gi) (s : Sta) : List D → List V → Prop := Reps g s.F s.al
def CellRep (g : Gi) (s : Sta) (H : Hp) (a : Addr) : Cell → Prop
  | .lst ds => ∃ vs, H a = some (.lst vs) ∧ Reps g s.F s.al ds vs
  | .ins c fs => ∃ dx vs, H a = some (.ins (g.ca c) dx vs) ∧ RepF g s.F s.al fs vs
  | .dK kvs => ∃ vs, H a = some (.dK vs) ∧ RepK g s.F s.al kvs vs
  | .dT kvs => ∃ vs, H a = some (.dT vs) ∧ RepT g s.F s.al kvs vs
  | .lk kvs => ∃ od vs, H a = some (.frz od (.dK vs)) ∧ RepK g s.F s.al kvs vs
  | .frz c => CellRep g s H a c
theorem CellRep.mv {g : Gi} {s s' : Sta} {H H' : Hp} {a : Addr} (e : ∀ o, H a = some o → H' a = some o) (f : ∀ a o, s.F a = some o → s'.F a = some o) (l : ∀ n a, s.al n = some a → s'.al n = some a) : ∀ {c : Cell}, CellRep g s H a c → CellRep g s' H' a c
  | .lst _, ⟨vs, h3, h4⟩ => ⟨vs, e _ h3, h4.mono f l⟩
  | .ins _ _, ⟨dx, vs, h3, h4⟩ => ⟨dx, vs, e _ h3, h4.mono f l⟩
  | .dK _, ⟨vs, h3, h4⟩ => ⟨vs, e _ h3, h4.mono f l⟩
  | .dT _, ⟨vs, h3, h4⟩ => ⟨vs, e _ h3, h4.mono f l⟩
  | .lk _, ⟨od, vs, h3, h4⟩ => ⟨od, vs, e _ h3, h4.mono f l⟩
  | .frz c, h => CellRep.mv (c := c) e f l h
structure ZOk (s : Sta) (H : Hp) : Prop where
  at_ : ∀ n o, s.z n = some o → ∃ a c, s.al n = some a ∧ H a = some o ∧ s.h[n]? = some (.frz c)
  of : ∀ n c, s.h[n]? = some (.frz c) → ∃ o, s.z n = some o
theorem ZOk.keep {s s' : Sta} {H H' : Hp} (k : ZOk s H) (ez : s'.z = s.z) (eh : s'.h = s.h) (l : ∀ n a, s.al n = some a → s'.al n = some a) (e : ∀ n a o, s.al n = some a → H a = some o → H' a = some o) : ZOk s' H' :=
  ⟨fun n o h => by
    rw [ez] at h
    obtain ⟨a, c, h1, h2, h3⟩ := k.at_ n o h
    exact ⟨a, c, l _ _ h1, e n a o h1 h2, by rw [eh]; exact h3⟩, fun n c h => by
    rw [eh] at h
    rw [ez]
    exact k.of n c h⟩
structure Good (g : Gi) (s : Sta) (H : Hp) : Prop where
  fle : ∀ a o, s.F a = some o → H a = some o
  inj : ∀ n m a, s.al n = some a → s.al m = some a → n = m
  dom : ∀ n a, s.al n = some a → n < s.h.length ∧ s.F a = none ∧ ∃ o, H a = some o
  cell : ∀ n c, s.h[n]? = some c → ∃ a, s.al n = some a ∧ CellRep g s H a c
  zed : ZOk s H
structure Evo (s : Sta) (H : Hp) (s' : Sta) (H' : Hp) : Prop where
  f : ∀ a o, s.F a = some o → s'.F a = some o
  al : ∀ n a, s.al n = some a → s'.al n = some a
  oth : ∀ a o, H a = some o → (∀ n, s.al n ≠ some a) → H' a = some o ∧ (s.F a = none → (∀ ws, o ≠ .tup ws) → s'.F a = none) ∧ ∀ n, s'.al n ≠ some a
  len : s.h.length ≤ s'.h.length
  z : ∀ n o, s.z n = some o → s'.z n = some o
theorem Evo.refl (s : Sta) (H : Hp) : Evo s H s H := ⟨fun _ _ h => h, fun _ _ h => h, fun _ _ h n => ⟨h, fun z _ => z, n⟩, Nat.le_refl _, fun _ _ h => h⟩
theorem Evo.trans {s s1 s2 : Sta} {H H1 H2 : Hp} (a : Evo s H s1 H1) (b : Evo s1 H1 s2 H2) : Evo s H s2 H2 :=
  ⟨fun _ _ h => b.f _ _ (a.f _ _ h), fun _ _ h => b.al _ _ (a.al _ _ h), fun x o h n => by
    obtain ⟨h1, f1, n1⟩ := a.oth x o h n
    obtain ⟨h2, f2, n2⟩ := b.oth x o h1 n1
    exact ⟨h2, fun z t => f2 (f1 z t) t, n2⟩, Nat.le_trans a.len b.len, fun _ _ h => b.z _ _ (a.z _ _ h)⟩
section
variable {g : Gi} {s s' : Sta} {H H' : Hp}
theorem Evo.rep (e : Evo s H s' H') {d : D} {v : V} (h : Rep g s.F s.al d v) : Rep g s'.F s'.al d v := h.mono e.f e.al
theorem Evo.reps (e : Evo s H s' H') {d : List D} {v : List V} (h : Reps g s.F s.al d v) : Reps g s'.F s'.al d v := h.mono e.f e.al
theorem Evo.repF (e : Evo s H s' H') {d : List (Str × D)} {v : List (Str × V)} (h : RepF g s.F s.al d v) : RepF g s'.F s'.al d v := h.mono e.f e.al
end
structure Bg where
  s : Sta
  H : Hp
  me : Addr := 0
  xa : Addr := 0
  xd : Addr := 0
  xcl : Nat := 0
structure OwnA (B : Bg) (s : Sta) (a : Addr) : Prop where
  f : s.F a = none
  al : ∀ n, s.al n ≠ some a
  new : B.H a = none
theorem OwnA.evo {B : Bg} {s s' : Sta} {H H' : Hp} {a : Addr} {o : HO} (e : Evo s H s' H') (h : OwnA B s a) (ho : H a = some o) (nt : ∀ ws, o ≠ .tup ws) : OwnA B s' a ∧ H' a = some o := by
  obtain ⟨h1, h2, h3⟩ := e.oth a o ho h.al
  exact ⟨⟨h2 h.f nt, h3, h.new⟩, h1⟩
def SlRep (g : Gi) (B : Bg) (s : Sta) (H : Hp) : Sl → V → Prop
  | .d x, v => Rep g s.F s.al x v
  | .ol xs, v => ∃ a vs, v = .ref a ∧ H a = some (.lst vs) ∧ OwnA B s a ∧ Reps g s.F s.al xs vs
  | .oi c fs, v => ∃ a dx vs, v = .ref a ∧ H a = some (.ins (g.ca c) dx vs) ∧ OwnA B s a ∧ RepF g s.F s.al fs vs ∧ a = B.me
  | .xc c fs, v => v = .ref B.xa ∧ c = B.xcl ∧ ∃ vs, H B.xd = some (.xd vs) ∧ (∀ n, s.al n ≠ some B.xd) ∧ RepF g s.F s.al fs vs
def Sl.own : Sl → Bool
  | .d _ => false
  | .xc _ _ => false
  | _ => true
theorem SlRep.evo {g : Gi} {B : Bg} {s s' : Sta} {H H' : Hp} (e : Evo s H s' H') : ∀ {sl : Sl} {v : V}, SlRep g B s H sl v → SlRep g B s' H' sl v
  | .d _, _, h => e.rep h
  | .ol _, _, ⟨a, vs, h1, h2, h3, h4⟩ => ⟨a, vs, h1, (h3.evo e h2 fun _ z => nomatch z).2, (h3.evo e h2 fun _ z => nomatch z).1, e.reps h4⟩
  | .oi _ _, _, ⟨a, dx, vs, h1, h2, h3, h4, h5⟩ => ⟨a, dx, vs, h1, (h3.evo e h2 fun _ z => nomatch z).2, (h3.evo e h2 fun _ z => nomatch z).1, e.repF h4, h5⟩
  | .xc _ _, _, ⟨h1, h2, vs, h3, h4, h5⟩ => ⟨h1, h2, vs, (e.oth _ _ h3 h4).1, (e.oth _ _ h3 h4).2.2, e.repF h5⟩
structure SR (g : Gi) (B : Bg) (env : Env) (s : Sta) (σ : L2.St) (H : Hp) : Prop where
  good : Good g s H
  evo : Evo B.s B.H s H
  len : env.length = σ.length
  slot : ∀ (i : Nat) (sl : Sl), env[i]? = some (some sl) → ∃ v, σ[i]? = some (some v) ∧ SlRep g B s H sl v
  sep : ∀ (i j : Nat) (sl sl' : Sl) (v : V), i ≠ j → env[i]? = some (some sl) → env[j]? = some (some sl') → sl.own = true → sl'.own = true → σ[i]? = some (some v) → σ[j]? ≠ some (some v)
def NotOwn (env : Env) (σ : L2.St) (a : Addr) : Prop := ∀ (i : Nat) (sl : Sl), env[i]? = some (some sl) → sl.own = true → σ[i]? ≠ some (some (.ref a))
def VlRep (g : Gi) (B : Bg) (env : Env) (σ : L2.St) (s : Sta) (H : Hp) : Vl → V → Prop
  | .d x, v => Rep g s.F s.al x v
  | .tl xs, v => ∃ a vs, v = .ref a ∧ H a = some (.lst vs) ∧ OwnA B s a ∧ NotOwn env σ a ∧ Reps g s.F s.al xs vs
  | .bl xs, v => ∃ a vs, v = .ref a ∧ H a = some (.lst vs) ∧ OwnA B s a ∧ Reps g s.F s.al xs vs
  | .bi c fs, v => ∃ a dx vs, v = .ref a ∧ H a = some (.ins (g.ca c) dx vs) ∧ OwnA B s a ∧ RepF g s.F s.al fs vs
theorem VlRep.evo {g : Gi} {B : Bg} {env : Env} {σ : L2.St} {s s' : Sta} {H H' : Hp} (e : Evo s H s' H') : ∀ {x : Vl} {v : V}, VlRep g B env σ s H x v → VlRep g B env σ s' H' x v
  | .d _, _, h => e.rep h
  | .tl _, _, ⟨a, vs, h1, h2, h3, h5, h4⟩ => ⟨a, vs, h1, (h3.evo e h2 fun _ z => nomatch z).2, (h3.evo e h2 fun _ z => nomatch z).1, h5, e.reps h4⟩
  | .bl _, _, ⟨a, vs, h1, h2, h3, h4⟩ => ⟨a, vs, h1, (h3.evo e h2 fun _ z => nomatch z).2, (h3.evo e h2 fun _ z => nomatch z).1, e.reps h4⟩
  | .bi _ _, _, ⟨a, dx, vs, h1, h2, h3, h4⟩ => ⟨a, dx, vs, h1, (h3.evo e h2 fun _ z => nomatch z).2, (h3.evo e h2 fun _ z => nomatch z).1, e.repF h4⟩
def XRep (g : Gi) (s : Sta) (H : Hp) : D → Value → Option Addr → Prop
  | .obj c fs, cls, dd => ∃ d vs, cls = .ref (g.ca c) ∧ dd = some d ∧ H d = some (.xd vs) ∧ (∀ n, s.al n ≠ some d) ∧ RepF g s.F s.al fs vs
  | _, _, _ => False
abbrev WXv := Value → Option Addr → L2.St → Hp → Prop
abbrev ME := Env → Hc → R Vl
abbrev MB := Env → Hc → R Bool
abbrev MA := Env → Hc → R (List Vl)
section
variable (g : Gi) (B : Bg) (W : WXv) (env : Env) (s : Sta) (σ : L2.St) (H : Hp)
def PostX (x : D) (h : Hc) : Prop := ∀ (cls : Value) (dd : Option Addr) (H' : Hp) (s' : Sta), s'.h = h → Evo s H s' H' → SR g B env s' σ H' → XRep g s' H' x cls dd → W cls dd σ H'
def PostE : R Vl → VK → Prop
  | .ok d h, Q => ∀ (v : V) (H' : Hp) (s' : Sta), s'.h = h → Evo s H s' H' → SR g B env s' σ H' → VlRep g B env σ s' H' d v → Q v H'
  | .exc x h, _ => PostX g B W env s σ H x h
  | .stuck, _ => False
def PostB : R Bool → (Bool → Hp → Prop) → Prop
  | .ok b h, Q => ∀ (H' : Hp) (s' : Sta), s'.h = h → Evo s H s' H' → SR g B env s' σ H' → Q b H'
  | .exc x h, _ => PostX g B W env s σ H x h
  | .stuck, _ => False
inductive VlReps (g : Gi) (B : Bg) (env : Env) (σ : L2.St) (s : Sta) (H : Hp) : List Vl → List V → Prop
  | nil : VlReps g B env σ s H [] []
  | cons {x : Vl} {xs : List Vl} {v : V} {vs : List V} : VlRep g B env σ s H x v → VlReps g B env σ s H xs vs → VlReps g B env σ s H (x :: xs) (v :: vs)
def PostA : R (List Vl) → (List V → Hp → Prop) → Prop
  | .ok d h, Q => ∀ (vs : List V) (H' : Hp) (s' : Sta), s'.h = h → Evo s H s' H' → SR g B env s' σ H' → VlReps g B env σ s' H' d vs → Q vs H'
  | .exc x h, _ => PostX g B W env s σ H x h
  | .stuck, _ => False
end
theorem VlReps.evo {g : Gi} {B : Bg} {env : Env} {σ : L2.St} {s s' : Sta} {H H' : Hp} (e : Evo s H s' H') : ∀ {x : List Vl} {v : List V}, VlReps g B env σ s H x v → VlReps g B env σ s' H' x v
  | _, _, .nil => .nil
  | _, _, .cons a b => .cons (a.evo e) (b.evo e)
def tE (g : Gi) (B : Bg) (W : WXv) (m : ME) : TE := fun σ H Q => ∃ env s, SR g B env s σ H ∧ PostE g B W env s σ H (m env s.h) Q
def tT (g : Gi) (B : Bg) (W : WXv) (m : MB) : TT := fun σ H Q => ∃ env s, SR g B env s σ H ∧ PostB g B W env s σ H (m env s.h) Q
def tA (g : Gi) (B : Bg) (W : WXv) (m : MA) : TA := fun σ H Q => ∃ env s, SR g B env s σ H ∧ PostA g B W env s σ H (m env s.h) Q
section
variable {g : Gi} {B : Bg} {W : WXv} {env : Env} {s s' : Sta} {σ : L2.St} {H H' : Hp}
theorem PostX.later {x : D} {h : Hc} (e : Evo s H s' H') (p : PostX g B W env s σ H x h) : PostX g B W env s' σ H' x h := fun cls dd H2 s2 e1 e2 sr xr => p cls dd H2 s2 e1 (e.trans e2) sr xr
theorem PostE.later {Q : VK} (e : Evo s H s' H') : ∀ {r : R Vl}, PostE g B W env s σ H r Q → PostE g B W env s' σ H' r Q
  | .ok _ _, p => fun v H2 s2 e1 e2 sr vr => p v H2 s2 e1 (e.trans e2) sr vr
  | .exc _ _, p => PostX.later e p
  | .stuck, p => p
theorem PostB.later {Q : Bool → Hp → Prop} (e : Evo s H s' H') : ∀ {r : R Bool}, PostB g B W env s σ H r Q → PostB g B W env s' σ H' r Q
  | .ok _ _, p => fun H2 s2 e1 e2 sr => p H2 s2 e1 (e.trans e2) sr
  | .exc _ _, p => PostX.later e p
  | .stuck, p => p
theorem PostA.later {Q : List V → Hp → Prop} (e : Evo s H s' H') : ∀ {r : R (List Vl)}, PostA g B W env s σ H r Q → PostA g B W env s' σ H' r Q
  | .ok _ _, p => fun v H2 s2 e1 e2 sr vr => p v H2 s2 e1 (e.trans e2) sr vr
  | .exc _ _, p => PostX.later e p
  | .stuck, p => p
theorem PostE.mono {Q Q' : VK} (i : ∀ v H, Q v H → Q' v H) : ∀ {r : R Vl}, PostE g B W env s σ H r Q → PostE g B W env s σ H r Q'
  | .ok _ _, p => fun v H2 s2 e1 e2 sr vr => i _ _ (p v H2 s2 e1 e2 sr vr)
  | .exc _ _, p => p
  | .stuck, p => p
theorem PostB.mono {Q Q' : Bool → Hp → Prop} (i : ∀ v H, Q v H → Q' v H) : ∀ {r : R Bool}, PostB g B W env s σ H r Q → PostB g B W env s σ H r Q'
  | .ok _ _, p => fun H2 s2 e1 e2 sr => i _ _ (p H2 s2 e1 e2 sr)
  | .exc _ _, p => p
  | .stuck, p => p
theorem PostA.mono {Q Q' : List V → Hp → Prop} (i : ∀ v H, Q v H → Q' v H) : ∀ {r : R (List Vl)}, PostA g B W env s σ H r Q → PostA g B W env s σ H r Q'
  | .ok _ _, p => fun v H2 s2 e1 e2 sr vr => i _ _ (p v H2 s2 e1 e2 sr vr)
  | .exc _ _, p => p
  | .stuck, p => p
theorem tE.mono {m : ME} {Q Q' : VK} (h : tE g B W m σ H Q) (i : ∀ v H, Q v H → Q' v H) : tE g B W m σ H Q' := by
  obtain ⟨env, s, sr, p⟩ := h
  exact ⟨env, s, sr, p.mono i⟩
theorem tT.mono {m : MB} {Q Q' : Bool → Hp → Prop} (h : tT g B W m σ H Q) (i : ∀ v H, Q v H → Q' v H) : tT g B W m σ H Q' := by
  obtain ⟨env, s, sr, p⟩ := h
  exact ⟨env, s, sr, p.mono i⟩
theorem tA.mono {m : MA} {Q Q' : List V → Hp → Prop} (h : tA g B W m σ H Q) (i : ∀ v H, Q v H → Q' v H) : tA g B W m σ H Q' := by
  obtain ⟨env, s, sr, p⟩ := h
  exact ⟨env, s, sr, p.mono i⟩
theorem bindE {a : ME} {k : Vl → Hc → R Vl} {Q : VK} (sr : SR g B env s σ H) (p : PostE g B W env s σ H ((a env s.h).bind k) Q) :
    tE g B W a σ H fun v H1 => ∃ s1 x, SR g B env s1 σ H1 ∧ Evo s H s1 H1 ∧ VlRep g B env σ s1 H1 x v ∧ PostE g B W env s1 σ H1 (k x s1.h) Q := by
  refine ⟨env, s, sr, ?_⟩
  cases e : a env s.h with
  | ok x h1 =>
    rw [e] at p
    intro v H1 s1 e1 ev sr1 vr
    refine ⟨s1, x, sr1, ev, vr, ?_⟩
    rw [e1]
    exact PostE.later ev p
  | exc x h1 =>
    rw [e] at p
    exact p
  | stuck =>
    rw [e] at p
    exact p
theorem bindET {a : ME} {k : Vl → Hc → R Bool} {Q : Bool → Hp → Prop} (sr : SR g B env s σ H) (p : PostB g B W env s σ H ((a env s.h).bind k) Q) :
    tE g B W a σ H fun v H1 => ∃ s1 x, SR g B env s1 σ H1 ∧ Evo s H s1 H1 ∧ VlRep g B env σ s1 H1 x v ∧ PostB g B W env s1 σ H1 (k x s1.h) Q := by
  refine ⟨env, s, sr, ?_⟩
  cases e : a env s.h with
  | ok x h1 =>
    rw [e] at p
    intro v H1 s1 e1 ev sr1 vr
    refine ⟨s1, x, sr1, ev, vr, ?_⟩
    rw [e1]
    exact PostB.later ev p
  | exc x h1 =>
    rw [e] at p
    exact p
  | stuck =>
    rw [e] at p
    exact p
theorem bindTE {a : MB} {k : Bool → Hc → R Vl} {Q : VK} (sr : SR g B env s σ H) (p : PostE g B W env s σ H ((a env s.h).bind k) Q) :
    tT g B W a σ H fun b H1 => ∃ s1, SR g B env s1 σ H1 ∧ Evo s H s1 H1 ∧ PostE g B W env s1 σ H1 (k b s1.h) Q := by
  refine ⟨env, s, sr, ?_⟩
  cases e : a env s.h with
  | ok x h1 =>
    rw [e] at p
    intro H1 s1 e1 ev sr1
    refine ⟨s1, sr1, ev, ?_⟩
    rw [e1]
    exact PostE.later ev p
  | exc x h1 =>
    rw [e] at p
    exact p
  | stuck =>
    rw [e] at p
    exact p
theorem bindTT {a : MB} {k : Bool → Hc → R Bool} {Q : Bool → Hp → Prop} (sr : SR g B env s σ H) (p : PostB g B W env s σ H ((a env s.h).bind k) Q) :
    tT g B W a σ H fun b H1 => ∃ s1, SR g B env s1 σ H1 ∧ Evo s H s1 H1 ∧ PostB g B W env s1 σ H1 (k b s1.h) Q := by
  refine ⟨env, s, sr, ?_⟩
  cases e : a env s.h with
  | ok x h1 =>
    rw [e] at p
    intro H1 s1 e1 ev sr1
    refine ⟨s1, sr1, ev, ?_⟩
    rw [e1]
    exact PostB.later ev p
  | exc x h1 =>
    rw [e] at p
    exact p
  | stuck =>
    rw [e] at p
    exact p
theorem bindAA {a : ME} {b : MA} {f : Vl → List Vl → Hc → R (List Vl)} {Q : List V → Hp → Prop} (sr : SR g B env s σ H) (p : PostA g B W env s σ H ((a env s.h).bind fun x h1 => (b env h1).bind fun xs h2 => f x xs h2) Q) :
    tE g B W a σ H fun v H1 => tA g B W b σ H1 fun vs H2 => ∃ s2 x xs, SR g B env s2 σ H2 ∧ Evo s H s2 H2 ∧ VlRep g B env σ s2 H2 x v ∧ VlReps g B env σ s2 H2 xs vs ∧ PostA g B W env s2 σ H2 (f x xs s2.h) Q := by
  refine ⟨env, s, sr, ?_⟩
  cases e1 : a env s.h with
  | ok x h1 =>
    rw [e1] at p
    intro v H1 s1 q1 ev1 sr1 vr1
    refine ⟨env, s1, sr1, ?_⟩
    have p : PostA g B W env s σ H ((b env h1).bind fun xs h2 => f x xs h2) Q := p
    rw [q1]
    cases e2 : b env h1 with
    | ok xs h2 =>
      rw [e2] at p
      intro vs H2 s2 q2 ev2 sr2 vr2
      refine ⟨s2, x, xs, sr2, ev1.trans ev2, vr1.evo ev2, vr2, ?_⟩
      rw [q2]
      exact PostA.later (ev1.trans ev2) p
    | exc x h =>
      rw [e2] at p
      exact PostX.later ev1 p
    | stuck =>
      rw [e2] at p
      exact p
  | exc x h =>
    rw [e1] at p
    exact p
  | stuck =>
    rw [e1] at p
    exact p
theorem bindA {a : MA} {k : List Vl → Hc → R Vl} {Q : VK} (sr : SR g B env s σ H) (p : PostE g B W env s σ H ((a env s.h).bind k) Q) :
    tA g B W a σ H fun vs H1 => ∃ s1 xs, SR g B env s1 σ H1 ∧ Evo s H s1 H1 ∧ VlReps g B env σ s1 H1 xs vs ∧ PostE g B W env s1 σ H1 (k xs s1.h) Q := by
  refine ⟨env, s, sr, ?_⟩
  cases e : a env s.h with
  | ok x h1 =>
    rw [e] at p
    intro v H1 s1 e1 ev sr1 vr
    refine ⟨s1, x, sr1, ev, vr, ?_⟩
    rw [e1]
    exact PostE.later ev p
  | exc x h1 =>
    rw [e] at p
    exact p
  | stuck =>
    rw [e] at p
    exact p
theorem PostE.pure {x : Vl} {v : V} {Q : VK} (sr : SR g B env s σ H) (p : PostE g B W env s σ H (.ok x s.h) Q) (r : VlRep g B env σ s H x v) : Q v H := p v H s rfl (Evo.refl s H) sr r
theorem PostB.pure {b : Bool} {Q : Bool → Hp → Prop} (sr : SR g B env s σ H) (p : PostB g B W env s σ H (.ok b s.h) Q) : Q b H := p H s rfl (Evo.refl s H) sr
theorem SR.new {p : Addr} {o : HO} (sr : SR g B env s σ H) (hp : H p = none) : SR g B env s σ (upd H p o) ∧ Evo s H s (upd H p o) := by
  have ne : ∀ {a : Addr} {u : HO}, H a = some u → a ≠ p := fun h => ne_of_none h hp
  have ev : Evo s H s (upd H p o) := ⟨fun _ _ h => h, fun _ _ h => h, fun a u h n => ⟨by rw [upd_ne (ne h)]; exact h, fun z _ => z, n⟩, Nat.le_refl _, fun _ _ h => h⟩
  refine ⟨⟨⟨fun a u h => ?_, sr.good.inj, fun n a h => ?_, fun n c h => ?_, sr.good.zed.keep rfl rfl (fun _ _ h => h) fun n a o _ h => by rw [upd_ne (ne h)]; exact h⟩, sr.evo.trans ev, sr.len, fun i sl h => ?_, sr.sep⟩, ev⟩
  · have z := sr.good.fle a u h
    rw [upd_ne (ne z)]
    exact z
  · obtain ⟨h1, h2, u, h3⟩ := sr.good.dom n a h
    exact ⟨h1, h2, u, by rw [upd_ne (ne h3)]; exact h3⟩
  · obtain ⟨a, h1, h2⟩ := sr.good.cell n c h
    refine ⟨a, h1, ?_⟩
    exact h2.mv (fun o h3 => by rw [upd_ne (ne h3)]; exact h3) (fun _ _ h => h) fun _ _ h => h
  · obtain ⟨v, h1, h2⟩ := sr.slot i sl h
    exact ⟨v, h1, h2.evo ev⟩
theorem SR.own_new {p : Addr} (sr : SR g B env s σ H) (hp : H p = none) : OwnA B s p := by
  refine ⟨?_, fun n h => ?_, ?_⟩
  · cases e : s.F p with
    | none => rfl
    | some o =>
      have z := sr.good.fle p o e
      rw [hp] at z
      cases z
  · obtain ⟨_, _, o, h3⟩ := sr.good.dom n p h
    rw [hp] at h3
    cases h3
  · cases e : B.H p with
    | none => rfl
    | some o =>
      by_cases hn : ∀ n, B.s.al n ≠ some p
      · have z := (sr.evo.oth p o e hn).1
        rw [hp] at z
        cases z
      · have hn2 : ∃ n, B.s.al n = some p := Classical.byContradiction fun h => hn fun n z => h ⟨n, z⟩
        obtain ⟨n, h⟩ := hn2
        obtain ⟨_, _, o, h3⟩ := sr.good.dom n p (sr.evo.al n p h)
        rw [hp] at h3
        cases h3
theorem SlRep.there {sl : Sl} {v : V} (h : SlRep g B s H sl v) (o : sl.own = true) : ∃ a u, v = .ref a ∧ H a = some u := by
  cases sl with
  | d x => cases o
  | ol xs => obtain ⟨a, vs, h1, h2, _⟩ := h; exact ⟨a, _, h1, h2⟩
  | oi c fs => obtain ⟨a, dx, vs, h1, h2, _⟩ := h; exact ⟨a, _, h1, h2⟩
  | xc c fs => cases o
theorem SR.notOwn_new {p : Addr} (sr : SR g B env s σ H) (hp : H p = none) : NotOwn env σ p := fun i sl h1 h2 h3 => by
  obtain ⟨v, e1, e2⟩ := sr.slot i sl h1
  obtain ⟨a, u, rfl, h4⟩ := e2.there h2
  rw [h3] at e1
  cases e1
  rw [hp] at h4
  cases h4
def Sta.frz (s : Sta) (a : Addr) (o : HO) : Sta := { s with F := upd s.F a o }
theorem evo_frz {a : Addr} {o : HO} (hf : s.F a = none) (hn : ∀ n, s.al n ≠ some a) (hb : B.H a = none) (e : Evo B.s B.H s H) : Evo B.s B.H (s.frz a o) H :=
  ⟨fun b u h => by
    have z := e.f b u h
    have ne : b ≠ a := fun q => by rw [q, hf] at z; cases z
    show upd s.F a o b = some u
    rw [upd_ne ne]; exact z, e.al, fun b u h n => by
    obtain ⟨h1, h2, h3⟩ := e.oth b u h n
    refine ⟨h1, fun z t => ?_, h3⟩
    have ne : b ≠ a := fun q => by rw [q, hb] at h; cases h
    show upd s.F a o b = none
    rw [upd_ne ne]; exact h2 z t, e.len, e.z⟩
end
end Vi
namespace Vi
open PySem L2
theorem pe_imp {X : Cx} {e : Expr} {t t' : TE} (h : PE X e t) (i : ∀ σ H Q, t' σ H Q → t σ H Q) : PE X e t' := ⟨fun pins s σ H Q I q => h.run pins s σ H Q I (i σ H Q q)⟩
theorem pt_imp {X : Cx} {e : Expr} {t t' : TT} (h : PT X e t) (i : ∀ σ H Q, t' σ H Q → t σ H Q) : PT X e t' := ⟨fun pins s σ H Q I q => h.run pins s σ H Q I (i σ H Q q)⟩
theorem pw_imp {X : Cx} {e : Expr} {t t' : TT} (h : PW X e t) (i : ∀ σ H Q, t' σ H Q → t σ H Q) : PW X e t' := ⟨fun wh pins s σ H Q I q => h.run wh pins s σ H Q I (i σ H Q q)⟩
theorem pa_imp {X : Cx} {e : List Expr} {t t' : TA} (h : PA X e t) (i : ∀ σ H Q, t' σ H Q → t σ H Q) : PA X e t' := ⟨fun pos pins s σ H Q I q => h.run pos pins s σ H Q I (i σ H Q q)⟩
def mVar (i : Nat) : ME := fun env h => match env[i]? with
  | some (some (.d x)) => .ok (.d x) h
  | some (some (.ol xs)) => .ok (.bl xs) h
  | some (some (.oi c fs)) => .ok (.bi c fs) h
  | _ => .stuck
@[simp] def mC (d : D) : ME := fun _ h => .ok (.d d) h
@[simp] def m1 (f : Vl → Hc → R Vl) (a : ME) : ME := fun env h => (a env h).bind f
@[simp] def m2 (f : Vl → Vl → Hc → R Vl) (a b : ME) : ME := fun env h => (a env h).bind fun x h1 => (b env h1).bind fun y h2 => f x y h2
@[simp] def m2b (f : Vl → Vl → Hc → R Bool) (a b : ME) : MB := fun env h => (a env h).bind fun x h1 => (b env h1).bind fun y h2 => f x y h2
@[simp] def maNil : MA := fun _ h => .ok [] h
@[simp] def maCons (a : ME) (b : MA) : MA := fun env h => (a env h).bind fun x h1 => (b env h1).bind fun xs h2 => .ok (x :: xs) h2
@[simp] def mA1 (f : List Vl → Hc → R Vl) (a : MA) : ME := fun env h => (a env h).bind f
@[simp] def datas : List Vl → Option (List D)
  | [] => some []
  | .d x :: r => (datas r).map (x :: ·)
  | _ :: _ => none
def Cell.bare : Cell → Cell
  | .frz c => c.bare
  | c => c
theorem CellRep.bare {g : Gi} {s : Sta} {H : Hp} {a : Addr} : ∀ {c : Cell}, CellRep g s H a c → CellRep g s H a c.bare
  | .lst _, h => h
  | .ins _ _, h => h
  | .dK _, h => h
  | .dT _, h => h
  | .lk _, h => h
  | .frz c, h => CellRep.bare (c := c) h
def lst? (h : Hc) : Vl → Option (List D)
  | .d (.lst xs) => some xs
  | .d (.kl xs) => some xs
  | .tl xs => some xs
  | .bl xs => some xs
  | .d (.ref n) => (match h[n]?.map Cell.bare with
    | some (.lst xs) => some xs
    | _ => none)
  | _ => none
def mlst? (h : Hc) : Vl → Option (List D)
  | .d (.lst xs) => some xs
  | .tl xs => some xs
  | .bl xs => some xs
  | .d (.ref n) => (match h[n]?.map Cell.bare with
    | some (.lst xs) => some xs
    | _ => none)
  | _ => none
def tup? : Vl → Option (List D)
  | .d (.tup xs) => some xs
  | .d (.xtup xs) => some xs
  | _ => none
def ptup? : Vl → Option (List D)
  | .d (.tup xs) => some xs
  | _ => none
theorem ptup_tup {x : Vl} {xs : List D} (h : ptup? x = some xs) : tup? x = some xs := by
  cases x with
  | d x =>
    cases x with
    | tup ys => exact h
    | _ => cases h
  | _ => cases h
section
variable {g : Gi} {B : Bg} {W : WXv} {env : Env} {s s' : Sta} {σ : L2.St} {H H' : Hp}
theorem Good.sqL {a : Addr} {vs : List V} (gd : Good g s H) (h : SqL g.K s.F a vs) : SqL g.K H a vs := sqL_mono gd.fle h
theorem Good.sqT {a : Addr} {vs : List V} (gd : Good g s H) (h : SqT g.K s.F a vs) : SqT g.K H a vs := sqT_mono gd.fle h
theorem ref_lst {n : Nat} {v : V} {xs : List D} (gd : Good g s H) (h : Rep g s.F s.al (.ref n) v) (e : (match s.h[n]?.map Cell.bare with
    | some (.lst xs) => some xs
    | _ => none) = some xs) : ∃ a vs, v = .ref a ∧ H a = some (.lst vs) ∧ Reps g s.F s.al xs vs := by
  obtain ⟨a, rfl, hal⟩ := h
  cases e1 : s.h[n]? with
  | none =>
    rw [e1] at e
    cases e
  | some c =>
    rw [e1] at e
    obtain ⟨b, g1, g2⟩ := gd.cell n c e1
    rw [hal] at g1
    cases g1
    have g3 := g2.bare
    have e : (match some c.bare with
      | some (.lst xs) => some xs
      | _ => none) = some xs := e
    cases ec : c.bare with
    | lst ys =>
      rw [ec] at e g3
      cases e
      obtain ⟨vs, h1, h2⟩ := g3
      exact ⟨a, vs, rfl, h1, h2⟩
    | _ =>
      rw [ec] at e
      cases e
theorem VlRep.lst {x : Vl} {v : V} {xs : List D} (gd : Good g s H) (h : VlRep g B env σ s H x v) (e : lst? s.h x = some xs) : ∃ a vs, v = .ref a ∧ SqL g.K H a vs ∧ Reps g s.F s.al xs vs := by
  cases x with
  | d x =>
    cases x with
    | lst ys => cases e; obtain ⟨a, vs, h1, h2, h3⟩ := h; exact ⟨a, vs, h1, .of (gd.fle _ _ h2), h3⟩
    | kl ys => cases e; obtain ⟨a, vs, h1, h2, h3⟩ := h; exact ⟨a, vs, h1, gd.sqL h2, h3⟩
    | ref n => obtain ⟨a, vs, h1, h2, h3⟩ := ref_lst gd h e; exact ⟨a, vs, h1, .of h2, h3⟩
    | _ => cases e
  | tl ys => cases e; obtain ⟨a, vs, h1, h2, _, _, h3⟩ := h; exact ⟨a, vs, h1, .of h2, h3⟩
  | bl ys => cases e; obtain ⟨a, vs, h1, h2, _, h3⟩ := h; exact ⟨a, vs, h1, .of h2, h3⟩
  | bi c fs => cases e
theorem VlRep.mlst {x : Vl} {v : V} {xs : List D} (gd : Good g s H) (h : VlRep g B env σ s H x v) (e : mlst? s.h x = some xs) : ∃ a vs, v = .ref a ∧ H a = some (.lst vs) ∧ Reps g s.F s.al xs vs := by
  cases x with
  | d x =>
    cases x with
    | lst ys => cases e; obtain ⟨a, vs, h1, h2, h3⟩ := h; exact ⟨a, vs, h1, gd.fle _ _ h2, h3⟩
    | ref n => exact ref_lst gd h e
    | _ => cases e
  | tl ys => cases e; obtain ⟨a, vs, h1, h2, _, _, h3⟩ := h; exact ⟨a, vs, h1, h2, h3⟩
  | bl ys => cases e; obtain ⟨a, vs, h1, h2, _, h3⟩ := h; exact ⟨a, vs, h1, h2, h3⟩
  | bi c fs => cases e
theorem VlRep.tup {x : Vl} {v : V} {xs : List D} (gd : Good g s H) (h : VlRep g B env σ s H x v) (e : tup? x = some xs) : ∃ a vs, v = .ref a ∧ SqT g.K H a vs ∧ Reps g s.F s.al xs vs := by
  cases x with
  | d x =>
    cases x with
    | tup ys => cases e; obtain ⟨a, vs, h1, h2, h3⟩ := h; exact ⟨a, vs, h1, gd.sqT h2.sq, h3⟩
    | xtup ys => cases e; obtain ⟨a, o, vs, h1, h2, _, h3⟩ := h; exact ⟨a, vs, h1, .inl (.inr ⟨o, gd.fle _ _ h2⟩), h3⟩
    | _ => cases e
  | tl ys => cases e
  | bl ys => cases e
  | bi c fs => cases e
theorem VlReps.datas : ∀ {xs : List Vl} {vs : List V} {ds : List D}, VlReps g B env σ s H xs vs → datas xs = some ds → Reps g s.F s.al ds vs
  | [], _, _, .nil, e => by cases e; rfl
  | .d x :: r, _, ds, .cons h t, e => by
    have e1 : (Vi.datas r).map (x :: ·) = some ds := e
    cases q : Vi.datas r with
    | none => rw [q] at e1; cases e1
    | some l =>
      rw [q] at e1
      cases e1
      exact ⟨_, _, rfl, h, t.datas q⟩
  | .tl _ :: _, _, _, _, e => by cases e
  | .bl _ :: _, _, _, _, e => by cases e
  | .bi _ _ :: _, _, _, _, e => by cases e
theorem Reps.length {F : Hp} {al : Nat → Option Addr} : ∀ {ds : List D} {vs : List V}, Reps g F al ds vs → vs.length = ds.length
  | [], _, h => by rw [h]; rfl
  | _ :: _, _, ⟨v, r, h1, _, h3⟩ => by rw [h1, List.length_cons, List.length_cons, h3.length]
theorem Reps.get {F : Hp} {al : Nat → Option Addr} : ∀ {ds : List D} {vs : List V} {i : Nat} {d : D}, Reps g F al ds vs → ds[i]? = some d → ∃ v, vs[i]? = some v ∧ Rep g F al d v
  | _ :: _, _, 0, _, ⟨v, r, h1, h2, h3⟩, e => by
    cases e
    exact ⟨v, by rw [h1]; rfl, h2⟩
  | _ :: _, _, i + 1, _, ⟨v, r, h1, h2, h3⟩, e => by
    obtain ⟨w, e1, e2⟩ := h3.get (i := i) (by simpa using e)
    exact ⟨w, by rw [h1]; simpa using e1, e2⟩
theorem Reps.append {F : Hp} {al : Nat → Option Addr} : ∀ {ds es : List D} {vs ws : List V}, Reps g F al ds vs → Reps g F al es ws → Reps g F al (ds ++ es) (vs ++ ws)
  | [], _, _, _, h, k => by rw [h]; exact k
  | _ :: _, _, _, _, ⟨v, r, h1, h2, h3⟩, k => ⟨v, r ++ _, by rw [h1]; rfl, h2, h3.append k⟩
theorem Reps.drop {F : Hp} {al : Nat → Option Addr} : ∀ {ds : List D} {vs : List V} (n : Nat), Reps g F al ds vs → Reps g F al (ds.drop n) (vs.drop n)
  | _, _, 0, h => h
  | [], _, n + 1, h => by rw [h]; rfl
  | _ :: _, _, n + 1, ⟨v, r, h1, h2, h3⟩ => by rw [h1]; exact h3.drop n
theorem Reps.take {F : Hp} {al : Nat → Option Addr} : ∀ {ds : List D} {vs : List V} (n : Nat), Reps g F al ds vs → Reps g F al (ds.take n) (vs.take n)
  | _, _, 0, h => rfl
  | [], _, n + 1, h => by rw [h]; rfl
  | _ :: _, _, n + 1, ⟨v, r, h1, h2, h3⟩ => ⟨v, r.take n, by rw [h1]; rfl, h2, h3.take n⟩
theorem Reps.set {F : Hp} {al : Nat → Option Addr} {d : D} {v : V} (hd : Rep g F al d v) : ∀ {ds : List D} {vs : List V} (n : Nat), Reps g F al ds vs → Reps g F al (ds.set n d) (vs.set n v)
  | [], _, _, h => by rw [h]; rfl
  | _ :: _, _, 0, ⟨w, r, h1, h2, h3⟩ => ⟨v, r, by rw [h1]; rfl, hd, h3⟩
  | _ :: _, _, n + 1, ⟨w, r, h1, h2, h3⟩ => ⟨w, r.set n v, by rw [h1]; rfl, h2, h3.set hd n⟩
theorem Reps.cons {F : Hp} {al : Nat → Option Addr} {d : D} {v : V} {ds : List D} {vs : List V} (h : Rep g F al d v) (k : Reps g F al ds vs) : Reps g F al (d :: ds) (v :: vs) := ⟨v, vs, rfl, h, k⟩
theorem Reps.nil {F : Hp} {al : Nat → Option Addr} : Reps g F al [] [] := rfl
theorem SR.newF {p : Addr} {o : HO} (sr : SR g B env s σ H) (hp : H p = none) :
    SR g B env (s.frz p o) σ (upd H p o) ∧ Evo s H (s.frz p o) (upd H p o) := by
  have ow := sr.own_new hp
  have ne : ∀ {a : Addr} {u : HO}, H a = some u → a ≠ p := fun h => ne_of_none h hp
  have neF : ∀ {a : Addr} {u : HO}, s.F a = some u → a ≠ p := fun h => ne (sr.good.fle _ _ h)
  have ev : Evo s H (s.frz p o) (upd H p o) := ⟨fun a u h => by
      show upd s.F p o a = some u
      rw [upd_ne (neF h)]; exact h, fun _ _ h => h, fun a u h n => ⟨by rw [upd_ne (ne h)]; exact h, fun z _ => by
      show upd s.F p o a = none
      rw [upd_ne (ne h)]; exact z, n⟩, Nat.le_refl _, fun _ _ h => h⟩
  refine ⟨⟨⟨fun a u h => ?_, sr.good.inj, fun n a h => ?_, fun n c h => ?_, sr.good.zed.keep rfl rfl (fun _ _ h => h) fun n a o _ h => by rw [upd_ne (ne h)]; exact h⟩, sr.evo.trans ev, sr.len, fun i sl h => ?_, sr.sep⟩, ev⟩
  · have h : upd s.F p o a = some u := h
    by_cases q : a = p
    · subst q
      rw [upd_same] at h ⊢
      exact h
    · rw [upd_ne q] at h ⊢
      exact sr.good.fle a u h
  · obtain ⟨h1, h2, u, h3⟩ := sr.good.dom n a h
    refine ⟨h1, ?_, u, by rw [upd_ne (ne h3)]; exact h3⟩
    show upd s.F p o a = none
    rw [upd_ne (ne h3)]; exact h2
  · obtain ⟨a, h1, h2⟩ := sr.good.cell n c h
    refine ⟨a, h1, ?_⟩
    exact h2.mv (fun o h3 => by rw [upd_ne (ne h3)]; exact h3) ev.f ev.al
  · obtain ⟨v, h1, h2⟩ := sr.slot i sl h
    exact ⟨v, h1, h2.evo ev⟩
theorem PostE.newT {ds : List D} {vs : List V} {p : Addr} {Q : VK} (sr : SR g B env s σ H) (h : PostE g B W env s σ H (.ok (.d (.tup ds)) s.h) Q) (r : Reps g s.F s.al ds vs) (hp : H p = none) : Q (.ref p) (upd H p (.tup vs)) := by
  obtain ⟨sr1, ev⟩ := sr.newF (o := .tup vs) hp
  exact h _ _ (s.frz p (.tup vs)) rfl ev sr1 ⟨p, vs, rfl, .inl upd_same, ev.reps r⟩
theorem PostE.newL {ds : List D} {vs : List V} {p : Addr} {Q : VK} (sr : SR g B env s σ H) (h : PostE g B W env s σ H (.ok (.d (.lst ds)) s.h) Q) (r : Reps g s.F s.al ds vs) (hp : H p = none) : Q (.ref p) (upd H p (.lst vs)) := by
  obtain ⟨sr1, ev⟩ := sr.newF (o := .lst vs) hp
  exact h _ _ (s.frz p (.lst vs)) rfl ev sr1 ⟨p, vs, rfl, upd_same, ev.reps r⟩
theorem PostE.newO {ds : List D} {vs : List V} {p : Addr} {Q : VK} (sr : SR g B env s σ H) (h : PostE g B W env s σ H (.ok (.tl ds) s.h) Q) (r : Reps g s.F s.al ds vs) (hp : H p = none) : Q (.ref p) (upd H p (.lst vs)) := by
  obtain ⟨sr1, ev⟩ := sr.new (o := .lst vs) hp
  exact h _ _ _ rfl ev sr1 ⟨p, vs, rfl, upd_same, sr.own_new hp, sr.notOwn_new hp, ev.reps r⟩
@[simp] def Vl.ofL (o : Bool) (ds : List D) : Vl := if o then .tl ds else .d (.lst ds)
theorem PostE.newLO {o : Bool} {ds : List D} {vs : List V} {p : Addr} {Q : VK} (sr : SR g B env s σ H) (h : PostE g B W env s σ H (.ok (Vl.ofL o ds) s.h) Q) (r : Reps g s.F s.al ds vs) (hp : H p = none) : Q (.ref p) (upd H p (.lst vs)) := by
  cases o with
  | true => exact PostE.newO sr h r hp
  | false => exact PostE.newL sr h r hp
end
section
variable {X : Cx} {g : Gi} {B : Bg} {W : WXv} {pos : Pos}
theorem ve_var (i : Nat) {x : Str} (hN : X.N[i]? = some x := by rfl) (hv : Vis X.env.scope x := by first | exact Or.inl rfl | exact Or.inr (Or.inl rfl) | exact Or.inr (Or.inr rfl)) (hd : (x == ("__debug__" : Str)) = false := by decide)
    (hcd : (x == ("__classdict__" : Str)) = false := by decide) : PE X (.Name x pos) (tE g B W (mVar i)) := by
  refine pe_imp (pe_var hN hv hd hcd) fun σ H Q ⟨env, s, sr, p⟩ => ?_
  unfold mVar at p
  cases e : env[i]? with
  | none => rw [e] at p; exact p.elim
  | some o =>
    rw [e] at p
    cases o with
    | none => exact p.elim
    | some sl =>
      obtain ⟨v, h1, h2⟩ := sr.slot i sl e
      refine ⟨v, h1, ?_⟩
      cases sl with
      | d x => exact PostE.pure sr p h2
      | ol xs => exact PostE.pure sr p h2
      | oi c fs =>
        obtain ⟨a, dx, vs, e1, e2, e3, e4, _⟩ := h2
        exact PostE.pure sr p ⟨a, dx, vs, e1, e2, e3, e4⟩
      | xc c fs => exact p.elim
theorem ve_int {i j} : PE X (.Constant (.int i) j pos) (tE g B W (mC (.int i))) := pe_imp pe_int fun σ H Q ⟨env, s, sr, p⟩ => PostE.pure sr p rfl
theorem ve_bl {b j} : PE X (.Constant (.bool b) j pos) (tE g B W (mC (.bl b))) := pe_imp pe_bl fun σ H Q ⟨env, s, sr, p⟩ => PostE.pure sr p rfl
theorem ve_non {j} : PE X (.Constant .none j pos) (tE g B W (mC .non)) := pe_imp pe_non fun σ H Q ⟨env, s, sr, p⟩ => PostE.pure sr p rfl
theorem ve_str {x j} : PE X (.Constant (.str x) j pos) (tE g B W (mC (.str x))) := pe_imp pe_str fun σ H Q ⟨env, s, sr, p⟩ => PostE.pure sr p rfl
structure GlobD (X : Cx) (g : Gi) (x : Str) (d : D) : Prop where
  ex : ∃ (v : V) (u : Value), X.mg x = some u ∧ RelV v u ∧ ∀ F al, Rep g F al d v
theorem ve_glob {x : Str} {d : D} (hg : Gl X x) (h : GlobD X g x d) (hd : (x == ("__debug__" : Str)) = false := by decide) : PE X (.Name x pos) (tE g B W (mC d)) := by
  obtain ⟨v, u, h1, h2, h3⟩ := h.ex
  exact pe_imp (pe_glob hg h1 h2 hd) fun σ H Q ⟨env, s, sr, p⟩ => PostE.pure sr p (h3 _ _)
theorem va_nil : PA X [] (tA g B W maNil) := pa_imp pa_nil fun σ H Q ⟨env, s, sr, p⟩ => p [] H s rfl (Evo.refl s H) sr .nil
theorem va_cons {e : Expr} {es : List Expr} {a : ME} {b : MA} (ha : PE X e (tE g B W a)) (hb : PA X es (tA g B W b)) (hs : starEach (e :: es) X.env = (false, eval e X.env) :: starEach es X.env := by rfl) : PA X (e :: es) (tA g B W (maCons a b)) := by
  refine pa_imp (pa_cons ha hb hs) fun σ H Q ⟨env, s, sr, p⟩ => ?_
  refine (bindAA (f := fun x xs h => .ok (x :: xs) h) (Q := Q) sr p).mono fun v H1 h1 => h1.mono fun vs H2 ⟨s2, x, xs, sr2, ev2, vr1, vr2, p2⟩ => ?_
  exact p2 _ H2 s2 rfl (Evo.refl _ _) sr2 (.cons vr1 vr2)
@[simp] def fTup (xs : List Vl) (h : Hc) : R Vl := match datas xs with
  | some ds => if ds.length ≤ 100000 then .ok (.d (.tup ds)) h else .stuck
  | none => .stuck
@[simp] def fLst (o : Bool) (xs : List Vl) (h : Hc) : R Vl := match datas xs with
  | some ds => if ds.length ≤ 100000 then .ok (Vl.ofL o ds) h else .stuck
  | none => .stuck
theorem size_of {n : Nat} (h : n ≤ 100000) : n ≤ sizeLine := Nat.le_trans h (by decide)
theorem ve_tup {es : List Expr} {a : MA} {x1} (h : PA X es (tA g B W a)) : PE X (.Tuple es x1 pos) (tE g B W (mA1 fTup a)) := by
  refine pe_imp (pe_tup h) fun σ H Q ⟨env, s, sr, p⟩ => ?_
  refine (bindA (Q := Q) sr p).mono fun vs H1 ⟨s2, ys, sr2, ev2, vr2, p2⟩ => ?_
  unfold fTup at p2
  cases e2 : datas ys with
  | none => rw [e2] at p2; exact p2.elim
  | some ds =>
    rw [e2] at p2
    by_cases hl : ds.length ≤ 100000
    · simp only [if_pos hl] at p2
      have rr := vr2.datas e2
      exact ⟨by rw [rr.length]; exact size_of hl, fun p hp => PostE.newT sr2 p2 rr hp⟩
    · simp only [if_neg hl] at p2
      exact p2.elim
theorem ve_lst (o : Bool) {es : List Expr} {a : MA} (h : PA X es (tA g B W a)) : PE X (.List es pos) (tE g B W (mA1 (fLst o) a)) := by
  refine pe_imp (pe_lst h) fun σ H Q ⟨env, s, sr, p⟩ => ?_
  refine (bindA (Q := Q) sr p).mono fun vs H1 ⟨s2, ys, sr2, ev2, vr2, p2⟩ => ?_
  unfold fLst at p2
  cases e2 : datas ys with
  | none => rw [e2] at p2; exact p2.elim
  | some ds =>
    rw [e2] at p2
    by_cases hl : ds.length ≤ 100000
    · simp only [if_pos hl] at p2
      have rr := vr2.datas e2
      exact ⟨by rw [rr.length]; exact size_of hl, fun p hp => PostE.newLO sr2 p2 rr hp⟩
    · simp only [if_neg hl] at p2
      exact p2.elim
end
end Vi
namespace Vi
open PySem L2
section
variable {g : Gi} {B : Bg} {W : WXv} {env : Env} {s s' : Sta} {σ : L2.St} {H H' : Hp}
theorem bind2E {a b : ME} {f : Vl → Vl → Hc → R Vl} {Q : VK} (sr : SR g B env s σ H) (p : PostE g B W env s σ H (m2 f a b env s.h) Q) :
    tE g B W a σ H fun v H1 => tE g B W b σ H1 fun w H2 => ∃ s2 x y, SR g B env s2 σ H2 ∧ Evo s H s2 H2 ∧ VlRep g B env σ s2 H2 x v ∧ VlRep g B env σ s2 H2 y w ∧ PostE g B W env s2 σ H2 (f x y s2.h) Q := by
  refine (bindE (k := fun x h1 => (b env h1).bind fun y h2 => f x y h2) sr p).mono fun v H1 ⟨s1, x, sr1, e1, r1, p1⟩ => ?_
  refine (bindE (k := fun y h2 => f x y h2) sr1 p1).mono fun w H2 ⟨s2, y, sr2, e2, r2, p2⟩ => ?_
  exact ⟨s2, x, y, sr2, e1.trans e2, r1.evo e2, r2, p2⟩
end
def OpV (X : Cx) (g : Gi) (f : Value → Value → Sem Value) (F : Vl → Vl → Hc → R Vl) : Prop :=
  ∃ r : R2, OpR X f r ∧ ∀ (B : Bg) (W : WXv) (env : Env) (s : Sta) (σ : L2.St) (H : Hp) (x y : Vl) (v w : V) (Q : VK), SR g B env s σ H → VlRep g B env σ s H x v → VlRep g B env σ s H y w → PostE g B W env s σ H (F x y s.h) Q → r v w H Q
section
variable {X : Cx} {g : Gi} {B : Bg} {W : WXv} {pos : Pos} {a b : Expr} {ma mb : ME}
theorem ve_bin {op : Operator} {F : Vl → Vl → Hc → R Vl} (ho : OpV X g (binaryOp op) F) (ha : PE X a (tE g B W ma)) (hb : PE X b (tE g B W mb)) : PE X (.BinOp a op b pos) (tE g B W (m2 F ma mb)) := by
  obtain ⟨r, h1, h2⟩ := ho
  refine pe_imp (pe_op h1 ha hb) fun σ H Q ⟨env, s, sr, p⟩ => ?_
  refine (bind2E (Q := Q) sr p).mono fun v H1 q => q.mono fun w H2 ⟨s2, x, y, sr2, _, r1, r2, p2⟩ => ?_
  exact h2 B W env s2 σ H2 x y v w Q sr2 r1 r2 p2
theorem ve_cmp {op : CmpOp} {F : Vl → Vl → Hc → R Vl} (ho : OpV X g (compareOp op) F) (ha : PE X a (tE g B W ma)) (hb : PE X b (tE g B W mb)) (hm : behindInMarks op b = false) : PE X (.Compare a [op] [b] pos) (tE g B W (m2 F ma mb)) := by
  obtain ⟨r, h1, h2⟩ := ho
  refine pe_imp (pe_cmpR h1 ha hb hm) fun σ H Q ⟨env, s, sr, p⟩ => ?_
  refine (bind2E (Q := Q) sr p).mono fun v H1 q => q.mono fun w H2 ⟨s2, x, y, sr2, _, r1, r2, p2⟩ => ?_
  exact h2 B W env s2 σ H2 x y v w Q sr2 r1 r2 p2
@[simp] def asB (m : ME) : MB := fun env h => (m env h).bind fun x h1 => match x with
  | .d (.bl b) => .ok b h1
  | _ => .stuck
theorem tE_asB {m : ME} {σ : L2.St} {H : Hp} {Q : Bool → Hp → Prop} (h : tT g B W (asB m) σ H Q) : tE g B W m σ H fun v H1 => ∃ k, v = .bl k ∧ Q k H1 := by
  obtain ⟨env, s, sr, p⟩ := h
  refine (bindET sr p).mono fun v H1 ⟨s1, x, sr1, _, r1, p1⟩ => ?_
  cases x with
  | d x =>
    cases x with
    | bl b => exact ⟨b, r1, PostB.pure sr1 p1⟩
    | _ => exact p1.elim
  | _ => exact p1.elim
theorem vt_cmp {op : CmpOp} {F : Vl → Vl → Hc → R Vl} (ho : OpV X g (compareOp op) F) (ha : PE X a (tE g B W ma)) (hb : PE X b (tE g B W mb)) (hm : behindInMarks op b = false) : PT X (.Compare a [op] [b] pos) (tT g B W (asB (m2 F ma mb))) := by
  obtain ⟨r, h1, h2⟩ := ho
  refine pt_imp (pt_cmpR h1 ha hb hm) fun σ H Q h => ?_
  obtain ⟨env, s, sr, p⟩ := tE_asB h
  refine (bind2E sr p).mono fun v H1 q => q.mono fun w H2 ⟨s2, x, y, sr2, _, r1, r2, p2⟩ => ?_
  exact h2 B W env s2 σ H2 x y v w _ sr2 r1 r2 p2
theorem vt_val {m : ME} (h : PE X a (tE g B W m)) (he : ∀ whole, isTrue a X.env whole = (do let v ← whole; standAt a.pos; holding [v] (truthy v)) := by intro _; rfl) : PT X a (tT g B W (asB m)) :=
  pt_imp (pt_val h he) fun σ H Q q => tE_asB q
@[simp] def fI (f : Int → Int → D) (x y : Vl) (h : Hc) : R Vl := match x, y with
  | .d (.int i), .d (.int j) => .ok (.d (f i j)) h
  | _, _ => .stuck
@[simp] def fIc (c : Int → Int → Bool) (f : Int → Int → D) (x y : Vl) (h : Hc) : R Vl := match x, y with
  | .d (.int i), .d (.int j) => if c i j then .ok (.d (f i j)) h else .stuck
  | _, _ => .stuck
theorem opv_I {f : Value → Value → Sem Value} {F : Int → Int → D} {G : Int → Int → V} (h : OpR X f (rI0 G)) (e : ∀ g F' al i j, Rep g F' al (F i j) (G i j)) : OpV X g f (fI F) := by
  refine ⟨_, h, fun B W env s σ H x y v w Q sr r1 r2 p => ?_⟩
  unfold fI at p
  split at p
  · exact ⟨_, _, r1, r2, PostE.pure sr p (e _ _ _ _ _)⟩
  · exact p.elim
theorem opv_Ic {f : Value → Value → Sem Value} {C : Int → Int → Prop} {c : Int → Int → Bool} {F : Int → Int → D} {G : Int → Int → V} (h : OpR X f (rI C G)) (hc : ∀ i j, c i j = true → C i j) (e : ∀ g F' al i j, Rep g F' al (F i j) (G i j)) : OpV X g f (fIc c F) := by
  refine ⟨_, h, fun B W env s σ H x y v w Q sr r1 r2 p => ?_⟩
  unfold fIc at p
  split at p
  · split at p
    · next hcc => exact ⟨_, _, r1, r2, hc _ _ hcc, PostE.pure sr p (e _ _ _ _ _)⟩
    · exact p.elim
  · exact p.elim
def cMul (i j : Int) : Bool := decide (i.natAbs.log2 + j.natAbs.log2 < 1000000)
def cDiv (_ j : Int) : Bool := decide (j ≠ 0) && decide (j.natAbs.log2 < 9000)
def cPow (i j : Int) : Bool := decide (0 ≤ j) && (decide (j ≤ 1000000) && decide (i.natAbs < 2 ^ 64))
abbrev fSub : Vl → Vl → Hc → R Vl := fI fun i j => .int (i - j)
abbrev fMul : Vl → Vl → Hc → R Vl := fIc cMul fun i j => .int (i * j)
abbrev fDiv : Vl → Vl → Hc → R Vl := fIc cDiv fun i j => .int (i.fdiv j)
abbrev fMod : Vl → Vl → Hc → R Vl := fIc (fun _ j => decide (0 < j)) fun i j => .int (i % j)
abbrev fPow : Vl → Vl → Hc → R Vl := fIc cPow fun i j => .int (i ^ j.toNat)
abbrev fLt : Vl → Vl → Hc → R Vl := fI fun i j => .bl (decide (i < j))
abbrev fLe : Vl → Vl → Hc → R Vl := fI fun i j => .bl (decide (i ≤ j))
abbrev fGt : Vl → Vl → Hc → R Vl := fI fun i j => .bl (decide (j < i))
abbrev fGe : Vl → Vl → Hc → R Vl := fI fun i j => .bl (decide (j ≤ i))
theorem o_sub : OpV X g (binaryOp .Sub) fSub := opv_I op_sub fun _ _ _ _ _ => rfl
theorem o_mul : OpV X g (binaryOp .Mult) fMul := opv_Ic op_mulW (fun i j h => of_decide_eq_true (p := i.natAbs.log2 + j.natAbs.log2 < 1000000) h) fun _ _ _ _ _ => rfl
theorem op_fdivA : OpR X (binaryOp .FloorDiv) (rI (fun _ j => j ≠ 0 ∧ j.natAbs.log2 < 9000) fun i j => .int (i.fdiv j)) := opI fun i j _ _ _ _ _ hc q =>
  PyProof.Rows.floordiv_int hc.1 q (.inl (PyProof.noPylong_of_log2 hc.2))
theorem o_div : OpV X g (binaryOp .FloorDiv) fDiv := opv_Ic op_fdivA (fun _ _ h => by
  obtain ⟨h1, h2⟩ := Bool.and_eq_true_iff.mp h
  exact ⟨of_decide_eq_true h1, of_decide_eq_true h2⟩) fun _ _ _ _ _ => rfl
theorem o_mod : OpV X g (binaryOp .Mod) fMod := opv_Ic op_mod (fun _ _ h => of_decide_eq_true h) fun _ _ _ _ _ => rfl
theorem o_pow : OpV X g (binaryOp .Pow) fPow := opv_Ic op_pow (fun _ _ h => by
  obtain ⟨h1, h2⟩ := Bool.and_eq_true_iff.mp h
  obtain ⟨h2, h3⟩ := Bool.and_eq_true_iff.mp h2
  exact ⟨of_decide_eq_true h1, of_decide_eq_true h2, of_decide_eq_true h3⟩) fun _ _ _ _ _ => rfl
theorem o_lt : OpV X g (compareOp .Lt) fLt := opv_I op_lt fun _ _ _ _ _ => rfl
theorem o_le : OpV X g (compareOp .LtE) fLe := opv_I op_le fun _ _ _ _ _ => rfl
theorem o_gt : OpV X g (compareOp .Gt) fGt := opv_I op_gt fun _ _ _ _ _ => rfl
theorem o_ge : OpV X g (compareOp .GtE) fGe := opv_I op_ge fun _ _ _ _ _ => rfl
theorem tup?_eq {x : Vl} {xs : List D} (h : ptup? x = some xs) : x = .d (.tup xs) := by
  cases x with
  | d x =>
    cases x with
    | tup ys => cases h; rfl
    | _ => cases h
  | _ => cases h
def fAdd (o : Bool) (x y : Vl) (h : Hc) : R Vl := match x, y with
  | .d (.int i), .d (.int j) => .ok (.d (.int (i + j))) h
  | .d (.str a), .d (.str b) => if a.length + b.length ≤ 100000 then .ok (.d (.str (a ++ b))) h else .stuck
  | x, y => match mlst? h x, mlst? h y with
    | some xs, some ys => if xs.length + ys.length ≤ 100000 then .ok (Vl.ofL o (xs ++ ys)) h else .stuck
    | _, _ => match ptup? x, ptup? y with
      | some xs, some ys => if xs.length + ys.length ≤ 100000 then .ok (.d (.tup (xs ++ ys))) h else .stuck
      | _, _ => .stuck
theorem o_add (o : Bool) (hK : g.K = X.K) : OpV X g (binaryOp .Add) (fAdd o) := by
  refine ⟨_, OpR.or op_add (OpR.or op_add_str (OpR.or op_cat op_catA)), fun B W env s σ H x y v w Q sr r1 r2 p => ?_⟩
  unfold fAdd at p
  split at p
  · exact .inl ⟨_, _, r1, r2, PostE.pure sr p rfl⟩
  · split at p
    · next hl => exact .inr (.inl ⟨_, _, r1, r2, size_of hl, PostE.pure sr p rfl⟩)
    · exact p.elim
  · split at p
    · next xs ys e1 e2 =>
      split at p
      · next hl =>
        obtain ⟨a1, vs1, rfl, h1, q1⟩ := r1.mlst sr.good e1
        obtain ⟨a2, vs2, rfl, h2, q2⟩ := r2.mlst sr.good e2
        exact .inr (.inr (.inl ⟨a1, a2, vs1, vs2, rfl, rfl, h1, h2, by rw [q1.length, q2.length]; exact size_of hl, fun p' hp => PostE.newLO sr p (q1.append q2) hp⟩))
      · exact p.elim
    · split at p
      · next xs ys e1 e2 =>
        split at p
        · next hl =>
          obtain ⟨a1, vs1, rfl, h1, q1⟩ := r1.tup sr.good (ptup_tup e1)
          obtain ⟨a2, vs2, rfl, h2, q2⟩ := r2.tup sr.good (ptup_tup e2)
          have c1 : ∀ {ds : List D} {vs : List V}, Reps g s.F s.al ds vs → vs = [] → ds = [] := fun {ds vs} q e => by
            have := q.length
            rw [e] at this
            exact List.length_eq_zero_iff.mp this.symm
          refine .inr (.inr (.inr ⟨a1, a2, vs1, vs2, rfl, rfl, hK ▸ h1, hK ▸ h2, by rw [q1.length, q2.length]; exact size_of hl, fun e => ?_, fun _ e => ?_, fun _ _ p' hp => PostE.newT sr p (q1.append q2) hp⟩))
          · have e := c1 q1 e
            subst e
            exact PostE.pure sr p (tup?_eq e2 ▸ r2)
          · have e := c1 q2 e
            subst e
            rw [List.append_nil] at p
            exact PostE.pure sr p (tup?_eq e1 ▸ r1)
        · exact p.elim
      · exact p.elim
end
end Vi
namespace Vi
open PySem L2
def Ty.val (g : Gi) : Ty → Value
  | .bt n => .type n
  | .own c => .ref (g.ca c)
def Ty.v (g : Gi) : Ty → V
  | .bt n => .ty n
  | .own c => .ref (g.ca c)
structure ClsOk (K : PySem.W.Frag) (C : Addr) : Prop where
  cl : Cls K C
  ha : PySem.W.findIn K (.ref C) "__class__" = some (some (.builtin "object.__class__"))
  hm : PySem.W.mroIn K C (.type "object") = some true
structure GiOk (g : Gi) : Prop where
  cls : ∀ c, g.isC c = true → ClsOk g.K (g.ca c)
  fld : ∀ c f, g.fld c f = true → g.isC c = true ∧ NoAttr g.K (g.ca c) f
  hn : PySem.W.specialIn g.K (.builtin "object.__class__") "__get__" = some (some (.builtin "getset_descriptor.__get__"))
  htk : PySem.W.takesIn g.K (.builtin "object.__class__") = some true
  isi : ∀ t u b, g.isi t u = some b → PySem.W.kitOne g.K (t.val g) (u.val g) = some b
def D.ty (g : Gi) : D → Option Ty
  | .non => some (.bt "NoneType")
  | .bl _ => some (.bt "bool")
  | .int _ => some (.bt "int")
  | .str _ => some (.bt "str")
  | .tup _ => some (.bt "tuple")
  | .xtup _ => some (.bt "tuple")
  | .lst _ => some (.bt "list")
  | .kl _ => none
  | .ref _ => none
  | .obj c _ => if g.isC c then some (.own c) else none
  | .cls _ => none
  | .dK _ => some (.bt "dict")
  | .dT _ => some (.bt "dict")
def Cell.tyC (isC : Nat → Bool) : Cell → Option Ty
  | .lst _ => some (.bt "list")
  | .ins c _ => if isC c then some (.own c) else none
  | .dK _ => some (.bt "dict")
  | .dT _ => some (.bt "dict")
  | .lk _ => none
  | .frz c => c.tyC isC
def Cell.ty (g : Gi) (c : Cell) : Option Ty := c.tyC g.isC
def Vl.ty (g : Gi) (h : Hc) : Vl → Option Ty
  | .d (.ref n) => h[n]?.bind (Cell.ty g)
  | .d x => x.ty g
  | .tl _ => some (.bt "list")
  | .bl _ => some (.bt "list")
  | .bi c _ => if g.isC c then some (.own c) else none
theorem ClsOk.ty {g : Gi} (G : GiOk g) {H : Hp} {c : Nat} {a dx : Addr} {vs : List (Str × V)} (hc : g.isC c = true) (h : H a = some (.ins (g.ca c) dx vs)) : TyX g.K H (.ref a) ((Ty.own c).val g) :=
  let k := G.cls c hc
  .base (.ins h k.cl k.ha G.hn G.htk k.hm)
theorem Cell.tyX {g : Gi} (G : GiOk g) {s : Sta} {H : Hp} {a : Addr} {t : Ty} : ∀ {c : Cell}, CellRep g s H a c → c.ty g = some t → TyX g.K H (.ref a) (t.val g)
  | .lst _, ⟨vs, h, _⟩, e => by cases e; exact .base (.lst h)
  | .ins c _, ⟨dx, vs, h, _⟩, e => by
    have e : (if g.isC c then some (Ty.own c) else none) = some _ := e
    by_cases hc : g.isC c = true
    · rw [if_pos hc] at e
      cases e
      exact ClsOk.ty G hc h
    · rw [if_neg hc] at e
      cases e
  | .dK _, ⟨vs, h, _⟩, e => by cases e; exact .base (.dK h)
  | .dT _, ⟨vs, h, _⟩, e => by cases e; exact .base (.dT h)
  | .lk _, _, e => by cases e
  | .frz c, h, e => Cell.tyX G (c := c) h e
theorem Vl.tyX {g : Gi} (G : GiOk g) {B : Bg} {env : Env} {s : Sta} {σ : L2.St} {H : Hp} (gd : Good g s H) : ∀ {x : Vl} {v : V} {t : Ty}, VlRep g B env σ s H x v → x.ty g s.h = some t → TyX g.K H v (t.val g)
  | .d .non, _, _, h, e => by cases e; cases h; exact .base .non
  | .d (.bl b), _, _, h, e => by cases e; cases h; exact .base (.bl b)
  | .d (.int b), _, _, h, e => by cases e; cases h; exact .base (.int b)
  | .d (.str b), _, _, h, e => by cases e; cases h; exact .base (.str b)
  | .d (.tup ds), _, _, h, e => by
    cases e
    obtain ⟨a, vs, rfl, h2, _⟩ := h
    rcases h2.sq with (h2 | ⟨o, h2⟩) | ⟨o, its, n, h2, h3, _⟩
    · exact .base (.tup (gd.fle _ _ h2))
    · exact .fTuple (gd.fle _ _ h2)
    · exact .kTuple h2 h3
  | .d (.xtup ds), _, _, h, e => by
    cases e
    obtain ⟨a, o, vs, rfl, h2, _⟩ := h
    exact .fTuple (gd.fle _ _ h2)
  | .d (.lst ds), _, _, h, e => by
    cases e
    obtain ⟨a, vs, rfl, h2, _⟩ := h
    exact .base (.lst (gd.fle _ _ h2))
  | .d (.kl _), _, _, h, e => by cases e
  | .d (.ref n), _, _, h, e => by
    obtain ⟨a, rfl, hal⟩ := h
    obtain ⟨c, e1, e2⟩ := Option.bind_eq_some_iff.mp (show s.h[n]?.bind (Cell.ty g) = some _ from e)
    obtain ⟨b, g1, g2⟩ := gd.cell n c e1
    rw [hal] at g1
    cases g1
    exact Cell.tyX G g2 e2
  | .d (.cls _), _, _, h, e => by cases e
  | .d (.obj c fs), _, _, h, e => by
    obtain ⟨a, dx, vs, rfl, h2, _⟩ := h
    have e : (if g.isC c then some (Ty.own c) else none) = some _ := e
    by_cases hc : g.isC c = true
    · rw [if_pos hc] at e
      cases e
      exact ClsOk.ty G hc (gd.fle _ _ h2)
    · rw [if_neg hc] at e
      cases e
  | .d (.dK _), _, _, h, e => by
    cases e
    obtain ⟨a, vs, rfl, h2, _⟩ := h
    exact .base (.dK (gd.fle _ _ h2))
  | .d (.dT _), _, _, h, e => by
    cases e
    obtain ⟨a, vs, rfl, h2, _⟩ := h
    exact .base (.dT (gd.fle _ _ h2))
  | .tl _, _, _, h, e => by
    cases e
    obtain ⟨a, vs, rfl, h2, _⟩ := h
    exact .base (.lst h2)
  | .bl _, _, _, h, e => by
    cases e
    obtain ⟨a, vs, rfl, h2, _⟩ := h
    exact .base (.lst h2)
  | .bi c _, _, _, h, e => by
    obtain ⟨a, dx, vs, rfl, h2, _⟩ := h
    have e : (if g.isC c then some (Ty.own c) else none) = some _ := e
    by_cases hc : g.isC c = true
    · rw [if_pos hc] at e
      cases e
      exact ClsOk.ty G hc h2
    · rw [if_neg hc] at e
      cases e
mutual
def toP : D → PyData
  | .non => .none
  | .bl b => .bool b
  | .int i => .int i
  | .str x => .str x
  | .tup xs => .tuple (toPs xs)
  | .xtup xs => .tuple (toPs xs)
  | .lst xs => .list (toPs xs)
  | .kl xs => .list (toPs xs)
  | _ => .none
def toPs : List D → List PyData
  | [] => []
  | x :: r => toP x :: toPs r
end
mutual
def dat : D → Bool
  | .non => true
  | .bl _ => true
  | .int _ => true
  | .str _ => true
  | .tup xs => dats xs
  | .xtup xs => dats xs
  | .lst xs => dats xs
  | .kl xs => dats xs
  | _ => false
def dats : List D → Bool
  | [] => true
  | x :: r => dat x && dats r
end
section
variable {g : Gi} {s : Sta} {H : Hp} {F : Hp} {al : Nat → Option Addr}
mutual
theorem dp_of (hF : ∀ a o, F a = some o → H a = some o) : ∀ {d : D} {v : V}, Rep g F al d v → dat d = true → Dp g.K H v (toP d)
  | .non, _, h, _ => by cases h; exact .non
  | .bl b, _, h, _ => by cases h; exact .bl b
  | .int b, _, h, _ => by cases h; exact .int b
  | .str b, _, h, _ => by cases h; exact .str b
  | .tup ds, _, ⟨a, vs, h1, h2, h3⟩, e => by rw [h1]; exact .tup (sqT_mono hF h2.sq) (dps_of hF h3 e)
  | .lst ds, _, ⟨a, vs, h1, h2, h3⟩, e => by rw [h1]; exact .lst (.of (hF _ _ h2)) (dps_of hF h3 e)
  | .xtup ds, _, ⟨a, o, vs, h1, h2, _, h3⟩, e => by rw [h1]; exact .tup (.inl (.inr ⟨o, hF _ _ h2⟩)) (dps_of hF h3 e)
  | .kl ds, _, ⟨a, vs, h1, h2, h3⟩, e => by rw [h1]; exact .lst (sqL_mono hF h2) (dps_of hF h3 e)
  | .ref _, _, _, e => by cases e
  | .obj _ _, _, _, e => by cases e
  | .cls _, _, _, e => by cases e
  | .dK _, _, _, e => by cases e
  | .dT _, _, _, e => by cases e
theorem dps_of (hF : ∀ a o, F a = some o → H a = some o) : ∀ {d : List D} {v : List V}, Reps g F al d v → dats d = true → DpAll g.K H v (toPs d)
  | [], _, h, _ => by cases h; exact .nil
  | d :: ds, _, ⟨v, r, h1, h2, h3⟩, e => by
    obtain ⟨e1, e2⟩ := Bool.and_eq_true_iff.mp (show (dat d && dats ds) = true from e)
    rw [h1]
    exact .cons (dp_of hF h2 e1) (dps_of hF h3 e2)
end
end
def Vl.dat? : Vl → Option D
  | .d x => if dat x then some x else none
  | .tl xs => if dats xs then some (.lst xs) else none
  | .bl xs => if dats xs then some (.lst xs) else none
  | .bi _ _ => none
theorem VlRep.dp' {g : Gi} {B : Bg} {env : Env} {s : Sta} {σ : L2.St} {H : Hp} (gd : Good g s H) : ∀ {x : Vl} {v : V} {d : D}, VlRep g B env σ s H x v → x.dat? = some d → Dp g.K H v (toP d)
  | .d x, _, _, h, e => by
    have e : (if dat x then some x else none) = some _ := e
    split at e
    · next hd => cases e; exact dp_of gd.fle h hd
    · cases e
  | .tl xs, _, _, h, e => by
    have e : (if dats xs then some (D.lst xs) else none) = some _ := e
    split at e
    · next hd =>
      cases e
      obtain ⟨a, vs, rfl, h2, _, _, h3⟩ := h
      exact .lst (.of h2) (dps_of gd.fle h3 hd)
    · cases e
  | .bl xs, _, _, h, e => by
    have e : (if dats xs then some (D.lst xs) else none) = some _ := e
    split at e
    · next hd =>
      cases e
      obtain ⟨a, vs, rfl, h2, _, h3⟩ := h
      exact .lst (.of h2) (dps_of gd.fle h3 hd)
    · cases e
  | .bi _ _, _, _, _, e => by cases e
def eqD (x y : D) : Bool := PyData.eqv (toP x) (toP y)
def shp (x : D) : Bool := SeqAt.shaped (toP x)
def fEq0 (neg : Bool) (x y : Vl) (h : Hc) : R Vl := match x.dat?, y.dat? with
  | some d, some e => if shp d && shp e then .ok (.d (.bl (if neg then !eqD d e else eqD d e))) h else .stuck
  | _, _ => .stuck
def fEq (neg : Bool) (x y : Vl) (h : Hc) : R Vl := match x, y with
  | .d (.str a), .d (.str b) => .ok (.d (.bl (if neg then !decide (a = b) else decide (a = b)))) h
  | x, y => fEq0 neg x y h
section
variable {X : Cx} {g : Gi} {B : Bg} {W : WXv} {pos : Pos} {a b c : Expr} {ma mb mc : ME}
theorem dec_s {a b : PySem.Str} : decide (L2.V.str a = L2.V.str b) = decide (a = b) := by
  rw [Bool.eq_iff_iff]
  simp
theorem o_eq (hK : g.K = X.K) (hu : X.A.units + 64 < cLine) : OpV X g (compareOp .Eq) (fEq false) := by
  refine ⟨_, OpR.or op_eq (op_eqD hu), fun B W env s σ H x y v w Q sr r1 r2 p => ?_⟩
  unfold fEq at p
  split at p
  · next a b =>
    obtain rfl : v = .str a := r1
    obtain rfl : w = .str b := r2
    exact .inl ⟨rfl, by rw [dec_s]; exact PostE.pure sr p rfl⟩
  · unfold fEq0 at p
    split at p
    · next d e e1 e2 =>
      split at p
      · next hs =>
        obtain ⟨h1, h2⟩ := Bool.and_eq_true_iff.mp hs
        exact .inr ⟨_, _, hK ▸ r1.dp' sr.good e1, hK ▸ r2.dp' sr.good e2, h1, h2, PostE.pure sr p rfl⟩
      · exact p.elim
    · exact p.elim
theorem o_ne (hK : g.K = X.K) (hu : X.A.units + 64 < cLine) : OpV X g (compareOp .NotEq) (fEq true) := by
  refine ⟨_, OpR.or op_ne (op_neD hu), fun B W env s σ H x y v w Q sr r1 r2 p => ?_⟩
  unfold fEq at p
  split at p
  · next a b =>
    obtain rfl : v = .str a := r1
    obtain rfl : w = .str b := r2
    exact .inl ⟨rfl, by rw [dec_s]; exact PostE.pure sr p rfl⟩
  · unfold fEq0 at p
    split at p
    · next d e e1 e2 =>
      split at p
      · next hs =>
        obtain ⟨h1, h2⟩ := Bool.and_eq_true_iff.mp hs
        exact .inr ⟨_, _, hK ▸ r1.dp' sr.good e1, hK ▸ r2.dp' sr.good e2, h1, h2, PostE.pure sr p rfl⟩
      · exact p.elim
    · exact p.elim
end
end Vi
namespace Vi
open PySem L2
@[simp] def mNot (m : ME) : ME := m1 (fun x h => match x with
  | .d (.bl b) => .ok (.d (.bl (!b))) h
  | _ => .stuck) m
@[simp] def mAnd (a b : ME) : ME := fun env h => (a env h).bind fun x h1 => match x with
  | .d (.bl true) => b env h1
  | .d (.bl false) => .ok (.d (.bl false)) h1
  | _ => .stuck
@[simp] def mOr (a b : ME) : ME := fun env h => (a env h).bind fun x h1 => match x with
  | .d (.bl false) => b env h1
  | .d (.bl true) => .ok (.d (.bl true)) h1
  | _ => .stuck
@[simp] def tNotM (a : MB) : MB := fun env h => (a env h).bind fun b h1 => .ok (!b) h1
def tAndM (a b : MB) : MB := fun env h => (a env h).bind fun x h1 => if x then b env h1 else .ok false h1
def tOrM (a b : MB) : MB := fun env h => (a env h).bind fun x h1 => if x then .ok true h1 else b env h1
def mIf (c : MB) (a b : ME) : ME := fun env h => (c env h).bind fun x h1 => if x then a env h1 else b env h1
@[simp] def mChain (f g : Vl → Vl → Hc → R Vl) (a b c : ME) : ME := fun env h => (a env h).bind fun x h1 => (b env h1).bind fun y h2 => (f x y h2).bind fun z h3 => match z with
  | .d (.bl true) => (c env h3).bind fun w h4 => g y w h4
  | .d (.bl false) => .ok (.d (.bl false)) h3
  | _ => .stuck
@[simp] def fNeg (x : Vl) (h : Hc) : R Vl := match x with
  | .d (.int i) => .ok (.d (.int (-i))) h
  | _ => .stuck
section
variable {X : Cx} {g : Gi} {B : Bg} {W : WXv} {pos : Pos} {a b c : Expr} {ma mb mc : ME} {rest : List Expr} {ta tb tc : MB} {env : Env} {s : Sta} {σ : L2.St} {H : Hp}
theorem ve_not (ha : PE X a (tE g B W ma)) : PE X (.UnaryOp .Not a pos) (tE g B W (mNot ma)) := by
  refine pe_imp (pe_not ha) fun σ H Q ⟨env, s, sr, p⟩ => ?_
  refine (bindE (Q := Q) sr p).mono fun v H1 ⟨s1, x, sr1, _, r1, p1⟩ => ?_
  split at p1
  · exact ⟨_, r1, PostE.pure sr1 p1 rfl⟩
  · exact p1.elim
theorem ve_one {op} (h : PE X a (tE g B W ma)) : PE X (.BoolOp op [a] pos) (tE g B W ma) := pe_one h
theorem ve_and (ha : PE X a (tE g B W ma)) (hb : PE X (.BoolOp .And (b :: rest) pos) (tE g B W mb)) : PE X (.BoolOp .And (a :: b :: rest) pos) (tE g B W (mAnd ma mb)) := by
  refine pe_imp (pe_and ha hb) fun σ H Q ⟨env, s, sr, p⟩ => ?_
  refine (bindE (Q := Q) sr p).mono fun v H1 ⟨s1, x, sr1, _, r1, p1⟩ => ?_
  split at p1
  · exact ⟨true, r1, iteT ⟨env, s1, sr1, p1⟩⟩
  · exact ⟨false, r1, iteF (PostE.pure sr1 p1 rfl)⟩
  · exact p1.elim
theorem vt_not (ha : PT X a (tT g B W ta)) : PT X (.UnaryOp .Not a pos) (tT g B W (tNotM ta)) := by
  refine pt_imp (pt_not ha) fun σ H Q ⟨env, s, sr, p⟩ => ?_
  refine (bindTT (Q := Q) sr p).mono fun v H1 ⟨s1, sr1, _, p1⟩ => ?_
  exact PostB.pure sr1 p1
theorem vw_and1 (ha : PT X a (tT g B W ta)) : PW X (.BoolOp .And [a] pos) (tT g B W ta) := pw_and1 ha
theorem vw_or1 (ha : PT X a (tT g B W ta)) : PW X (.BoolOp .Or [a] pos) (tT g B W ta) := pw_or1 ha
theorem vw_and (ha : PT X a (tT g B W ta)) (hb : PW X (.BoolOp .And (b :: rest) pos) (tT g B W tb)) : PW X (.BoolOp .And (a :: b :: rest) pos) (tT g B W (tAndM ta tb)) := by
  refine pw_imp (pw_and ha hb) fun σ H Q ⟨env, s, sr, p⟩ => ?_
  refine (bindTT (Q := Q) sr p).mono fun v H1 ⟨s1, sr1, _, p1⟩ => ?_
  cases v with
  | true => exact iteT ⟨env, s1, sr1, p1⟩
  | false => exact iteF (PostB.pure sr1 p1)
theorem vw_or (ha : PT X a (tT g B W ta)) (hb : PW X (.BoolOp .Or (b :: rest) pos) (tT g B W tb)) : PW X (.BoolOp .Or (a :: b :: rest) pos) (tT g B W (tOrM ta tb)) := by
  refine pw_imp (pw_or ha hb) fun σ H Q ⟨env, s, sr, p⟩ => ?_
  refine (bindTT (Q := Q) sr p).mono fun v H1 ⟨s1, sr1, _, p1⟩ => ?_
  cases v with
  | true => exact iteT (PostB.pure sr1 p1)
  | false => exact iteF ⟨env, s1, sr1, p1⟩
theorem ve_if (hc : PT X c (tT g B W tc)) (ha : PE X a (tE g B W ma)) (hb : PE X b (tE g B W mb)) : PE X (.IfExp c a b pos) (tE g B W (mIf tc ma mb)) := by
  refine pe_imp (pe_ifExp hc ha hb) fun σ H Q ⟨env, s, sr, p⟩ => ?_
  refine (bindTE (Q := Q) sr p).mono fun v H1 ⟨s1, sr1, _, p1⟩ => ?_
  cases v with
  | true => exact iteT ⟨env, s1, sr1, p1⟩
  | false => exact iteF ⟨env, s1, sr1, p1⟩
theorem ve_neg (ha : PE X a (tE g B W ma)) : PE X (.UnaryOp .USub a pos) (tE g B W (m1 fNeg ma)) := by
  refine pe_imp (pe_un un_neg ha) fun σ H Q ⟨env, s, sr, p⟩ => ?_
  refine (bindE (Q := Q) sr p).mono fun v H1 ⟨s1, x, sr1, _, r1, p1⟩ => ?_
  unfold fNeg at p1
  split at p1
  · exact ⟨_, r1, PostE.pure sr1 p1 rfl⟩
  · exact p1.elim
theorem PostE.then {r : R Vl} {k : Vl → Hc → R Vl} {Q : VK} (p : PostE g B W env s σ H (r.bind k) Q) :
    PostE g B W env s σ H r fun v H1 => ∃ s1 x, SR g B env s1 σ H1 ∧ Evo s H s1 H1 ∧ VlRep g B env σ s1 H1 x v ∧ PostE g B W env s1 σ H1 (k x s1.h) Q := by
  cases r with
  | ok x h1 =>
    intro v H1 s1 e1 ev sr1 vr
    refine ⟨s1, x, sr1, ev, vr, ?_⟩
    rw [e1]
    exact PostE.later ev p
  | exc x h1 => exact p
  | stuck => exact p
def fIx (x y : Vl) (h : Hc) : R Vl := match y with
  | .d (.int i) => (match lst? h x with
    | some xs => (match atI xs i with
      | some d => .ok (.d d) h
      | none => .stuck)
    | none => (match tup? x with
      | some xs => (match atI xs i with
        | some d => .ok (.d d) h
        | none => .stuck)
      | none => (match x with
        | .d (.str z) => (match atI z.cps.toList i with
          | some c => if z.length ≤ 100000 then .ok (.d (.str ⟨#[c]⟩)) h else .stuck
          | none => .stuck)
        | .d (.ref n) => (match h[n]? with
          | some (.lst xs) => (match atI xs i with
            | some d => .ok (.d d) h
            | none => .stuck)
          | _ => .stuck)
        | _ => .stuck)))
  | _ => .stuck
theorem Reps.atI {F : Hp} {al : Nat → Option Addr} {ds : List D} {vs : List V} {i : Int} {d : D} (h : Reps g F al ds vs) (e : atI ds i = some d) : ∃ v, L2.atI vs i = some v ∧ Rep g F al d v := by
  unfold L2.atI at e ⊢
  rw [h.length]
  cases q : ixN ds.length i with
  | none => rw [q] at e; cases e
  | some j =>
    rw [q] at e
    exact h.get (i := j) e
theorem ve_ix (hK : g.K = X.K) (ha : PE X a (tE g B W ma)) (hb : PE X b (tE g B W mb)) (hs : PlainIx b) : PE X (.Subscript a b pos) (tE g B W (m2 fIx ma mb)) := by
  refine pe_imp (pe_ix ix_seq ha hb hs) fun σ H Q ⟨env, s, sr, p⟩ => ?_
  refine (bind2E (Q := Q) sr p).mono fun v H1 q => q.mono fun w H2 ⟨s2, x, y, sr2, _, r1, r2, p2⟩ => ?_
  unfold fIx at p2
  split at p2
  · next i =>
    cases r2
    split at p2
    · next xs e1 =>
      split at p2
      · next d e2 =>
        obtain ⟨a1, vs, rfl, h1, q1⟩ := r1.lst sr2.good e1
        obtain ⟨u, e3, r3⟩ := q1.atI e2
        exact .inl ⟨a1, vs, i, u, rfl, rfl, hK ▸ h1, e3, PostE.pure sr2 p2 r3⟩
      · exact p2.elim
    · split at p2
      · next xs e1 =>
        split at p2
        · next d e2 =>
          obtain ⟨a1, vs, rfl, h1, q1⟩ := r1.tup sr2.good e1
          obtain ⟨u, e3, r3⟩ := q1.atI e2
          exact .inr (.inl ⟨a1, vs, i, u, rfl, rfl, hK ▸ h1, e3, PostE.pure sr2 p2 r3⟩)
        · exact p2.elim
      · split at p2
        · next z _ _ =>
          split at p2
          · next c e2 =>
            split at p2
            · next hl =>
              cases r1
              exact .inr (.inr ⟨z, i, c, rfl, rfl, size_of hl, e2, PostE.pure sr2 p2 rfl⟩)
            · exact p2.elim
          · exact p2.elim
        · next n _ _ =>
          split at p2
          · next xs hx =>
            split at p2
            · next d e2 =>
              obtain ⟨a1, rfl, hal⟩ := r1
              obtain ⟨a2, h1, vs, h3, q1⟩ := sr2.good.cell n _ hx
              rw [hal] at h1
              cases h1
              obtain ⟨u, e3, r3⟩ := q1.atI e2
              exact .inl ⟨a1, vs, i, u, rfl, rfl, .of h3, e3, PostE.pure sr2 p2 r3⟩
            · exact p2.elim
          · exact p2.elim
        · exact p2.elim
  · exact p2.elim
end
def CallV (X : Cx) (g : Gi) (f : Value) (F : List Vl → Hc → R Vl) : Prop :=
  ∃ r : List V → Hp → VK → Prop, CallR X f r ∧ ∀ (B : Bg) (W : WXv) (env : Env) (s : Sta) (σ : L2.St) (H : Hp) (xs : List Vl) (vs : List V) (Q : VK), SR g B env s σ H → VlReps g B env σ s H xs vs → PostE g B W env s σ H (F xs s.h) Q → r vs H Q
section
variable {X : Cx} {g : Gi} {B : Bg} {W : WXv} {pos p : Pos} {e : Expr} {es : List Expr} {A : MA} {F : List Vl → Hc → R Vl} {id T : String} {x : Str}
theorem ve_callB (hc : CallV X g (.builtin id) F) (hg : Gl X x) (hm : X.mg x = none) (hv : bootBuiltins x = some (.builtin id)) (ha : PA X (e :: es) (tA g B W A)) (hn : x ≠ "__name__" := by decide) (hdb : (x == ("__debug__" : Str)) = false := by decide)
    (he : starEach (e :: es) X.env = (false, eval e X.env) :: starEach es X.env := by rfl) (hpl : (backTo pos (starEach es X.env)).any (·.1) = false := by rfl) : PE X (.Call (.Name x p) (e :: es) [] pos) (tE g B W (mA1 F A)) := by
  obtain ⟨r, h1, h2⟩ := hc
  refine pe_imp (pe_callB h1 hg hm hv ha hn hdb he hpl) fun σ H Q ⟨env, s, sr, p⟩ => ?_
  refine (bindA (Q := Q) sr p).mono fun vs H1 ⟨s1, xs, sr1, _, r1, p1⟩ => ?_
  exact h2 B W env s1 σ H1 xs vs Q sr1 r1 p1
theorem ve_callTy (hc : CallV X g (.type T) F) (hg : Gl X x) (hm : X.mg x = none) (hv : bootBuiltins x = some (.type T)) (ha : PA X (e :: es) (tA g B W A)) (hn : x ≠ "__name__" := by decide) (hdb : (x == ("__debug__" : Str)) = false := by decide)
    (he : starEach (e :: es) X.env = (false, eval e X.env) :: starEach es X.env := by rfl) (hpl : (backTo pos (starEach es X.env)).any (·.1) = false := by rfl) : PE X (.Call (.Name x p) (e :: es) [] pos) (tE g B W (mA1 F A)) := by
  obtain ⟨r, h1, h2⟩ := hc
  refine pe_imp (pe_callTy h1 hg hm hv ha hn hdb he hpl) fun σ H Q ⟨env, s, sr, p⟩ => ?_
  refine (bindA (Q := Q) sr p).mono fun vs H1 ⟨s1, xs, sr1, _, r1, p1⟩ => ?_
  exact h2 B W env s1 σ H1 xs vs Q sr1 r1 p1
theorem ve_callG (hc : CallV X g (.builtin id) F) (hg : Gl X x) (hm : X.mg x = some (.builtin id)) (ha : PA X (e :: es) (tA g B W A)) (hdb : (x == ("__debug__" : Str)) = false := by decide)
    (he : starEach (e :: es) X.env = (false, eval e X.env) :: starEach es X.env := by rfl) (hpl : (backTo pos (starEach es X.env)).any (·.1) = false := by rfl) : PE X (.Call (.Name x p) (e :: es) [] pos) (tE g B W (mA1 F A)) := by
  obtain ⟨r, h1, h2⟩ := hc
  refine pe_imp (pe_callBfun h1 hg hm ha hdb he hpl) fun σ H Q ⟨env, s, sr, p⟩ => ?_
  refine (bindA (Q := Q) sr p).mono fun vs H1 ⟨s1, xs, sr1, _, r1, p1⟩ => ?_
  exact h2 B W env s1 σ H1 xs vs Q sr1 r1 p1
end
section
variable {g : Gi} {B : Bg} {env : Env} {s : Sta} {σ : L2.St} {H : Hp}
theorem VlReps.one {x : Vl} {vs : List V} (h : VlReps g B env σ s H [x] vs) : ∃ v, vs = [v] ∧ VlRep g B env σ s H x v := by
  cases h with
  | cons a b => cases b; exact ⟨_, rfl, a⟩
theorem VlReps.two {x y : Vl} {vs : List V} (h : VlReps g B env σ s H [x, y] vs) : ∃ v w, vs = [v, w] ∧ VlRep g B env σ s H x v ∧ VlRep g B env σ s H y w := by
  cases h with
  | cons a b =>
    cases b with
    | cons b c => cases c; exact ⟨_, _, rfl, a, b⟩
end
@[simp] def fAbs (xs : List Vl) (h : Hc) : R Vl := match xs with
  | [.d (.int i)] => .ok (.d (.int (if i < 0 then -i else i))) h
  | _ => .stuck
@[simp] def fMax2 (xs : List Vl) (h : Hc) : R Vl := match xs with
  | [.d (.int i), .d (.int j)] => .ok (.d (.int (if j > i then j else i))) h
  | _ => .stuck
@[simp] def fMin2 (xs : List Vl) (h : Hc) : R Vl := match xs with
  | [.d (.int i), .d (.int j)] => .ok (.d (.int (if j < i then j else i))) h
  | _ => .stuck
@[simp] def fGcd (xs : List Vl) (h : Hc) : R Vl := match xs with
  | [.d (.int i), .d (.int j)] => .ok (.d (.int ((Nat.gcd i.natAbs j.natAbs : Nat) : Int))) h
  | _ => .stuck
@[simp] def fIntOf (xs : List Vl) (h : Hc) : R Vl := match xs with
  | [.d (.int i)] => .ok (.d (.int i)) h
  | [.d (.bl b)] => .ok (.d (.int (if b then 1 else 0))) h
  | _ => .stuck
def fStrOf (xs : List Vl) (h : Hc) : R Vl := match xs with
  | [.d (.int i)] => if i.natAbs.log2 < 1920 then .ok (.d (.str (toString i))) h else .stuck
  | _ => .stuck
def fLen (xs : List Vl) (h : Hc) : R Vl := match xs with
  | [x] => (match lst? h x with
    | some ys => .ok (.d (.int ys.length)) h
    | none => (match tup? x with
      | some ys => .ok (.d (.int ys.length)) h
      | none => (match x with
        | .d (.str z) => if z.length ≤ 100000 then .ok (.d (.int z.length)) h else .stuck
        | .d (.ref n) => (match h[n]? with
          | some (.lst ys) => .ok (.d (.int ys.length)) h
          | _ => .stuck)
        | _ => .stuck)))
  | _ => .stuck
def ints? : List D → Option (List Int)
  | [] => some []
  | .int i :: r => (ints? r).map (i :: ·)
  | _ :: _ => none
def fSum (xs : List Vl) (h : Hc) : R Vl := match xs with
  | [x] => (match lst? h x with
    | some ys => (match ints? ys with
      | some ns => .ok (.d (.int ns.sum)) h
      | none => .stuck)
    | none => .stuck)
  | _ => .stuck
def fList (o : Bool) (xs : List Vl) (h : Hc) : R Vl := match xs with
  | [x] => (match lst? h x with
    | some ys => .ok (Vl.ofL o ys) h
    | none => (match tup? x with
      | some ys => .ok (Vl.ofL o ys) h
      | none => .stuck))
  | _ => .stuck
def fTuple (xs : List Vl) (h : Hc) : R Vl := match xs with
  | [x] => (match lst? h x with
    | some ys => .ok (.d (.tup ys)) h
    | none => (match ptup? x with
      | some ys => .ok (.d (.tup ys)) h
      | none => .stuck))
  | _ => .stuck
section
variable {X : Cx} {g : Gi}
theorem c_abs : CallV X g (.builtin "abs") fAbs := by
  refine ⟨_, call_abs, fun B W env s σ H xs vs Q sr r p => ?_⟩
  unfold fAbs at p
  split at p
  · obtain ⟨v, rfl, rr⟩ := r.one
    cases rr
    exact ⟨_, rfl, PostE.pure sr p rfl⟩
  · exact p.elim
theorem c_max2 (hc : X.calm = true) : CallV X g (.builtin "max") fMax2 := by
  refine ⟨_, call_max2 hc, fun B W env s σ H xs vs Q sr r p => ?_⟩
  unfold fMax2 at p
  split at p
  · obtain ⟨v, w, rfl, rr, r2⟩ := r.two
    cases rr
    cases r2
    exact ⟨_, _, rfl, PostE.pure sr p rfl⟩
  · exact p.elim
theorem c_gcd : CallV X g (.builtin "math.gcd") fGcd := by
  refine ⟨_, cr_gcd, fun B W env s σ H xs vs Q sr r p => ?_⟩
  unfold fGcd at p
  split at p
  · obtain ⟨v, w, rfl, rr, r2⟩ := r.two
    cases rr
    cases r2
    exact ⟨_, _, rfl, PostE.pure sr p rfl⟩
  · exact p.elim
theorem c_int : CallV X g (.type "int") fIntOf := by
  refine ⟨_, call_int1, fun B W env s σ H xs vs Q sr r p => ?_⟩
  unfold fIntOf at p
  split at p
  · obtain ⟨v, rfl, rr⟩ := r.one
    cases rr
    exact .inl ⟨_, rfl, PostE.pure sr p rfl⟩
  · obtain ⟨v, rfl, rr⟩ := r.one
    cases rr
    exact .inr ⟨_, rfl, PostE.pure sr p rfl⟩
  · exact p.elim
theorem c_str : CallV X g (.type "str") fStrOf := by
  refine ⟨_, call_str_int, fun B W env s σ H xs vs Q sr r p => ?_⟩
  unfold fStrOf at p
  split at p
  · split at p
    · next hl =>
      obtain ⟨v, rfl, rr⟩ := r.one
      cases rr
      exact ⟨_, rfl, hl, PostE.pure sr p rfl⟩
    · exact p.elim
  · exact p.elim
theorem c_len (hK : g.K = X.K) : CallV X g (.builtin "len") fLen := by
  refine ⟨_, call_len, fun B W env s σ H xs vs Q sr r p => ?_⟩
  unfold fLen at p
  split at p
  · next x =>
    obtain ⟨v, rfl, rr⟩ := r.one
    split at p
    · next ys e1 =>
      obtain ⟨a1, ws, rfl, h1, q1⟩ := rr.lst sr.good e1
      exact ⟨_, ys.length, rfl, .inl ⟨ws, hK ▸ h1, q1.length.symm⟩, PostE.pure sr p rfl⟩
    · split at p
      · next ys e1 =>
        obtain ⟨a1, ws, rfl, h1, q1⟩ := rr.tup sr.good e1
        exact ⟨_, ys.length, rfl, .inr ⟨ws, hK ▸ h1, q1.length.symm⟩, PostE.pure sr p rfl⟩
      · split at p
        · split at p
          · next hl =>
            cases rr
            exact ⟨_, _, rfl, ⟨size_of hl, rfl⟩, PostE.pure sr p rfl⟩
          · exact p.elim
        · next n _ _ =>
          split at p
          · next ys hx =>
            obtain ⟨a1, rfl, hal⟩ := rr
            obtain ⟨a2, h1, ws, h3, q1⟩ := sr.good.cell n _ hx
            rw [hal] at h1
            cases h1
            exact ⟨_, ys.length, rfl, .inl ⟨ws, .of h3, q1.length.symm⟩, PostE.pure sr p rfl⟩
          · exact p.elim
        · exact p.elim
  · exact p.elim
theorem Reps.ints {F : Hp} {al : Nat → Option Addr} (ds : List D) : ∀ {vs : List V} {ns : List Int}, Reps g F al ds vs → ints? ds = some ns → vs = ns.map V.int := by
  induction ds with
  | nil =>
    intro vs ns h e
    have e : some [] = some ns := e
    cases e
    exact h
  | cons d ds ih =>
    intro vs ns h e
    obtain ⟨v, r, h1, h2, h3⟩ := h
    cases d with
    | int i =>
      have e1 : (ints? ds).map (i :: ·) = some ns := e
      cases q : ints? ds with
      | none => rw [q] at e1; cases e1
      | some l =>
        rw [q] at e1
        have e2 : i :: l = ns := Option.some.inj e1
        have h2 : v = .int i := h2
        rw [← e2, h1, ih h3 q, h2, List.map_cons]
    | _ => cases e
theorem c_sum (hK : g.K = X.K) (hc : X.calm = true) : CallV X g (.builtin "sum") fSum := by
  refine ⟨_, cr_sum hc, fun B W env s σ H xs vs Q sr r p => ?_⟩
  unfold fSum at p
  split at p
  · obtain ⟨v, rfl, rr⟩ := r.one
    split at p
    · next ys e1 =>
      split at p
      · next ns e2 =>
        obtain ⟨a1, ws, rfl, h1, q1⟩ := rr.lst sr.good e1
        have e3 := Reps.ints _ q1 e2
        subst e3
        exact ⟨a1, ns, rfl, hK ▸ h1, PostE.pure sr p rfl⟩
      · exact p.elim
    · exact p.elim
  · exact p.elim
theorem c_list (o : Bool) (hK : g.K = X.K) : CallV X g (.type "list") (fList o) := by
  refine ⟨_, call_list_of, fun B W env s σ H xs vs Q sr r p => ?_⟩
  unfold fList at p
  split at p
  · obtain ⟨v, rfl, rr⟩ := r.one
    split at p
    · next ys e1 =>
      obtain ⟨a1, ws, rfl, h1, q1⟩ := rr.lst sr.good e1
      exact ⟨_, ws, rfl, .inl (hK ▸ h1), fun l hl => PostE.newLO sr p q1 hl⟩
    · split at p
      · next ys e1 =>
        obtain ⟨a1, ws, rfl, h1, q1⟩ := rr.tup sr.good e1
        exact ⟨_, ws, rfl, .inr (hK ▸ h1), fun l hl => PostE.newLO sr p q1 hl⟩
      · exact p.elim
  · exact p.elim
theorem c_tuple (hK : g.K = X.K) : CallV X g (.type "tuple") fTuple := by
  refine ⟨_, call_tuple_of, fun B W env s σ H xs vs Q sr r p => ?_⟩
  unfold fTuple at p
  split at p
  · obtain ⟨v, rfl, rr⟩ := r.one
    split at p
    · next ys e1 =>
      obtain ⟨a1, ws, rfl, h1, q1⟩ := rr.lst sr.good e1
      exact ⟨_, ws, rfl, .inl ⟨hK ▸ h1, fun l hl => PostE.newT sr p q1 hl⟩⟩
    · split at p
      · next ys e1 =>
        obtain ⟨a1, ws, e2, h1, q1⟩ := rr.tup sr.good (ptup_tup e1)
        subst e2
        exact ⟨_, ws, rfl, .inr ⟨hK ▸ h1, PostE.pure sr p (tup?_eq e1 ▸ rr)⟩⟩
      · exact p.elim
  · exact p.elim
def fIsi (g : Gi) (t : Ty) (x : Vl) (h : Hc) : R Vl := match x.ty g h with
  | some u => (match g.isi u t with
    | some b => .ok (.d (.bl b)) h
    | none => .stuck)
  | none => .stuck
end
section
variable {X : Cx} {g : Gi} {B : Bg} {W : WXv} {pos p : Pos} {e c : Expr} {m : ME}
theorem ve_isi (G : GiOk g) (hK : g.K = X.K) (t : Ty) (hg : Gl X "isinstance") (hm : X.mg "isinstance" = none) (he : PE X e (tE g B W m)) (hc : PE X c (tC (t.v g)))
    (hs : starEach [e, c] X.env = (false, eval e X.env) :: starEach [c] X.env := by rfl) (hs2 : starEach [c] X.env = (false, eval c X.env) :: starEach [] X.env := by rfl) (hpl : (backTo pos (starEach [c] X.env)).any (·.1) = false := by rfl) :
    PE X (.Call (.Name "isinstance" p) [e, c] [] pos) (tE g B W (m1 (fIsi g t) m)) := by
  refine pe_imp (pe_callB call_isi hg hm (by decide +kernel) (pa_cons he (pa_cons hc pa_nil hs2) hs) (by decide) (by decide) hs hpl) fun σ H Q ⟨env, s, sr, p⟩ => ?_
  refine (bindE (Q := Q) sr p).mono fun v H1 ⟨s1, x, sr1, _, r1, p1⟩ => ?_
  unfold fIsi at p1
  split at p1
  · next u e1 =>
    split at p1
    · next b e2 =>
      refine ⟨v, t.v g, u.val g, t.val g, b, rfl, ?_, hK ▸ Vl.tyX G sr1.good r1 e1, hK ▸ G.isi u t b e2, PostE.pure sr1 p1 rfl⟩
      cases t with
      | bt n => exact .ty n
      | own c => exact .own _
    · exact p1.elim
  · exact p1.elim
end
end Vi
namespace Vi
open PySem L2
inductive RS where
  | nx (env : Env) (h : Hc) | ret (d : D) (h : Hc) | brk (env : Env) (h : Hc) | cnt (env : Env) (h : Hc) | exc (env : Env) (x : D) (h : Hc) | stuck
abbrev MS := Env → Hc → RS
structure Le (s s' : Sta) : Prop where
  f : ∀ a o, s.F a = some o → s'.F a = some o
  al : ∀ n a, s.al n = some a → s'.al n = some a
  z : ∀ n o, s.z n = some o → s'.z n = some o
theorem Le.refl (s : Sta) : Le s s := ⟨fun _ _ h => h, fun _ _ h => h, fun _ _ h => h⟩
theorem Le.trans {a b c : Sta} (x : Le a b) (y : Le b c) : Le a c := ⟨fun _ _ h => y.f _ _ (x.f _ _ h), fun _ _ h => y.al _ _ (x.al _ _ h), fun _ _ h => y.z _ _ (x.z _ _ h)⟩
theorem Evo.le {s s' : Sta} {H H' : Hp} (e : Evo s H s' H') : Le s s' := ⟨e.f, e.al, e.z⟩
section
variable (g : Gi) (B : Bg) (W : WXv)
def PostS (s0 : Sta) : RS → Ends → Prop
  | .nx env h, N => ∀ (σ : L2.St) (H : Hp) (s : Sta), s.h = h → Le s0 s → SR g B env s σ H → N.nx σ H
  | .ret d h, N => ∀ (v : V) (H : Hp) (s : Sta), s.h = h → Evo B.s B.H s H → Good g s H → Rep g s.F s.al d v → N.rt v H
  | .brk env h, N => ∀ (σ : L2.St) (H : Hp) (s : Sta), s.h = h → Le s0 s → SR g B env s σ H → N.bk σ H
  | .cnt env h, N => ∀ (σ : L2.St) (H : Hp) (s : Sta), s.h = h → Le s0 s → SR g B env s σ H → N.ct σ H
  | .exc env x h, _ => ∀ (cls : Value) (dd : Option Addr) (σ : L2.St) (H : Hp) (s : Sta), s.h = h → Le s0 s → SR g B env s σ H → XRep g s H x cls dd → W cls dd σ H
  | .stuck, _ => False
def tS (m : MS) : TS := fun N σ H => ∃ env s, SR g B env s σ H ∧ PostS g B W s (m env s.h) N
end
def R.thenS {α : Type} (r : R α) (env : Env) (k : α → Hc → RS) : RS := match r with
  | .ok a h => k a h
  | .exc x h => .exc env x h
  | .stuck => .stuck
theorem ps_imp {X : Cx} {e : Stmt} {t t' : TS} (h : PS X e t) (i : ∀ N σ H, t' N σ H → t N σ H) : PS X e t' := ⟨fun pins s σ H N I q => h.run pins s σ H N I (i N σ H q)⟩
theorem pss_imp {X : Cx} {e : List Stmt} {t t' : TS} (h : PSs X e t) (i : ∀ N σ H, t' N σ H → t N σ H) : PSs X e t' := ⟨fun pins s σ H N I q => h.run pins s σ H N I (i N σ H q)⟩
section
variable {g : Gi} {B : Bg} {W : WXv} {env : Env} {s : Sta} {σ : L2.St} {H : Hp}
theorem PostS.later {s0 s1 : Sta} {N : Ends} (l : Le s0 s1) : ∀ {r : RS}, PostS g B W s0 r N → PostS g B W s1 r N
  | .nx _ _, p => fun σ H s e h sr => p σ H s e (l.trans h) sr
  | .ret _ _, p => p
  | .brk _ _, p => fun σ H s e h sr => p σ H s e (l.trans h) sr
  | .cnt _ _, p => fun σ H s e h sr => p σ H s e (l.trans h) sr
  | .exc _ _ _, p => fun c d σ H s e h sr => p c d σ H s e (l.trans h) sr
  | .stuck, p => p
theorem bindS {a : ME} {k : Vl → Hc → RS} {N : Ends} (sr : SR g B env s σ H) (p : PostS g B W s ((a env s.h).thenS env k) N) :
    tE g B W a σ H fun v H1 => ∃ s1 x, SR g B env s1 σ H1 ∧ Le s s1 ∧ VlRep g B env σ s1 H1 x v ∧ PostS g B W s1 (k x s1.h) N := by
  refine ⟨env, s, sr, ?_⟩
  cases e : a env s.h with
  | ok x h1 =>
    rw [e] at p
    intro v H1 s1 e1 ev sr1 vr
    exact ⟨s1, x, sr1, ev.le, vr, by rw [e1]; exact PostS.later ev.le p⟩
  | exc x h1 =>
    rw [e] at p
    intro cls dd H1 s1 e1 ev sr1 xr
    exact p cls dd σ H1 s1 e1 ev.le sr1 xr
  | stuck =>
    rw [e] at p
    exact p
theorem bindSB {a : MB} {k : Bool → Hc → RS} {N : Ends} (sr : SR g B env s σ H) (p : PostS g B W s ((a env s.h).thenS env k) N) :
    tT g B W a σ H fun b H1 => ∃ s1, SR g B env s1 σ H1 ∧ Le s s1 ∧ PostS g B W s1 (k b s1.h) N := by
  refine ⟨env, s, sr, ?_⟩
  cases e : a env s.h with
  | ok x h1 =>
    rw [e] at p
    intro H1 s1 e1 ev sr1
    exact ⟨s1, sr1, ev.le, by rw [e1]; exact PostS.later ev.le p⟩
  | exc x h1 =>
    rw [e] at p
    intro cls dd H1 s1 e1 ev sr1 xr
    exact p cls dd σ H1 s1 e1 ev.le sr1 xr
  | stuck =>
    rw [e] at p
    exact p
theorem bindSA {a : MA} {k : List Vl → Hc → RS} {N : Ends} (sr : SR g B env s σ H) (p : PostS g B W s ((a env s.h).thenS env k) N) :
    tA g B W a σ H fun vs H1 => ∃ s1 xs, SR g B env s1 σ H1 ∧ Le s s1 ∧ VlReps g B env σ s1 H1 xs vs ∧ PostS g B W s1 (k xs s1.h) N := by
  refine ⟨env, s, sr, ?_⟩
  cases e : a env s.h with
  | ok x h1 =>
    rw [e] at p
    intro v H1 s1 e1 ev sr1 vr
    exact ⟨s1, x, sr1, ev.le, vr, by rw [e1]; exact PostS.later ev.le p⟩
  | exc x h1 =>
    rw [e] at p
    intro cls dd H1 s1 e1 ev sr1 xr
    exact p cls dd σ H1 s1 e1 ev.le sr1 xr
  | stuck =>
    rw [e] at p
    exact p
theorem SR.set {i : Nat} {x : D} {v : V} (sr : SR g B env s σ H) (r : Rep g s.F s.al x v) : SR g B (env.set i (some (.d x))) s (σ.set i (some v)) H := by
  refine ⟨sr.good, sr.evo, by rw [List.length_set, List.length_set]; exact sr.len, fun j sl h => ?_, fun j k sl sl' u hjk h1 h2 o1 o2 h3 h4 => ?_⟩
  · by_cases e : i = j
    · subst e
      have hi : i < env.length := by
        have := (List.getElem?_eq_some_iff.mp h).1
        rwa [List.length_set] at this
      rw [List.getElem?_set_self hi] at h
      cases h
      exact ⟨v, List.getElem?_set_self (sr.len ▸ hi), r⟩
    · rw [List.getElem?_set_ne e] at h
      rw [List.getElem?_set_ne e]
      exact sr.slot j sl h
  · have ne : ∀ {j : Nat} {sl : Sl}, (env.set i (some (.d x)))[j]? = some (some sl) → sl.own = true → i ≠ j := fun {j sl} h o e => by
      subst e
      have hi : i < env.length := by
        have := (List.getElem?_eq_some_iff.mp h).1
        rwa [List.length_set] at this
      rw [List.getElem?_set_self hi] at h
      cases h
      cases o
    have n1 := ne h1 o1
    have n2 := ne h2 o2
    rw [List.getElem?_set_ne n1] at h1 h3
    rw [List.getElem?_set_ne n2] at h2 h4
    exact sr.sep j k sl sl' u hjk h1 h2 o1 o2 h3 h4
theorem SR.setO {i : Nat} {sl : Sl} {a : Addr} (sr : SR g B env s σ H) (r : SlRep g B s H sl (.ref a)) (hn : NotOwn env σ a) : SR g B (env.set i (some sl)) s (σ.set i (some (.ref a))) H := by
  refine ⟨sr.good, sr.evo, by rw [List.length_set, List.length_set]; exact sr.len, fun j sl' h => ?_, fun j k sl1 sl2 u hjk h1 h2 o1 o2 h3 h4 => ?_⟩
  · by_cases e : i = j
    · subst e
      have hi : i < env.length := by
        have := (List.getElem?_eq_some_iff.mp h).1
        rwa [List.length_set] at this
      rw [List.getElem?_set_self hi] at h
      cases h
      exact ⟨_, List.getElem?_set_self (sr.len ▸ hi), r⟩
    · rw [List.getElem?_set_ne e] at h
      rw [List.getElem?_set_ne e]
      exact sr.slot j sl' h
  · by_cases e1 : i = j
    · subst e1
      have hi : i < env.length := by
        have := (List.getElem?_eq_some_iff.mp h1).1
        rwa [List.length_set] at this
      rw [List.getElem?_set_self (sr.len ▸ hi)] at h3
      cases h3
      rw [List.getElem?_set_ne hjk] at h2 h4
      exact hn k sl2 h2 o2 h4
    · rw [List.getElem?_set_ne e1] at h1 h3
      by_cases e2 : i = k
      · subst e2
        have hi : i < env.length := by
          have := (List.getElem?_eq_some_iff.mp h2).1
          rwa [List.length_set] at this
        rw [List.getElem?_set_self (sr.len ▸ hi)] at h4
        cases h4
        exact hn j sl1 h1 o1 h3
      · rw [List.getElem?_set_ne e2] at h2 h4
        exact sr.sep j k sl1 sl2 u hjk h1 h2 o1 o2 h3 h4
end
@[simp] def mSkip : MS := fun env h => .nx env h
def mSeq (a b : MS) : MS := fun env h => match a env h with
  | .nx env' h' => b env' h'
  | r => r
@[simp] def mSet (i : Nat) (e : ME) : MS := fun env h => (e env h).thenS env fun x h1 => match x with
  | .d x => .nx (env.set i (some (.d x))) h1
  | .tl xs => .nx (env.set i (some (.ol xs))) h1
  | _ => .stuck
@[simp] def mDrop (e : ME) : MS := fun env h => (e env h).thenS env fun _ h1 => .nx env h1
@[simp] def mRet (e : ME) : MS := fun env h => (e env h).thenS env fun x h1 => match x with
  | .d x => .ret x h1
  | .tl xs => .ret (.lst xs) h1
  | .bl xs => .ret (.lst xs) h1
  | _ => .stuck
@[simp] def mRetN : MS := fun _ h => .ret .non h
def mIfS (c : MB) (a b : MS) : MS := fun env h => (c env h).thenS env fun x h1 => if x then a env h1 else b env h1
@[simp] def mBrk : MS := fun env h => .brk env h
@[simp] def mCnt : MS := fun env h => .cnt env h
section
variable {X : Cx} {g : Gi} {B : Bg} {W : WXv} {pos : Pos} {st : Stmt} {rest : List Stmt} {ma mb : MS} {e : Expr} {m : ME} {c : Expr} {mc : MB}
theorem vs_nil : PSs X [] (tS g B W mSkip) := pss_imp pss_nil fun N σ H ⟨env, s, sr, p⟩ => p σ H s rfl (Le.refl s) sr
theorem vs_cons (h1 : PS X st (tS g B W ma)) (h2 : PSs X rest (tS g B W mb)) : PSs X (st :: rest) (tS g B W (mSeq ma mb)) := by
  refine pss_imp (pss_cons h1 h2) fun N σ H ⟨env, s, sr, p⟩ => ⟨env, s, sr, ?_⟩
  unfold mSeq at p
  cases q : ma env s.h with
  | nx env' h' =>
    rw [q] at p
    intro σ' H' s' e l sr'
    exact ⟨env', s', sr', by rw [e]; exact PostS.later l p⟩
  | ret d h' => rw [q] at p; exact p
  | brk env' h' => rw [q] at p; exact p
  | cnt env' h' => rw [q] at p; exact p
  | exc env' x h' => rw [q] at p; exact p
  | stuck => rw [q] at p; exact p
theorem vs_one (h1 : PS X st (tS g B W ma)) : PSs X [st] (tS g B W ma) := pss_one h1
@[simp] def mNever : MS := fun _ _ => .stuck
theorem setPost {i : Nat} {x : Vl} {v : V} {env : Env} {s : Sta} {σ : L2.St} {H : Hp} {N : Ends} (sr : SR g B env s σ H) (r : VlRep g B env σ s H x v)
    (p : PostS g B W s (match (motive := Vl → RS) x with
      | .d x => .nx (env.set i (some (.d x))) s.h
      | .tl xs => .nx (env.set i (some (.ol xs))) s.h
      | _ => .stuck) N) : N.nx (σ.set i (some v)) H := by
  cases x with
  | d x => exact p _ H s rfl (Le.refl s) (sr.set r)
  | tl xs =>
    obtain ⟨a, vs, rfl, h1, h2, h3, h4⟩ := r
    exact p _ H s rfl (Le.refl s) (sr.setO (sl := .ol xs) ⟨a, vs, rfl, h1, h2, h4⟩ h3)
  | bl xs => exact p.elim
  | bi c fs => exact p.elim
theorem vs_set {i : Nat} {x : Str} {pos' : Pos} (hN : X.N.Nodup) (hi : X.N[i]? = some x) (hx : Loc X.env.scope x) (he : PE X e (tE g B W m)) (hs : swapsWith e (some (.Name x pos')) pos.line X.env = pure false := by rfl) (hf : X.fn x = true ∨ X.env.scope.names.lookup x = some .local := by first | exact .inl rfl | exact .inr rfl | assumption) :
    PS X (.Assign [.Name x pos'] e pos) (tS g B W (mSet i m)) := by
  refine ps_imp (ps_set hN hi hx he hs hf) fun N σ H ⟨env, s, sr, p⟩ => ?_
  exact (bindS sr p).mono fun v H1 ⟨s1, x, sr1, l1, r1, p1⟩ => setPost sr1 r1 p1
theorem vs_expr (he : PE X e (tE g B W m)) (hs : swapsWith e none pos.line X.env = pure false := by rfl) : PS X (.Expr e pos) (tS g B W (mDrop m)) := by
  refine ps_imp (ps_expr he hs) fun N σ H ⟨env, s, sr, p⟩ => ?_
  exact (bindS sr p).mono fun v H1 ⟨s1, x, sr1, l1, r1, p1⟩ => p1 σ H1 s1 rfl (Le.refl s1) sr1
theorem Good.frz {s : Sta} {H : Hp} {a : Addr} {o : HO} (gd : Good g s H) (ha : H a = some o) (hf : s.F a = none) (hal : ∀ n, s.al n ≠ some a) : Good g (s.frz a o) H := by
  have f : ∀ b u, s.F b = some u → (s.frz a o).F b = some u := fun b u h => by
    have ne : b ≠ a := fun q => by rw [q, hf] at h; cases h
    show upd s.F a o b = some u
    rw [upd_ne ne]; exact h
  refine ⟨fun b u h => ?_, gd.inj, fun n b h => ?_, fun n c h => ?_, gd.zed.keep rfl rfl (fun _ _ h => h) fun _ _ _ _ h => h⟩
  · have h : upd s.F a o b = some u := h
    by_cases q : b = a
    · subst q
      rw [upd_same] at h
      cases h
      exact ha
    · rw [upd_ne q] at h
      exact gd.fle b u h
  · obtain ⟨h1, h2, h3⟩ := gd.dom n b h
    refine ⟨h1, ?_, h3⟩
    have ne : b ≠ a := fun q => by subst q; exact hal n h
    show upd s.F a o b = none
    rw [upd_ne ne]; exact h2
  · obtain ⟨b, h1, h2⟩ := gd.cell n c h
    refine ⟨b, h1, ?_⟩
    exact h2.mv (fun _ z => z) f fun _ _ z => z
theorem frz_le {s : Sta} {a : Addr} {o : HO} (hf : s.F a = none) : ∀ b u, s.F b = some u → (s.frz a o).F b = some u := fun b u h => by
  have ne : b ≠ a := fun q => by rw [q, hf] at h; cases h
  show upd s.F a o b = some u
  rw [upd_ne ne]; exact h
theorem retL {xs : List D} {a : Addr} {vs : List V} {env : Env} {s : Sta} {σ : L2.St} {H : Hp} {N : Ends} (sr : SR g B env s σ H) (h1 : H a = some (.lst vs)) (h2 : OwnA B s a) (h4 : Reps g s.F s.al xs vs) (p : PostS g B W s (.ret (.lst xs) s.h) N) : N.rt (.ref a) H := by
  have fl := frz_le (o := .lst vs) h2.f
  exact p (.ref a) H (s.frz a (.lst vs)) rfl (evo_frz h2.f h2.al h2.new sr.evo) (sr.good.frz h1 h2.f h2.al) ⟨a, vs, rfl, upd_same, h4.mono fl fun _ _ z => z⟩
theorem vs_ret (he : PE X e (tE g B W m)) : PS X (.Return (some e) pos) (tS g B W (mRet m)) := by
  refine ps_imp (ps_ret he) fun N σ H ⟨env, s, sr, p⟩ => ?_
  refine (bindS sr p).mono fun v H1 ⟨s1, x, sr1, l1, r1, p1⟩ => ?_
  cases x with
  | d x => exact p1 v H1 s1 rfl sr1.evo sr1.good r1
  | tl xs =>
    obtain ⟨a, vs, rfl, h1, h2, h3, h4⟩ := r1
    exact retL sr1 h1 h2 h4 p1
  | bl xs =>
    obtain ⟨a, vs, rfl, h1, h2, h4⟩ := r1
    exact retL sr1 h1 h2 h4 p1
  | bi c fs => exact p1.elim
theorem vs_if {a b : List Stmt} (hc : PT X c (tT g B W mc)) (ha : PSs X a (tS g B W ma)) (hb : PSs X b (tS g B W mb)) : PS X (.If c a b pos) (tS g B W (mIfS mc ma mb)) := by
  refine ps_imp (ps_if hc ha hb) fun N σ H ⟨env, s, sr, p⟩ => ?_
  refine (bindSB sr p).mono fun v H1 ⟨s1, sr1, l1, p1⟩ => ?_
  cases v with
  | true => exact iteT ⟨env, s1, sr1, p1⟩
  | false => exact iteF ⟨env, s1, sr1, p1⟩
end
end Vi
namespace Vi
open PySem L2
abbrev TgF := D → Env → Option Env
def TgV (X : Cx) (g : Gi) (target : Expr) (T : TgF) : Prop :=
  ∃ t : TG, PG X target t ∧ ∀ (B : Bg) (env env' : Env) (s : Sta) (σ : L2.St) (H : Hp) (d : D) (v : V) (Q : L2.St → Hp → Prop), SR g B env s σ H → Rep g s.F s.al d v → T d env = some env' → (∀ σ' H', SR g B env' s σ' H' → Q σ' H') → t v σ H Q
def TgsV (X : Cx) (g : Gi) (targets : List Expr) (T : List D → Env → Option Env) : Prop :=
  ∃ t : TGs, PGs X targets t ∧ ∀ (B : Bg) (env env' : Env) (s : Sta) (σ : L2.St) (H : Hp) (ds : List D) (vs : List V) (Q : L2.St → Hp → Prop), SR g B env s σ H → Reps g s.F s.al ds vs → T ds env = some env' → (∀ σ' H', SR g B env' s σ' H' → Q σ' H') → t vs σ H Q
@[simp] def gtN (i : Nat) : TgF := fun d env => some (env.set i (some (.d d)))
@[simp] def gtNil : List D → Env → Option Env := fun ds env => match ds with
  | [] => some env
  | _ => none
@[simp] def gtCons (a : TgF) (b : List D → Env → Option Env) : List D → Env → Option Env := fun ds env => match ds with
  | d :: r => (a d env).bind fun env1 => b r env1
  | [] => none
@[simp] def gtT (n : Nat) (b : List D → Env → Option Env) : TgF := fun d env => match d with
  | .tup ds => if ds.length = n then b ds env else none
  | _ => none
section
variable {X : Cx} {g : Gi} {pos : Pos}
theorem vg_name {i : Nat} {x : Str} (hN : X.N.Nodup) (hi : X.N[i]? = some x) (hx : Loc X.env.scope x) (hf : X.fn x = true ∨ X.env.scope.names.lookup x = some .local := by first | exact .inl rfl | exact .inr rfl | assumption) : TgV X g (.Name x pos) (gtN i) :=
  ⟨_, pg_name hN hi hx hf, fun B env env' s σ H d v Q sr r e k => by
    have e : env.set i (some (.d d)) = env' := Option.some.inj e
    exact k _ _ (e ▸ sr.set r)⟩
theorem vg_nil : TgsV X g [] gtNil := ⟨_, pgs_nil, fun B env env' s σ H ds vs Q sr r e k => by
  cases ds with
  | nil =>
    have e : env = env' := Option.some.inj e
    exact ⟨r, k _ _ (e ▸ sr)⟩
  | cons _ _ => cases e⟩
theorem vg_cons {e : Expr} {es : List Expr} {T : TgF} {U : List D → Env → Option Env} (h1 : TgV X g e T) (h2 : TgsV X g es U) (hs : (assignEach (e :: es) X.env).map (·.2) = assign e X.env :: (assignEach es X.env).map (·.2) := by rfl) : TgsV X g (e :: es) (gtCons T U) := by
  obtain ⟨t, p1, q1⟩ := h1
  obtain ⟨u, p2, q2⟩ := h2
  refine ⟨_, pgs_cons p1 p2 hs, fun B env env' s σ H ds vs Q sr r e k => ?_⟩
  cases ds with
  | nil => cases e
  | cons d ds =>
    obtain ⟨v, vr, ev, r1, r2⟩ := r
    have e : (T d env).bind (fun env1 => U ds env1) = some env' := e
    cases e1 : T d env with
    | none => rw [e1] at e; cases e
    | some env1 =>
      rw [e1] at e
      exact ⟨v, vr, ev, q1 B env env1 s σ H d v _ sr r1 e1 fun σ1 H1 sr1 => q2 B env1 env' s σ1 H1 ds vr Q sr1 r2 e k⟩
theorem vg_tup (hK : g.K = X.K) (hc : X.calm = true) {es : List Expr} {k n : Nat} {U : List D → Env → Option Env} (h : TgsV X g es U) (hn : (assignEach es X.env).length = n := by rfl) (hst : (assignEach es X.env).findIdx? (·.1) = none := by rfl) : TgV X g (.Tuple es k pos) (gtT n U) := by
  obtain ⟨t, p1, q1⟩ := h
  refine ⟨_, pg_tup hc p1 hn hst, fun B env env' s σ H d v Q sr r e k => ?_⟩
  cases d with
  | tup ds =>
    obtain ⟨a, vs, rfl, h2, h3⟩ := r
    have e : (if ds.length = n then U ds env else none) = some env' := e
    by_cases hl : ds.length = n
    · rw [if_pos hl] at e
      exact ⟨a, vs, rfl, hK ▸ sr.good.sqT h2.sq, h3.length.trans hl, q1 B env env' s σ H ds vs Q sr h3 e k⟩
    · rw [if_neg hl] at e
      cases e
  | _ => cases e
end
@[simp] def mUnp (T : TgF) (e : ME) : MS := fun env h => (e env h).thenS env fun x h1 => match x with
  | .d d => (match T d env with
    | some env' => .nx env' h1
    | none => .stuck)
  | _ => .stuck
section
variable {X : Cx} {g : Gi} {B : Bg} {W : WXv} {pos : Pos} {e tg : Expr} {m : ME} {T : TgF}
theorem vs_unp (he : PE X e (tE g B W m)) (ht : TgV X g tg T) (hs : swapsWithSole [tg] e pos.line X.env = pure false := by rfl) (hw : swappedStores [tg] e X.env = pure none := by rfl)
    (h1 : (assignEach [tg] X.env).map (·.2) = [assign tg X.env] := by rfl) : PS X (.Assign [tg] e pos) (tS g B W (mUnp T m)) := by
  obtain ⟨t, p1, q1⟩ := ht
  refine ps_imp (ps_asg he p1 hs hw h1) fun N σ H ⟨env, s, sr, p⟩ => ?_
  refine (bindS sr p).mono fun v H1 ⟨s1, x, sr1, l1, r1, p1⟩ => ?_
  cases x with
  | d d =>
    cases e1 : T d env with
    | none => simp only [e1] at p1; exact p1.elim
    | some env' =>
      simp only [e1] at p1
      exact q1 B env env' s1 σ H1 d v _ sr1 r1 e1 fun σ' H' sr' => p1 σ' H' s1 rfl (Le.refl s1) sr'
  | _ => exact p1.elim
end
def mWhile : Nat → MB → MS → MS
  | 0, _, _ => fun _ _ => .stuck
  | n + 1, c, b => fun env h => (c env h).thenS env fun x h1 => if x then (match b env h1 with
    | .nx e h2 => mWhile n c b e h2
    | .cnt e h2 => mWhile n c b e h2
    | .brk e h2 => .nx e h2
    | .ret d h2 => .ret d h2
    | .exc e x h2 => .exc e x h2
    | .stuck => .stuck) else .nx env h1
section
variable {X : Cx} {g : Gi} {B : Bg} {W : WXv} {pos : Pos} {c : Expr} {body : List Stmt} {mc : MB} {mb : MS}
theorem vs_while (n : Nat) (hp : PassesOwn (model X.prog X.w) X.A X.env X.xe) (hc : PT X c (tT g B W mc)) (hb : PSs X body (tS g B W mb)) : PS X (.While c body [] pos) (tS g B W (mWhile n mc mb)) := by
  refine ps_imp (ps_while hp hc hb) fun N σ H ⟨env, s, sr, p⟩ => ?_
  refine ⟨fun m σ H => ∃ env s, SR g B env s σ H ∧ PostS g B W s (mWhile m mc mb env s.h) N, ⟨n, env, s, sr, p⟩, ?_⟩
  rintro m σ H ⟨env, s, sr, p⟩
  cases m with
  | zero => exact p.elim
  | succ m =>
    refine (bindSB (k := fun x h1 => if x then (match mb env h1 with
      | .nx e h2 => mWhile m mc mb e h2
      | .cnt e h2 => mWhile m mc mb e h2
      | .brk e h2 => .nx e h2
      | .ret d h2 => .ret d h2
      | .exc e x h2 => .exc e x h2
      | .stuck => .stuck) else .nx env h1) sr p).mono fun b H1 ⟨s1, sr1, l1, p1⟩ => ?_
    cases b with
    | false => exact iteF (p1 σ H1 s1 rfl (Le.refl s1) sr1)
    | true =>
      refine iteT ⟨fun σ' H' => ∃ env s, SR g B env s σ' H' ∧ PostS g B W s (mWhile m mc mb env s.h) N, fun σ' H' q => ⟨m, Nat.lt_succ_self m, q⟩, env, s1, sr1, ?_⟩
      rw [if_pos rfl] at p1
      cases q : mb env s1.h with
      | nx e h2 =>
        rw [q] at p1
        intro σ' H' s' e1 l sr'
        exact ⟨e, s', sr', by rw [e1]; exact PostS.later l p1⟩
      | cnt e h2 =>
        rw [q] at p1
        intro σ' H' s' e1 l sr'
        exact ⟨e, s', sr', by rw [e1]; exact PostS.later l p1⟩
      | brk e h2 => rw [q] at p1; exact p1
      | ret d h2 => rw [q] at p1; exact p1
      | exc e x h2 => rw [q] at p1; exact p1
      | stuck => rw [q] at p1; exact p1
end
def forL (T : TgF) (b : MS) : List D → MS
  | [] => fun env h => .nx env h
  | d :: r => fun env h => match T d env with
    | none => .stuck
    | some env1 => (match b env1 h with
      | .nx e h2 => forL T b r e h2
      | .cnt e h2 => forL T b r e h2
      | .brk e h2 => .nx e h2
      | .ret d h2 => .ret d h2
      | .exc e x h2 => .exc e x h2
      | .stuck => .stuck)
def seqD? (h : Hc) : Vl → Option (Bool × List D)
  | .d (.lst xs) => some (true, xs)
  | .d (.kl xs) => some (true, xs)
  | .d (.tup xs) => some (false, xs)
  | .d (.xtup xs) => some (false, xs)
  | .d (.ref n) => (match h[n]? with
    | some (.frz c) => (match c.bare with
      | .lst xs => some (true, xs)
      | _ => none)
    | _ => none)
  | _ => none
def StL (K : PySem.W.Frag) (s : Sta) (a : Addr) (vs : List V) : Prop := SqL K s.F a vs ∨ ∃ n, s.z n = some (.lst vs) ∧ s.al n = some a
theorem StL.le {K : PySem.W.Frag} {s s' : Sta} {a : Addr} {vs : List V} (l : Le s s') (h : StL K s a vs) : StL K s' a vs := by
  rcases h with h | ⟨n, h1, h2⟩
  · exact .inl (sqL_mono l.f h)
  · exact .inr ⟨n, l.z _ _ h1, l.al _ _ h2⟩
theorem StL.sqL {g : Gi} {K : PySem.W.Frag} {s : Sta} {H : Hp} {a : Addr} {vs : List V} (gd : Good g s H) (h : StL K s a vs) : SqL K H a vs := by
  rcases h with h | ⟨n, h1, h2⟩
  · exact sqL_mono gd.fle h
  · obtain ⟨b, c, h3, h4, _⟩ := gd.zed.at_ n _ h1
    rw [h2] at h3
    cases h3
    exact .of h4
theorem frz_lst {g : Gi} {s : Sta} {H : Hp} {n : Nat} {v : V} {c : Cell} {xs : List D} (gd : Good g s H) (r : Rep g s.F s.al (.ref n) v) (e1 : s.h[n]? = some (.frz c)) (e2 : c.bare = .lst xs) :
    ∃ a vs, v = .ref a ∧ s.z n = some (.lst vs) ∧ s.al n = some a ∧ Reps g s.F s.al xs vs := by
  obtain ⟨a, rfl, hal⟩ := r
  obtain ⟨b, g1, g2⟩ := gd.cell n _ e1
  rw [hal] at g1
  cases g1
  have g3 : CellRep g s H a c.bare := CellRep.bare (c := c) g2
  rw [e2] at g3
  obtain ⟨vs, h1, h2⟩ := g3
  obtain ⟨o, h3⟩ := gd.zed.of n c e1
  obtain ⟨b, _, h4, h5, _⟩ := gd.zed.at_ n o h3
  rw [hal] at h4
  cases h4
  rw [h1] at h5
  cases h5
  exact ⟨a, vs, rfl, h3, hal, h2⟩
def mFor (T : TgF) (e : ME) (b : MS) : MS := fun env h => (e env h).thenS env fun x h1 => match seqD? h1 x with
  | some (_, xs) => forL T b xs env h1
  | none => .stuck
theorem pi_or {X : Cx} {tg e : Expr} {t t' : TI} (h : PI X tg e t) (h' : PI X tg e t') : PI X tg e (fun σ H R => t σ H R ∨ t' σ H R) := ⟨fun pins s σ H R I q => by
  rcases q with q | q
  · exact h.run pins s σ H R I q
  · exact h'.run pins s σ H R I q⟩
section
variable {X : Cx} {g : Gi} {B : Bg} {W : WXv} {pos : Pos} {e tg : Expr} {body : List Stmt} {m : ME} {mb : MS} {T : TgF}
theorem forTurn {t : TG} {d : D} {r : List D} {v : V} {env : Env} {s : Sta} {σ : L2.St} {H : Hp} {N : Ends} (q1 : ∀ (B : Bg) (env env' : Env) (s : Sta) (σ : L2.St) (H : Hp) (d : D) (v : V) (Q : L2.St → Hp → Prop), SR g B env s σ H → Rep g s.F s.al d v → T d env = some env' → (∀ σ' H', SR g B env' s σ' H' → Q σ' H') → t v σ H Q)
    (sr : SR g B env s σ H) (rep : Rep g s.F s.al d v) (p : PostS g B W s (forL T mb (d :: r) env s.h) N) {Nx : L2.St → Hp → Prop} (hN : ∀ (env : Env) (s' : Sta) (σ : L2.St) (H : Hp), Le s s' → SR g B env s' σ H → PostS g B W s' (forL T mb r env s'.h) N → Nx σ H) :
    t v σ H fun σ2 H2 => tS g B W mb { N with nx := Nx, ct := Nx, bk := N.nx } σ2 H2 := by
  have p : PostS g B W s (match T d env with
    | none => .stuck
    | some env1 => (match mb env1 s.h with
      | .nx e h2 => forL T mb r e h2
      | .cnt e h2 => forL T mb r e h2
      | .brk e h2 => .nx e h2
      | .ret d h2 => .ret d h2
      | .exc e x h2 => .exc e x h2
      | .stuck => .stuck)) N := p
  cases e1 : T d env with
  | none => rw [e1] at p; exact p.elim
  | some env1 =>
    rw [e1] at p
    refine q1 B env env1 s σ H d v _ sr rep e1 fun σ' H' sr' => ⟨env1, s, sr', ?_⟩
    have p : PostS g B W s (match mb env1 s.h with
      | .nx e h2 => forL T mb r e h2
      | .cnt e h2 => forL T mb r e h2
      | .brk e h2 => .nx e h2
      | .ret d h2 => .ret d h2
      | .exc e x h2 => .exc e x h2
      | .stuck => .stuck) N := p
    cases q : mb env1 s.h with
    | nx e h2 =>
      rw [q] at p
      intro σ2 H2 s2 e2 l sr2
      exact hN e s2 σ2 H2 l sr2 (by rw [e2]; exact PostS.later l p)
    | cnt e h2 =>
      rw [q] at p
      intro σ2 H2 s2 e2 l sr2
      exact hN e s2 σ2 H2 l sr2 (by rw [e2]; exact PostS.later l p)
    | brk e h2 => rw [q] at p; exact p
    | ret d h2 => rw [q] at p; exact p
    | exc e x h2 => rw [q] at p; exact p
    | stuck => rw [q] at p; exact p
theorem Reps.mono2 {F F' : Hp} {al al' : Nat → Option Addr} {ds : List D} {vs : List V} (h : Reps g F al ds vs) (e : ∀ a o, F a = some o → F' a = some o) (ea : ∀ n a, al n = some a → al' n = some a) : Reps g F' al' ds vs := h.mono e ea
theorem vs_for (hK : g.K = X.K) (hp : PassesOwn (model X.prog X.w) X.A X.env X.xe) (hc : X.calm = true) (he : PE X e (tE g B W m)) (ht : TgV X g tg T) (hb : PSs X body (tS g B W mb))
    (hs : ∀ x, foldedSetIterable e X.env x = pure x := by intro _; rfl) : PS X (.For tg e body [] pos) (tS g B W (mFor T m mb)) := by
  obtain ⟨t, p1, q1⟩ := ht
  refine ps_imp (ps_for hp hc (pi_or (pi_list (tg := tg) he) (pi_tup he)) p1 hb hs) fun N σ H ⟨env, s, sr, p⟩ => ?_
  have go : ∀ (bb : Bool) (xs : List D) (h1 : Hc) (x : Vl), m env s.h = .ok x h1 → seqD? h1 x = some (bb, xs) → PostS g B W s (forL T mb xs env h1) N → tFor (fun σ H R => iList X.K (tE g B W m) σ H R ∨ iTup X.K (tE g B W m) σ H R) t (tS g B W mb) N σ H := by
    intro bb xs h1 x em es pp
    cases bb with
    | true =>
      refine .inl ⟨env, s, sr, ?_⟩
      rw [em]
      intro v H1 s1 e1 ev sr1 vr
      have q : ∃ a vs, v = .ref a ∧ StL g.K s1 a vs ∧ Reps g s1.F s1.al xs vs := by
        cases x with
        | d x =>
          cases x with
          | lst ys => cases es; obtain ⟨a, vs, h1, h2, h3⟩ := vr; exact ⟨a, vs, h1, .inl (.of h2), h3⟩
          | kl ys => cases es; obtain ⟨a, vs, h1, h2, h3⟩ := vr; exact ⟨a, vs, h1, .inl h2, h3⟩
          | ref n =>
            rw [← e1] at es
            unfold seqD? at es
            dsimp only at es
            split at es
            · next c ec =>
              split at es
              · next ys eb =>
                cases es
                obtain ⟨a, vs, h1, h2, h3, h4⟩ := frz_lst sr1.good vr ec eb
                exact ⟨a, vs, h1, .inr ⟨n, h2, h3⟩, h4⟩
              · cases es
            · cases es
          | _ => cases es
        | _ => cases es
      obtain ⟨a, vs, rfl, hq, hr⟩ := q
      refine ⟨a, rfl, ⟨vs, hK ▸ hq.sqL sr1.good⟩, for_list (K := X.K) (a := a) (xs := vs) (fun i σ H => ∃ env s', SR g B env s' σ H ∧ Le s1 s' ∧ PostS g B W s' (forL T mb (xs.drop i) env s'.h) N)
        ⟨env, s1, sr1, Le.refl s1, by rw [List.drop_zero, e1]; exact PostS.later ev.le pp⟩ (fun i σ H _ ⟨env, s', sr', l, _⟩ => hK ▸ (hq.le l).sqL sr'.good) ?_ ?_⟩
      · rintro i y σ H hi ⟨env, s', sr', l, pp⟩
        have hr' := hr.mono2 l.f l.al
        have hl : i < xs.length := by
          rw [← hr.length]
          exact (List.getElem?_eq_some_iff.mp hi).1
        obtain ⟨y', ey, ry⟩ := hr'.get (List.getElem?_eq_getElem hl)
        rw [hi] at ey
        cases ey
        rw [List.drop_eq_getElem_cons hl] at pp
        exact forTurn q1 sr' ry pp fun env2 s2 σ2 H2 l2 sr2 p2 => ⟨env2, s2, sr2, l.trans l2, p2⟩
      · rintro σ H ⟨env, s', sr', l, pp⟩
        rw [hr.length, List.drop_length] at pp
        exact pp σ H s' rfl (Le.refl s') sr'
    | false =>
      refine .inr ⟨env, s, sr, ?_⟩
      rw [em]
      intro v H1 s1 e1 ev sr1 vr
      have q : ∃ a vs, v = .ref a ∧ SqT g.K s1.F a vs ∧ Reps g s1.F s1.al xs vs := by
        cases x with
        | d x =>
          cases x with
          | tup ys => cases es; obtain ⟨a, vs, h1, h2, h3⟩ := vr; exact ⟨a, vs, h1, h2.sq, h3⟩
          | xtup ys => cases es; obtain ⟨a, o, vs, h1, h2, _, h3⟩ := vr; exact ⟨a, vs, h1, .inl (.inr ⟨o, h2⟩), h3⟩
          | ref n =>
            unfold seqD? at es
            dsimp only at es
            split at es
            · split at es <;> cases es
            · cases es
          | _ => cases es
        | _ => cases es
      obtain ⟨a, vs, rfl, hq, hr⟩ := q
      refine ⟨a, rfl, ⟨vs, hK ▸ sr1.good.sqT hq⟩, for_tup (K := X.K) (a := a) (xs := vs) (fun i σ H => ∃ env s', SR g B env s' σ H ∧ Le s1 s' ∧ PostS g B W s' (forL T mb (xs.drop i) env s'.h) N)
        ⟨env, s1, sr1, Le.refl s1, by rw [List.drop_zero, e1]; exact PostS.later ev.le pp⟩ (fun i σ H _ ⟨env, s', sr', l, _⟩ => hK ▸ sr'.good.sqT (sqT_mono l.f hq)) ?_ ?_⟩
      · rintro i y σ H hi ⟨env, s', sr', l, pp⟩
        have hr' := hr.mono2 l.f l.al
        have hl : i < xs.length := by
          rw [← hr.length]
          exact (List.getElem?_eq_some_iff.mp hi).1
        obtain ⟨y', ey, ry⟩ := hr'.get (List.getElem?_eq_getElem hl)
        rw [hi] at ey
        cases ey
        rw [List.drop_eq_getElem_cons hl] at pp
        exact forTurn q1 sr' ry pp fun env2 s2 σ2 H2 l2 sr2 p2 => ⟨env2, s2, sr2, l.trans l2, p2⟩
      · rintro σ H ⟨env, s', sr', l, pp⟩
        rw [hr.length, List.drop_length] at pp
        exact pp σ H s' rfl (Le.refl s') sr'
  unfold mFor at p
  cases em : m env s.h with
  | ok x h1 =>
    rw [em] at p
    have p : PostS g B W s (match seqD? h1 x with
      | some (_, xs) => forL T mb xs env h1
      | none => .stuck) N := p
    cases es : seqD? h1 x with
    | none => rw [es] at p; exact p.elim
    | some q =>
      rw [es] at p
      exact go q.1 q.2 h1 x em es p
  | exc x h1 =>
    rw [em] at p
    refine .inl ⟨env, s, sr, ?_⟩
    rw [em]
    intro cls dd H1 s1 e1 ev sr1 xr
    exact p cls dd σ H1 s1 e1 ev.le sr1 xr
  | stuck =>
    rw [em] at p
    exact p.elim
def rangeD (lo : Int) (n : Nat) : List D := (List.range n).map fun i : Nat => D.int (lo + (i : Nat))
def mForR (T : TgF) (a : MA) (b : MS) : MS := fun env h => (a env h).thenS env fun xs h1 => match xs with
  | [.d (.int j)] => if -(2 ^ 62) ≤ j ∧ j < 2 ^ 62 then forL T b (rangeD 0 j.toNat) env h1 else .stuck
  | _ => .stuck
def mForR2 (T : TgF) (a : MA) (b : MS) : MS := fun env h => (a env h).thenS env fun xs h1 => match xs with
  | [.d (.int i), .d (.int j)] => if -(2 ^ 62) ≤ i ∧ i < 2 ^ 62 ∧ -(2 ^ 62) ≤ j ∧ j < 2 ^ 62 then forL T b (rangeD i (j - i).toNat) env h1 else .stuck
  | _ => .stuck
theorem rangeD_len (lo : Int) (n : Nat) : (rangeD lo n).length = n := by unfold rangeD; rw [List.length_map, List.length_range]
theorem rangeD_get (lo : Int) (n i : Nat) (h : i < (rangeD lo n).length) : (rangeD lo n)[i] = .int (lo + (i : Nat)) := by
  have e : (rangeD lo n)[i]? = some (.int (lo + (i : Nat))) := by
    have hn : i < n := by rw [rangeD_len] at h; exact h
    show ((List.range n).map fun i : Nat => D.int (lo + (i : Nat)))[i]? = _
    rw [List.getElem?_map, List.getElem?_range hn]
    rfl
  exact (List.getElem?_eq_some_iff.mp e).2
theorem forRange {t : TG} {lo : Int} {n : Nat} {env : Env} {s1 : Sta} {σ : L2.St} {H : Hp} {N : Ends} (q1 : ∀ (B : Bg) (env env' : Env) (s : Sta) (σ : L2.St) (H : Hp) (d : D) (v : V) (Q : L2.St → Hp → Prop), SR g B env s σ H → Rep g s.F s.al d v → T d env = some env' → (∀ σ' H', SR g B env' s σ' H' → Q σ' H') → t v σ H Q)
    (sr1 : SR g B env s1 σ H) (pp : PostS g B W s1 (forL T mb (rangeD lo n) env s1.h) N) : ∃ W' : Nat → Nat → L2.St → Hp → Prop, (∃ m, W' 0 m σ H) ∧ ∀ i m σ H, W' i m σ H →
      ((Itr lo n).stop i H ∧ N.nx σ H) ∨ ((Itr lo n).go i H ∧ ∃ Nx : L2.St → Hp → Prop, (∀ σ' H', Nx σ' H' → ∃ m', m' < m ∧ W' (i + 1) m' σ' H') ∧ ∀ x H', (Itr lo n).yld i H x H' → t x σ H' fun σ2 H2 => tS g B W mb { N with nx := Nx, ct := Nx, bk := N.nx } σ2 H2) := by
  refine for_range (lo := lo) (n := n) (fun i σ H => ∃ env s', SR g B env s' σ H ∧ PostS g B W s' (forL T mb ((rangeD lo n).drop i) env s'.h) N) ⟨env, s1, sr1, by rw [List.drop_zero]; exact pp⟩ ?_ ?_
  · rintro i σ H hi ⟨env, s', sr', pp⟩
    have hl : i < (rangeD lo n).length := by rw [rangeD_len]; exact hi
    rw [List.drop_eq_getElem_cons hl, rangeD_get] at pp
    exact forTurn q1 sr' (show Rep g s'.F s'.al (.int (lo + (i : Nat))) (.int (lo + (i : Nat))) from rfl) pp fun env2 s2 σ2 H2 l2 sr2 p2 => ⟨env2, s2, sr2, p2⟩
  · rintro σ H ⟨env, s', sr', pp⟩
    rw [show (rangeD lo n).drop n = [] from List.drop_eq_nil_of_le (by rw [rangeD_len]; exact Nat.le_refl _)] at pp
    exact pp σ H s' rfl (Le.refl s') sr'
theorem vs_forR1 {a : Expr} {ma : MA} {p' rp : Pos} (hp : PassesOwn (model X.prog X.w) X.A X.env X.xe) (hc : X.calm = true) (hg : Gl X "range") (hm : X.mg "range" = none) (ha : PA X [a] (tA g B W ma)) (ht : TgV X g tg T) (hb : PSs X body (tS g B W mb))
    (hst : starEach [a] X.env = [(false, eval a X.env)] := by rfl) (hs : ∀ x, foldedSetIterable (.Call (.Name "range" p') [a] [] rp) X.env x = pure x := by intro _; rfl) :
    PS X (.For tg (.Call (.Name "range" p') [a] [] rp) body [] pos) (tS g B W (mForR T ma mb)) := by
  obtain ⟨t, p1, q1⟩ := ht
  refine ps_imp (ps_for hp hc (pi_range1 (tg := tg) hg hm ha hst) p1 hb hs) fun N σ H ⟨env, s, sr, p⟩ => ?_
  refine (bindSA sr p).mono fun vs H1 ⟨s1, xs, sr1, l1, r1, p1⟩ => ?_
  split at p1
  · next j =>
    obtain ⟨v, rfl, r⟩ := r1.one
    split at p1
    · next hj =>
      have r : v = .int j := r
      exact ⟨j, by rw [r], hj.1, hj.2, forRange q1 sr1 p1⟩
    · exact p1.elim
  · exact p1.elim
end
end Vi
namespace Vi
open PySem L2
section
variable {g : Gi} {B : Bg} {W : WXv} {env : Env} {s : Sta} {σ : L2.St} {H : Hp}
theorem SR.mut {i : Nat} {sl sl' : Sl} {a : Addr} {o : HO} (sr : SR g B env s σ H) (hi : env[i]? = some (some sl)) (ho : sl.own = true) (hσ : σ[i]? = some (some (.ref a))) (hf : s.F a = none) (hal : ∀ n, s.al n ≠ some a) (hb : B.H a = none)
    (r : SlRep g B s (upd H a o) sl' (.ref a)) : SR g B (env.set i (some sl')) s σ (upd H a o) := by
  have hlt : i < env.length := (List.getElem?_eq_some_iff.mp hi).1
  have hnx : ∀ zs, H a ≠ some (.xd zs) := fun zs hz => by
    obtain ⟨v, h1, h2⟩ := sr.slot i sl hi
    rw [hσ] at h1
    cases h1
    cases sl with
    | d x => cases ho
    | xc c fs => cases ho
    | ol xs =>
      obtain ⟨b, vs, e, h2, _⟩ := h2
      cases e
      rw [hz] at h2
      cases h2
    | oi c fs =>
      obtain ⟨b, dx, vs, e, h2, _⟩ := h2
      cases e
      rw [hz] at h2
      cases h2
  have stay : ∀ {sl1 : Sl} {v : V}, SlRep g B s H sl1 v → (sl1.own = true → v ≠ .ref a) → SlRep g B s (upd H a o) sl1 v := fun {sl1 v} h hne => by
    cases sl1 with
    | d x => exact h
    | ol xs =>
      obtain ⟨b, vs, rfl, h2, h3, h4⟩ := h
      have ne : b ≠ a := fun e => hne rfl (by rw [e])
      exact ⟨b, vs, rfl, by rw [upd_ne ne]; exact h2, h3, h4⟩
    | oi c fs =>
      obtain ⟨b, dx, vs, rfl, h2, h3, h4, h5⟩ := h
      have ne : b ≠ a := fun e => hne rfl (by rw [e])
      exact ⟨b, dx, vs, rfl, by rw [upd_ne ne]; exact h2, h3, h4, h5⟩
    | xc c fs =>
      obtain ⟨h1, h2, vs, h3, h4, h5⟩ := h
      have ne : B.xd ≠ a := fun e => hnx vs (by rw [← e]; exact h3)
      exact ⟨h1, h2, vs, by rw [upd_ne ne]; exact h3, h4, h5⟩
  refine ⟨⟨fun b u h => ?_, sr.good.inj, fun n b h => ?_, fun n c h => ?_, sr.good.zed.keep rfl rfl (fun _ _ h => h) fun n b o h1 h2 => by rw [upd_ne (fun e => hal n (by rw [← e]; exact h1))]; exact h2⟩, ⟨sr.evo.f, sr.evo.al, fun b u h n => ?_, sr.evo.len, sr.evo.z⟩, by rw [List.length_set]; exact sr.len, fun j sl1 h => ?_, fun j k sl1 sl2 u hjk h1 h2 o1 o2 h3 h4 => ?_⟩
  · have ne : b ≠ a := fun e => by rw [e, hf] at h; cases h
    rw [upd_ne ne]
    exact sr.good.fle b u h
  · obtain ⟨h1, h2, u, h3⟩ := sr.good.dom n b h
    have ne : b ≠ a := fun e => hal n (by rw [← e]; exact h)
    exact ⟨h1, h2, u, by rw [upd_ne ne]; exact h3⟩
  · obtain ⟨b, h1, h2⟩ := sr.good.cell n c h
    have ne : b ≠ a := fun e => hal n (by rw [← e]; exact h1)
    refine ⟨b, h1, ?_⟩
    exact h2.mv (fun o h3 => by rw [upd_ne ne]; exact h3) (fun _ _ h => h) fun _ _ h => h
  · obtain ⟨h1, h2, h3⟩ := sr.evo.oth b u h n
    have ne : b ≠ a := fun e => by rw [e, hb] at h; cases h
    exact ⟨by rw [upd_ne ne]; exact h1, h2, h3⟩
  · by_cases e : i = j
    · subst e
      rw [List.getElem?_set_self hlt] at h
      cases h
      exact ⟨_, hσ, r⟩
    · rw [List.getElem?_set_ne e] at h
      obtain ⟨v, h1, h2⟩ := sr.slot j sl1 h
      exact ⟨v, h1, stay h2 fun o1 q => by subst q; exact sr.sep i j sl sl1 (.ref a) e hi h ho o1 hσ h1⟩
  · have f : ∀ {j : Nat} {sl1 : Sl}, (env.set i (some sl'))[j]? = some (some sl1) → sl1.own = true → ∃ sl3, env[j]? = some (some sl3) ∧ sl3.own = true := fun {j sl1} h q => by
      by_cases e : i = j
      · subst e
        exact ⟨sl, hi, ho⟩
      · rw [List.getElem?_set_ne e] at h
        exact ⟨sl1, h, q⟩
    obtain ⟨x1, e1, e2⟩ := f h1 o1
    obtain ⟨x2, e3, e4⟩ := f h2 o2
    exact sr.sep j k x1 x2 u hjk e1 e3 e2 e4 h3 h4
theorem SR.cell {n : Nat} {c c' : Cell} {a : Addr} {o : HO} (sr : SR g B env s σ H) (hc : s.h[n]? = some c) (ha : s.al n = some a) (nf : ∀ c0, c ≠ .frz c0) (nf' : ∀ c0, c' ≠ .frz c0) (r : CellRep g { s with h := s.h.set n c' } (upd H a o) a c') :
    SR g B env { s with h := s.h.set n c' } σ (upd H a o) := by
  obtain ⟨hn, hf, u0, hu0⟩ := sr.good.dom n a ha
  have stay : ∀ {sl1 : Sl} {v : V}, SlRep g B s H sl1 v → SlRep g B { s with h := s.h.set n c' } (upd H a o) sl1 v := fun {sl1 v} h => by
    cases sl1 with
    | d x => exact h
    | ol xs =>
      obtain ⟨b, vs, rfl, h2, h3, h4⟩ := h
      have ne : b ≠ a := fun e => h3.al n (by rw [e]; exact ha)
      exact ⟨b, vs, rfl, by rw [upd_ne ne]; exact h2, ⟨h3.f, h3.al, h3.new⟩, h4⟩
    | oi c fs =>
      obtain ⟨b, dx, vs, rfl, h2, h3, h4, h5⟩ := h
      have ne : b ≠ a := fun e => h3.al n (by rw [e]; exact ha)
      exact ⟨b, dx, vs, rfl, by rw [upd_ne ne]; exact h2, ⟨h3.f, h3.al, h3.new⟩, h4, h5⟩
    | xc c fs =>
      obtain ⟨h1, h2, vs, h3, h4, h5⟩ := h
      have ne : B.xd ≠ a := fun e => h4 n (by rw [e]; exact ha)
      exact ⟨h1, h2, vs, by rw [upd_ne ne]; exact h3, h4, h5⟩
  have zed : ZOk { s with h := s.h.set n c' } (upd H a o) := ⟨fun m u h => by
      obtain ⟨b, c0, h1, h2, h3⟩ := sr.good.zed.at_ m u h
      have e : n ≠ m := fun e => by
        subst e
        rw [hc] at h3
        exact nf _ (Option.some.inj h3)
      have ne : b ≠ a := fun q => e (sr.good.inj n m a ha (by rw [← q]; exact h1))
      refine ⟨b, c0, h1, by rw [upd_ne ne]; exact h2, ?_⟩
      show (s.h.set n c')[m]? = _
      rw [List.getElem?_set_ne e]
      exact h3, fun m c0 h => by
      have h : (s.h.set n c')[m]? = some (.frz c0) := h
      by_cases e : n = m
      · subst e
        rw [List.getElem?_set_self hn] at h
        exact absurd (Option.some.inj h) (nf' _)
      · rw [List.getElem?_set_ne e] at h
        exact sr.good.zed.of m c0 h⟩
  refine ⟨⟨fun b u h => ?_, sr.good.inj, fun m b h => ?_, fun m d h => ?_, zed⟩, ⟨sr.evo.f, sr.evo.al, fun b u h nn => ?_, by show _ ≤ (s.h.set n c').length; rw [List.length_set]; exact sr.evo.len, sr.evo.z⟩, sr.len, fun j sl1 h => ?_, sr.sep⟩
  · have ne : b ≠ a := fun e => by rw [e] at h; rw [hf] at h; cases h
    rw [upd_ne ne]
    exact sr.good.fle b u h
  · obtain ⟨h1, h2, u, h3⟩ := sr.good.dom m b h
    refine ⟨by show m < (s.h.set n c').length; rw [List.length_set]; exact h1, h2, ?_⟩
    by_cases e : b = a
    · subst e
      exact ⟨o, upd_same⟩
    · exact ⟨u, by rw [upd_ne e]; exact h3⟩
  · have h : (s.h.set n c')[m]? = some d := h
    by_cases e : n = m
    · subst e
      rw [List.getElem?_set_self hn] at h
      cases h
      exact ⟨a, ha, r⟩
    · rw [List.getElem?_set_ne e] at h
      obtain ⟨b, h1, h2⟩ := sr.good.cell m d h
      have ne : b ≠ a := fun q => e (sr.good.inj n m a ha (by rw [← q]; exact h1))
      refine ⟨b, h1, ?_⟩
      exact CellRep.mv (s := s) (s' := { s with h := s.h.set n c' }) (H := H) (fun o h3 => by rw [upd_ne ne]; exact h3) (fun _ _ h => h) (fun _ _ h => h) h2
  · obtain ⟨h1, h2, h3⟩ := sr.evo.oth b u h nn
    have ne : b ≠ a := fun e => h3 n (by rw [e]; exact ha)
    exact ⟨by rw [upd_ne ne]; exact h1, h2, h3⟩
  · obtain ⟨v, h1, h2⟩ := sr.slot j sl1 h
    exact ⟨v, h1, stay h2⟩
end
section
variable {g : Gi} {B : Bg} {W : WXv} {env : Env} {s : Sta} {σ : L2.St} {H : Hp}
theorem bind2S {a b : ME} {f : Vl → Vl → Hc → RS} {N : Ends} (sr : SR g B env s σ H) (p : PostS g B W s ((a env s.h).thenS env fun y h2 => (b env h2).thenS env fun z h3 => f y z h3) N) :
    tE g B W a σ H fun v H1 => tE g B W b σ H1 fun w H2 => ∃ s2 x y, SR g B env s2 σ H2 ∧ Evo s H s2 H2 ∧ VlRep g B env σ s2 H2 x v ∧ VlRep g B env σ s2 H2 y w ∧ PostS g B W s2 (f x y s2.h) N := by
  refine ⟨env, s, sr, ?_⟩
  cases e1 : a env s.h with
  | ok x h1 =>
    rw [e1] at p
    intro v H1 s1 q1 ev1 sr1 vr1
    refine ⟨env, s1, sr1, ?_⟩
    have p : PostS g B W s ((b env h1).thenS env fun z h3 => f x z h3) N := p
    rw [q1]
    cases e2 : b env h1 with
    | ok y h2 =>
      rw [e2] at p
      intro w H2 s2 q2 ev2 sr2 vr2
      refine ⟨s2, x, y, sr2, ev1.trans ev2, vr1.evo ev2, vr2, ?_⟩
      rw [q2]
      exact PostS.later (ev1.trans ev2).le p
    | exc x h =>
      rw [e2] at p
      intro cls dd H2 s2 q2 ev2 sr2 xr
      exact p cls dd σ H2 s2 q2 (ev1.trans ev2).le sr2 xr
    | stuck => rw [e2] at p; exact p
  | exc x h =>
    rw [e1] at p
    intro cls dd H2 s2 q2 ev2 sr2 xr
    exact p cls dd σ H2 s2 q2 ev2.le sr2 xr
  | stuck => rw [e1] at p; exact p
end
def mAppend (i : Nat) (e : ME) : MS := fun env h => match env[i]? with
  | some (some (.ol xs)) => (e env h).thenS env fun x h1 => match x with
    | .d d => if xs.length < 100000 then .nx (env.set i (some (.ol (xs ++ [d])))) h1 else .stuck
    | _ => .stuck
  | _ => .stuck
@[simp] def fSetIx (env : Env) (x y z : Vl) (h3 : Hc) : RS := match x, y, z with
  | .d d, .d (.ref n), .d (.int i) => (match h3[n]? with
    | some (.lst xs) => (match ixN xs.length i with
      | some j => .nx env (h3.set n (.lst (xs.set j d)))
      | none => .stuck)
    | _ => .stuck)
  | _, _, _ => .stuck
@[simp] def mSetIx (e o k : ME) : MS := fun env h => (e env h).thenS env fun x h1 => (o env h1).thenS env fun y h2 => (k env h2).thenS env fun z h3 => fSetIx env x y z h3
theorem size_lt {n : Nat} (h : n < 100000) : n < sizeLine := Nat.lt_of_lt_of_le h (by decide)
section
variable {X : Cx} {g : Gi} {B : Bg} {W : WXv} {pos apos cpos : Pos} {e o k : Expr} {m mo mk : ME} {tpos : Pos}
theorem vs_append {i : Nat} (hK : g.K = X.K) (ho : PE X o (tVar i)) (he : PE X e (tE g B W m)) (hbase : attributeBase o "append" X.env (eval o X.env) = eval o X.env := by rfl) (hline : (apos.endLine == cpos.line) = true := by rfl)
    (hfew : ((backTo cpos (starEach [e] X.env)).all (fun x => !x.1) && (backToKw cpos (keywordEach [] X.env)).all (fun x => x.1.isSome) && decide ([e].length + ([] : List Keyword).length + (if ([] : List Keyword).isEmpty then 0 else 1) < 30)) = true := by rfl)
    (hst : starEach [e] X.env = (false, eval e X.env) :: starEach [] X.env := by rfl) (hpl : (backTo cpos (starEach [] X.env)).any (·.1) = false := by rfl)
    (hs : swapsWith (.Call (.Attribute o "append" apos) [e] [] cpos) none pos.line X.env = pure false := by rfl) :
    PS X (.Expr (.Call (.Attribute o "append" apos) [e] [] cpos) pos) (tS g B W (mAppend i m)) := by
  refine ps_imp (ps_expr (pe_bm PySem.F.plainAttrs_list PySem.F.slot_list_append PySem.F.type_list_append mt_append ho (pa_cons he pa_nil hst) hbase hfew hline hst hpl) hs) fun N σ H ⟨env, s, sr, p⟩ => ?_
  unfold mAppend at p
  split at p
  · next xs hx =>
    obtain ⟨v, h1, h2⟩ := sr.slot i _ hx
    obtain ⟨a, vs, rfl, h3, h4, h5⟩ := h2
    refine ⟨.ref a, h1, .inl ⟨rfl, vs, .of h3⟩, ?_⟩
    refine (bindS sr p).mono fun w H1 ⟨s1, x, sr1, l1, r1, p1⟩ => ?_
    obtain ⟨v', h1', h2'⟩ := sr1.slot i _ hx
    rw [h1] at h1'
    cases h1'
    obtain ⟨a', ws, ea, h3', h4', h5'⟩ := h2'
    cases ea
    cases x with
    | d d =>
      have p1 : PostS g B W s1 (if xs.length < 100000 then .nx (env.set i (some (.ol (xs ++ [d])))) s1.h else .stuck) N := p1
      by_cases hl : xs.length < 100000
      · rw [if_pos hl] at p1
        refine ⟨a, ws, w, rfl, rfl, h3', by rw [h5'.length]; exact size_lt hl, ?_⟩
        exact p1 σ _ s1 rfl (Le.refl s1) (sr1.mut hx rfl h1 h4'.f h4'.al h4'.new ⟨a, ws ++ [w], rfl, upd_same, h4', h5'.append (Reps.cons r1 Reps.nil)⟩)
      · rw [if_neg hl] at p1
        exact p1.elim
    | _ => exact p1.elim
  · exact p.elim
theorem vs_setix (he : PE X e (tE g B W m)) (ho : PE X o (tE g B W mo)) (hk : PE X k (tE g B W mk)) (hs : swapsWithSole [.Subscript o k tpos] e pos.line X.env = pure false := by rfl) (hw : swappedStores [.Subscript o k tpos] e X.env = pure none := by rfl)
    (h1 : (assignEach [.Subscript o k tpos] X.env).map (·.2) = [assign (.Subscript o k tpos) X.env] := by rfl)
    (ha : ∀ v, assign (.Subscript o k tpos) X.env v = (do
      let ov ← holding [v] (eval o X.env)
      let iv ← holding [v, ov] (eval k X.env)
      standAt tpos
      holding [v, ov, iv] (setItem ov iv v)
      release [v, ov, iv] []) := by intro _; rfl) : PS X (.Assign [.Subscript o k tpos] e pos) (tS g B W (mSetIx m mo mk)) := by
  refine ps_imp (ps_asg he (pg_sub ho hk set_list ha) hs hw h1) fun N σ H ⟨env, s, sr, p⟩ => ?_
  refine (bindS sr p).mono fun v H1 ⟨s1, x, sr1, l1, r1, p1⟩ => ?_
  have two := bind2S (W := W) (N := N) (f := fSetIx env x) sr1 p1
  refine two.mono fun ov H2 q => q.mono fun kv H3 ⟨s3, y, z, sr3, e3, r2, r3, p3⟩ => ?_
  have r1' := r1.evo e3
  unfold fSetIx at p3
  split at p3
  · split at p3
    · next xs hx =>
      split at p3
      · next j hj =>
        obtain ⟨a, rfl, hal⟩ := r2
        obtain ⟨a2, g1, ws, g3, q1⟩ := sr3.good.cell _ _ hx
        rw [hal] at g1
        cases g1
        refine ⟨a, ws, _, j, rfl, r3, g3, by rw [q1.length]; exact hj, ?_⟩
        exact p3 σ _ { s3 with h := s3.h.set _ (.lst (xs.set j _)) } rfl ⟨fun _ _ z => z, fun _ _ z => z, fun _ _ z => z⟩ (sr3.cell hx hal (fun _ z => by cases z) (fun _ z => by cases z) ⟨ws.set j v, upd_same, q1.set r1' j⟩)
      · exact p3.elim
    · exact p3.elim
  · exact p3.elim
def putD (f : Str) (d : D) : List (Str × D) → List (Str × D)
  | [] => [(f, d)]
  | (g, x) :: r => if g = f then (g, d) :: r else (g, x) :: putD f d r
def fFld (g : Gi) (f : Str) (x : Vl) (h : Hc) : R Vl := match x with
  | .d (.obj c fs) => if g.fld c f then (match fs.lookup f with
    | some d => .ok (.d d) h
    | none => .stuck) else .stuck
  | .bi c fs => if g.fld c f then (match fs.lookup f with
    | some d => .ok (.d d) h
    | none => .stuck) else .stuck
  | .d (.ref n) => (match h[n]? with
    | some (.ins c fs) => if g.fld c f then (match fs.lookup f with
      | some d => .ok (.d d) h
      | none => .stuck) else .stuck
    | _ => .stuck)
  | _ => .stuck
theorem RepF.lookup {F : Hp} {al : Nat → Option Addr} {f : Str} : ∀ {fs : List (Str × D)} {vs : List (Str × V)} {d : D}, RepF g F al fs vs → fs.lookup f = some d → ∃ v, vs.lookup f = some v ∧ Rep g F al d v
  | [], _, _, _, e => by cases e
  | (k, x) :: r, _, d, ⟨v, rr, h1, h2, h3⟩, e => by
    rw [h1]
    by_cases q : f = k
    · subst q
      rw [List.lookup_cons_self] at e
      cases e
      exact ⟨v, List.lookup_cons_self, h2⟩
    · have nb : (f == k) = false := beq_eq_false_iff_ne.mpr q
      rw [List.lookup_cons, nb] at e
      obtain ⟨w, e1, e2⟩ := h3.lookup e
      exact ⟨w, by rw [List.lookup_cons, nb]; exact e1, e2⟩
theorem RepF.put {F : Hp} {al : Nat → Option Addr} {f : Str} {d : D} {v : V} (hd : Rep g F al d v) : ∀ {fs : List (Str × D)} {vs : List (Str × V)}, RepF g F al fs vs → RepF g F al (putD f d fs) (putF f v vs)
  | [], _, h => by rw [show _ = [] from h]; exact ⟨v, [], rfl, hd, rfl⟩
  | (k, x) :: r, _, ⟨w, rr, h1, h2, h3⟩ => by
    rw [h1]
    unfold putD putF
    by_cases q : k = f
    · rw [if_pos q, if_pos q]
      exact ⟨v, rr, rfl, hd, h3⟩
    · rw [if_neg q, if_neg q]
      exact ⟨w, _, rfl, h2, h3.put hd⟩
theorem RepF.length {F : Hp} {al : Nat → Option Addr} : ∀ {fs : List (Str × D)} {vs : List (Str × V)}, RepF g F al fs vs → vs.length = fs.length
  | [], _, h => by rw [show _ = [] from h]; rfl
  | (k, x) :: r, _, ⟨w, rr, h1, h2, h3⟩ => by rw [h1, List.length_cons, List.length_cons, h3.length]
theorem ve_fld (G : GiOk g) (hK : g.K = X.K) {f : Str} (ho : PE X o (tE g B W mo)) (hb : attributeBase o f X.env (eval o X.env) = eval o X.env := by rfl) : PE X (.Attribute o f pos) (tE g B W (m1 (fFld g f) mo)) := by
  refine pe_imp (pe_fld ho hb) fun σ H Q ⟨env, s, sr, p⟩ => ?_
  refine (bindE (Q := Q) sr p).mono fun v H1 ⟨s1, x, sr1, _, r1, p1⟩ => ?_
  have fin : ∀ {c : Nat} {fs : List (Str × D)} {a dx : Addr} {vs : List (Str × V)}, H1 a = some (.ins (g.ca c) dx vs) → RepF g s1.F s1.al fs vs → PostE g B W env s1 σ H1 (if g.fld c f then (match fs.lookup f with
      | some d => .ok (.d d) s1.h
      | none => .stuck) else .stuck) Q → v = .ref a → ∃ (a C dx : Addr) (fs : List (Str × V)) (w : V), v = .ref a ∧ H1 a = some (.ins C dx fs) ∧ Cls X.K C ∧ NoAttr X.K C f ∧ fs.lookup f = some w ∧ Q w H1 := by
    intro c fs a dx vs ha hr pp ev
    by_cases hc : g.fld c f = true
    · rw [if_pos hc] at pp
      cases e : fs.lookup f with
      | none => rw [e] at pp; exact pp.elim
      | some d =>
        rw [e] at pp
        obtain ⟨w, e1, e2⟩ := hr.lookup e
        obtain ⟨k1, k2⟩ := G.fld c f hc
        exact ⟨a, g.ca c, dx, vs, w, ev, ha, hK ▸ (G.cls c k1).cl, hK ▸ k2, e1, PostE.pure sr1 pp e2⟩
    · rw [if_neg hc] at pp
      exact pp.elim
  unfold fFld at p1
  split at p1
  · obtain ⟨a, dx, vs, rfl, h2, h3⟩ := r1
    exact fin (sr1.good.fle _ _ h2) h3 p1 rfl
  · obtain ⟨a, dx, vs, rfl, h2, _, h3⟩ := r1
    exact fin h2 h3 p1 rfl
  · next n =>
    split at p1
    · next c fs hx =>
      obtain ⟨a, rfl, hal⟩ := r1
      obtain ⟨a2, g1, dx, vs, h2, h3⟩ := sr1.good.cell n _ hx
      rw [hal] at g1
      cases g1
      exact fin h2 h3 p1 rfl
    · exact p1.elim
  · exact p1.elim
def mSetFld (g : Gi) (i : Nat) (f : Str) (e : ME) : MS := fun env h => (e env h).thenS env fun x h1 => match x, env[i]? with
  | .d d, some (some (.oi c fs)) => if g.fld c f && decide (fs.length < 1000) then .nx (env.set i (some (.oi c (putD f d fs)))) h1 else .stuck
  | _, _ => .stuck
theorem vs_setfld {i : Nat} (G : GiOk g) (hK : g.K = X.K) {f : Str} (ho : PE X o (tVar i)) (he : PE X e (tE g B W m)) (hs : swapsWith e (some (.Attribute o f tpos)) pos.line X.env = pure false := by rfl) :
    PS X (.Assign [.Attribute o f tpos] e pos) (tS g B W (mSetFld g i f m)) := by
  refine ps_imp (ps_fld ho he hs) fun N σ H ⟨env, s, sr, p⟩ => ?_
  refine (bindS sr p).mono fun v H1 ⟨s1, x, sr1, l1, r1, p1⟩ => ?_
  split at p1
  · next d c fs hx =>
    split at p1
    · next hcl =>
      obtain ⟨hc, hl⟩ := Bool.and_eq_true_iff.mp hcl
      obtain ⟨w, h1, h2⟩ := sr1.slot i _ hx
      obtain ⟨a, dx, vs, rfl, h3, h4, h5, h6⟩ := h2
      obtain ⟨k1, k2⟩ := G.fld c f hc
      refine ⟨_, h1, a, g.ca c, dx, vs, rfl, h3, hK ▸ (G.cls c k1).cl, hK ▸ k2, by rw [h5.length]; exact of_decide_eq_true hl, ?_⟩
      exact p1 σ _ s1 rfl (Le.refl s1) (sr1.mut hx rfl h1 h4.f h4.al h4.new ⟨a, dx, _, rfl, upd_same, h4, h5.put r1, h6⟩)
    · exact p1.elim
  · exact p1.elim
end
end Vi
namespace Vi
open PySem L2 PyProof.Rows
structure FnG (P : Program) (w : World) (K : PySem.W.Frag) (mg : Str → Option Value) (base : Heap) (k : Nat) (f : Addr) (fd : FuncData) (ps : List Str) (sp : Sp) : Prop where
  len : ∀ vs H Q E, sp vs H Q E → vs.length = ps.length
  run : ∀ (A : Around) (outer : List PySem.Env) (s : Shared) (H : Hp) (args : Args) (us : List Value) (vs : List V) (Q : VK) (E : XK), Room k A → A.guards = some [] → Env0 P w K mg base A outer s H → BindsTo s fd args (ps.zip us) → Vals vs us → sp vs H Q E →
    codeAny (model P w) A (.call (.ref f) args) (CR (L2.CX P w) outer P w H s Q E) s
theorem FnG.mono {P : Program} {w : World} {K : PySem.W.Frag} {mg : Str → Option Value} {base : Heap} {j k : Nat} {f : Addr} {fd : FuncData} {ps : List Str} {sp : Sp} (F : FnG P w K mg base j f fd ps sp) (h : j ≤ k) : FnG P w K mg base k f fd ps sp :=
  ⟨F.len, fun A outer s H args us vs Q E hr => F.run A outer s H args us vs Q E (hr.mono h)⟩
theorem fn_G {P : Program} {w : World} {K : PySem.W.Frag} {mg : Str → Option Value} {base : Heap} {x qual : Str} {params : Arguments} {body : List Stmt} {scope : Scope} {dvs : List V} {kws : List (Str × V)} {f : Addr} {fd : FuncData} {N ps : List Str} {k : Nat} {sp : Sp}
    (F : FunD K x qual params body scope dvs kws f fd) (S : FnScope N ps scope) (len : ∀ vs H Q E, sp vs H Q E → vs.length = ps.length)
    (hbody : ∀ (cdv : Value) (A : Around) (outer : List PySem.Env) (s : Shared) (H : Hp) (vs : List V) (Q : VK) (E : XK), Room k (A.deeper (envOfC qual scope s.heap.objs.size f cdv)) → A.guards = some [] → sp vs H Q E →
      ∃ t, PSs (cxOf (L2.CX P w) P w K mg base N qual scope f cdv A outer s H E) body t ∧ t { nx := fun _ H' => Q .non H', rt := Q } (start N vs) H) : FnG P w K mg base (k + 1) f fd ps sp := by
  obtain ⟨oc, od, dV, kV, doc, pm, an, cdv, ct, osl, rfl, lk, hcd, _, _⟩ := F.ex
  refine ⟨len, ?_⟩
  intro A outer s H args us vs Q E room gds e0 bnd rv want
  have many := len _ _ _ _ want
  have inK : K.In s.heap := e0.mod.kin.keeps fun b o e => (e0.bs b o e).1
  have free : s.heap.NoLimit := e0.mod.nolimit.keeps fun b o e => (e0.bs b o e).1
  have kinds : ∀ y ∈ ps.zip us, scope.names.lookup y.1 = some .local ∨ (scope.names.lookup y.1 = some .cell ∧ ((cellsFrom (s.heap.objs.size + 1) scope.names []).lookup y.1).isSome = true) := by
    rintro ⟨n, v⟩ hy
    rcases S.par n (List.of_mem_zip hy).1 with q | q
    · exact .inl q
    · exact .inr ⟨q, PySem.W.cellsFrom_some _ _ _ (.inl q)⟩
  refine codeAny_call_function room.depth (inK _ _ lk) rfl S.co S.gen rfl (PySem.W.codeRec_of inK hcd) (bnd _ _ _ _ ?_)
  refine wpAny_newFunctionEnv_cells S.kind kinds ?_
  intro env he s1 x
  subst he
  refine ⟨free.keeps x.toInCall.keep, codeAny_func ?_⟩
  obtain ⟨t, ht, hq⟩ := hbody cdv A outer s H vs Q E (room.deeper _) gds want
  have I : Inv (cxOf (L2.CX P w) P w K mg base N qual scope f cdv A outer s H E) [] (start N vs) H s1 := inv_start S room.hd e0 many rv x
  have fin : ∀ {s' : Shared} {σ' : L2.St} {H' : Hp} {v : V} {u : Value}, Inv (cxOf (L2.CX P w) P w K mg base N qual scope f cdv A outer s H E) [] σ' H' s' → RelV v u → Q v H' → CE outer P w H s Q u s' := by
    intro s' σ' H' v u J r q
    exact ⟨v, H', J.os, J.bare, J.base, J.hok, r, q⟩
  refine wpAny_mono (ht.run [] s1 (start N vs) H _ I hq) ?_ fun e s' hs => hs
  intro fl s' hs
  cases fl with
  | ret u =>
    obtain ⟨v, σ', H', J, r, q⟩ := hs
    exact fin J r q
  | next =>
    obtain ⟨σ', H', J, q⟩ := hs
    exact fin (v := V.non) (u := Value.none) J rfl q
  | brk => exact (hs.choose_spec.choose_spec.2).elim
  | cont => exact (hs.choose_spec.choose_spec.2).elim
abbrev Fn := List D → Hc → R D
def PostF (g : Gi) (s : Sta) (H : Hp) : R D → VK → XK → Prop
  | .ok d h, Q, _ => ∀ (v : V) (H' : Hp) (s' : Sta), s'.h = h → Evo s H s' H' → Good g s' H' → Rep g s'.F s'.al d v → Q v H'
  | .exc x h, _, E => ∀ (cls : Value) (dd : Option Addr) (H' : Hp) (s' : Sta), s'.h = h → Evo s H s' H' → Good g s' H' → XRep g s' H' x cls dd → E cls dd H'
  | .stuck, _, _ => False
def spD (g : Gi) (n : Nat) (F : Fn) : Sp := fun vs H Q E => ∃ (s : Sta) (ds : List D), vs.length = n ∧ Good g s H ∧ Reps g s.F s.al ds vs ∧ PostF g s H (F ds s.h) Q E
@[simp] def fCall (F : Fn) (dd : List D) (xs : List Vl) (h : Hc) : R Vl := match datas xs with
  | some ds => (F (ds ++ dd) h).bind fun d h' => .ok (.d d) h'
  | none => .stuck
structure VFn (X : Cx) (g : Gi) (x : Str) (n : Nat) (dd : List D) (F : Fn) : Prop where
  ex : ∃ (k : Nat) (f : Addr) (fd : FuncData) (ps : List Str) (dvs : List V) (ds : List Value), FnG X.prog X.w X.K X.mg X.base k f fd ps (spD g ps.length F) ∧ Room k X.A ∧ X.mg x = some (.ref f) ∧ PySem.W.keepIn X.K (.ref f) = true ∧
    Binds X.K fd ps ds ∧ Vals dvs ds ∧ (∀ F al, Reps g F al dd dvs) ∧ n + dvs.length = ps.length
section
variable {X : Cx} {g : Gi} {B : Bg} {W : WXv} {env : Env} {s s' : Sta} {σ : L2.St} {H H' : Hp}
theorem SR.call (sr : SR g B env s σ H) (e : Evo s H s' H') (gd : Good g s' H') : SR g B env s' σ H' :=
  ⟨gd, sr.evo.trans e, sr.len, fun i sl h => by
    obtain ⟨v, h1, h2⟩ := sr.slot i sl h
    exact ⟨v, h1, h2.evo e⟩, sr.sep⟩
theorem run_G {CXE : L2.St → XK} {k : Nat} {f : Addr} {fd : FuncData} {ps : List Str} {sp : Sp} {dvs : List V} {ds : List Value} {pins : List (Addr × Obj)} {σ : L2.St} {H : Hp} {s : Shared} {Q : VK} {us : List Value} {vs : List V}
    (F : FnG X.prog X.w X.K X.mg X.base k f fd ps sp) (hr : Room k X.A) (hg : X.A.guards = some []) (hb : Binds X.K fd ps ds) (hd : Vals dvs ds) (hx : PassesAt (L2.CX X.prog X.w) X σ (CXE σ))
    (I : Inv X pins σ H s) (r : Vals vs us) (h : sp (vs ++ dvs) H Q (CXE σ)) : wpAny (model X.prog X.w) X.A (call (.ref f) us) (EP X pins σ Q) X.xe s := by
  have r2 : Vals (vs ++ dvs) (us ++ ds) := r.append hd
  have hl : (us ++ ds).length = ps.length := by rw [← r2.length]; exact F.len _ _ _ _ h
  refine wpAny_call (codeAny_mono (F.run X.A X.stack s H ⟨us, []⟩ (us ++ ds) (vs ++ dvs) Q (CXE σ) hr hg I.env0 (hb s us I.kIn hl) r2 h) ?_)
  intro r s' hq
  cases r with
  | error e => exact hx pins H s e s' I hq
  | ok fl =>
    cases fl with
    | ret u => exact I.after hq
    | next => exact False.elim hq
    | brk => exact False.elim hq
    | cont => exact False.elim hq
theorem spD_of {n : Nat} {F : Fn} {ds : List D} {vs : List V} {s : Sta} {H : Hp} {σ : L2.St} {Q : VK} (sr : SR g B env s σ H) (hl : vs.length = n) (r : Reps g s.F s.al ds vs) (p : PostE g B W env s σ H ((F ds s.h).bind fun d h' => .ok (.d d) h') Q) : spD g n F vs H Q (fun cls d H' => W cls d σ H') := by
  refine ⟨s, ds, hl, sr.good, r, ?_⟩
  cases e : F ds s.h with
  | ok d h =>
    rw [e] at p
    intro v H' s' e1 ev gd rr
    exact p v H' s' e1 ev (sr.call ev gd) rr
  | exc x h =>
    rw [e] at p
    intro cls dd H' s' e1 ev gd xr
    exact p cls dd H' s' e1 ev (sr.call ev gd) xr
  | stuck =>
    rw [e] at p
    exact p
end
section
variable {X : Cx} {g : Gi} {B : Bg} {W : WXv} {pos p : Pos} {e : Expr} {es : List Expr} {A : MA} {F : Fn} {dd : List D} {n : Nat} {x : Str}
theorem datas_length : ∀ {xs : List Vl} {ds : List D}, datas xs = some ds → ds.length = xs.length
  | [], _, e => by
    have e : some [] = some _ := e
    cases e
    rfl
  | .d x :: r, ds, e => by
    have e : (datas r).map (x :: ·) = some ds := e
    cases q : datas r with
    | none => rw [q] at e; cases e
    | some l =>
      rw [q] at e
      have e : x :: l = ds := Option.some.inj e
      rw [← e, List.length_cons, List.length_cons, datas_length q]
  | .tl _ :: _, _, e => by cases e
  | .bl _ :: _, _, e => by cases e
  | .bi _ _ :: _, _, e => by cases e
theorem VlReps.length {env : Env} {σ : L2.St} {s : Sta} {H : Hp} : ∀ {xs : List Vl} {vs : List V}, VlReps g B env σ s H xs vs → vs.length = xs.length
  | _, _, .nil => rfl
  | _, _, .cons _ b => by rw [List.length_cons, List.length_cons, b.length]
@[simp] def fCallN (n : Nat) (F : Fn) (dd : List D) (xs : List Vl) (h : Hc) : R Vl := if xs.length = n then fCall F dd xs h else .stuck
theorem ve_call (V : VFn X g x n dd F) (hgd : X.A.guards = some []) (tk : Takes X W) (hg : Gl X x) (ha : PA X (e :: es) (tA g B W A)) (hdb : (x == ("__debug__" : Str)) = false := by decide)
    (he : starEach (e :: es) X.env = (false, eval e X.env) :: starEach es X.env := by rfl) (hpl : (backTo pos (starEach es X.env)).any (·.1) = false := by rfl) :
    PE X (.Call (.Name x p) (e :: es) [] pos) (tE g B W (mA1 (fCallN n F dd) A)) := by
  obtain ⟨k, f, fd, ps, dvs, ds, FG, hr, hm, hk, hb, hd, hdd, hn⟩ := V.ex
  refine ⟨fun pins s σ H Q I h => ?_⟩
  refine wpAny_Call_Name_kw (ld_glob I hg hm ?_ hdb)
  obtain ⟨env, st, sr, pp⟩ := h
  have hA := (bindA (Q := Q) sr pp)
  refine PySem.W.callWith_K (h₀ := X.base) I.ok.mod.kin hk (thn (ha.run pos pins s σ H _ I hA) fun us s1 ⟨vs, H1, I1, r, st1, xs, sr1, ev1, r1, p1⟩ => ⟨I1.kIn, ?_⟩) he hpl
  unfold fCallN at p1
  by_cases hl : xs.length = n
  · rw [if_pos hl] at p1
    unfold fCall at p1
    cases e1 : datas xs with
    | none => rw [e1] at p1; exact p1.elim
    | some dl =>
      rw [e1] at p1
      have rr := (r1.datas e1).append (hdd st1.F st1.al)
      exact run_G (CXE := fun σ => WE W σ) FG hr hgd hb hd (passAt tk σ) I1 r (spD_of sr1 (by rw [List.length_append, r1.length, hl]; exact hn) rr p1)
  · rw [if_neg hl] at p1
    exact p1.elim
end
end Vi
namespace Vi
open PySem L2 PyProof.Rows
structure Bd (X : Cx) (g : Gi) (W : WXv) : Prop where
  G : GiOk g
  K : g.K = X.K
  calm : X.calm = true
  gd : X.A.guards = some []
  tk : Takes X W
  ps : PassesOwn (model X.prog X.w) X.A X.env X.xe
  un : X.A.units + 64 < cLine
@[simp] def mkEnv (n : Nat) (ds : List D) : Env := ds.map (fun d => some (.d d)) ++ List.replicate (n - ds.length) none
def fnOf (N n : Nat) (m : MS) : Fn := fun ds h => if ds.length = n then (match m (mkEnv N ds) h with
  | .nx _ h => .ok .non h
  | .ret d h => .ok d h
  | .exc _ x h => .exc x h
  | _ => .stuck) else .stuck
theorem mkEnv_get {N : Nat} {ds : List D} {i : Nat} {sl : Sl} (h : (mkEnv N ds)[i]? = some (some sl)) : ∃ d, ds[i]? = some d ∧ sl = .d d := by
  unfold mkEnv at h
  by_cases hi : i < ds.length
  · rw [List.getElem?_append_left (by rw [List.length_map]; exact hi), List.getElem?_map, List.getElem?_eq_getElem hi] at h
    cases h
    exact ⟨_, List.getElem?_eq_getElem hi, rfl⟩
  · rw [List.getElem?_append_right (by rw [List.length_map]; omega), List.getElem?_replicate] at h
    split at h <;> cases h
theorem start_sr {g : Gi} {s : Sta} {H : Hp} {N : List Str} {ds : List D} {vs : List V} (gd : Good g s H) (r : Reps g s.F s.al ds vs) : SR g ⟨s, H, 0, 0, 0, 0⟩ (mkEnv N.length ds) s (L2.start N vs) H := by
  refine ⟨gd, Evo.refl s H, ?_, fun i sl h => ?_, fun i j sl sl' v hij h1 h2 o1 => ?_⟩
  · unfold mkEnv L2.start
    rw [List.length_append, List.length_append, List.length_map, List.length_map, List.length_replicate, List.length_replicate, r.length]
  · obtain ⟨d, e1, rfl⟩ := mkEnv_get h
    obtain ⟨v, e2, r2⟩ := r.get e1
    refine ⟨v, ?_, r2⟩
    unfold L2.start
    have hi : i < vs.length := (List.getElem?_eq_some_iff.mp e2).1
    rw [List.getElem?_append_left (by rw [List.length_map]; exact hi), List.getElem?_map, e2]
    rfl
  · obtain ⟨d, _, rfl⟩ := mkEnv_get h1
    cases o1
theorem fn_D {P : Program} {w : World} {g : Gi} {mg : Str → Option Value} {base : Heap} {x qual : Str} {params : Arguments} {body : List Stmt} {scope : Scope} {dvs : List V} {kws : List (Str × V)} {f : Addr} {fd : FuncData} {N ps : List Str} {k : Nat} {m : MS}
    (G : GiOk g) (F : FunD g.K x qual params body scope dvs kws f fd) (S : FnScope N ps scope)
    (hbody : ∀ (cdv : Value) (A : Around) (outer : List PySem.Env) (s : Shared) (H : Hp) (E : XK) (B : Bg), Room k (cxOf (L2.CX P w) P w g.K mg base N qual scope f cdv A outer s H E).A → Bd (cxOf (L2.CX P w) P w g.K mg base N qual scope f cdv A outer s H E) g (fun cls d _ H => E cls d H) →
      PSs (cxOf (L2.CX P w) P w g.K mg base N qual scope f cdv A outer s H E) body (tS g B (fun cls d _ H => E cls d H) m)) :
    FnG P w g.K mg base (k + 1) f fd ps (spD g ps.length (fnOf N.length ps.length m)) := by
  refine fn_G F S (fun vs H Q E h => ?_) ?_
  · obtain ⟨_, _, hl, _⟩ := h
    exact hl
  · intro cdv A outer s H vs Q E hr gds h
    obtain ⟨st, ds, hl, gd, r, p⟩ := h
    have hb := hbody cdv A outer s H E ⟨st, H, 0, 0, 0, 0⟩ hr ⟨G, rfl, rfl, gds, takes_of rfl rfl rfl rfl, passes_of rfl, hr.units⟩
    refine ⟨_, hb, mkEnv N.length ds, st, start_sr gd r, ?_⟩
    have hl2 : ds.length = ps.length := by rw [← r.length]; exact hl
    unfold fnOf at p
    rw [if_pos hl2] at p
    cases e : m (mkEnv N.length ds) st.h with
    | nx env h =>
      rw [e] at p
      intro σ' H' s' e1 _ sr
      exact p .non H' s' e1 sr.evo sr.good rfl
    | ret d h =>
      rw [e] at p
      intro v H' s' e1 ev gd' rr
      exact p v H' s' e1 ev gd' rr
    | exc env x h =>
      rw [e] at p
      intro cls dd σ' H' s' e1 _ sr xr
      exact p cls dd H' s' e1 sr.evo sr.good xr
    | brk env h => rw [e] at p; exact p.elim
    | cnt env h => rw [e] at p; exact p.elim
    | stuck => rw [e] at p; exact p.elim
structure VMeth (X : Cx) (g : Gi) (c : Nat) (m : Str) (n : Nat) (dd : List D) (F : Fn) : Prop where
  ex : ∃ (k : Nat) (f : Addr) (fd : FuncData) (ps : List Str) (dvs : List V) (ds : List Value), FnG X.prog X.w X.K X.mg X.base k f fd ps (spD g ps.length F) ∧ Room k X.A ∧ Meth X.K (g.ca c) m f ∧
    Binds X.K fd ps ds ∧ Vals dvs ds ∧ (∀ F al, Reps g F al dd dvs) ∧ (n + 1) + dvs.length = ps.length
  cl : g.isC c = true
def ins? (c : Nat) (x : Vl) (h : Hc) : Option (List (Str × D)) := match x with
  | .d (.obj c' fs) => if c' = c then some fs else none
  | .d (.ref n) => (match h[n]? with
    | some (.ins c' fs) => if c' = c then some fs else none
    | _ => none)
  | _ => none
def fMeth (c : Nat) (m : Str) (n : Nat) (F : Fn) (dd : List D) (o : Vl) (xs : List Vl) (h : Hc) : R Vl := match o with
  | .d od => if xs.length = n then (match datas xs with
    | some ds => (F (od :: (ds ++ dd)) h).bind fun d h' => .ok (.d d) h'
    | none => .stuck) else .stuck
  | _ => .stuck
def mMeth (c : Nat) (m : Str) (n : Nat) (F : Fn) (dd : List D) (o : ME) (a : MA) : ME := fun env h => (o env h).bind fun x h1 => match ins? c x h1 with
  | some fs => if (fs.lookup m).isNone then (a env h1).bind fun xs h2 => fMeth c m n F dd x xs h2 else .stuck
  | none => .stuck
theorem RepF.none {g : Gi} {F : Hp} {al : Nat → Option Addr} {f : Str} : ∀ {fs : List (Str × D)} {vs : List (Str × V)}, RepF g F al fs vs → fs.lookup f = none → vs.lookup f = none
  | [], _, h, _ => by rw [show _ = [] from h]; rfl
  | (k, x) :: r, _, ⟨v, rr, h1, h2, h3⟩, e => by
    rw [h1]
    by_cases q : f = k
    · subst q
      rw [List.lookup_cons_self] at e
      cases e
    · have nb : (f == k) = false := beq_eq_false_iff_ne.mpr q
      rw [List.lookup_cons, nb] at e
      rw [List.lookup_cons, nb]
      exact h3.none e
section
variable {X : Cx} {g : Gi} {B : Bg} {W : WXv} {env : Env} {s s' : Sta} {σ : L2.St} {H H' : Hp}
theorem ins_rep {c : Nat} {x : Vl} {v : V} {fs : List (Str × D)} (gd : Good g s H) (r : VlRep g B env σ s H x v) (e : ins? c x s.h = some fs) : ∃ a dx vs od, v = .ref a ∧ x = .d od ∧ H a = some (.ins (g.ca c) dx vs) ∧ RepF g s.F s.al fs vs := by
  unfold ins? at e
  split at e
  · split at e
    · next hc =>
      cases e
      subst hc
      obtain ⟨a, dx, vs, rfl, h2, h3⟩ := r
      exact ⟨a, dx, vs, _, rfl, rfl, gd.fle _ _ h2, h3⟩
    · cases e
  · split at e
    · next c' fs' hx =>
      split at e
      · next hc =>
        cases e
        subst hc
        obtain ⟨a, rfl, hal⟩ := r
        obtain ⟨a2, g1, dx, vs, h2, h3⟩ := gd.cell _ _ hx
        rw [hal] at g1
        cases g1
        exact ⟨a, dx, vs, _, rfl, rfl, h2, h3⟩
      · cases e
    · cases e
  · cases e
end
section
variable {X : Cx} {g : Gi} {B : Bg} {W : WXv} {pos p apos : Pos} {e o : Expr} {es : List Expr} {A : MA} {F : Fn} {dd : List D} {n c : Nat} {x m : Str} {mo : ME}
theorem ve_meth {pl : Sem Bool} (b : Bd X g W) (V : VMeth X g c m n dd F) (ho : PE X o (tE g B W mo)) (ha : PA X (e :: es) (tA g B W A))
    (hst : starEach (e :: es) X.env = (false, eval e X.env) :: starEach es X.env := by rfl) (hpl : (backTo pos (starEach es X.env)).any (·.1) = false := by rfl)
    (ht : eval (.Call (.Attribute o m apos) (e :: es) [] pos) X.env = (do
      let ov ← eval o X.env
      standAt apos.atName
      let (f, first) ← holding [ov] (getMethod ov m pl)
      callWith pos f first (backTo pos (starEach (e :: es) X.env)) (backToKw pos (keywordEach [] X.env))) := by rfl) :
    PE X (.Call (.Attribute o m apos) (e :: es) [] pos) (tE g B W (mMeth c m n F dd mo A)) := by
  obtain ⟨k, f, fd, ps, dvs, ds, FG, hr, hm, hb, hd, hdd, hn⟩ := V.ex
  refine ⟨fun pins s σ H Q I h => ?_⟩
  obtain ⟨env, st, sr, pp⟩ := h
  refine PySem.W.methodCall_KW (pl := pl) (thn (ho.run pins s σ H _ I (bindE (Q := Q) sr pp)) fun u s1 ⟨v, H1, I1, rx, st1, ox, sr1, ev1, r1, p1⟩ => ?_) ht
  cases ei : ins? c ox st1.h with
  | none => simp only [ei] at p1; exact p1.elim
  | some fs =>
    simp only [ei] at p1
    obtain ⟨a, dx, vs, od, rfl, ex, hH, hf⟩ := ins_rep sr1.good r1 ei
    subst ex
    obtain rfl : u = Value.ref a := rx
    by_cases hl : (fs.lookup m).isNone = true
    · rw [if_pos hl] at p1
      refine getmeth_ok I1 hH (b.K ▸ (b.G.cls c V.cl).cl) hm (hf.none (Option.isNone_iff_eq_none.mp hl)) ?_
      refine PySem.W.callWith_K (first := [.ref a]) (h₀ := X.base) I1.ok.mod.kin hm.kp (thn (ha.run pos pins s1 σ H1 _ I1 (bindA (Q := Q) sr1 p1)) fun us s2 ⟨ws, H2, I2, r, st2, xs, sr2, ev2, r2, p2⟩ => ⟨I2.kIn, ?_⟩) hst hpl
      have p2 : PostE g B W env st2 σ H2 (if xs.length = n then (match datas xs with
        | some ds => (F (od :: (ds ++ dd)) st2.h).bind fun d h' => .ok (.d d) h'
        | none => .stuck) else .stuck) Q := p2
      by_cases hx : xs.length = n
      · rw [if_pos hx] at p2
        cases ed : datas xs with
        | none => rw [ed] at p2; exact p2.elim
        | some dl =>
          rw [ed] at p2
          have ro : Rep g st2.F st2.al od (.ref a) := ev2.rep (show Rep g st1.F st1.al od (.ref a) from r1)
          have rr : Reps g st2.F st2.al (od :: (dl ++ dd)) ((.ref a :: ws) ++ dvs) := Reps.cons ro ((r2.datas ed).append (hdd st2.F st2.al))
          exact run_G (us := .ref a :: us) (vs := .ref a :: ws) (CXE := fun σ => WE W σ) FG hr b.gd hb hd (passAt b.tk σ) I2 (.cons rfl r) (spD_of sr2 (by rw [List.length_append, List.length_cons, r2.length, hx]; exact hn) rr p2)
      · rw [if_neg hx] at p2
        exact p2.elim
    · rw [if_neg hl] at p1
      exact p1.elim
theorem ve_meth0 {pl : Sem Bool} (b : Bd X g W) (V : VMeth X g c m 0 dd F) (ho : PE X o (tE g B W mo))
    (ht : eval (.Call (.Attribute o m apos) [] [] pos) X.env = (do
      let ov ← eval o X.env
      standAt apos.atName
      let (f, first) ← holding [ov] (getMethod ov m pl)
      callWith pos f first (backTo pos (starEach [] X.env)) (backToKw pos (keywordEach [] X.env))) := by rfl) :
    PE X (.Call (.Attribute o m apos) [] [] pos) (tE g B W (mMeth c m 0 F dd mo maNil)) := by
  obtain ⟨k, f, fd, ps, dvs, ds, FG, hr, hm, hb, hd, hdd, hn⟩ := V.ex
  refine ⟨fun pins s σ H Q I h => ?_⟩
  obtain ⟨env, st, sr, pp⟩ := h
  refine PySem.W.methodCall_KW (pl := pl) (thn (ho.run pins s σ H _ I (bindE (Q := Q) sr pp)) fun u s1 ⟨v, H1, I1, rx, st1, ox, sr1, ev1, r1, p1⟩ => ?_) ht
  cases ei : ins? c ox st1.h with
  | none => simp only [ei] at p1; exact p1.elim
  | some fs =>
    simp only [ei] at p1
    obtain ⟨a, dx, vs, od, rfl, ex, hH, hf⟩ := ins_rep sr1.good r1 ei
    subst ex
    obtain rfl : u = Value.ref a := rx
    by_cases hl : (fs.lookup m).isNone = true
    · rw [if_pos hl] at p1
      refine getmeth_ok I1 hH (b.K ▸ (b.G.cls c V.cl).cl) hm (hf.none (Option.isNone_iff_eq_none.mp hl)) ?_
      have p1 : PostE g B W env st1 σ H1 ((F (od :: dd) st1.h).bind fun d h' => .ok (.d d) h') Q := p1
      refine PySem.W.callWith_K0 (first := [.ref a]) I1.kIn hm.kp ?_
      have rr : Reps g st1.F st1.al (od :: dd) ([.ref a] ++ dvs) := Reps.cons (show Rep g st1.F st1.al od (.ref a) from r1) (hdd st1.F st1.al)
      exact run_G (us := [.ref a]) (vs := [.ref a]) (CXE := fun σ => WE W σ) FG hr b.gd hb hd (passAt b.tk σ) I1 (.cons rfl .nil) (spD_of sr1 (by rw [List.length_append]; exact hn) rr p1)
    · rw [if_neg hl] at p1
      exact p1.elim
end
abbrev FnI := List D → Hc → R (List (Str × D))
def initOf (N n : Nat) (c : Nat) (m : MS) : FnI := fun ds h => if ds.length = n then (match m (some (.oi c []) :: mkEnv N ds) h with
  | .nx (some (.oi c' fs) :: _) h => if c' = c then .ok fs h else .stuck
  | .exc _ x h => .exc x h
  | _ => .stuck) else .stuck
def spI (g : Gi) (c n : Nat) (F : FnI) : Sp := fun vs H Q E => ∃ (s : Sta) (ds : List D) (H0 : Hp) (x dx : Addr) (ws : List V), vs = .ref x :: ws ∧ ws.length = n ∧ H0 x = none ∧ H0 dx = none ∧ dx ≠ x ∧ H = upd (upd H0 dx (.own x)) x (.ins (g.ca c) dx []) ∧ Good g s H0 ∧ Reps g s.F s.al ds ws ∧
  (match F ds s.h with
    | .ok fs h => ∀ (H' : Hp) (s' : Sta), s'.h = h → Evo s H0 s' H' → Good g s' H' → (∃ dx vs, H' x = some (.ins (g.ca c) dx vs) ∧ s'.F x = none ∧ (∀ n, s'.al n ≠ some x) ∧ RepF g s'.F s'.al fs vs) → Q .non H'
    | .exc y h => ∀ (cls : Value) (dd : Option Addr) (H' : Hp) (s' : Sta), s'.h = h → Evo s H0 s' H' → Good g s' H' → XRep g s' H' y cls dd → E cls dd H'
    | .stuck => False)
theorem Good.add {g : Gi} {s : Sta} {H : Hp} {p : Addr} {o : HO} (gd : Good g s H) (hp : H p = none) : Good g s (upd H p o) ∧ Evo s H s (upd H p o) := by
  have sr : SR g ⟨s, H, 0, 0, 0, 0⟩ [] s [] H := ⟨gd, Evo.refl s H, rfl, fun i sl h => (by cases h), fun i j sl sl' v _ h => (by cases h)⟩
  obtain ⟨a, b⟩ := sr.new (o := o) hp
  exact ⟨a.good, b⟩
theorem own_free {g : Gi} {s : Sta} {H : Hp} {p : Addr} (gd : Good g s H) (hp : H p = none) : s.F p = none ∧ ∀ n, s.al n ≠ some p := by
  have sr : SR g ⟨s, H, 0, 0, 0, 0⟩ [] s [] H := ⟨gd, Evo.refl s H, rfl, fun i sl h => (by cases h), fun i j sl sl' v _ h => (by cases h)⟩
  exact ⟨(sr.own_new hp).f, (sr.own_new hp).al⟩
theorem fn_I {P : Program} {w : World} {g : Gi} {mg : Str → Option Value} {base : Heap} {x qual : Str} {params : Arguments} {body : List Stmt} {scope : Scope} {dvs : List V} {kws : List (Str × V)} {f : Addr} {fd : FuncData} {nm nm' : Str} {N ps : List Str} {k c : Nat} {m : MS}
    (G : GiOk g) (F : FunD g.K x qual params body scope dvs kws f fd) (S : FnScope (nm :: N) (nm' :: ps) scope)
    (hbody : ∀ (cdv : Value) (A : Around) (outer : List PySem.Env) (s : Shared) (H : Hp) (E : XK) (B : Bg), Room k (cxOf (L2.CX P w) P w g.K mg base (nm :: N) qual scope f cdv A outer s H E).A → Bd (cxOf (L2.CX P w) P w g.K mg base (nm :: N) qual scope f cdv A outer s H E) g (fun cls d _ H => E cls d H) →
      PSs (cxOf (L2.CX P w) P w g.K mg base (nm :: N) qual scope f cdv A outer s H E) body (tS g B (fun cls d _ H => E cls d H) m)) :
    FnG P w g.K mg base (k + 1) f fd (nm' :: ps) (spI g c ps.length (initOf N.length ps.length c m)) := by
  refine fn_G F S (fun vs H Q E h => ?_) ?_
  · obtain ⟨_, _, _, _, _, ws, rfl, hl, _⟩ := h
    rw [List.length_cons, List.length_cons, hl]
  · intro cdv A outer s H vs Q E hr gds h
    obtain ⟨st, ds, H0, x, dx, ws, rfl, hl, hx, hdx, hne, rfl, gd, r, p⟩ := h
    have hb := hbody cdv A outer s (upd (upd H0 dx (.own x)) x (.ins (g.ca c) dx [])) E ⟨st, H0, x, 0, 0, 0⟩ hr ⟨G, rfl, rfl, gds, takes_of rfl rfl rfl rfl, passes_of rfl, hr.units⟩
    obtain ⟨gd1, ev1⟩ := gd.add (o := .own x) hdx
    have hx1 : upd H0 dx (.own x) x = none := by rw [upd_ne hne.symm]; exact hx
    obtain ⟨gd2, ev2⟩ := gd1.add (o := .ins (g.ca c) dx []) hx1
    obtain ⟨fx, ax⟩ := own_free gd hx
    have s0 := start_sr (N := N) gd r
    have sr : SR g ⟨st, H0, x, 0, 0, 0⟩ (some (.oi c []) :: mkEnv N.length ds) st (L2.start (nm :: N) (.ref x :: ws)) (upd (upd H0 dx (.own x)) x (.ins (g.ca c) dx [])) := by
      have es : L2.start (nm :: N) (.ref x :: ws) = some (.ref x) :: L2.start N ws := by
        unfold L2.start
        rw [List.length_cons, List.length_cons, Nat.add_sub_add_right]
        rfl
      rw [es]
      refine ⟨gd2, ev1.trans ev2, by rw [List.length_cons, List.length_cons, s0.len], fun i sl h => ?_, fun i j sl sl' v hij h1 h2 o1 o2 => ?_⟩
      · cases i with
        | zero =>
          cases h
          exact ⟨_, rfl, x, dx, [], rfl, upd_same, ⟨fx, ax, hx⟩, rfl, rfl⟩
        | succ i =>
          have h : (mkEnv N.length ds)[i]? = some (some sl) := h
          obtain ⟨v, h1, h2⟩ := s0.slot i sl h
          obtain ⟨d, _, rfl⟩ := mkEnv_get h
          exact ⟨v, h1, h2⟩
      · cases i with
        | succ i =>
          obtain ⟨d, _, rfl⟩ := mkEnv_get (show (mkEnv N.length ds)[i]? = some (some sl) from h1)
          cases o1
        | zero =>
          cases j with
          | zero => exact absurd rfl hij
          | succ j =>
            obtain ⟨d, _, rfl⟩ := mkEnv_get (show (mkEnv N.length ds)[j]? = some (some sl') from h2)
            cases o2
    refine ⟨_, hb, _, st, sr, ?_⟩
    have hl2 : ds.length = ps.length := by rw [← r.length]; exact hl
    unfold initOf at p
    rw [if_pos hl2] at p
    cases e : m (some (.oi c []) :: mkEnv N.length ds) st.h with
    | nx env h =>
      rw [e] at p
      intro σ' H' s' e1 _ sr'
      cases env with
      | nil => exact p.elim
      | cons a rest =>
        cases a with
        | none => exact p.elim
        | some sl =>
          cases sl with
          | d y => exact p.elim
          | ol y => exact p.elim
          | xc c' fs => exact p.elim
          | oi c' fs =>
            by_cases hc : c' = c
            · subst hc
              simp only [if_pos] at p
              obtain ⟨v, _, a', dx', vs', _, g2, g3, g4, g5⟩ := sr'.slot 0 (.oi c' fs) rfl
              have g5 : a' = x := g5
              subst g5
              exact p H' s' e1 sr'.evo sr'.good ⟨dx', vs', g2, g3.f, g3.al, g4⟩
            · simp only [if_neg hc] at p
    | ret d h => rw [e] at p; exact p.elim
    | exc env y h =>
      rw [e] at p
      intro cls dd σ' H' s' e1 _ sr' xr
      exact p cls dd H' s' e1 sr'.evo sr'.good xr
    | brk env h => rw [e] at p; exact p.elim
    | cnt env h => rw [e] at p; exact p.elim
    | stuck => rw [e] at p; exact p.elim
end Vi
namespace Vi
open PySem L2 PyProof.Rows
structure VMake (X : Cx) (g : Gi) (c n : Nat) (dd : List D) (F : FnI) : Prop where
  ex : ∃ (k : Nat) (f : Addr) (fd : FuncData) (ps : List Str) (q : Str) (dvs : List V) (ds : List Value), FnG X.prog X.w X.K X.mg X.base k f fd (q :: ps) (spI g c ps.length F) ∧ Room (k + 1) X.A ∧ Mk X.K (g.ca c) f ∧
    Binds X.K fd (q :: ps) ds ∧ Vals dvs ds ∧ (∀ F al, Reps g F al dd dvs) ∧ n + dvs.length = ps.length
def fMake (c n : Nat) (F : FnI) (dd : List D) (xs : List Vl) (h : Hc) : R Vl := if xs.length = n then (match datas xs with
  | some ds => (F (ds ++ dd) h).bind fun fs h' => .ok (.d (.obj c fs)) h'
  | none => .stuck) else .stuck
theorem under_guards {A : Around} {C : Addr} {us : List Value} {kw : List (Str × Value)} : (A.under (.builtin "type.__call__" ⟨.ref C :: us, kw⟩)).guards = A.guards := by
  first | rfl | simp [Around.under, Code.guards, pushGuards]
theorem Evo.frz {s s' : Sta} {H H' : Hp} {a : Addr} {o : HO} (e : Evo s H s' H') (hf : s'.F a = none) (hn : ∀ n, s'.al n ≠ some a) (hb : H a = none) : Evo s H (s'.frz a o) H' := evo_frz (B := ⟨s, H, 0, 0, 0, 0⟩) hf hn hb e
section
variable {X : Cx} {g : Gi} {B : Bg} {W : WXv} {pos p : Pos} {e : Expr} {es : List Expr} {A : MA} {F : FnI} {dd : List D} {n c : Nat} {x : Str}
end
structure VProp (X : Cx) (g : Gi) (c : Nat) (f : Str) (F : Fn) : Prop where
  ex : ∃ (k : Nat) (p q : Addr) (fd : FuncData) (ps : List Str), FnG X.prog X.w X.K X.mg X.base k q fd ps (spD g ps.length F) ∧ Room (k + 1) X.A ∧ PropOf X.K (g.ca c) f p q ∧ Binds X.K fd ps [] ∧ ps.length = 1
  cl : g.isC c = true
def fProp (c : Nat) (F : Fn) (x : Vl) (h : Hc) : R Vl := match ins? c x h, x with
  | some _, .d od => (match F [od] h with
    | .ok d h' => .ok (.d d) h'
    | _ => .stuck)
  | _, _ => .stuck
section
variable {X : Cx} {g : Gi} {B : Bg} {W : WXv} {pos : Pos} {e : Expr} {F : Fn} {c : Nat} {f : Str} {m : ME}
end
end Vi
namespace Vi
open PySem L2 PyProof.Rows
def spE (C : Addr) (n : Nat) (fs : List L2.V → List (Str × L2.V)) : Sp := fun vs H Q _ => ∃ (a : Addr) (ws : List L2.V) (H0 : Hp), vs = .ref a :: ws ∧ ws.length = n ∧ H0 a = none ∧ H = upd H0 a (exo a C none) ∧
  ∀ (dx : Addr) (H2 : Hp), H0 dx = none → dx ≠ a → H2 a = some (exo a C (some dx)) → H2 dx = some (exd dx (fs ws)) → (∀ b, b ≠ a → b ≠ dx → H2 b = H0 b) → Q .non H2
structure VExc (X : Cx) (g : Gi) (x : Str) (c n : Nat) (mk : List D → List (Str × D)) : Prop where
  ex : ∃ (k : Nat) (fI : Addr) (fd : FuncData) (ps : List Str) (fs : List L2.V → List (Str × L2.V)), OexC X.K (g.ca c) ∧ PySem.W.findIn X.K (.ref (g.ca c)) "__init__" = some (some (.ref fI)) ∧ PySem.W.typeIn X.K (.ref fI) = some (.type "function") ∧
    FnOk X.prog X.w X.K X.mg X.base (L2.CX X.prog X.w) k fI fd ps (spE (g.ca c) n fs) ∧ Room (k + 1) X.A ∧ Binds X.K fd ps [] ∧ X.mg x = some (.ref (g.ca c)) ∧ n ≤ 1000 ∧
    (∀ F al ds ws, Reps g F al ds ws → ds.length = n → RepF g F al (mk ds) (fs ws))
def mRaise (c n : Nat) (mk : List D → List (Str × D)) (A : MA) : MS := fun env h => (A env h).thenS env fun xs h' => if xs.length = n then (match datas xs with
  | some ds => .exc env (.obj c (mk ds)) h'
  | none => .stuck) else .stuck
section
variable {X : Cx} {g : Gi} {B : Bg} {W : WXv} {pos p pos' : Pos} {e : Expr} {es : List Expr} {A : MA} {n c : Nat} {x : Str} {mk : List D → List (Str × D)}
theorem vs_raise (b : Bd X g W) (w : VExc X g x c n mk) (hg : Gl X x) (ha : PA X (e :: es) (tA g B W A)) (hdb : (x == ("__debug__" : Str)) = false := by decide)
    (he : starEach (e :: es) X.env = (false, eval e X.env) :: starEach es X.env := by rfl) (hpl : (backTo pos' (starEach es X.env)).any (·.1) = false := by rfl) :
    PS X (.Raise (some (.Call (.Name x p) (e :: es) [] pos')) none pos) (tS g B W (mRaise c n mk A)) := by
  obtain ⟨k, fI, fd, ps, fs, T, iC, tI, F1, hr, hb, hm, hn, hmk⟩ := w.ex
  refine ps_imp (ps_raise b.calm b.tk (pmk_oex (dvs := []) (ds := []) (sp := spE (g.ca c) n fs) T iC tI F1 hr hb .nil (passes_call (E := fun _ _ _ => False) b.tk fun _ _ _ _ z => z.elim) hg hm ha hdb he hpl)) fun N σ H ⟨env, st, sr, pp⟩ => ?_
  refine tA.mono (bindSA (N := N) sr pp) ?_
  rintro vs H1 ⟨s1, xs, sr1, le1, r1, p1⟩
  by_cases hl : xs.length = n
  · rw [if_pos hl] at p1
    cases e1 : datas xs with
    | none => rw [e1] at p1; exact p1.elim
    | some ds =>
      rw [e1] at p1
      refine ⟨by rw [r1.length, hl]; exact hn, fun a ea => ⟨a, vs ++ [], H1, rfl, by rw [List.append_nil, r1.length, hl], ea, rfl, fun dx H2 nd ne h1 h2 hk => ⟨rfl, dx, _, h1, h2, nd, ?_⟩⟩⟩
      have eH : upd (del H2 a) dx (.xd (fs (vs ++ []))) = upd H1 dx (.xd (fs (vs ++ []))) := by
        funext z
        by_cases q1 : z = dx
        · rw [q1, upd_same, upd_same]
        · rw [upd_ne q1, upd_ne q1]
          by_cases q2 : z = a
          · rw [q2, del_same, ea]
          · rw [del_ne q2, hk z q2 q1]
      rw [eH]
      obtain ⟨sr2, ev2⟩ := sr1.new (o := .xd (fs (vs ++ []))) nd
      refine p1 (.ref (g.ca c)) (some dx) σ _ s1 rfl (Le.refl _) sr2 ⟨dx, _, rfl, rfl, upd_same, (sr1.own_new nd).al, ?_⟩
      rw [List.append_nil]
      exact hmk _ _ _ _ (r1.datas e1) (by rw [datas_length e1, hl])
  · rw [if_neg hl] at p1
    exact p1.elim
end
theorem fn_E {P : Program} {w : World} {K : PySem.W.Frag} {mg : Str → Option Value} {base : Heap} {x qual : Str} {params : Arguments} {scope : Scope} {f : Addr} {fd : FuncData} {k : Nat} {C : Addr} {self p1 f1 f2 lit : Str} {q1 q2 q3 q4 q5 q6 q7 q4' : Pos} {j : Nat}
    (F : FunD K x qual params [.Assign [.Attribute (.Name self q1) f1 q2] (.Name p1 q3) q4, .Assign [.Attribute (.Name self q5) f2 q6] (.Constant (.str lit) j q7) q4'] scope [] [] f fd) (S : FnScope [self, p1] [self, p1] scope)
    (T : OexC K C) (n1 : PySem.W.findIn K (.ref C) f1 = some none) (n2 : PySem.W.findIn K (.ref C) f2 = some none)
    (v0 : Vis scope self) (v1 : Vis scope p1)
    (d0 : (self == ("__debug__" : Str)) = false) (d0c : (self == ("__classdict__" : Str)) = false) (d1 : (p1 == ("__debug__" : Str)) = false) (d1c : (p1 == ("__classdict__" : Str)) = false) :
    FnOk P w K mg base (L2.CX P w) (k + 1) f fd [self, p1] (spE C 1 fun ws => match ws with
      | [v] => [(f2, .str lit), (f1, v)]
      | _ => []) := by
  refine F.ok S (fun vs H Q E h => ?_) ?_
  · obtain ⟨a, ws, H0, rfl, hl, _⟩ := h
    rw [List.length_cons, hl]
    rfl
  · intro cdv A outer s H vs Q E hr h
    obtain ⟨a, ws, H0, rfl, hl, ha, rfl, q⟩ := h
    obtain ⟨v, rfl⟩ : ∃ v, ws = [v] := by
      cases ws with
      | nil => cases hl
      | cons v r => cases r with
        | nil => exact ⟨v, rfl⟩
        | cons _ _ => cases hl
    refine ⟨_, pss_cons (ps_ost (pe_var (i := 0) rfl v0 d0 d0c) (pe_var (i := 1) rfl v1 d1 d1c)) (pss_cons (ps_ost (pe_var (i := 0) rfl v0 d0 d0c) pe_str) pss_nil), ?_⟩
    refine ⟨v, rfl, .ref a, rfl, a, C, rfl, T, n1, .inl ⟨upd_same, fun dx hd ne => ?_⟩⟩
    have hd0 : H0 dx = none := by rw [upd_ne ne] at hd; exact hd
    refine ⟨.ref a, rfl, a, C, rfl, T, n2, .inr ⟨dx, [(f1, v)], upd_same, ?_, Nat.le_of_ble_eq_true rfl, ?_⟩⟩
    · rw [upd_ne ne, upd_same]
    · refine q dx _ hd0 ne ?_ upd_same fun z z1 z2 => ?_
      · rw [upd_ne ne.symm, upd_same]
      · rw [upd_ne z2, upd_ne z1, upd_ne z2, upd_ne z1]
end Vi
namespace Vi
open PySem PySem.W PySem.Calls L2 PyProof.Rows
section
variable {prog : Program} {w : World} {A : Around} {E : Value → Shared → Prop} {s : Shared} {K : Frag} {x Dc : Addr} {ox od : Obj}
theorem cls_of_exc {Q : Option Value → Shared → Prop} (C : L2.ExcC K Dc) (X : K.In s.heap) (I : InstAt s.heap x ox Dc (some od)) (q : Q (some (.ref Dc)) { s with toks := s.toks + 1 }) :
    wpAny (model prog w) A (getAttr? (.ref x) "__class__") Q E s := by
  obtain ⟨hga, hgt, hsub, hdct, ha, hn, htk, hm⟩ := C
  have hcs : (clsIn K Dc).isSome = true := by
    obtain ⟨cd, hc, _⟩ := any_some hdct
    rw [hc]
    rfl
  have hf := findObj_data (od := od) hcs ha hn htk
  obtain ⟨h0, gs, dr, tk, oss⟩ := s
  have ty := I.type (M := model prog w)
  have l1 := looks_findIn (M := model prog w) X hga
  have l2 := looks_findIn (M := model prog w) X hgt
  have l3 := looks_find (M := model prog w) X I hf
  have ne : (Value.builtin "BaseException.__getattribute__" == Value.builtin "object.__getattribute__") = false := by decide +kernel
  have g0 : (onTheHeap (Value.ref Dc) && Value.builtin "BaseException.__getattribute__" == Value.builtin "object.__getattribute__") = false := by
    rw [ne]
    rfl
  have g1 : (false && onTheHeap (Value.builtin "BaseException.__getattribute__")) = false := rfl
  unfold getAttr? getAttrBy? getAttrBy
  refine wpAny_bind (wpAny_mkText (wpAny_bind ?_))
  refine wpAny_attempt (wpAny_holding (wpAny_bind (ty.at ?_)))
  refine wpAny_bind (l1.at ?_)
  show wpAny _ _ (if (onTheHeap (Value.ref Dc) &&
    Value.builtin "BaseException.__getattribute__" == Value.builtin "object.__getattribute__") = true then _ else _) _ _ _
  rw [g0, if_neg (by decide)]
  unfold getAttrByItsOwn hookBefore
  refine wpAny_bind ?_
  rw [if_pos (show onTheHeap (Value.ref Dc) = true by rfl)]
  refine l2.at (wpAny_bind (wpAny_attempt (wpAny_holding ?_)))
  unfold callGetattribute
  rw [g1, if_neg (by decide)]
  unfold boundAndCalled
  rw [F.excAttr_ValueError.ga.bind (.ref x)]
  refine wpAny_bind (wpAny_pure ?_)
  show wpAny _ _ (call (.builtin "BaseException.__getattribute__") [.ref x, .str "__class__" tk]) _ _ _
  refine wpAny_call ?_
  refine codeAny_call_builtin F.excAttr_ValueError.ga.plain F.entry_bexc_ga ?_
  have sb : Looks (model prog w) h0 (isInstance (.ref x) (.type "BaseException")) true := ty.andThen (looks_subIn X hsub)
  refine @check_slot (model prog w) _ _ ⟨h0, gs, dr, tk + 1, oss⟩ "BaseException.__getattribute__" "BaseException"
    "__getattribute__" (.ref x) [.str "__class__" tk] [] _ (by decide +kernel) (by decide +kernel) sb (F.args_bexc_ga (.ref x) (.str "__class__" tk)) ?_
  unfold Builtin.«object.__getattribute__»
  refine wpAny_bind (wpAny_of_eq (a := ((Value.ref x : Value), [Value.str "__class__" tk])) (by first | rfl | (simp only [slotArgs]; rfl)) ?_)
  refine wpAny_bind (wpAny_pure (wpAny_bind (ty.at (wpAny_bind (l3.at ?_)))))
  show wpAny _ _ (holding [Value.builtin "object.__class__"] (call (.builtin "getset_descriptor.__get__") _) >>= ret) _ _ _
  refine wpAny_bind (wpAny_holding (wpAny_call ?_))
  refine class_get (s := ⟨h0, gs, dr, tk + 1, oss⟩) (ox := ox) (od := some od) X I hm ?_
  refine wpAny_pure ?_
  show wpAny _ _ (handedOut (.ref Dc)) _ _ _
  rw [handedOut_of (v := .ref Dc) rfl]
  first
    | exact wpAny_pure (wpAny_pure q)
    | exact wpAny_pure q
    | exact wpAny_pure (wpAny_bind (wpAny_pure (wpAny_pure q)))
theorem kit_exc (C : L2.ExcC K Dc) : KitX K (.ref x) (.ref Dc) (fun h => InstAt h x ox Dc (some od)) := by
  obtain ⟨cd, hc, _⟩ := any_some C.hd
  unfold clsIn at hc
  split at hc
  · rename_i c' d' cd' sl' ho
    refine ⟨fun _ _ _ I => I.type, fun _ _ X _ => ?_, fun h tp dd its n sl X htp => Bool.eq_false_iff.mpr fun q => ?_, fun X I k => cls_of_exc C X I k⟩
    · intro A' Q' E' s' k q
      unfold isType loadHead
      exact wpAny_bind (wpAny_loadPart (k _ _ (X _ _ ho)) (wpAny_pure q))
    · obtain rfl : Dc = tp := Value.ref.inj (beq_iff_eq.mp q)
      cases (X _ _ ho).symm.trans htp
  · cases hc
end
theorem ty_val {g : Gi} (t : Ty) : ∀ u, RelV (t.v g) u → u = t.val g := fun u r => by
  cases t with
  | bt n => exact r
  | own c => exact r
structure Su (X : Cx) (g : Gi) (B : Bg) : Prop where
  ex : ∃ (X0 : Cx) (oe : Obj) (pn : List (Addr × Obj)), X = X0.suite B.xa ((B.xa, oe) :: pn) ∧ Zc (.ref (g.ca B.xcl)) (some B.xd) oe ∧ (∃ vs, oe.data = .fields vs)
  G : GiOk g
  K : g.K = X.K
structure XcOk (g : Gi) (xs : Nat → Bool) (no : Nat → Str → Bool) : Prop where
  xf : ∀ c, xs c = true → XfC g.K (g.ca c) ∧ L2.ExcC g.K (g.ca c)
  no : ∀ c f, no c f = true → PySem.W.findIn g.K (.ref (g.ca c)) f = some none
def mIsX (g : Gi) (xs : Nat → Bool) (t : Ty) (i : Nat) : ME := fun env h => match env[i]? with
  | some (some (.xc c _)) => if xs c then (match g.isi (.own c) t with
    | some b => .ok (.d (.bl b)) h
    | none => .stuck) else .stuck
  | _ => .stuck
def mXf (xs : Nat → Bool) (no : Nat → Str → Bool) (f : Str) (i : Nat) : ME := fun env h => match env[i]? with
  | some (some (.xc c fs)) => if xs c && no c f then (match fs.lookup f with
    | some d => .ok (.d d) h
    | none => .stuck) else .stuck
  | _ => .stuck
section
variable {X : Cx} {g : Gi} {B : Bg} {W : WXv} {pos p : Pos} {x : Str} {xs : Nat → Bool} {no : Nat → Str → Bool} {c : Expr}
theorem isx_call (S : Su X g B) (T : L2.ExcC X.K (g.ca B.xcl)) {σ : L2.St} {H : Hp} {s : Shared} {pins : List (Addr × Obj)} {Q : VK} {v : L2.V} {cv : Value} {us : List Value} {b : Bool} (I : Inv X pins σ H s) (r : Vals [.ref B.xa, v] us) (hcv : ∀ u, RelV v u → u = cv)
    {vs : List (Str × L2.V)} (hd : H B.xd = some (.xd vs)) (e : PySem.W.kitOne X.K (.ref (g.ca B.xcl)) cv = some b) (q : Q (.bl b) H) : wpAny (model X.prog X.w) X.A (PySem.call (.builtin "isinstance") us) (EP X pins σ Q) X.xe s := by
  obtain ⟨X0, oe, pn, rfl, hz, hv⟩ := S.ex
  cases r with
  | cons rx rr =>
    cases rr with
    | cons rt rr =>
      cases rr
      cases rx
      have ec := hcv _ rt
      subst ec
      obtain ⟨hget, _⟩ := I.pin (B.xa, oe) (List.mem_append.mpr (.inl List.mem_cons_self))
      obtain ⟨ws, hw⟩ := hv
      have hx : ObjOk X0.prog X0.w H s.heap B.xd (.xd vs) := I.hok _ _ hd
      obtain ⟨mA, hns, hr⟩ := hx
      obtain ⟨oD, ho, _⟩ := lookIn_ns hns
      have J : PySem.W.InstAt s.heap B.xa oe (g.ca B.xcl) (some oD) := ⟨hget, hz.1, by unfold PySem.W.notCls; rw [hw] <;> rfl, by rw [hz.2]; exact ho⟩
      exact PySem.W.kia_one (kit_exc T) I.kIn J e (fun z => nomatch z) fun tk => ⟨.bl b, H, I.kept (t' := tk) fun _ _ z => z, rfl, q⟩
theorem ve_isx (S : Su X g B) (o : XcOk g xs no) (t : Ty) (i : Nat) (hN : X.N[i]? = some x) (hv : Vis X.env.scope x) (hg : Gl X "isinstance") (hm : X.mg "isinstance" = none) (hc : PE X c (tC (t.v g)))
    (hd : (x == ("__debug__" : Str)) = false := by decide) (hcd : (x == ("__classdict__" : Str)) = false := by decide)
    (hs : starEach [.Name x p, c] X.env = (false, eval (.Name x p) X.env) :: starEach [c] X.env := by rfl) (hpl : (backTo pos (starEach [c] X.env)).any (·.1) = false := by rfl) (hs2 : starEach [c] X.env = (false, eval c X.env) :: starEach [] X.env := by rfl) :
    PE X (.Call (.Name "isinstance" p1) [.Name x p, c] [] pos) (tE g B W (mIsX g xs t i)) := by
  have call : CallR X (.builtin "isinstance") (fun ws H Q => ∃ (v : L2.V) (cv : Value) (b : Bool) (vs : List (Str × L2.V)), ws = [.ref B.xa, v] ∧ (∀ u, RelV v u → u = cv) ∧ L2.ExcC X.K (g.ca B.xcl) ∧ H B.xd = some (.xd vs) ∧ PySem.W.kitOne X.K (.ref (g.ca B.xcl)) cv = some b ∧ Q (.bl b) H) := by
    intro pins s σ H ws us Q I r ⟨v, cv, b, vs, e1, e2, T, e3, e4, q⟩
    subst e1
    exact isx_call S T I r e2 e3 e4 q
  refine pe_imp (pe_callB call hg hm (by decide +kernel) (pa_cons (pe_var hN hv hd hcd) (pa_cons hc pa_nil hs2) hs) (by decide) (by decide) hs hpl) fun σ H Q ⟨env, s, sr, pp⟩ => ?_
  unfold mIsX at pp
  split at pp
  · next c' fs he =>
    split at pp
    · next hx =>
      split at pp
      · next b hb =>
        obtain ⟨v, h1, h2⟩ := sr.slot i _ he
        obtain ⟨rfl, rfl, vs, h3, h4, h5⟩ := h2
        exact ⟨_, h1, t.v g, t.val g, b, vs, rfl, ty_val t, S.K ▸ (o.xf _ hx).2, h3, S.K ▸ S.G.isi _ _ _ hb, PostE.pure sr pp rfl⟩
      · exact pp.elim
    · exact pp.elim
  · exact pp.elim
theorem ve_xf (S : Su X g B) (o : XcOk g xs no) (f : Str) (i : Nat) (hN : X.N[i]? = some x) (hv : Vis X.env.scope x) (hd : (x == ("__debug__" : Str)) = false := by decide) (hcd : (x == ("__classdict__" : Str)) = false := by decide)
    (hb : attributeBase (.Name x p) f X.env (eval (.Name x p) X.env) = eval (.Name x p) X.env := by rfl) : PE X (.Attribute (.Name x p) f pos) (tE g B W (mXf xs no f i)) := by
  obtain ⟨X0, oe, pn, rfl, hz, hw⟩ := S.ex
  refine ⟨fun pins s σ H Q I h => ?_⟩
  obtain ⟨env, st, sr, pp⟩ := h
  unfold mXf at pp
  split at pp
  · next c' fs he =>
    split at pp
    · next hx =>
      obtain ⟨hx1, hx2⟩ := Bool.and_eq_true_iff.mp hx
      split at pp
      · next d hl =>
        obtain ⟨v, h1, h2⟩ := sr.slot i _ he
        obtain ⟨rfl, rfl, vs, h3, h4, h5⟩ := h2
        obtain ⟨w, w1, w2⟩ := h5.lookup hl
        exact (pe_xf (cls := .ref (g.ca B.xcl)) (d := some B.xd) (S.K ▸ (o.xf _ hx1).1) (S.K ▸ o.no _ _ hx2) hz hw (pe_var hN hv hd hcd) hb).run pins s σ H Q I ⟨.ref B.xa, h1, rfl, rfl, B.xd, vs, w, rfl, h3, w1, PostE.pure sr pp w2⟩
      · exact pp.elim
    · exact pp.elim
  · exact pp.elim
end
end Vi
namespace Vi
open PySem L2 PyProof.Rows
def noX (env : Env) : Bool := env.all fun o => match o with
  | some (.xc _ _) => false
  | _ => true
def unX (i : Nat) : RS → RS
  | .nx env h => if noX (env.set i none) then .nx (env.set i none) h else .stuck
  | .brk env h => if noX (env.set i none) then .brk (env.set i none) h else .stuck
  | .cnt env h => if noX (env.set i none) then .cnt (env.set i none) h else .stuck
  | .ret d h => .ret d h
  | .exc _ _ _ => .stuck
  | .stuck => .stuck
def mTry (i : Nat) (cat : Nat → Option Bool) (mb ms : MS) : MS := fun env h => match mb env h with
  | .exc env' (.obj c fs) h' => (match cat c with
    | some true => if noX (env'.set i none) && decide (i < env'.length) then unX i (ms (env'.set i (some (.xc c fs))) h') else .stuck
    | some false => .exc env' (.obj c fs) h'
    | none => .stuck)
  | .exc _ _ _ => .stuck
  | r => r
theorem noX_get {env : Env} (h : noX env = true) {i : Nat} {sl : Sl} (e : env[i]? = some (some sl)) : ∀ c fs, sl ≠ .xc c fs := fun c fs q => by
  subst q
  have m := List.mem_of_getElem? e
  have z := List.all_eq_true.mp h _ m
  cases z
section
variable {g : Gi} {B : Bg} {W : WXv} {env : Env} {s s' : Sta} {σ : L2.St} {H H' : Hp} {i : Nat}
abbrev Bg.catch (B : Bg) (a d : Addr) (c : Nat) : Bg := { B with xa := a, xd := d, xcl := c }
theorem SlRep.bg {a d : Addr} {c : Nat} {sl : Sl} {v : L2.V} (n : ∀ c fs, sl ≠ .xc c fs) : SlRep g B s H sl v ↔ SlRep g (B.catch a d c) s H sl v := by
  cases sl with
  | d x => exact Iff.rfl
  | ol xs => exact ⟨fun ⟨a, vs, h1, h2, h3, h4⟩ => ⟨a, vs, h1, h2, ⟨h3.f, h3.al, h3.new⟩, h4⟩, fun ⟨a, vs, h1, h2, h3, h4⟩ => ⟨a, vs, h1, h2, ⟨h3.f, h3.al, h3.new⟩, h4⟩⟩
  | oi c fs => exact ⟨fun ⟨a, dx, vs, h1, h2, h3, h4⟩ => ⟨a, dx, vs, h1, h2, ⟨h3.f, h3.al, h3.new⟩, h4⟩, fun ⟨a, dx, vs, h1, h2, h3, h4⟩ => ⟨a, dx, vs, h1, h2, ⟨h3.f, h3.al, h3.new⟩, h4⟩⟩
  | xc c fs => exact absurd rfl (n c fs)
theorem SR.unset (sr : SR g B env s σ H) : SR g B (env.set i none) s (σ.set i none) H := by
  have f : ∀ {j : Nat} {sl : Sl}, (env.set i none)[j]? = some (some sl) → i ≠ j ∧ env[j]? = some (some sl) := fun {j sl} h => by
    by_cases e : i = j
    · subst e
      by_cases hi : i < env.length
      · rw [List.getElem?_set_self hi] at h
        cases h
      · rw [List.getElem?_eq_none (by rw [List.length_set]; omega)] at h
        cases h
    · rw [List.getElem?_set_ne e] at h
      exact ⟨e, h⟩
  refine ⟨sr.good, sr.evo, by rw [List.length_set, List.length_set]; exact sr.len, fun j sl h => ?_, fun j k sl1 sl2 u hjk h1 h2 o1 o2 h3 h4 => ?_⟩
  · obtain ⟨e, h⟩ := f h
    rw [List.getElem?_set_ne e]
    exact sr.slot j sl h
  · obtain ⟨e1, h1⟩ := f h1
    obtain ⟨e2, h2⟩ := f h2
    rw [List.getElem?_set_ne e1] at h3
    rw [List.getElem?_set_ne e2] at h4
    exact sr.sep j k sl1 sl2 u hjk h1 h2 o1 o2 h3 h4
theorem SR.bg {a d : Addr} {c : Nat} (n : noX env = true) (sr : SR g B env s σ H) : SR g (B.catch a d c) env s σ H :=
  ⟨sr.good, sr.evo, sr.len, fun j sl h => by
    obtain ⟨v, h1, h2⟩ := sr.slot j sl h
    exact ⟨v, h1, (SlRep.bg (noX_get n h)).mp h2⟩, sr.sep⟩
theorem SR.unbg {a d : Addr} {c : Nat} (n : noX env = true) (sr : SR g (B.catch a d c) env s σ H) : SR g B env s σ H :=
  ⟨sr.good, sr.evo, sr.len, fun j sl h => by
    obtain ⟨v, h1, h2⟩ := sr.slot j sl h
    exact ⟨v, h1, (SlRep.bg (noX_get n h)).mpr h2⟩, sr.sep⟩
theorem SR.setX {c : Nat} {fs : List (Str × D)} {v : L2.V} (hi : i < env.length) (sr : SR g B (env.set i none) s (σ.set i none) H) (r : SlRep g B s H (.xc c fs) v) : SR g B (env.set i (some (.xc c fs))) s (σ.set i (some v)) H := by
  have f : ∀ {j : Nat} {sl : Sl}, i ≠ j → (env.set i (some (.xc c fs)))[j]? = some (some sl) → (env.set i none)[j]? = some (some sl) := fun {j sl} e h => by
    rw [List.getElem?_set_ne e] at h
    rw [List.getElem?_set_ne e]
    exact h
  have hl : (env.set i none).length = (σ.set i none).length := sr.len
  rw [List.length_set, List.length_set] at hl
  refine ⟨sr.good, sr.evo, by rw [List.length_set, List.length_set]; exact hl, fun j sl h => ?_, fun j k sl1 sl2 u hjk h1 h2 o1 o2 h3 h4 => ?_⟩
  · by_cases e : i = j
    · subst e
      rw [List.getElem?_set_self hi] at h
      cases h
      exact ⟨v, List.getElem?_set_self (hl ▸ hi), r⟩
    · have z := sr.slot j sl (f e h)
      rw [List.getElem?_set_ne e] at z
      rw [List.getElem?_set_ne e]
      exact z
  · have ne : ∀ {j : Nat} {sl : Sl}, (env.set i (some (.xc c fs)))[j]? = some (some sl) → sl.own = true → i ≠ j := fun {j sl} h o e => by
      subst e
      rw [List.getElem?_set_self hi] at h
      cases h
      cases o
    have n1 := ne h1 o1
    have n2 := ne h2 o2
    refine sr.sep j k sl1 sl2 u hjk (f n1 h1) (f n2 h2) o1 o2 ?_ ?_
    · rw [List.getElem?_set_ne n1] at h3
      rw [List.getElem?_set_ne n1]
      exact h3
    · rw [List.getElem?_set_ne n2] at h4
      rw [List.getElem?_set_ne n2]
      exact h4
end
structure Catch (X : Cx) (g : Gi) (x : Str) (cat : Nat → Option Bool) : Prop where
  ex : ∃ cv : Value, Names X x cv ∧ ∀ c b, cat c = some b → PySem.W.exmOne X.K (.ref (g.ca c)) cv = some b
section
variable {X : Cx} {g : Gi} {B : Bg} {W : WXv} {x n : Str} {i : Nat} {body suite : List Stmt} {b₀ : Stmt} {np pos pos' : Pos} {mb ms : MS} {cat : Nat → Option Bool}
theorem vs_try (b : Bd X g W) (hs : X.stack = X.env :: X.outer) (hf : X.env.frame = some X.env.locals) (hN : X.N.Nodup) (hi : X.N[i]? = some n) (hln : X.env.kindOf n = some .local) (C : Catch X g x cat)
    (hb : ∀ (W' : WXv) (pn : List (Addr × Obj)) (xe : Value → Shared → Prop), Bd (X.tr pn xe) g W' → PSs (X.tr pn xe) body (tS g B W' mb))
    (hsu : ∀ (a d : Addr) (c : Nat) (oe : Obj) (pn : List (Addr × Obj)), Su (X.suite a ((a, oe) :: pn)) g (B.catch a d c) → PSs (X.suite a ((a, oe) :: pn)) (b₀ :: suite) (tS g (B.catch a d c) (fun _ _ _ _ => False) ms)) :
    PS X (.Try body [.ExceptHandler (some (.Name x np)) (some n) (b₀ :: suite) pos'] [] [] pos) (tS g B W (mTry i cat mb ms)) := by
  obtain ⟨cv, hc, hcat⟩ := C.ex
  refine ps_imp (ps_try_as (tb := fun W' => tS g B W' mb) (ts := fun a cls d N σ H => ∃ (c : Nat) (dd : Addr), cls = .ref (g.ca c) ∧ d = some dd ∧ tS g (B.catch a dd c) (fun _ _ _ _ => False) ms N σ H) (Wout := W) hs hf hN hi hln hc b.tk
    (fun W' pn xe tk ps => hb W' pn xe ⟨b.G, b.K, b.calm, b.gd, tk, ps, b.un⟩) fun a oe cls d pn hz hv => ⟨fun pins s σ H N I h => ?_⟩) fun N σ H ⟨env, st, sr, pp⟩ => ⟨env, st, sr, ?_⟩
  · obtain ⟨c, dd, rfl, rfl, h⟩ := h
    exact (hsu a dd c oe pn ⟨⟨X, oe, pn, rfl, hz, hv⟩, b.G, b.K⟩).run pins s σ H N I h
  · unfold mTry at pp
    cases e : mb env st.h with
    | nx env' h => rw [e] at pp; exact pp
    | ret d h => rw [e] at pp; exact pp
    | brk env' h => rw [e] at pp; exact pp
    | cnt env' h => rw [e] at pp; exact pp
    | stuck => rw [e] at pp; exact pp.elim
    | exc env' y h =>
      rw [e] at pp
      cases y with
      | obj c fs =>
        intro cls dd σ' H' s' e1 le sr' xr
        obtain ⟨d, vs, rfl, rfl, hd, hal, hr⟩ := xr
        cases ec : cat c with
        | none => simp only [ec] at pp; exact pp.elim
        | some q =>
          cases q with
          | false =>
            simp only [ec] at pp
            exact ⟨false, hcat c false ec, fun z => (by cases z), fun _ => pp (.ref (g.ca c)) (some d) σ' H' s' e1 le sr' ⟨d, vs, rfl, rfl, hd, hal, hr⟩⟩
          | true =>
            simp only [ec] at pp
            by_cases hq : (noX (env'.set i none) && decide (i < env'.length)) = true
            · rw [if_pos hq] at pp
              obtain ⟨q1, q2⟩ := Bool.and_eq_true_iff.mp hq
              refine ⟨true, hcat c true ec, fun _ a ha => ⟨c, d, rfl, rfl, ?_⟩, fun z => (by cases z)⟩
              refine ⟨_, s', (sr'.unset.bg (a := a) (d := d) (c := c) q1).setX (of_decide_eq_true q2) ⟨rfl, rfl, vs, hd, hal, hr⟩, ?_⟩
              rw [e1]
              have back : ∀ {env2 : Env} {σ2 : L2.St} {H2 : Hp} {s2 : Sta}, noX (env2.set i none) = true → SR g (B.catch a d c) env2 s2 σ2 H2 → SR g B (env2.set i none) s2 (σ2.set i none) H2 := fun n2 sr2 => SR.unbg (a := a) (d := d) (c := c) n2 sr2.unset
              cases em : ms (env'.set i (some (.xc c fs))) h with
              | nx env2 h2 =>
                rw [em] at pp
                unfold unX at pp
                by_cases n2 : noX (env2.set i none) = true
                · simp only [if_pos n2] at pp
                  exact fun σ2 H2 s2 e2 le2 sr2 => pp (σ2.set i none) H2 s2 e2 (le.trans le2) (back n2 sr2)
                · simp only [if_neg n2] at pp
                  exact pp.elim
              | brk env2 h2 =>
                rw [em] at pp
                unfold unX at pp
                by_cases n2 : noX (env2.set i none) = true
                · simp only [if_pos n2] at pp
                  exact fun σ2 H2 s2 e2 le2 sr2 => pp (σ2.set i none) H2 s2 e2 (le.trans le2) (back n2 sr2)
                · simp only [if_neg n2] at pp
                  exact pp.elim
              | cnt env2 h2 =>
                rw [em] at pp
                unfold unX at pp
                by_cases n2 : noX (env2.set i none) = true
                · simp only [if_pos n2] at pp
                  exact fun σ2 H2 s2 e2 le2 sr2 => pp (σ2.set i none) H2 s2 e2 (le.trans le2) (back n2 sr2)
                · simp only [if_neg n2] at pp
                  exact pp.elim
              | ret dr h2 =>
                rw [em] at pp
                exact pp
              | exc env2 y2 h2 => rw [em] at pp; exact pp.elim
              | stuck => rw [em] at pp; exact pp.elim
            · rw [if_neg hq] at pp
              exact pp.elim
      | _ => exact pp.elim
end
end Vi
namespace Vi
open PySem L2 PyProof.Rows
def gtF (g : Gi) (i : Nat) (f : Str) : TgF := fun d env => match env[i]? with
  | some (some (.oi c fs)) => if g.fld c f && decide (fs.length < 1000) then some (env.set i (some (.oi c (putD f d fs)))) else none
  | _ => none
def gAttr (K : PySem.W.Frag) (f : Str) (to : TE) : TG := fun y σ H Q => to σ H fun x H1 => ∃ (a C dx : Addr) (fs : List (Str × L2.V)), x = .ref a ∧ H1 a = some (.ins C dx fs) ∧ Cls K C ∧ NoAttr K C f ∧ fs.length < 1000 ∧ Q σ (upd H1 a (.ins C dx (putF f y fs)))
section
variable {X : Cx} {g : Gi} {pos : Pos} {o : Expr} {to : TE} {f : Str}
end
end Vi
namespace Vi
open PySem L2 PyProof.Rows
structure VOp (X : Cx) (g : Gi) (c : Nat) (name : Str) (n : Nat) (F : Fn) : Prop where
  ex : ∃ (k : Nat) (f : Addr) (fd : FuncData) (ps : List Str), FnG X.prog X.w X.K X.mg X.base k f fd ps (spD g ps.length F) ∧ Room (k + 1) X.A ∧ PySem.W.findIn X.K (.ref (g.ca c)) name = some (some (.ref f)) ∧ PySem.W.isFn X.K (.ref f) = true ∧ Binds X.K fd ps [] ∧ ps.length = n ∧ PySem.W.fnIn X.K f = true
  sf : PySem.W.selfFirst X.K (g.ca c) = true
abbrev Tbl := Nat → Option Fn
def VOps (X : Cx) (g : Gi) (name : Str) (n : Nat) (T : Tbl) : Prop := ∀ c F, T c = some F → VOp X g c name n F
def NNI (v : L2.V) : Prop := ∀ u, RelV v u → u ≠ .notImplemented
section
variable {X : Cx} {g : Gi} {B : Bg} {W : WXv} {env : Env} {st : Sta} {σ : L2.St} {H : Hp} {s : Shared} {pins : List (Addr × Obj)} {c n : Nat} {name : Str} {F : Fn} {Q : VK}
end
def OpW (X : Cx) (g : Gi) (W : WXv) (f : Value → Value → Sem Value) (F : Vl → Vl → Hc → R Vl) : Prop :=
  ∀ (B : Bg) (env : Env) (st : Sta) (σ : L2.St) (H : Hp) (s : Shared) (pins : List (Addr × Obj)) (x y : Vl) (v w : L2.V) (u1 u2 : Value) (Q : VK), Inv X pins σ H s → RelV v u1 → RelV w u2 → SR g B env st σ H → VlRep g B env σ st H x v → VlRep g B env σ st H y w →
    PostE g B W env st σ H (F x y st.h) Q → wpAny (model X.prog X.w) X.A (f u1 u2) (EP X pins σ Q) X.xe s
theorem OpV.w {X : Cx} {g : Gi} {W : WXv} {f : Value → Value → Sem Value} {F : Vl → Vl → Hc → R Vl} (h : OpV X g f F) : OpW X g W f F := by
  obtain ⟨r, h1, h2⟩ := h
  intro B env st σ H s pins x y v w u1 u2 Q I r1 r2 sr rx ry p
  exact h1 pins s σ H v w u1 u2 Q I r1 r2 (h2 B W env st σ H x y v w Q sr rx ry p)
def fOps (T : Tbl) (F0 : Vl → Vl → Hc → R Vl) (x y : Vl) (h : Hc) : R Vl := match x with
  | .d (.obj c fs) => (match T c, y with
    | some F, .d (.obj c2 gs) => if c2 = c then (F [.obj c fs, .obj c2 gs] h).bind fun d h' => .ok (.d d) h' else .stuck
    | _, _ => .stuck)
  | _ => F0 x y h
def fEqs (g : Gi) (T : Tbl) (nf : Nat → Ty → Bool) (F0 : Vl → Vl → Hc → R Vl) (x y : Vl) (h : Hc) : R Vl := match x with
  | .d (.obj c fs) => (match T c, y with
    | some F, .d yd => (match yd.ty g with
      | some t => if nf c t then (F [.obj c fs, yd] h).bind fun d h' => .ok (.d d) h' else .stuck
      | none => .stuck)
    | _, _ => .stuck)
  | _ => F0 x y h
section
variable {X : Cx} {g : Gi} {W : WXv} {T : Tbl}
end
section
variable {X : Cx} {g : Gi} {B : Bg} {W : WXv} {pos : Pos} {a b : Expr} {ma mb : ME}
def fNegs (T : Tbl) (x : Vl) (h : Hc) : R Vl := match x with
  | .d (.obj c fs) => (match T c with
    | some F => (F [.obj c fs] h).bind fun d h' => .ok (.d d) h'
    | none => .stuck)
  | _ => fNeg x h
def fAbss (T : Tbl) (xs : List Vl) (h : Hc) : R Vl := match xs with
  | [.d (.obj c fs)] => (match T c with
    | some F => (F [.obj c fs] h).bind fun d h' => .ok (.d d) h'
    | none => .stuck)
  | _ => fAbs xs h
end
end Vi
namespace Vi
open PySem L2 PyProof.Rows
structure VCMet (X : Cx) (g : Gi) (c : Nat) (m : Str) (n : Nat) (dd : List D) (F : Fn) : Prop where
  ex : ∃ (k : Nat) (p f : Addr) (mc : Value) (fd : FuncData) (ps : List Str) (dvs : List L2.V) (ds : List Value), FnG X.prog X.w X.K X.mg X.base k f fd ps (spD g ps.length F) ∧ Room k X.A ∧ ClX.CRead X.K (g.ca c) mc ∧ ClX.CMet X.K (g.ca c) mc m p f ∧
    Binds X.K fd ps ds ∧ Vals dvs ds ∧ (∀ F al, Reps g F al dd dvs) ∧ (n + 1) + dvs.length = ps.length
def mCMet (c : Nat) (n : Nat) (F : Fn) (dd : List D) (o : ME) (a : MA) : ME := fun env h => (o env h).bind fun x h1 => match x with
  | .d (.cls c') => if c' = c then (a env h1).bind fun xs h2 => (if xs.length = n then (match datas xs with
    | some ds => (F (.cls c :: (ds ++ dd)) h2).bind fun d h' => .ok (.d d) h'
    | none => .stuck) else .stuck) else .stuck
  | _ => .stuck
section
variable {X : Cx} {g : Gi} {B : Bg} {W : WXv} {pos p apos : Pos} {e o : Expr} {es : List Expr} {A : MA} {F : Fn} {dd : List D} {n c : Nat} {x m : Str} {mo : ME}
def mMakeL (i c n : Nat) (F : FnI) (dd : List D) (a : MA) : ME := fun env h => match env[i]? with
  | some (some (.d (.cls c'))) => if c' = c then (a env h).bind (fMake c n F dd) else .stuck
  | _ => .stuck
end
end Vi
namespace Vi
open PySem L2 PyProof.Rows
def shwB (d : PyData) : Bool := d.showable && (decide (d.depth ≤ 60) && decide (d.shown.length ≤ sizeLine))
mutual
theorem hasDict_toP : ∀ d : D, (toP d).hasDict = false
  | .non => by simp only [toP, PyData.hasDict]
  | .bl _ => by simp only [toP, PyData.hasDict]
  | .int _ => by simp only [toP, PyData.hasDict]
  | .str _ => by simp only [toP, PyData.hasDict]
  | .tup xs => by simp only [toP, PyData.hasDict]; exact hasDict_toPs xs
  | .xtup xs => by simp only [toP, PyData.hasDict]; exact hasDict_toPs xs
  | .lst xs => by simp only [toP, PyData.hasDict]; exact hasDict_toPs xs
  | .kl xs => by simp only [toP, PyData.hasDict]; exact hasDict_toPs xs
  | .ref _ => by simp only [toP, PyData.hasDict]
  | .obj _ _ => by simp only [toP, PyData.hasDict]
  | .cls _ => by simp only [toP, PyData.hasDict]
  | .dK _ => by simp only [toP, PyData.hasDict]
  | .dT _ => by simp only [toP, PyData.hasDict]
theorem hasDict_toPs : ∀ d : List D, PyData.hasDictAll (toPs d) = false
  | [] => by simp only [toPs, PyData.hasDictAll]
  | x :: r => by simp only [toPs, PyData.hasDictAll, hasDict_toP x, hasDict_toPs r, Bool.or_false]
end
def fRepr (xs : List Vl) (h : Hc) : R Vl := match xs with
  | [x] => (match x.dat? with
    | some d => if shwB (toP d) then .ok (.d (.str (toP d).shown)) h else .stuck
    | none => .stuck)
  | _ => .stuck
def rRepr (K : PySem.W.Frag) : List L2.V → Hp → VK → Prop := fun xs H Q => ∃ (v : L2.V) (d : PyData), xs = [v] ∧ Dp K H v d ∧ d.hasDict = false ∧ shwB d = true ∧ Q (.str d.shown) H
theorem call_repr {X : Cx} (hg : X.A.guards = some []) (hu : X.A.units + 64 < cLine) : CallR X (.builtin "repr") (rRepr X.K) := by
  intro pins s σ H xs us Q I r h
  obtain ⟨v, d, rfl, dp, hd, hs, q⟩ := h
  obtain ⟨s1, hs⟩ := Bool.and_eq_true_iff.mp hs
  obtain ⟨s2, s3⟩ := Bool.and_eq_true_iff.mp hs
  have s2 := of_decide_eq_true s2
  have s3 := of_decide_eq_true s3
  cases r with
  | cons r rr =>
    cases rr
    have all : ∀ (u : Tok) (tk : Tok), EP X pins σ Q (.str d.shown u) { s with toks := tk } := fun u tk => ⟨.str d.shown, H, I.tok _, ⟨_, rfl⟩, q⟩
    cases dp with
    | non => cases r; exact PySem.P.repr_of_none (all _ _)
    | bl b => cases r; exact PySem.P.repr_of_bool (all _ _)
    | int i =>
      obtain ⟨t, rfl⟩ := r
      have z : i.natAbs.log2 < 1920 := of_decide_eq_true (by simpa only [PyData.showable] using s1)
      exact PySem.P.repr_of_int z (all _ _)
    | str x =>
      obtain ⟨t, rfl⟩ := r
      exact PySem.P.repr_of_str (all _ _) s3
    | @lst a ys ds h1 h2 =>
      cases r
      obtain ⟨as, rd⟩ := Dp.reads I (.list ds) (.ref a) (.ref a) (.lst h1 h2) rfl
      exact repr_of_reads' rd s1 (PyData.noDict_hsm hd) hg (by omega) (fun _ _ e => e) (fun h' u tk k => ⟨.str (PyData.list ds).shown, H, I.kept (t' := tk) k, ⟨_, rfl⟩, q⟩) s3
    | @tup a ys ds h1 h2 =>
      cases r
      obtain ⟨as, rd⟩ := Dp.reads I (.tuple ds) (.ref a) (.ref a) (.tup h1 h2) rfl
      exact repr_of_reads' rd s1 (PyData.noDict_hsm hd) hg (by omega) (fun _ _ e => e) (fun h' u tk k => ⟨.str (PyData.tuple ds).shown, H, I.kept (t' := tk) k, ⟨_, rfl⟩, q⟩) s3
theorem c_repr {X : Cx} {g : Gi} {W : WXv} (b : Bd X g W) : CallV X g (.builtin "repr") fRepr := by
  refine ⟨_, call_repr b.gd b.un, fun B W env s σ H xs vs Q sr r p => ?_⟩
  unfold fRepr at p
  split at p
  · next x =>
    obtain ⟨v, rfl, rv⟩ := r.one
    cases e : x.dat? with
    | none => rw [e] at p; exact p.elim
    | some d =>
      rw [e] at p
      by_cases hs : shwB (toP d) = true
      · simp only [if_pos hs] at p
        exact ⟨v, toP d, rfl, b.K ▸ VlRep.dp' sr.good rv e, hasDict_toP d, hs, PostE.pure sr p rfl⟩
      · simp only [if_neg hs] at p
        exact p.elim
  · exact p.elim
end Vi
namespace Vi
open PySem L2 PyProof.Rows
def wipeE (env : Env) : List Nat → Env
  | [] => env
  | v :: vs => (wipeE env vs).set v none
theorem wipe_set {σ : L2.St} {i : Nat} {o : Option L2.V} : ∀ {vs : List Nat}, i ∈ vs → wipe (σ.set i o) vs = wipe σ vs := fun {vs} => by
  have key : ∀ vs : List Nat, wipe (σ.set i o) vs = if i ∈ vs then wipe σ vs else (wipe σ vs).set i o := fun vs => by
    induction vs with
    | nil => rw [if_neg (by simp)]; rfl
    | cons v vs ih =>
      show (wipe (σ.set i o) vs).set v none = _
      rw [ih]
      by_cases e : i = v
      · subst e
        rw [if_pos (List.mem_cons_self ..)]
        by_cases h : i ∈ vs
        · rw [if_pos h]; rfl
        · rw [if_neg h, List.set_set]; rfl
      · by_cases h : i ∈ vs
        · rw [if_pos h, if_pos (List.mem_cons_of_mem _ h)]; rfl
        · have h2 : i ∉ v :: vs := fun z => by
            rcases List.mem_cons.mp z with z | z
            · exact e z
            · exact h z
          rw [if_neg h, if_neg h2]
          show ((wipe σ vs).set i o).set v none = ((wipe σ vs).set v none).set i o
          rw [List.set_comm _ _ e]
  intro h
  rw [key vs, if_pos h]
def CgQ (g : Gi) (own : List Nat) (t : TG) (T : TgF) : Prop :=
  ∀ (B : Bg) (env env' : Env) (s : Sta) (σ : L2.St) (H : Hp) (d : D) (v : L2.V) (Q : L2.St → Hp → Prop), SR g B env s σ H → Rep g s.F s.al d v → T d env = some env' → (∀ σ', wipe σ' own = wipe σ own → SR g B env' s σ' H → Q σ' H) → t v σ H Q
def CgsQ (g : Gi) (own : List Nat) (t : TGs) (T : List D → Env → Option Env) : Prop :=
  ∀ (B : Bg) (env env' : Env) (s : Sta) (σ : L2.St) (H : Hp) (ds : List D) (vs : List L2.V) (Q : L2.St → Hp → Prop), SR g B env s σ H → Reps g s.F s.al ds vs → T ds env = some env' → (∀ σ', wipe σ' own = wipe σ own → SR g B env' s σ' H → Q σ' H) → t vs σ H Q
section
variable {g : Gi} {own : List Nat}
theorem cg_name {i : Nat} (ho : i ∈ own) : CgQ g own (gName i) (gtN i) :=
  fun B env env' s σ H d v Q sr r e k => by
    have e : env.set i (some (.d d)) = env' := Option.some.inj e
    exact k _ (wipe_set ho) (e ▸ sr.set r)
end
section
variable {g : Gi} {B : Bg} {env : Env} {s s' s1 : Sta} {σ : L2.St} {H H' H1 : Hp}
theorem SR.wipe (sr : SR g B env s σ H) : ∀ vs : List Nat, SR g B (wipeE env vs) s (L2.wipe σ vs) H
  | [] => sr
  | v :: vs => (SR.wipe sr vs).unset
theorem Good.updO {p : Addr} {o : HO} (gd : Good g s H) (hf : s.F p = none) (hn : ∀ n, s.al n ≠ some p) : Good g s (upd H p o) := by
  refine ⟨fun a u h => ?_, gd.inj, fun n a h => ?_, fun n c h => ?_, gd.zed.keep rfl rfl (fun _ _ h => h) fun n a o h1 h2 => by rw [upd_ne (fun e => hn n (by rw [← e]; exact h1))]; exact h2⟩
  · have ne : a ≠ p := fun e => by rw [e, hf] at h; cases h
    rw [upd_ne ne]
    exact gd.fle a u h
  · obtain ⟨h1, h2, u, h3⟩ := gd.dom n a h
    have ne : a ≠ p := fun e => hn n (by rw [← e]; exact h)
    exact ⟨h1, h2, u, by rw [upd_ne ne]; exact h3⟩
  · obtain ⟨a, h1, h2⟩ := gd.cell n c h
    have ne : a ≠ p := fun e => hn n (by rw [← e]; exact h1)
    refine ⟨a, h1, ?_⟩
    exact h2.mv (fun o h3 => by rw [upd_ne ne]; exact h3) (fun _ _ h => h) fun _ _ h => h
theorem Evo.updO {p : Addr} {o : HO} (e : Evo s1 H1 s H) (hp : H1 p = none) : Evo s1 H1 s (upd H p o) := ⟨e.f, e.al, fun a u h n => by
  obtain ⟨h1, h2, h3⟩ := e.oth a u h n
  exact ⟨by rw [upd_ne (ne_of_none h hp)]; exact h1, h2, h3⟩, e.len, e.z⟩
def Src (K : PySem.W.Frag) (b : Bool) (a : Addr) (vs : List L2.V) (s : Sta) (H : Hp) : Prop := match b with
  | true => StL K s a vs ∨ (H a = some (.lst vs) ∧ ∀ n, s.al n ≠ some a)
  | false => SqT K s.F a vs
theorem Src.evo {K : PySem.W.Frag} {b : Bool} {a : Addr} {vs : List L2.V} (e : Evo s H s' H') (h : Src K b a vs s H) : Src K b a vs s' H' := by
  cases b with
  | true =>
    rcases h with h | ⟨h1, h2⟩
    · exact .inl (h.le e.le)
    · obtain ⟨g1, _, g3⟩ := e.oth _ _ h1 h2
      exact .inr ⟨g1, g3⟩
  | false => exact sqT_mono e.f h
end
def compL (o : Bool) (T : TgF) (mt : MB) (me : ME) : List D → List D → Env → Hc → R Vl
  | [], acc, _, h => .ok (Vl.ofL o acc) h
  | x :: r, acc, env, h => match T x env with
    | none => .stuck
    | some env1 => (match mt env1 h with
      | .ok b h1 => if b then (match me env1 h1 with
        | .ok (.d y) h2 => if acc.length < 16000000 then compL o T mt me r (acc ++ [y]) env h2 else .stuck
        | _ => .stuck) else compL o T mt me r acc env h1
      | _ => .stuck)
def mYes : MB := fun _ h => .ok true h
section
variable {X : Cx} {g : Gi} {B : Bg}
theorem vts_nil : PTs X [] (tT g B (fun _ _ _ _ => False) mYes) := ⟨fun pins s σ H Q I ⟨env, st, sr, p⟩ => (pts_nil (X := X)).run pins s σ H Q I (PostB.pure sr p)⟩
theorem vts_one {c : Expr} {m : MB} (h : PT X c (tT g B (fun _ _ _ _ => False) m)) : PTs X [c] (tT g B (fun _ _ _ _ => False) m) := pts_one h
end
def CInv (g : Gi) (B : Bg) (W : WXv) (env : Env) (s1 : Sta) (σ : L2.St) (H1 : Hp) (own : List Nat) (o : Bool) (T : TgF) (mt : MB) (me : ME) (Q : VK) (Dn : Addr) (rest : List D) (H : Hp) : Prop :=
  ∃ (s' : Sta) (acc : List D) (vs : List L2.V), Good g s' H ∧ Evo s1 H1 s' H ∧ H Dn = some (.lst vs) ∧ s'.F Dn = none ∧ (∀ n, s'.al n ≠ some Dn) ∧ Reps g s'.F s'.al acc vs ∧ PostE g B W env s1 σ H1 (compL o T mt me rest acc (wipeE env own) s'.h) Q
section
variable {g : Gi} {B : Bg} {W : WXv} {env : Env} {s1 : Sta} {σ : L2.St} {H1 H : Hp} {own : List Nat} {o : Bool} {T : TgF} {mt : MB} {me : ME} {Q : VK} {Dn : Addr}
theorem comp_start {xs : List D} (sr : SR g B env s1 σ H1) (hD : H1 Dn = none) (p : PostE g B W env s1 σ H1 (compL o T mt me xs [] (wipeE env own) s1.h) Q) : CInv g B W env s1 σ H1 own o T mt me Q Dn xs (upd H1 Dn (.lst [])) := by
  obtain ⟨gd, ev⟩ := sr.good.add (o := .lst []) hD
  obtain ⟨f, a⟩ := own_free sr.good hD
  exact ⟨s1, [], [], gd, ev, upd_same, f, a, Reps.nil, p⟩
theorem comp_end (sr : SR g B env s1 σ H1) (hD : H1 Dn = none) (c : CInv g B W env s1 σ H1 own o T mt me Q Dn [] H) : Q (.ref Dn) H := by
  obtain ⟨s', acc, vs, gd, ev, hH, hf, ha, rr, p⟩ := c
  have hb : B.H Dn = none := by
    cases e : B.H Dn with
    | none => rfl
    | some u =>
      by_cases hn : ∀ n, B.s.al n ≠ some Dn
      · have z := (sr.evo.oth Dn u e hn).1
        rw [hD] at z
        cases z
      · have hn2 : ∃ n, B.s.al n = some Dn := Classical.byContradiction fun h => hn fun n z => h ⟨n, z⟩
        obtain ⟨n, h⟩ := hn2
        obtain ⟨_, _, u2, h3⟩ := sr.good.dom n Dn (sr.evo.al n Dn h)
        rw [hD] at h3
        cases h3
  have p : PostE g B W env s1 σ H1 (.ok (Vl.ofL o acc) s'.h) Q := p
  have sr2 := sr.call ev gd
  cases o with
  | true =>
    refine p (.ref Dn) H s' rfl ev sr2 ⟨Dn, vs, rfl, hH, ⟨hf, ha, hb⟩, fun i sl h1 h2 h3 => ?_, rr⟩
    obtain ⟨v, e1, e2⟩ := sr.slot i sl h1
    obtain ⟨a, u, rfl, h4⟩ := e2.there h2
    rw [h3] at e1
    cases e1
    rw [hD] at h4
    cases h4
  | false =>
    have ev2 := ev.frz (o := .lst vs) hf ha hD
    refine p (.ref Dn) H (s'.frz Dn (.lst vs)) rfl ev2 (sr.call ev2 (gd.frz hH hf ha)) ⟨Dn, vs, rfl, upd_same, rr.mono (frz_le hf) fun _ _ z => z⟩
theorem comp_turn {t : TG} {d : D} {rest : List D} {v : L2.V} (q1 : CgQ g own t T)
    (sr : SR g B env s1 σ H1) (hD : H1 Dn = none) (c : CInv g B W env s1 σ H1 own o T mt me Q Dn (d :: rest) H) (rv : ∀ s', Evo s1 H1 s' H → Rep g s'.F s'.al d v) :
    t v (wipe σ own) H fun σ2 H2 => wipe σ2 own = wipe σ own ∧ tT g B (fun _ _ _ _ => False) mt σ2 H2 fun b H3 =>
      if b = true then tE g B (fun _ _ _ _ => False) me σ2 H3 fun y H4 => ∃ acc, H4 Dn = some (.lst acc) ∧ acc.length < sizeLine ∧ CInv g B W env s1 σ H1 own o T mt me Q Dn rest (upd H4 Dn (.lst (acc ++ [y])))
      else CInv g B W env s1 σ H1 own o T mt me Q Dn rest H3 := by
  obtain ⟨s', acc, vs, gd, ev, hH, hf, ha, rr, p⟩ := c
  have p : PostE g B W env s1 σ H1 (match T d (wipeE env own) with
    | none => .stuck
    | some env1 => (match mt env1 s'.h with
      | .ok b h1 => if b then (match me env1 h1 with
        | .ok (.d y) h2 => if acc.length < 16000000 then compL o T mt me rest (acc ++ [y]) (wipeE env own) h2 else .stuck
        | _ => .stuck) else compL o T mt me rest acc (wipeE env own) h1
      | _ => .stuck)) Q := p
  have ww : wipe (wipe σ own) own = wipe σ own := by
    have key : ∀ (l : List Nat), (∀ i ∈ l, i ∈ own) → wipe (wipe σ l) own = wipe σ own := fun l => by
      induction l with
      | nil => intro _; rfl
      | cons i l ih =>
        intro h
        show wipe ((wipe σ l).set i none) own = _
        rw [wipe_set (h i (List.mem_cons_self ..)), ih fun j hj => h j (List.mem_cons_of_mem _ hj)]
    exact key own fun _ h => h
  cases e1 : T d (wipeE env own) with
  | none => rw [e1] at p; exact p.elim
  | some env1 =>
    simp only [e1] at p
    refine q1 B (wipeE env own) env1 s' (wipe σ own) H d v _ ((sr.wipe own).call ev gd) (rv s' ev) e1 fun σ2 hw sr2 => ⟨hw.trans ww, env1, s', sr2, ?_⟩
    cases e2 : mt env1 s'.h with
    | ok b h1 =>
      simp only [e2] at p
      intro H3 s3 q3 ev3 sr3
      obtain ⟨k1, k2, k3⟩ := ev3.oth Dn _ hH ha
      cases b with
      | true =>
        rw [if_pos rfl] at p ⊢
        refine ⟨env1, s3, sr3, ?_⟩
        rw [q3]
        cases e3 : me env1 h1 with
        | ok y h2 =>
          rw [e3] at p
          cases y with
          | d y =>
            have p : PostE g B W env s1 σ H1 (if acc.length < 16000000 then compL o T mt me rest (acc ++ [y]) (wipeE env own) h2 else .stuck) Q := p
            by_cases hl : acc.length < 16000000
            · rw [if_pos hl] at p
              intro w H4 s4 q4 ev4 sr4 rw4
              obtain ⟨l1, l2, l3⟩ := ev4.oth Dn _ k1 k3
              have evA := (ev.trans ev3).trans ev4
              refine ⟨vs, l1, by rw [rr.length, sizeLine_eq]; omega, s4, acc ++ [y], vs ++ [w], sr4.good.updO (l2 (k2 hf (fun _ z => nomatch z)) (fun _ z => nomatch z)) l3, evA.updO hD, upd_same, l2 (k2 hf (fun _ z => nomatch z)) (fun _ z => nomatch z), l3, ?_, by rw [q4]; exact p⟩
              exact ((ev3.trans ev4).reps rr).append (Reps.cons (show Rep g s4.F s4.al y w from rw4) Reps.nil)
            · rw [if_neg hl] at p
              exact p.elim
          | _ => exact p.elim
        | exc x h => rw [e3] at p; exact p.elim
        | stuck => rw [e3] at p; exact p.elim
      | false =>
        simp only [Bool.false_eq_true, if_false] at p ⊢
        exact ⟨s3, acc, vs, sr3.good, ev.trans ev3, k1, k2 hf (fun _ z => nomatch z), k3, ev3.reps rr, by rw [q3]; exact p⟩
    | exc x h => simp only [e2] at p; exact p.elim
    | stuck => simp only [e2] at p; exact p.elim
end
theorem Bd.blk {X : Cx} {g : Gi} {W : WXv} {s : Shared} {H : Hp} {scope : Scope} {cenv : PySem.Env} {fp : List Addr} (b : Bd X g W) : Bd (X.blk s H scope cenv fp) g (fun _ _ _ _ => False) :=
  ⟨b.G, b.K, b.calm, b.gd, fun u s' ⟨_, _, _, _, _, _, _, _, _, _, _, _, _, _, _, _, w⟩ => w.elim, PassesOwn.never, b.un⟩
def seqC? (h : Hc) : Vl → Option (Bool × List D)
  | .d (.lst xs) => some (true, xs)
  | .d (.kl xs) => some (true, xs)
  | .d (.tup xs) => some (false, xs)
  | .d (.xtup xs) => some (false, xs)
  | .tl xs => some (true, xs)
  | .bl xs => some (true, xs)
  | .d (.ref n) => (match h[n]? with
    | some (.frz c) => (match c.bare with
      | .lst xs => some (true, xs)
      | _ => none)
    | _ => none)
  | _ => none
def mComp (o : Bool) (own : List Nat) (T : TgF) (mt : MB) (me src : ME) : ME := fun env h => (src env h).bind fun x h1 => match seqC? h1 x with
  | some (_, xs) => compL o T mt me xs [] (wipeE env own) h1
  | none => .stuck
def mCompR (o : Bool) (own : List Nat) (T : TgF) (mt : MB) (me : ME) (a : MA) : ME := fun env h => (a env h).bind fun xs h1 => match xs with
  | [.d (.int j)] => if -(2 ^ 62) ≤ j ∧ j < 2 ^ 62 then compL o T mt me (rangeD 0 j.toNat) [] (wipeE env own) h1 else .stuck
  | _ => .stuck
def mCompR2 (o : Bool) (own : List Nat) (T : TgF) (mt : MB) (me : ME) (a : MA) : ME := fun env h => (a env h).bind fun xs h1 => match xs with
  | [.d (.int i), .d (.int j)] => if -(2 ^ 62) ≤ i ∧ i < 2 ^ 62 ∧ -(2 ^ 62) ≤ j ∧ j < 2 ^ 62 then compL o T mt me (rangeD i (j - i).toNat) [] (wipeE env own) h1 else .stuck
  | _ => .stuck
theorem src_of {g : Gi} {B : Bg} {env : Env} {s1 : Sta} {σ : L2.St} {H1 : Hp} {x : Vl} {v : L2.V} {b : Bool} {xs : List D} (gd : Good g s1 H1) (r : VlRep g B env σ s1 H1 x v) (e : seqC? s1.h x = some (b, xs)) : ∃ a vs, v = .ref a ∧ Src g.K b a vs s1 H1 ∧ Reps g s1.F s1.al xs vs := by
  unfold seqC? at e
  split at e
  · cases e
    obtain ⟨a, vs, h1, h2, h3⟩ := r
    exact ⟨a, vs, h1, .inl (.inl (.of h2)), h3⟩
  · cases e
    obtain ⟨a, vs, h1, h2, h3⟩ := r
    exact ⟨a, vs, h1, .inl (.inl h2), h3⟩
  · cases e
    obtain ⟨a, vs, h1, h2, h3⟩ := r
    exact ⟨a, vs, h1, h2.sq, h3⟩
  · cases e
    obtain ⟨a, o, vs, h1, h2, _, h3⟩ := r
    exact ⟨a, vs, h1, .inl (.inr ⟨o, h2⟩), h3⟩
  · cases e
    obtain ⟨a, vs, h1, h2, h3, _, h4⟩ := r
    exact ⟨a, vs, h1, .inr ⟨h2, h3.al⟩, h4⟩
  · cases e
    obtain ⟨a, vs, h1, h2, h3, h4⟩ := r
    exact ⟨a, vs, h1, .inr ⟨h2, h3.al⟩, h4⟩
  · next n =>
    split at e
    · next c ec =>
      split at e
      · next ys eb =>
        cases e
        obtain ⟨a, vs, h1, h2, h3, h4⟩ := frz_lst gd r ec eb
        exact ⟨a, vs, h1, .inl (.inr ⟨n, h2, h3⟩), h4⟩
      · cases e
    · cases e
  · cases e
section
variable {X : Cx} {g : Gi} {B : Bg} {W : WXv} {own : List Nat} {o : Bool} {T : TgF} {mt : MB} {me m : ME} {t : TG} {σ : L2.St} {H : Hp} {Q : VK}
theorem lc_of (hK : g.K = X.K) (q1 : CgQ g own t T) (h : tE g B W (mComp o own T mt me m) σ H Q) :
    tLc (fun σ H R => iList X.K (tE g B W m) σ H R ∨ iTup X.K (tE g B W m) σ H R) t (tT g B (fun _ _ _ _ => False) mt) (tE g B (fun _ _ _ _ => False) me) own σ H Q := by
  obtain ⟨env, s, sr, p⟩ := h
  have p : PostE g B W env s σ H ((m env s.h).bind fun x h1 => match seqC? h1 x with
    | some (_, xs) => compL o T mt me xs [] (wipeE env own) h1
    | none => .stuck) Q := p
  cases em : m env s.h with
  | ok x h1 =>
    rw [em] at p
    have p : PostE g B W env s σ H (match seqC? h1 x with
      | some (_, xs) => compL o T mt me xs [] (wipeE env own) h1
      | none => .stuck) Q := p
    cases es : seqC? h1 x with
    | none => rw [es] at p; exact p.elim
    | some q =>
      obtain ⟨bb, xs⟩ := q
      rw [es] at p
      have p : PostE g B W env s σ H (compL o T mt me xs [] (wipeE env own) h1) Q := p
      cases bb with
      | true =>
        refine .inl ⟨env, s, sr, ?_⟩
        rw [em]
        intro v H1 s1 e1 ev sr1 vr
        obtain ⟨a, vs, rfl, hsrc, hr⟩ := src_of sr1.good vr (by rw [e1]; exact es)
        have sq : ∀ {s' : Sta} {H' : Hp}, Good g s' H' → Evo s1 H1 s' H' → SqL X.K H' a vs := fun gd e2 => by
          rcases hsrc.evo e2 with z | ⟨z, _⟩
          · exact hK ▸ z.sqL gd
          · exact .of z
        refine ⟨a, rfl, ⟨vs, sq sr1.good (Evo.refl _ _)⟩, fun Dn hD => lc_list (xs := vs) (fun i H => CInv g B W env s1 σ H1 own o T mt me Q Dn (xs.drop i) H) ?_ (fun i H _ c => ?_) (fun i y H hi c => ?_) (fun H c => ?_)⟩
        · exact comp_start sr1 hD (by rw [e1]; exact PostE.later ev p)
        · obtain ⟨s', _, _, gd, e2, _⟩ := c
          exact sq gd e2
        · have hl : i < xs.length := by
            rw [← hr.length]
            exact (List.getElem?_eq_some_iff.mp hi).1
          obtain ⟨y', ey, ry⟩ := hr.get (List.getElem?_eq_getElem hl)
          rw [hi] at ey
          cases ey
          rw [List.drop_eq_getElem_cons hl] at c
          exact comp_turn q1 sr1 hD c fun s' e2 => e2.rep ry
        · rw [hr.length, List.drop_length] at c
          exact comp_end sr1 hD c
      | false =>
        refine .inr ⟨env, s, sr, ?_⟩
        rw [em]
        intro v H1 s1 e1 ev sr1 vr
        obtain ⟨a, vs, rfl, hsrc, hr⟩ := src_of sr1.good vr (by rw [e1]; exact es)
        have sq : ∀ {s' : Sta} {H' : Hp}, Good g s' H' → Evo s1 H1 s' H' → SqT X.K H' a vs := fun gd e2 => hK ▸ gd.sqT (show SqT g.K _ a vs from hsrc.evo e2)
        refine ⟨a, rfl, ⟨vs, sq sr1.good (Evo.refl _ _)⟩, fun Dn hD => lc_tup (xs := vs) (fun i H => CInv g B W env s1 σ H1 own o T mt me Q Dn (xs.drop i) H) ?_ (fun i H _ c => ?_) (fun i y H hi c => ?_) (fun H c => ?_)⟩
        · exact comp_start sr1 hD (by rw [e1]; exact PostE.later ev p)
        · obtain ⟨s', _, _, gd, e2, _⟩ := c
          exact sq gd e2
        · have hl : i < xs.length := by
            rw [← hr.length]
            exact (List.getElem?_eq_some_iff.mp hi).1
          obtain ⟨y', ey, ry⟩ := hr.get (List.getElem?_eq_getElem hl)
          rw [hi] at ey
          cases ey
          rw [List.drop_eq_getElem_cons hl] at c
          exact comp_turn q1 sr1 hD c fun s' e2 => e2.rep ry
        · rw [hr.length, List.drop_length] at c
          exact comp_end sr1 hD c
  | exc x h1 =>
    rw [em] at p
    refine .inl ⟨env, s, sr, ?_⟩
    rw [em]
    exact p
  | stuck =>
    rw [em] at p
    exact p.elim
theorem lc_rangeOf {env : Env} {s1 : Sta} {lo : Int} {n : Nat} (q1 : CgQ g own t T) (sr1 : SR g B env s1 σ H) (p : PostE g B W env s1 σ H (compL o T mt me (rangeD lo n) [] (wipeE env own) s1.h) Q) (Dn : Addr) (hD : H Dn = none) :
    ∃ W' : Nat → Nat → Hp → Prop, (∃ m, W' 0 m (upd H Dn (.lst []))) ∧ ∀ i m H, W' i m H →
      ((Itr lo n).stop i H ∧ Q (.ref Dn) H) ∨ ((Itr lo n).go i H ∧ ∃ Nx : Hp → Prop, (∀ H', Nx H' → ∃ m', m' < m ∧ W' (i + 1) m' H') ∧ ∀ x H', (Itr lo n).yld i H x H' → t x (wipe σ own) H' fun σ2 H2 => wipe σ2 own = wipe σ own ∧ tT g B (fun _ _ _ _ => False) mt σ2 H2 fun b H3 =>
        if b = true then tE g B (fun _ _ _ _ => False) me σ2 H3 fun y H4 => ∃ acc, H4 Dn = some (.lst acc) ∧ acc.length < sizeLine ∧ Nx (upd H4 Dn (.lst (acc ++ [y]))) else Nx H3) := by
  refine lc_range (fun i H' => CInv g B W env s1 σ H own o T mt me Q Dn ((rangeD lo n).drop i) H') ?_ (fun i H' hi c => ?_) (fun H' c => ?_)
  · exact comp_start sr1 hD p
  · have hl : i < (rangeD lo n).length := by rw [rangeD_len]; exact hi
    rw [List.drop_eq_getElem_cons hl, rangeD_get] at c
    exact comp_turn q1 sr1 hD c fun s' e2 => (show Rep g s'.F s'.al (.int (lo + (i : Nat))) (.int (lo + (i : Nat))) from rfl)
  · rw [show (rangeD lo n).drop n = [] from List.drop_eq_nil_of_le (by rw [rangeD_len]; exact Nat.le_refl _)] at c
    exact comp_end sr1 hD c
end
section
variable {X : Cx} {g : Gi} {B : Bg} {W : WXv} {own : List (Str × Nat)} {o : Bool} {T : TgF} {mt : MB} {me m : ME} {t : TG} {elt tg iter : Expr} {ifs : List Expr} {scope : Scope} {pos p' rp : Pos} {ma : MA}
theorem ve_lc (o : Bool) (b : Bd X g W) (hN : X.N.Nodup) (he : PE X iter (tE g B W m)) (ok : BlkOk X.N X.env.scope scope own) (q1 : CgQ g (own.map (·.2)) t T)
    (hg : ∀ (s : Shared) (H : Hp) (C : Addr) (cl : List (Str × Addr)) (fp : List Addr), PG (X.blk s H scope (compEnvC scope cl C X.env) fp) tg t)
    (ht : ∀ (s : Shared) (H : Hp) (C : Addr) (cl : List (Str × Addr)) (fp : List Addr), PTs (X.blk s H scope (compEnvC scope cl C X.env) fp) ifs (tT g B (fun _ _ _ _ => False) mt))
    (hel : ∀ (s : Shared) (H : Hp) (C : Addr) (cl : List (Str × Addr)) (fp : List Addr), PE (X.blk s H scope (compEnvC scope cl C X.env) fp) elt (tE g B (fun _ _ _ _ => False) me)) (hs : ∀ x, foldedSetIterable iter X.env x = pure x := by intro _; rfl) :
    PE X (.ListComp elt [⟨tg, iter, ifs, 0⟩] scope pos) (tE g B W (mComp o (own.map (·.2)) T mt me m)) :=
  pe_imp (pe_lc b.calm hN (pi_or (pi_list (tg := tg) he) (pi_tup he)) ok hg ht hel hs) fun σ H Q h => lc_of b.K q1 h
theorem vs_setLc (o : Bool) {i : Nat} {y : Str} {py spos : Pos} (b : Bd X g W) (hN : X.N.Nodup) (hy : X.N[i]? = some y) (hyl : X.env.scope.names.lookup y = some .local) (hsw : swapsWith (.ListComp elt [⟨tg, iter, ifs, 0⟩] scope pos) (some (.Name y py)) spos.line X.env = pure true)
    (he : PE X iter (tE g B W m)) (ok : BlkOk X.N X.env.scope scope own) (q1 : CgQ g (own.map (·.2)) t T)
    (hg : ∀ (s : Shared) (H : Hp) (C : Addr) (cl : List (Str × Addr)) (fp : List Addr), PG (X.blk s H scope (compEnvC scope cl C X.env) fp) tg t)
    (ht : ∀ (s : Shared) (H : Hp) (C : Addr) (cl : List (Str × Addr)) (fp : List Addr), PTs (X.blk s H scope (compEnvC scope cl C X.env) fp) ifs (tT g B (fun _ _ _ _ => False) mt))
    (hel : ∀ (s : Shared) (H : Hp) (C : Addr) (cl : List (Str × Addr)) (fp : List Addr), PE (X.blk s H scope (compEnvC scope cl C X.env) fp) elt (tE g B (fun _ _ _ _ => False) me)) (hs : ∀ x, foldedSetIterable iter X.env x = pure x := by intro _; rfl) :
    PS X (.Assign [.Name y py] (.ListComp elt [⟨tg, iter, ifs, 0⟩] scope pos) spos) (tS g B W (mSet i (mComp o (own.map (·.2)) T mt me m))) := by
  refine ps_imp (ps_setLc b.calm hN hy hyl hsw (pi_or (pi_list (tg := tg) he) (pi_tup he)) ok hg ht hel hs) fun N σ H ⟨env, s, sr, p⟩ => ?_
  refine lc_of (W := W) (o := o) b.K q1 ?_
  exact (bindS sr p).mono fun v H1 ⟨s1, x, sr1, l1, r1, p1⟩ => setPost sr1 r1 p1
theorem range1_of {σ : L2.St} {H : Hp} {Q : VK} (q1 : CgQ g (own.map (·.2)) t T) (h : tE g B W (mCompR o (own.map (·.2)) T mt me ma) σ H Q) :
    tLc (iRng1 (tA g B W ma)) t (tT g B (fun _ _ _ _ => False) mt) (tE g B (fun _ _ _ _ => False) me) (own.map (·.2)) σ H Q := by
  obtain ⟨env, s, sr, p⟩ := h
  refine (bindA (Q := Q) sr p).mono fun vs H1 ⟨s1, xs, sr1, _, r1, p1⟩ => ?_
  split at p1
  · next j =>
    obtain ⟨v, rfl, r⟩ := r1.one
    split at p1
    · next hj =>
      have r : v = .int j := r
      exact ⟨j, by rw [r], hj.1, hj.2, fun Dn hD => lc_rangeOf q1 sr1 p1 Dn hD⟩
    · exact p1.elim
  · exact p1.elim
theorem ve_lcR (o : Bool) {a : Expr} (b : Bd X g W) (hN : X.N.Nodup) (hgr : Gl X "range") (hm : X.mg "range" = none) (ha : PA X [a] (tA g B W ma)) (ok : BlkOk X.N X.env.scope scope own) (q1 : CgQ g (own.map (·.2)) t T)
    (hg : ∀ (s : Shared) (H : Hp) (C : Addr) (cl : List (Str × Addr)) (fp : List Addr), PG (X.blk s H scope (compEnvC scope cl C X.env) fp) tg t)
    (ht : ∀ (s : Shared) (H : Hp) (C : Addr) (cl : List (Str × Addr)) (fp : List Addr), PTs (X.blk s H scope (compEnvC scope cl C X.env) fp) ifs (tT g B (fun _ _ _ _ => False) mt))
    (hel : ∀ (s : Shared) (H : Hp) (C : Addr) (cl : List (Str × Addr)) (fp : List Addr), PE (X.blk s H scope (compEnvC scope cl C X.env) fp) elt (tE g B (fun _ _ _ _ => False) me))
    (hst : starEach [a] X.env = [(false, eval a X.env)] := by rfl) (hs : ∀ x, foldedSetIterable (.Call (.Name "range" p') [a] [] rp) X.env x = pure x := by intro _; rfl) :
    PE X (.ListComp elt [⟨tg, .Call (.Name "range" p') [a] [] rp, ifs, 0⟩] scope pos) (tE g B W (mCompR o (own.map (·.2)) T mt me ma)) :=
  pe_imp (pe_lc b.calm hN (pi_range1 (tg := tg) hgr hm ha hst) ok hg ht hel hs) fun σ H Q h => range1_of q1 h
theorem vs_setLcR (o : Bool) {i : Nat} {y : Str} {py spos : Pos} {a : Expr} (b : Bd X g W) (hN : X.N.Nodup) (hy : X.N[i]? = some y) (hyl : X.env.scope.names.lookup y = some .local) (hsw : swapsWith (.ListComp elt [⟨tg, .Call (.Name "range" p') [a] [] rp, ifs, 0⟩] scope pos) (some (.Name y py)) spos.line X.env = pure true)
    (hgr : Gl X "range") (hm : X.mg "range" = none) (ha : PA X [a] (tA g B W ma)) (ok : BlkOk X.N X.env.scope scope own) (q1 : CgQ g (own.map (·.2)) t T)
    (hg : ∀ (s : Shared) (H : Hp) (C : Addr) (cl : List (Str × Addr)) (fp : List Addr), PG (X.blk s H scope (compEnvC scope cl C X.env) fp) tg t)
    (ht : ∀ (s : Shared) (H : Hp) (C : Addr) (cl : List (Str × Addr)) (fp : List Addr), PTs (X.blk s H scope (compEnvC scope cl C X.env) fp) ifs (tT g B (fun _ _ _ _ => False) mt))
    (hel : ∀ (s : Shared) (H : Hp) (C : Addr) (cl : List (Str × Addr)) (fp : List Addr), PE (X.blk s H scope (compEnvC scope cl C X.env) fp) elt (tE g B (fun _ _ _ _ => False) me))
    (hst : starEach [a] X.env = [(false, eval a X.env)] := by rfl) (hs : ∀ x, foldedSetIterable (.Call (.Name "range" p') [a] [] rp) X.env x = pure x := by intro _; rfl) :
    PS X (.Assign [.Name y py] (.ListComp elt [⟨tg, .Call (.Name "range" p') [a] [] rp, ifs, 0⟩] scope pos) spos) (tS g B W (mSet i (mCompR o (own.map (·.2)) T mt me ma))) := by
  refine ps_imp (ps_setLc b.calm hN hy hyl hsw (pi_range1 (tg := tg) hgr hm ha hst) ok hg ht hel hs) fun N σ H ⟨env, s, sr, p⟩ => ?_
  refine range1_of (W := W) (o := o) q1 ?_
  exact (bindS sr p).mono fun v H1 ⟨s1, x, sr1, l1, r1, p1⟩ => setPost sr1 r1 p1
end
end Vi
namespace Vi
open PySem L2 PyProof.Rows
def mRetC (m : ME) : MS := fun env h => (m env h).thenS env fun x h1 => match x with
  | .tl xs => .ret (.ref h1.length) (h1 ++ [.lst xs])
  | _ => .stuck
def Sta.addC (s : Sta) (a : Addr) (c : Cell) : Sta := { F := s.F, al := fun n => if n = s.h.length then some a else s.al n, h := s.h ++ [c], z := s.z }
section
variable {g : Gi} {B : Bg} {W : WXv} {env : Env} {s : Sta} {σ : L2.St} {H : Hp}
theorem addC_le {a : Addr} {c : Cell} (gd : Good g s H) : Le s (s.addC a c) := ⟨fun _ _ h => h, fun n b h => by
  show (if n = s.h.length then some a else s.al n) = some b
  have := (gd.dom n b h).1
  rw [if_neg (by omega)]
  exact h, fun _ _ h => h⟩
theorem addC_at {a : Addr} {c d : Cell} {n : Nat} (h : (s.addC a c).h[n]? = some d) : (n < s.h.length ∧ s.h[n]? = some d) ∨ (n = s.h.length ∧ d = c) := by
  have h : (s.h ++ [c])[n]? = some d := h
  by_cases e : n < s.h.length
  · rw [List.getElem?_append_left e] at h
    exact .inl ⟨e, h⟩
  · rw [List.getElem?_append_right (by omega)] at h
    have e2 : n = s.h.length := by
      have := (List.getElem?_eq_some_iff.mp h).1
      simp at this
      omega
    subst e2
    rw [Nat.sub_self] at h
    cases h
    exact .inr ⟨rfl, rfl⟩
theorem addC_goodC {a : Addr} {c : Cell} (gd : Good g s H) (hc : CellRep g s H a c) (hx : ∃ o, H a = some o) (hf : s.F a = none) (hn : ∀ n, s.al n ≠ some a) (nf : ∀ c0, c ≠ .frz c0) : Good g (s.addC a c) H := by
  have le := addC_le (a := a) (c := c) gd
  have cases_ : ∀ {n : Nat} {b : Addr}, (s.addC a c).al n = some b → (n = s.h.length ∧ b = a) ∨ (n ≠ s.h.length ∧ s.al n = some b) := fun {n b} h => by
    have h : (if n = s.h.length then some a else s.al n) = some b := h
    by_cases e : n = s.h.length
    · rw [if_pos e] at h
      cases h
      exact .inl ⟨e, rfl⟩
    · rw [if_neg e] at h
      exact .inr ⟨e, h⟩
  have zed : ZOk (s.addC a c) H := ⟨fun m o h => by
      obtain ⟨b, c0, h1, h2, h3⟩ := gd.zed.at_ m o h
      refine ⟨b, c0, le.al _ _ h1, h2, ?_⟩
      show (s.h ++ [c])[m]? = _
      rw [List.getElem?_append_left (List.getElem?_eq_some_iff.mp h3).1]
      exact h3, fun m c0 h => by
      rcases addC_at h with ⟨_, h⟩ | ⟨_, h⟩
      · exact gd.zed.of m c0 h
      · exact absurd h.symm (nf _)⟩
  refine ⟨gd.fle, fun n m b h1 h2 => ?_, fun n b h => ?_, fun n d h => ?_, zed⟩
  · rcases cases_ h1 with ⟨e1, rfl⟩ | ⟨e1, k1⟩
    · rcases cases_ h2 with ⟨e2, _⟩ | ⟨_, k2⟩
      · rw [e1, e2]
      · exact absurd k2 (hn m)
    · rcases cases_ h2 with ⟨e2, rfl⟩ | ⟨_, k2⟩
      · exact absurd k1 (hn n)
      · exact gd.inj n m b k1 k2
  · have hl : (s.addC a c).h.length = s.h.length + 1 := by
      show (s.h ++ [c]).length = _
      rw [List.length_append]
      rfl
    rcases cases_ h with ⟨e1, rfl⟩ | ⟨_, k1⟩
    · exact ⟨by omega, hf, hx⟩
    · obtain ⟨h1, h2, h3⟩ := gd.dom n b k1
      exact ⟨by omega, h2, h3⟩
  · rcases addC_at h with ⟨_, h⟩ | ⟨rfl, rfl⟩
    · obtain ⟨b, h1, h2⟩ := gd.cell n d h
      exact ⟨b, le.al _ _ h1, h2.mv (fun _ z => z) le.f le.al⟩
    · exact ⟨a, if_pos rfl, hc.mv (fun _ z => z) le.f le.al⟩
theorem addC_good {a : Addr} {xs : List D} {vs : List L2.V} (gd : Good g s H) (ha : H a = some (.lst vs)) (hf : s.F a = none) (hn : ∀ n, s.al n ≠ some a) (r : Reps g s.F s.al xs vs) : Good g (s.addC a (.lst xs)) H :=
  addC_goodC gd ⟨vs, ha, r⟩ ⟨_, ha⟩ hf hn fun _ z => by cases z
theorem addC_evo {s0 : Sta} {H0 : Hp} {a : Addr} {c : Cell} (gd : Good g s H) (ev : Evo s0 H0 s H) (hb : H0 a = none) : Evo s0 H0 (s.addC a c) H := by
  have le := addC_le (a := a) (c := c) gd
  refine ⟨ev.f, fun n b h => le.al _ _ (ev.al n b h), fun b o h n => ?_, ?_, ?_⟩
  · obtain ⟨h1, h2, h3⟩ := ev.oth b o h n
    refine ⟨h1, h2, fun m z => ?_⟩
    have z : (if m = s.h.length then some a else s.al m) = some b := z
    by_cases e : m = s.h.length
    · rw [if_pos e] at z
      cases z
      rw [hb] at h
      cases h
    · rw [if_neg e] at z
      exact h3 m z
  · show _ ≤ (s.h ++ [c]).length
    rw [List.length_append]
    exact Nat.le_trans ev.len (Nat.le_add_right _ _)
  · exact ev.z
end
section
variable {X : Cx} {g : Gi} {B : Bg} {W : WXv} {pos : Pos} {e : Expr} {m : ME}
theorem vs_retC (he : PE X e (tE g B W m)) : PS X (.Return (some e) pos) (tS g B W (mRetC m)) := by
  refine ps_imp (ps_ret he) fun N σ H ⟨env, s, sr, p⟩ => ?_
  refine (bindS sr p).mono fun v H1 ⟨s1, x, sr1, l1, r1, p1⟩ => ?_
  cases x with
  | tl xs =>
    obtain ⟨a, vs, rfl, h1, h2, h3, h4⟩ := r1
    exact p1 (.ref a) H1 (s1.addC a (.lst xs)) rfl (addC_evo sr1.good sr1.evo h2.new) (addC_good sr1.good h1 h2.f h2.al h4) ⟨a, rfl, if_pos rfl⟩
  | d _ => exact p1.elim
  | bl _ => exact p1.elim
  | bi _ _ => exact p1.elim
end
def frzE (i : Nat) (env : Env) : Env := match env[i]? with
  | some (some (.ol xs)) => env.set i (some (.d (.lst xs)))
  | _ => env
section
variable {g : Gi} {B : Bg} {W : WXv} {env : Env} {s : Sta} {σ : L2.St} {H : Hp}
theorem SR.frzS (i : Nat) (sr : SR g B env s σ H) : ∃ s', s'.h = s.h ∧ Le s s' ∧ SR g B (frzE i env) s' σ H := by
  unfold frzE
  split
  · next xs hx =>
    obtain ⟨v, h1, h2⟩ := sr.slot i _ hx
    obtain ⟨a, vs, rfl, h3, h4, h5⟩ := h2
    have hi : i < env.length := (List.getElem?_eq_some_iff.mp hx).1
    have fl := frz_le (o := HO.lst vs) h4.f
    refine ⟨s.frz a (.lst vs), rfl, ⟨fl, fun _ _ z => z, fun _ _ z => z⟩, sr.good.frz h3 h4.f h4.al, evo_frz h4.f h4.al h4.new sr.evo, by rw [List.length_set]; exact sr.len, fun j sl h => ?_, fun j k sl1 sl2 u hjk q1 q2 o1 o2 q3 q4 => ?_⟩
    · by_cases e : i = j
      · subst e
        rw [List.getElem?_set_self hi] at h
        cases h
        exact ⟨_, h1, a, vs, rfl, upd_same, h5.mono fl fun _ _ z => z⟩
      · rw [List.getElem?_set_ne e] at h
        obtain ⟨v, g1, g2⟩ := sr.slot j sl h
        refine ⟨v, g1, ?_⟩
        have ownF : ∀ {b : Addr}, OwnA B s b → b ≠ a → OwnA B (s.frz a (.lst vs)) b := fun {b} ow ne => ⟨by
          show upd s.F a (.lst vs) b = none
          rw [upd_ne ne]
          exact ow.f, ow.al, ow.new⟩
        cases sl with
        | d x => exact Rep.mono fl (fun _ _ z => z) g2
        | ol ys =>
          obtain ⟨b, ws, rfl, k1, k2, k3⟩ := g2
          have ne : b ≠ a := fun q => by subst q; exact sr.sep i j _ _ (.ref b) e hx h rfl rfl h1 g1
          exact ⟨b, ws, rfl, k1, ownF k2 ne, k3.mono fl fun _ _ z => z⟩
        | oi c fs =>
          obtain ⟨b, dx, ws, rfl, k1, k2, k3, k4⟩ := g2
          have ne : b ≠ a := fun q => by subst q; exact sr.sep i j _ _ (.ref b) e hx h rfl rfl h1 g1
          exact ⟨b, dx, ws, rfl, k1, ownF k2 ne, k3.mono fl (fun _ _ z => z), k4⟩
        | xc c fs =>
          obtain ⟨k1, k2, ws, k3, k4, k5⟩ := g2
          exact ⟨k1, k2, ws, k3, k4, k5.mono fl fun _ _ z => z⟩
    · have f : ∀ {j : Nat} {sl : Sl}, (env.set i (some (.d (.lst xs))))[j]? = some (some sl) → sl.own = true → env[j]? = some (some sl) := fun {j sl} h o => by
        by_cases e : i = j
        · subst e
          rw [List.getElem?_set_self hi] at h
          cases h
          cases o
        · rw [List.getElem?_set_ne e] at h
          exact h
      exact sr.sep j k sl1 sl2 u hjk (f q1 o1) (f q2 o2) o1 o2 q3 q4
  · exact ⟨s, rfl, Le.refl s, sr⟩
end
def mFrz (i : Nat) (m : MS) : MS := fun env h => m (frzE i env) h
theorem vss_frz {X : Cx} {g : Gi} {B : Bg} {W : WXv} {sts : List Stmt} {m : MS} (i : Nat) (h : PSs X sts (tS g B W m)) : PSs X sts (tS g B W (mFrz i m)) :=
  pss_imp h fun N σ H ⟨env, s, sr, p⟩ => by
    obtain ⟨s', e1, le, sr'⟩ := sr.frzS i
    exact ⟨frzE i env, s', sr', by rw [e1]; exact PostS.later le p⟩
def fSetIxO (i : Nat) (env : Env) (xs : List D) (x z : Vl) (h3 : Hc) : RS := match x, z with
  | .d d, .d (.int k) => (match ixN xs.length k with
    | some j => .nx (env.set i (some (.ol (xs.set j d)))) h3
    | none => .stuck)
  | _, _ => .stuck
def mSetIxO (i : Nat) (e k : ME) : MS := fun env h => match env[i]? with
  | some (some (.ol xs)) => (e env h).thenS env fun x h1 => (k env h1).thenS env fun z h3 => fSetIxO i env xs x z h3
  | _ => .stuck
section
variable {X : Cx} {g : Gi} {B : Bg} {W : WXv} {pos tpos : Pos} {e o k : Expr} {m mk : ME}
end
end Vi
namespace Vi
open PySem L2 PyProof.Rows
structure DefV where
  pth : PySem.W.Frag → Addr
  name : Str
  qual : Str
  params : Arguments
  body : List Stmt
  scope : Scope
  dfl : List He.Dv := []
def fnAt (K : PySem.W.Frag) (a : Addr) : He.FnW :=
  match K.lookup a with
  | some ⟨_, _, .func z, _⟩ =>
    some (z.name, z.qualname, z.params, z.body, z.scope, z.globals, z.closure, z.builtins)
  | _ => none
def DefV.want (d : DefV) : He.FnW :=
  some (d.name, d.qual, d.params, .stmts d.body, d.scope, mainGlobals, [], builtinsNs)
def DefV.dv (K : PySem.W.Frag) (d : DefV) : List L2.V :=
  d.dfl.map (He.Dv.v K)
def DefV.good (K : PySem.W.Frag) (d : DefV) : Bool :=
  PySem.W.keepIn K (.ref (d.pth K)) &&
  (match K.lookup (d.pth K) with
  | some ⟨_, _, .func z, _⟩ =>
    PySem.W.codeIn K z.code d.qual && He.dflB K z.defaults (d.dv K)
  | _ => false)
theorem DefV.fun_ {K : PySem.W.Frag} {d : DefV} (e : fnAt K (d.pth K) = d.want) (c : d.good K = true) : ∃ fd, FunD K d.name d.qual d.params d.body d.scope (d.dv K) [] (d.pth K) fd := by
  obtain ⟨kp, c2⟩ := Bool.and_eq_true_iff.mp c
  unfold fnAt at e
  cases q : K.lookup (d.pth K) with
  | none => rw [q] at c2; cases c2
  | some o =>
    obtain ⟨oc, od, dt, osl⟩ := o
    rw [q] at c2 e
    cases dt with
    | func z =>
      obtain ⟨z1, z2, z3, z4, z5, z6, z7, z8, z9, z10, z11, z12, z13, z14, z15⟩ := z
      have e2 : (some (z1, z2, z3, z4, z5, z6, z7, z15) : He.FnW) = d.want := e
      unfold DefV.want at e2
      simp only [Option.some.injEq, Prod.mk.injEq] at e2
      obtain ⟨p1, p2, p3, p4, p5, p6, p7, p8⟩ := e2
      subst p1 p2 p3 p4 p5 p6 p7 p8
      have c3 : (PySem.W.codeIn K z13 d.qual && He.dflB K z8 (d.dv K)) = true := c2
      obtain ⟨k1, k2⟩ := Bool.and_eq_true_iff.mp c3
      exact ⟨_, ⟨oc, od, z8, z9, z10, z11, z12, z13, z14, osl, rfl, q, k1, He.dflB_ok k2, .inl rfl⟩, kp⟩
    | _ => cases c2
def reach (g : Addr → Option Obj) (roots : List Addr) : Nat → List Addr
  | 0 => roots
  | n + 1 => He.growD g (reach g roots n)
abbrev AlV : Type := Bool × List He.FnW
def obsV (ck : List (PySem.W.Frag → Bool)) (fn : List DefV) (K : PySem.W.Frag) : AlV :=
  ((ck.all fun f => f K) && (fn.all fun d => d.good K), fn.map fun d => fnAt K (d.pth K))
def wantV (fn : List DefV) : AlV := (true, fn.map DefV.want)
def SaysV (ck : List (PySem.W.Frag → Bool)) (fn : List DefV) (K : PySem.W.Frag) : Prop := obsV ck fn K = wantV fn
def obsVG (n : Nat) (ck : List (PySem.W.Frag → Bool)) (fn : List DefV) (g : Addr → Option Obj) : AlV :=
  obsV ck fn (He.frG g (reach g [mainGlobals, cStatics] n))
def hookV (n : Nat) (ck : List (PySem.W.Frag → Bool)) (fn : List DefV) : PySem.W.Hook where
  α := AlV
  obs := fun s => obsVG n ck fn s.heap.get?
  val := fun _ => wantV fn
  says := fun _ h => ∃ K : PySem.W.Frag, K.In h ∧ SaysV ck fn K
  of := fun _ _ e => ⟨_, He.frG_in, e⟩
  keeps := fun _ _ _ ⟨K, i, c⟩ k => ⟨K, PySem.W.Frag.In.keeps i k, c⟩
section
variable {ck : List (PySem.W.Frag → Bool)} {fn : List DefV} {K : PySem.W.Frag}
theorem SaysV.fact (c : SaysV ck fn K) (i : Nat) {f : PySem.W.Frag → Bool} (h : ck[i]? = some f := by rfl) : f K = true := by
  have c1 := (Bool.and_eq_true_iff.mp (congrArg Prod.fst c)).1
  exact List.all_eq_true.mp c1 f (List.mem_of_getElem? h)
theorem SaysV.fun_ (c : SaysV ck fn K) (i : Nat) {d : DefV} (h : fn[i]? = some d := by rfl) : ∃ fd, FunD K d.name d.qual d.params d.body d.scope (d.dv K) [] (d.pth K) fd := by
  have c2 := (Bool.and_eq_true_iff.mp (congrArg Prod.fst c)).2
  have e : fn.map (fun d => fnAt K (d.pth K)) = fn.map DefV.want := congrArg Prod.snd c
  have e2 := congrArg (fun l => l[i]?) e
  simp only [List.getElem?_map, h, Option.map_some] at e2
  exact DefV.fun_ (Option.some.inj e2) (List.all_eq_true.mp c2 d (List.mem_of_getElem? h))
end
def recFn (K : PySem.W.Frag) (a : Addr) (n : String) : Addr := match PySem.W.recIn K a n with
  | some (.ref f :: _) => f
  | _ => 0
def eqv (a b : Option (Option Value)) : Bool := decide (a = b)
theorem eqv_ok {a b : Option (Option Value)} (h : eqv a b = true) : a = b := of_decide_eq_true h
abbrev pG (x : Str) : PySem.W.Frag → Addr := fun K => He.ga K x
abbrev pM (c m : Str) : PySem.W.Frag → Addr := fun K => He.ma K (He.ga K c) m
abbrev pP (c m : Str) : PySem.W.Frag → Addr := fun K => recFn K (He.ma K (He.ga K c) m) "property"
abbrev pC (c m : Str) : PySem.W.Frag → Addr := fun K => recFn K (He.ma K (He.ga K c) m) "classmethod"
def kIcls (c : Str) (K : PySem.W.Frag) : Bool :=
  (He.Fa.cls c).ok K && (eqv (PySem.W.findIn K (.ref (He.ga K c)) "__class__") (some (some (.builtin "object.__class__"))) &&
  (decide (PySem.W.mroIn K (He.ga K c) (.type "object") = some true) && PySem.W.selfFirst K (He.ga K c)))
theorem kIcls_ok {c : Str} {K : PySem.W.Frag} (h : kIcls c K = true) : ClsOk K (He.ga K c) ∧ PySem.W.selfFirst K (He.ga K c) = true := by
  obtain ⟨h1, h⟩ := Bool.and_eq_true_iff.mp h
  obtain ⟨h2, h⟩ := Bool.and_eq_true_iff.mp h
  obtain ⟨h3, h4⟩ := Bool.and_eq_true_iff.mp h
  exact ⟨⟨He.cls_ok h1, eqv_ok h2, of_decide_eq_true h3⟩, h4⟩
def kProp (c f : Str) (K : PySem.W.Frag) : Bool :=
  eqv (PySem.W.findIn K (.ref (He.ga K c)) f) (some (some (.ref (He.ma K (He.ga K c) f)))) &&
  (eqv (PySem.W.specialIn K (.ref (He.ma K (He.ga K c) f)) "__get__") (some (some (.builtin "property.__get__"))) &&
  (decide (PySem.W.takesIn K (.ref (He.ma K (He.ga K c) f)) = some true) &&
  (match PySem.W.recIn K (He.ma K (He.ga K c) f) "property" with
  | some (.ref _ :: _) => true
  | _ => false)))
def isGet (r : Option PySem.W.CFound) (g a o t : Value) : Bool := match r with
  | some (.get g' a' o' t') => decide (g' = g) && (decide (a' = a) && (decide (o' = o) && decide (t' = t)))
  | _ => false
def kCmet (c m : Str) (K : PySem.W.Frag) : Bool :=
  PySem.W.readsIn K (He.ga K c) (.type "type") && (eqv (PySem.W.specialIn K (.ref (He.ga K c)) "__getattribute__") (some (some (.builtin "type.__getattribute__"))) &&
  (isGet (PySem.W.findCls K (.ref (He.ga K c)) (.type "type") m) (.builtin "classmethod.__get__") (.ref (He.ma K (He.ga K c) m)) .none (.ref (He.ga K c)) &&
  (PySem.W.fnIn K (pC c m K) &&
  (match PySem.W.recIn K (He.ma K (He.ga K c) m) "classmethod" with
  | some (.ref _ :: _) => true
  | _ => false))))
def kOp (c m : Str) (K : PySem.W.Frag) : Bool := (He.Fa.meth c m).ok K
def kKit (t u : PySem.W.Frag → Value) (b : Bool) (K : PySem.W.Frag) : Bool := decide (PySem.W.kitOne K (t K) (u K) = some b)
def kNotFirst (c : Str) (t : PySem.W.Frag → Value) (K : PySem.W.Frag) : Bool := PySem.W.notFirst K (He.ga K c) (t K)
def kCatch (c x : Str) (b : Bool) (K : PySem.W.Frag) : Bool := decide (PySem.W.exmOne K (.ref (He.ga K c)) (.ref (He.ga K x)) = some b)
def kObjGet (K : PySem.W.Frag) : Bool :=
  eqv (PySem.W.specialIn K (.builtin "object.__class__") "__get__") (some (some (.builtin "getset_descriptor.__get__"))) &&
  decide (PySem.W.takesIn K (.builtin "object.__class__") = some true)
def kExo (c : Str) (K : PySem.W.Frag) : Bool :=
  (match K.lookup (He.ga K c) with
  | some ⟨.type "type", _, .cls cd, sl⟩ => (match cd.mro, sl.toList with
    | .ref C' :: bm, [_, _, _, _, some (.builtin n), _] =>
      C' == He.ga K c && (n == "ValueError.__new__" && (!cd.hasDel && (cd.hasDict && PySem.HandSPX.refsVE bm)))
    | _, _ => false)
  | _ => false) &&
  (eqv (PySem.W.findIn K (.ref (He.ga K c)) "__setattr__") (some (some (.builtin "object.__setattr__"))) &&
  (decide (PySem.W.subIn K (.ref (He.ga K c)) (.type "BaseException") = some true) &&
  (decide (PySem.W.typeIn K (.ref (He.ga K c)) = some (.type "type")) && PySem.W.keepIn K (.ref (He.ga K c)))))
theorem kExo_ok {c : Str} {K : PySem.W.Frag} (h : kExo c K = true) : OexC K (He.ga K c) := by
  obtain ⟨h1, h⟩ := Bool.and_eq_true_iff.mp h
  obtain ⟨h2, h⟩ := Bool.and_eq_true_iff.mp h
  obtain ⟨h3, h⟩ := Bool.and_eq_true_iff.mp h
  obtain ⟨h4, h5⟩ := Bool.and_eq_true_iff.mp h
  refine ⟨?_, eqv_ok h2, of_decide_eq_true h3, of_decide_eq_true h4, h5⟩
  split at h1
  · next dd cd sl ho =>
    split at h1
    · next C' bm k0 k1 k2 k3 n k5 hm hs =>
      simp only [Bool.and_eq_true, beq_iff_eq, Bool.not_eq_true'] at h1
      obtain ⟨rfl, rfl, hdel, hdic, hve⟩ := h1
      obtain ⟨nm, bs, mro, ns, qn, hd, sn, sub, ab, col, del⟩ := cd
      dsimp only at hm hdel hdic
      subst hdel hdic
      have hsl : sl = #[k0, k1, k2, k3, some (.builtin "ValueError.__new__"), k5] := by
        obtain ⟨l⟩ := sl
        simp only at hs
        rw [hs]
      subst hsl
      rw [hm] at ho
      exact ⟨nm, qn, ns, bs, bm, sn, sub, ab, col, dd, k0, k1, k2, k3, k5, ho, hve⟩
    · cases h1
  · cases h1
def kXc (c : Str) (K : PySem.W.Frag) : Bool :=
  xfB K (He.ga K c) && (eqv (PySem.W.findIn K (.ref (He.ga K c)) "__class__") (some (some (.builtin "object.__class__"))) &&
  (decide (PySem.W.mroIn K (He.ga K c) (.type "object") = some true) && kObjGet K))
theorem kXc_ok {c : Str} {K : PySem.W.Frag} (h : kXc c K = true) : XfC K (He.ga K c) ∧ L2.ExcC K (He.ga K c) := by
  obtain ⟨h1, h⟩ := Bool.and_eq_true_iff.mp h
  obtain ⟨h2, h⟩ := Bool.and_eq_true_iff.mp h
  obtain ⟨h3, h⟩ := Bool.and_eq_true_iff.mp h
  obtain ⟨h4, h5⟩ := Bool.and_eq_true_iff.mp h
  have x := xfB_ok h1
  exact ⟨x, x.ga, x.gg, x.exC, x.hdC, eqv_ok h2, eqv_ok h4, of_decide_eq_true h5, of_decide_eq_true h3⟩
end Vi
namespace Vi
open PySem L2 PyProof.Rows
structure PD where
  nm : List Str
  cls : List Nat
  fld : List (Nat × Str)
  isi : List ((Ty × Ty) × Bool)
  xcs : List Nat
  xno : List (Nat × Str)
  nf : List (Nat × Ty)
  kcs : List (List D)
mutual
def sameD : D → D → Bool
  | .non, .non => true
  | .bl a, .bl b => a == b
  | .int a, .int b => decide (a = b)
  | .str a, .str b => decide (a = b)
  | .tup xs, .tup ys => sameDs xs ys
  | _, _ => false
def sameDs : List D → List D → Bool
  | [], [] => true
  | x :: xs, y :: ys => sameD x y && sameDs xs ys
  | _, _ => false
end
def PD.ca (P : PD) (K : PySem.W.Frag) (c : Nat) : Addr := He.ga K (P.nm.getD c Str.empty)
def PD.val (P : PD) (K : PySem.W.Frag) : Ty → Value
  | .bt n => .type n
  | .own c => .ref (P.ca K c)
def PD.gi (P : PD) (K : PySem.W.Frag) : Gi where
  K := K
  ca := P.ca K
  isC := fun c => decide (c ∈ P.cls)
  fld := fun c f => decide ((c, f) ∈ P.fld)
  isi := fun t u => P.isi.lookup (t, u)
  kc := fun ds => P.kcs.any fun es => sameDs es ds
def PD.ok (P : PD) (K : PySem.W.Frag) : Bool :=
  (P.cls.all fun c => kIcls (P.nm.getD c Str.empty) K) && ((P.fld.all fun p => decide (p.1 ∈ P.cls) && eqv (PySem.W.findIn K (.ref (P.ca K p.1)) p.2) (some none)) &&
  (kObjGet K && ((P.isi.all fun e => decide (PySem.W.kitOne K (P.val K e.1.1) (P.val K e.1.2) = some e.2)) &&
  ((P.xcs.all fun c => kXc (P.nm.getD c Str.empty) K) && ((P.xno.all fun p => eqv (PySem.W.findIn K (.ref (P.ca K p.1)) p.2) (some none)) &&
  P.nf.all fun p => PySem.W.notFirst K (P.ca K p.1) (P.val K p.2))))))
theorem PD.val_eq {P : PD} {K : PySem.W.Frag} (t : Ty) : t.val (P.gi K) = P.val K t := by cases t <;> rfl
theorem mem_of_lookup {α β : Type} [BEq α] [LawfulBEq α] {a : α} {b : β} : ∀ {l : List (α × β)}, l.lookup a = some b → (a, b) ∈ l
  | [], h => by cases h
  | (c, d) :: r, h => by
    rw [List.lookup_cons] at h
    cases e : (a == c) with
    | true =>
      rw [e] at h
      cases h
      rw [eq_of_beq e]
      exact List.mem_cons_self ..
    | false =>
      rw [e] at h
      exact List.mem_cons_of_mem _ (mem_of_lookup h)
section
variable {P : PD} {K : PySem.W.Frag}
theorem PD.giOk (h : P.ok K = true) : GiOk (P.gi K) := by
  obtain ⟨h1, h⟩ := Bool.and_eq_true_iff.mp h
  obtain ⟨h2, h⟩ := Bool.and_eq_true_iff.mp h
  obtain ⟨h3, h⟩ := Bool.and_eq_true_iff.mp h
  obtain ⟨h4, h⟩ := Bool.and_eq_true_iff.mp h
  obtain ⟨k1, k2⟩ := Bool.and_eq_true_iff.mp h3
  refine ⟨fun c hc => (kIcls_ok (List.all_eq_true.mp h1 c (of_decide_eq_true hc))).1, fun c f hf => ?_, eqv_ok k1, of_decide_eq_true k2, fun t u b e => ?_⟩
  · obtain ⟨g1, g2⟩ := Bool.and_eq_true_iff.mp (List.all_eq_true.mp h2 (c, f) (of_decide_eq_true hf))
    exact ⟨g1, eqv_ok g2⟩
  · have z := of_decide_eq_true (List.all_eq_true.mp h4 _ (mem_of_lookup e))
    rw [PD.val_eq, PD.val_eq]
    exact z
theorem PD.sf (h : P.ok K = true) {c : Nat} (hc : c ∈ P.cls) : PySem.W.selfFirst K (P.ca K c) = true :=
  (kIcls_ok (List.all_eq_true.mp (Bool.and_eq_true_iff.mp h).1 c hc)).2
theorem PD.xcOk (h : P.ok K = true) : XcOk (P.gi K) (fun c => decide (c ∈ P.xcs)) (fun c f => decide ((c, f) ∈ P.xno)) := by
  obtain ⟨_, h⟩ := Bool.and_eq_true_iff.mp h
  obtain ⟨_, h⟩ := Bool.and_eq_true_iff.mp h
  obtain ⟨_, h⟩ := Bool.and_eq_true_iff.mp h
  obtain ⟨_, h⟩ := Bool.and_eq_true_iff.mp h
  obtain ⟨h5, h⟩ := Bool.and_eq_true_iff.mp h
  obtain ⟨h6, h⟩ := Bool.and_eq_true_iff.mp h
  exact ⟨fun c hc => kXc_ok (List.all_eq_true.mp h5 c (of_decide_eq_true hc)), fun c f hf => eqv_ok (List.all_eq_true.mp h6 (c, f) (of_decide_eq_true hf))⟩
end
structure Rdy (P : Program) (w : World) (K : PySem.W.Frag) (mg : Str → Option Value) (base : Heap) (g : Gi) (x : Str) (k n : Nat) (dd : List D) (F : Fn) : Prop where
  ex : ∃ (f : Addr) (fd : FuncData) (ps : List Str) (dvs : List L2.V) (ds : List Value), FnG P w K mg base k f fd ps (spD g ps.length F) ∧ mg x = some (.ref f) ∧ PySem.W.keepIn K (.ref f) = true ∧
    Binds K fd ps ds ∧ Vals dvs ds ∧ (∀ F al, Reps g F al dd dvs) ∧ n + dvs.length = ps.length
theorem Rdy.v {X : Cx} {g : Gi} {x : Str} {k j n : Nat} {dd : List D} {F : Fn} (h : Rdy X.prog X.w X.K X.mg X.base g x k n dd F) (hr : Room j X.A) (hj : k ≤ j) : VFn X g x n dd F := by
  obtain ⟨f, fd, ps, dvs, ds, h1, h2, h3, h4, h5, h6, h7⟩ := h.ex
  exact ⟨k, f, fd, ps, dvs, ds, h1, hr.mono hj, h2, h3, h4, h5, h6, h7⟩
structure RdyM (P : Program) (w : World) (K : PySem.W.Frag) (mg : Str → Option Value) (base : Heap) (g : Gi) (c : Nat) (m : Str) (k n : Nat) (dd : List D) (F : Fn) : Prop where
  ex : ∃ (f : Addr) (fd : FuncData) (ps : List Str) (dvs : List L2.V) (ds : List Value), FnG P w K mg base k f fd ps (spD g ps.length F) ∧ Meth K (g.ca c) m f ∧
    Binds K fd ps ds ∧ Vals dvs ds ∧ (∀ F al, Reps g F al dd dvs) ∧ (n + 1) + dvs.length = ps.length ∧ PySem.W.fnIn K f = true
  cl : g.isC c = true
theorem RdyM.v {X : Cx} {g : Gi} {c : Nat} {m : Str} {k j n : Nat} {dd : List D} {F : Fn} (h : RdyM X.prog X.w X.K X.mg X.base g c m k n dd F) (hr : Room j X.A) (hj : k ≤ j) : VMeth X g c m n dd F := by
  obtain ⟨f, fd, ps, dvs, ds, h1, h2, h3, h4, h5, h6, _⟩ := h.ex
  exact ⟨⟨k, f, fd, ps, dvs, ds, h1, hr.mono hj, h2, h3, h4, h5, h6⟩, h.cl⟩
theorem RdyM.op {X : Cx} {g : Gi} {c : Nat} {m : Str} {k j n : Nat} {F : Fn} (h : RdyM X.prog X.w X.K X.mg X.base g c m k n [] F) (sf : PySem.W.selfFirst X.K (g.ca c) = true) (hr : Room j X.A) (hj : k + 1 ≤ j) : VOp X g c m (n + 1) F := by
  obtain ⟨f, fd, ps, dvs, ds, h1, h2, h3, h4, h5, h6, h7⟩ := h.ex
  have z := h5 (fun _ => none) (fun _ => none)
  obtain rfl : dvs = [] := z
  cases h4
  exact ⟨⟨k, f, fd, ps, h1, hr.mono hj, h2.at_, h2.fn, h3, h6.symm, h7⟩, sf⟩
structure RdyP (P : Program) (w : World) (K : PySem.W.Frag) (mg : Str → Option Value) (base : Heap) (g : Gi) (c : Nat) (m : Str) (k : Nat) (F : Fn) : Prop where
  ex : ∃ (p q : Addr) (fd : FuncData) (ps : List Str), FnG P w K mg base k q fd ps (spD g ps.length F) ∧ PropOf K (g.ca c) m p q ∧ Binds K fd ps [] ∧ ps.length = 1
  cl : g.isC c = true
theorem RdyP.v {X : Cx} {g : Gi} {c : Nat} {m : Str} {k j : Nat} {F : Fn} (h : RdyP X.prog X.w X.K X.mg X.base g c m k F) (hr : Room j X.A) (hj : k + 1 ≤ j) : VProp X g c m F := by
  obtain ⟨p, q, fd, ps, h1, h2, h3, h4⟩ := h.ex
  exact ⟨⟨k, p, q, fd, ps, h1, hr.mono hj, h2, h3, h4⟩, h.cl⟩
structure RdyI (P : Program) (w : World) (K : PySem.W.Frag) (mg : Str → Option Value) (base : Heap) (g : Gi) (c : Nat) (k n : Nat) (dd : List D) (F : FnI) : Prop where
  ex : ∃ (f : Addr) (fd : FuncData) (ps : List Str) (q : Str) (dvs : List L2.V) (ds : List Value), FnG P w K mg base k f fd (q :: ps) (spI g c ps.length F) ∧ Mk K (g.ca c) f ∧
    Binds K fd (q :: ps) ds ∧ Vals dvs ds ∧ (∀ F al, Reps g F al dd dvs) ∧ n + dvs.length = ps.length
theorem RdyI.v {X : Cx} {g : Gi} {c : Nat} {k j n : Nat} {dd : List D} {F : FnI} (h : RdyI X.prog X.w X.K X.mg X.base g c k n dd F) (hr : Room j X.A) (hj : k + 1 ≤ j) : VMake X g c n dd F := by
  obtain ⟨f, fd, ps, q, dvs, ds, h1, h2, h3, h4, h5, h6⟩ := h.ex
  exact ⟨k, f, fd, ps, q, dvs, ds, h1, hr.mono hj, h2, h3, h4, h5, h6⟩
structure RdyC (P : Program) (w : World) (K : PySem.W.Frag) (mg : Str → Option Value) (base : Heap) (g : Gi) (c : Nat) (m : Str) (k n : Nat) (dd : List D) (F : Fn) : Prop where
  ex : ∃ (p f : Addr) (mc : Value) (fd : FuncData) (ps : List Str) (dvs : List L2.V) (ds : List Value), FnG P w K mg base k f fd ps (spD g ps.length F) ∧ ClX.CRead K (g.ca c) mc ∧ ClX.CMet K (g.ca c) mc m p f ∧
    Binds K fd ps ds ∧ Vals dvs ds ∧ (∀ F al, Reps g F al dd dvs) ∧ (n + 1) + dvs.length = ps.length
theorem RdyC.v {X : Cx} {g : Gi} {c : Nat} {m : Str} {k j n : Nat} {dd : List D} {F : Fn} (h : RdyC X.prog X.w X.K X.mg X.base g c m k n dd F) (hr : Room j X.A) (hj : k ≤ j) : VCMet X g c m n dd F := by
  obtain ⟨p, f, mc, fd, ps, dvs, ds, h1, h2, h3, h4, h5, h6, h7⟩ := h.ex
  exact ⟨k, p, f, mc, fd, ps, dvs, ds, h1, hr.mono hj, h2, h3, h4, h5, h6, h7⟩
structure RdyE (P : Program) (w : World) (K : PySem.W.Frag) (mg : Str → Option Value) (base : Heap) (g : Gi) (x : Str) (c k n : Nat) (mk : List D → List (Str × D)) : Prop where
  ex : ∃ (fI : Addr) (fd : FuncData) (ps : List Str) (fs : List L2.V → List (Str × L2.V)), OexC K (g.ca c) ∧ PySem.W.findIn K (.ref (g.ca c)) "__init__" = some (some (.ref fI)) ∧ PySem.W.typeIn K (.ref fI) = some (.type "function") ∧
    FnOk P w K mg base (L2.CX P w) k fI fd ps (spE (g.ca c) n fs) ∧ Binds K fd ps [] ∧ mg x = some (.ref (g.ca c)) ∧ n ≤ 1000 ∧
    (∀ F al ds ws, Reps g F al ds ws → ds.length = n → RepF g F al (mk ds) (fs ws))
theorem RdyE.v {X : Cx} {g : Gi} {x : Str} {c k j n : Nat} {mk : List D → List (Str × D)} (h : RdyE X.prog X.w X.K X.mg X.base g x c k n mk) (hr : Room j X.A) (hj : k + 1 ≤ j) : VExc X g x c n mk := by
  obtain ⟨fI, fd, ps, fs, h1, h2, h3, h4, h5, h6, h7, h8⟩ := h.ex
  exact ⟨k, fI, fd, ps, fs, h1, h2, h3, h4, hr.mono hj, h5, h6, h7, h8⟩
end Vi
namespace Vi
open PySem L2 PyProof.Rows
def Says1 (F : Fn) (n : Nat) : Prop := ∀ ns : List Int, ns.length ≤ n → ∃ h, F [.kl (ns.map D.int)] [] = .ok (.bl true) h
theorem reps_ints {g : Gi} {F : Hp} {al : Nat → Option Addr} : ∀ ns : List Int, Reps g F al (ns.map D.int) (ns.map L2.V.int)
  | [] => rfl
  | n :: r => ⟨_, _, rfl, rfl, reps_ints r⟩
theorem entry_sp {g : Gi} {K : PySem.W.Frag} (hK : g.K = K) {F : Fn} {n : Nat} {ns : List Int} {H : Hp} {a : Addr} (h : Says1 F n) (hl : ns.length ≤ n) (hS : SqL K H a (ns.map L2.V.int)) :
    spD g 1 F [.ref a] H (fun v _ => v = .bl true) (fun _ _ _ => False) := by
  obtain ⟨h', e⟩ := h ns hl
  refine ⟨⟨H, fun _ => none, [], fun _ => none⟩, [.kl (ns.map D.int)], rfl, ⟨fun _ _ z => z, fun _ _ _ z => (by cases z), fun _ _ z => (by cases z), fun n c z => (by cases z), ⟨fun _ _ z => (by cases z), fun _ _ z => (by cases z)⟩⟩, ⟨_, _, rfl, ⟨a, _, rfl, hK ▸ hS, reps_ints ns⟩, rfl⟩, ?_⟩
  rw [e]
  intro v H' s' _ _ _ r
  exact r
section
variable {P : Program} {w : World} {K : PySem.W.Frag} {mg mb : Str → Option Value} {k : Nat} {fa a : Addr} {fd : FuncData} {x : Str} {sp : Sp} {s1 : Shared} {vs : List Value} {ns : List Int}
theorem guards0 : callerA.guards = some [] := rfl
theorem run_law (KX : K.In s1.heap) (hns : s1.heap.Ns mainGlobals mg) (hb : s1.heap.Ns builtinsNs mb) (hbb : ∀ x : Str, x ≠ "__name__" → mb x = bootBuiltins x) (hlim : s1.heap.NoLimit) (hg : s1.gens = #[])
    (ha : s1.heap.get? a = some { cls := .type "list", data := .seq vs.toArray }) (hi : IntsAre vs ns) (hl : ns.length ≤ sizeLine) (hr : Room k callerA)
    (F : ∀ base : Heap, K.In base → base.Ns mainGlobals mg → FnG P w K mg base k fa fd [x] sp) (bd : ∀ (s : Shared) (u : Value), BindsTo s fd ⟨[u], []⟩ [(x, u)])
    (hsp : ∀ H : Hp, SqL K H a (ns.map L2.V.int) → sp [.ref a] H (fun v _ => v = .bl true) fun _ _ _ => False) :
    codeAny (model P w) callerA (.call (.ref fa) ⟨[.ref a], []⟩) (fun r s' => r = .ok (.ret (.bool true)) ∧ OldK s1.heap s'.heap ∧ s'.os = s1.os ∧ AllBare s'.gens) s1 := by
  have rv := vals_ints hi
  have lenV := hi.length
  have core : ∀ (H : Hp) (hO : Only H) (hS : SqL K H a (ns.map L2.V.int)) (ok : HOk P w H s1.heap) (only : ∀ b u, H b = some u → b = a) (nk : ∀ u, H a = some u → K.lookup a = none),
      codeAny (model P w) callerA (.call (.ref fa) ⟨[.ref a], []⟩) (fun r s' => r = .ok (.ret (.bool true)) ∧ OldK s1.heap s'.heap ∧ s'.os = s1.os ∧ AllBare s'.gens) s1 := by
    intro H hO hS ok only nk
    have below : ∀ {b : Addr} {o : Obj}, s1.heap.get? b = some o → H b = none → (hidT s1.heap H).get? b = some o := fun e n => hidT_get e n
    have free : ∀ {b : Addr} {o : Obj}, K.lookup b = some o → H b = none := fun {b o} e => by
      cases q : H b with
      | none => rfl
      | some u =>
        obtain rfl := only b u q
        rw [nk u q] at e
        cases e
    have noDict : ∀ {b : Addr} {o : Obj} {es : Array DictEntry} {ep : Nat}, s1.heap.get? b = some o → o.data = .dict es ep → H b = none := fun {b o es ep} e d => by
      cases q : H b with
      | none => rfl
      | some u =>
        obtain rfl := only b u q
        rw [ha] at e
        cases e
        cases (show Data.seq vs.toArray _ = Data.dict es ep from d)
    have ns' : ∀ {b : Addr} {m : Str → Option Value}, s1.heap.Ns b m → (hidT s1.heap H).Ns b m := fun ⟨o, es, ep, e, d, r⟩ => ⟨o, es, ep, below e (noDict e d), d, r⟩
    have kin : K.In (hidT s1.heap H) := fun b o e => below (KX b o e) (free e)
    have md : Mod K mg (hidT s1.heap H) := by
      refine ⟨kin, ns' hns, ⟨mb, ns' hb, hbb⟩, ?_⟩
      obtain ⟨mc, l1, l2⟩ := hlim
      exact ⟨mc, ns' l1, l2⟩
    have e0 : Env0 P w K mg (hidT s1.heap H) callerA [] s1 H :=
      ⟨rfl, md, fun b o e => of_hidT e, Nat.le_of_eq (hidT_size _ _), trivial, fun b z => (by cases z), ok, .of_eq hg⟩
    have go := (F _ kin (ns' hns)).run callerA [] s1 H ⟨[.ref a], []⟩ [.ref a] [.ref a] _ (fun _ _ _ => False) hr guards0 e0 (bd s1 (.ref a)) (.cons rfl .nil) (hsp H hS)
    refine codeAny_mono go fun r s' h => ?_
    cases r with
    | error e =>
      obtain ⟨_, _, _, _, _, _, _, _, _, _, _, _, z⟩ := h
      exact z.elim
    | ok fl =>
      cases fl with
      | next => exact h.elim
      | brk => exact h.elim
      | cont => exact h.elim
      | ret u =>
        obtain ⟨v, H', os, bare, un, ok', rr, q⟩ := h
        obtain rfl : v = .bl true := q
        obtain rfl : u = Value.bool true := rr
        refine ⟨rfl, OldK.of_keep fun b o e => ?_, os, bare⟩
        rcases hO b with z | ⟨ob, xs, z⟩
        · exact un.keep b o e z (fun y => (by cases y)) (fun y => (by cases y))
        · obtain ⟨e1, _⟩ := ok b _ z
          obtain ⟨e2, _⟩ := ok' b _ (un.frzs b ob _ z)
          rw [e] at e1
          cases e1
          exact e2
  cases hk : K.lookup a with
  | some o =>
    obtain rfl : o = { cls := .type "list", data := .seq vs.toArray } := Option.some.inj ((KX a o hk).symm.trans ha)
    refine core (fun _ => none) (fun _ => .inl rfl) (.inr ⟨_, vs.toArray, _, hk, rfl, rfl, rfl, ?_, by simpa using rv⟩) (fun b u z => (by cases z)) (fun b u z => (by cases z)) fun u z => (by cases z)
    rw [List.size_toArray, lenV]
    exact hl
  | none =>
    let o : HO := .frz { cls := .type "list", data := .seq vs.toArray } (.lst (ns.map L2.V.int))
    have at_ : ∀ {b : Addr} {u : HO}, (if b = a then some o else none) = some u → b = a ∧ u = o := fun {b u} z => by
      by_cases hb : b = a
      · rw [if_pos hb] at z
        exact ⟨hb, (Option.some.inj z).symm⟩
      · rw [if_neg hb] at z
        cases z
    refine core (fun b => if b = a then some o else none) (fun b => ?_) (.inl (.inr ⟨_, if_pos rfl⟩)) (fun b u z => ?_) (fun b u z => (at_ z).1) fun _ _ => hk
    · by_cases hb : b = a
      · exact .inr ⟨_, _, if_pos hb⟩
      · exact .inl (if_neg hb)
    · obtain ⟨rfl, rfl⟩ := at_ z
      exact ⟨ha, by rw [List.length_map]; exact hl, vs, _, rv, ha⟩
end
theorem walk_G {l : PySem.W.OpenLaw} {n k : Nat} {q : Program} {loose : List Str} {XP : (Str → Option Value) → Heap → Prop} {YP : World → Heap → Prop} {d : DefRec} {x : Str} {F : Fn}
    (hn : l.most = some n) (hn2 : n ≤ sizeLine) (hdf : d.params.defaults = []) (hr : Room k callerA) (says : Says1 F n)
    (T : ∀ (w : World) (mg : Str → Option Value) (fa : Addr) (h : Heap), YP w h → h.Ns mainGlobals mg → mg d.name = some (.ref fa) →
      ∃ (K : PySem.W.Frag) (fd : FuncData) (g : Gi), g.K = K ∧ K.In h ∧ (∀ (s : Shared) (u : Value), BindsTo s fd ⟨[u], []⟩ [(x, u)]) ∧
        ∀ base : Heap, K.In base → base.Ns mainGlobals mg → FnG l.prog w K mg base k fa fd [x] (spD g 1 F)) :
    PySem.W.WalkO q loose XP YP l.row.toRowW d [] (fun f vs => PySem.call f vs) := by
  refine Att.attach_call hn hdf fun w s0 s1 mg mb fa o pm cd doc a vs ns G Y ho hd hcd hmg hobj hints hlen hg => ?_
  obtain ⟨K, fd, g, hK, KX, bd, tf⟩ := T w mg fa _ Y G.T.g hmg
  exact run_law KX G.T.g G.T.b G.T.builtins G.T.nolimit hg hobj hints (Nat.le_trans hlen hn2) hr tf bd fun H hS => entry_sp hK says hlen hS
end Vi
namespace Vi
open PySem L2 PyProof.Rows
theorem bt_len : bootBuiltins "len" = some (.builtin "len") := by decide +kernel
theorem bt_abs : bootBuiltins "abs" = some (.builtin "abs") := by decide +kernel
theorem bt_sum : bootBuiltins "sum" = some (.builtin "sum") := by decide +kernel
theorem bt_max : bootBuiltins "max" = some (.builtin "max") := by decide +kernel
theorem bt_repr : bootBuiltins "repr" = some (.builtin "repr") := by decide +kernel
theorem bt_int : bootBuiltins "int" = some (.type "int") := by decide +kernel
theorem bt_bool : bootBuiltins "bool" = some (.type "bool") := by decide +kernel
theorem bt_str : bootBuiltins "str" = some (.type "str") := by decide +kernel
theorem bt_list : bootBuiltins "list" = some (.type "list") := by decide +kernel
theorem bt_tuple : bootBuiltins "tuple" = some (.type "tuple") := by decide +kernel
theorem bt_ValueError : bootBuiltins "ValueError" = some (.type "ValueError") := by decide +kernel
def kGlobB (x id : Str) (n : String) (K : PySem.W.Frag) : Bool := eqv (PySem.W.nsIn K mainGlobals x) (some (some (.builtin n)))
def mkE (f1 f2 lit : Str) : List D → List (Str × D) := fun ds => match ds with
  | [v] => [(f2, .str lit), (f1, v)]
  | _ => []
theorem mkE_ok {g : Gi} {f1 f2 lit : Str} : ∀ (F : Hp) (al : Nat → Option Addr) (ds : List D) (ws : List L2.V), Reps g F al ds ws → ds.length = 1 → RepF g F al (mkE f1 f2 lit ds) ((fun ws => match ws with
      | [v] => [(f2, .str lit), (f1, v)]
      | _ => ([] : List (Str × L2.V))) ws) := by
  intro F al ds ws r hl
  match ds, hl with
  | [d], _ =>
    obtain ⟨v, r', e1, e2, e3⟩ := r
    have e3 : r' = [] := e3
    subst e3
    subst e1
    exact ⟨.str lit, [(f1, v)], rfl, rfl, v, [], rfl, e2, rfl⟩
section
variable {P : Program} {w : World} {K : PySem.W.Frag} {mg : Str → Option Value} {base : Heap} {g : Gi}
structure Gnd (PDx : PD) (ck : List (PySem.W.Frag → Bool)) (fn : List DefV) (K : PySem.W.Frag) (mg : Str → Option Value) (base : Heap) : Prop where
  S : SaysV ck fn K
  X : K.In base
  G : base.Ns mainGlobals mg
  ok : PDx.ok K = true
theorem rdy_of {f : Addr} {x : Str} {fd : FuncData} {ps : List Str} {qual : Str} {params : Arguments} {body : List Stmt} {scope : Scope} {nm : Str} {k : Nat} {F : Fn} (FD : FunD K nm qual params body scope [] [] f fd) (FG : FnG P w K mg base k f fd ps (spD g ps.length F)) (hm : mg x = some (.ref f))
    (hb : ∀ (kV doc pm : Value) (an : Option Addr) (cdv ct : Value) (us : List Value), us.length = ps.length → bindArgs (PySem.W.fnOf nm qual params body scope .none kV doc pm an cdv ct) ⟨us, []⟩ = pure (ps.zip us)) {n : Nat} (hn : n = ps.length) : Rdy P w K mg base g x k n [] F :=
  ⟨f, fd, ps, [], [], FG, hm, FD.kp, FD.bindsN hb, .nil, fun _ _ => rfl, by rw [hn]; rfl⟩
theorem FunD.fnIn {f : Addr} {fd : FuncData} {qual : Str} {params : Arguments} {body : List Stmt} {scope : Scope} {nm : Str} (FD : FunD K nm qual params body scope [] [] f fd) : PySem.W.fnIn K f = true := by
  obtain ⟨oc, od, dV, kV, doc, pm, an, cdv, ct, osl, _, lk, _⟩ := FD.ex
  unfold PySem.W.fnIn
  rw [lk]
theorem rdyM_of {f : Addr} {c : Nat} {m : Str} {fd : FuncData} {ps : List Str} {qual : Str} {params : Arguments} {body : List Stmt} {scope : Scope} {nm : Str} {k : Nat} {F : Fn} (FD : FunD K nm qual params body scope [] [] f fd) (FG : FnG P w K mg base k f fd ps (spD g ps.length F)) (hm : Meth K (g.ca c) m f) (hc : g.isC c = true)
    (hb : ∀ (kV doc pm : Value) (an : Option Addr) (cdv ct : Value) (us : List Value), us.length = ps.length → bindArgs (PySem.W.fnOf nm qual params body scope .none kV doc pm an cdv ct) ⟨us, []⟩ = pure (ps.zip us)) {n : Nat} (hn : n + 1 = ps.length) : RdyM P w K mg base g c m k n [] F :=
  ⟨⟨f, fd, ps, [], [], FG, hm, FD.bindsN hb, .nil, fun _ _ => rfl, by rw [← hn]; rfl, Vi.FunD.fnIn FD⟩, hc⟩
end
end Vi
namespace Vi
open PySem L2
def RS.seq (r : RS) (b : MS) : RS := match r with
  | .nx e h => b e h
  | r => r
@[simp] theorem mSeq_eq (a b : MS) (env : Env) (h : Hc) : mSeq a b env h = (a env h).seq b := by
  unfold mSeq RS.seq
  cases a env h <;> rfl
@[simp] theorem RS.seq_nx (e : Env) (h : Hc) (b : MS) : (RS.nx e h).seq b = b e h := rfl
@[simp] theorem RS.seq_ret (d : D) (h : Hc) (b : MS) : (RS.ret d h).seq b = .ret d h := rfl
@[simp] theorem RS.seq_brk (e : Env) (h : Hc) (b : MS) : (RS.brk e h).seq b = .brk e h := rfl
@[simp] theorem RS.seq_cnt (e : Env) (h : Hc) (b : MS) : (RS.cnt e h).seq b = .cnt e h := rfl
@[simp] theorem RS.seq_exc (e : Env) (x : D) (h : Hc) (b : MS) : (RS.exc e x h).seq b = .exc e x h := rfl
@[simp] theorem RS.seq_stuck (b : MS) : RS.stuck.seq b = .stuck := rfl
class Kn (κ : Type) where k : κ
def ap {γ κ β : Type} (F : γ → κ → β) (r : γ) [i : Kn κ] : β := F r i.k
def RS.seqU (r : RS) (b : MS) (_ : Unit) : RS := r.seq b
@[simp ↓] theorem RS.seq_ap (r : RS) (b : MS) : r.seq b = @ap RS MS (Unit → RS) RS.seqU r ⟨b⟩ () := (rfl)
@[simp] theorem RS.seq_nx_ap (e : Env) (h : Hc) (b : MS) : @ap RS MS (Unit → RS) RS.seqU (.nx e h) ⟨b⟩ () = b e h := (rfl)
@[simp] theorem RS.seq_ret_ap (d : D) (h : Hc) (b : MS) : @ap RS MS (Unit → RS) RS.seqU (.ret d h) ⟨b⟩ () = .ret d h := (rfl)
@[simp] theorem RS.seq_brk_ap (e : Env) (h : Hc) (b : MS) : @ap RS MS (Unit → RS) RS.seqU (.brk e h) ⟨b⟩ () = .brk e h := (rfl)
@[simp] theorem RS.seq_cnt_ap (e : Env) (h : Hc) (b : MS) : @ap RS MS (Unit → RS) RS.seqU (.cnt e h) ⟨b⟩ () = .cnt e h := (rfl)
@[simp] theorem RS.seq_exc_ap (e : Env) (x : D) (h : Hc) (b : MS) : @ap RS MS (Unit → RS) RS.seqU (.exc e x h) ⟨b⟩ () = .exc e x h := (rfl)
@[simp] theorem RS.seq_stuck_ap (b : MS) : @ap RS MS (Unit → RS) RS.seqU .stuck ⟨b⟩ () = .stuck := (rfl)
@[simp] theorem R.thenS_ok {α : Type} (a : α) (h : Hc) (env : Env) (k : α → Hc → RS) : (R.ok a h).thenS env k = k a h := rfl
@[simp] theorem R.thenS_exc {α : Type} (x : D) (h : Hc) (env : Env) (k : α → Hc → RS) : (R.exc x h : R α).thenS env k = .exc env x h := rfl
@[simp] theorem R.thenS_stuck {α : Type} (env : Env) (k : α → Hc → RS) : (R.stuck : R α).thenS env k = .stuck := rfl
def R.thenU {α : Type} (r : R α) (p : Env × (α → Hc → RS)) (_ : Unit) : RS := r.thenS p.1 p.2
@[simp ↓] theorem R.thenS_ap {α : Type} (r : R α) (env : Env) (k : α → Hc → RS) : r.thenS env k = @ap (R α) (Env × (α → Hc → RS)) (Unit → RS) R.thenU r ⟨(env, k)⟩ () := (rfl)
@[simp] theorem R.thenS_ok_ap {α : Type} (a : α) (h : Hc) (env : Env) (k : α → Hc → RS) : @ap (R α) (Env × (α → Hc → RS)) (Unit → RS) R.thenU (.ok a h) ⟨(env, k)⟩ () = k a h := (rfl)
@[simp] theorem R.thenS_exc_ap {α : Type} (x : D) (h : Hc) (env : Env) (k : α → Hc → RS) : @ap (R α) (Env × (α → Hc → RS)) (Unit → RS) R.thenU (.exc x h) ⟨(env, k)⟩ () = .exc env x h := (rfl)
@[simp] theorem R.thenS_stuck_ap {α : Type} (env : Env) (k : α → Hc → RS) : @ap (R α) (Env × (α → Hc → RS)) (Unit → RS) R.thenU .stuck ⟨(env, k)⟩ () = .stuck := (rfl)
def R.bindU {α β : Type} (r : R α) (k : α → Hc → R β) (_ : Unit) : R β := r.bind k
@[simp ↓] theorem R.bind_ap {α β : Type} (r : R α) (k : α → Hc → R β) : r.bind k = @ap (R α) (α → Hc → R β) (Unit → R β) R.bindU r ⟨k⟩ () := (rfl)
@[simp] theorem R.bind_ok_ap {α β : Type} (a : α) (h : Hc) (k : α → Hc → R β) : @ap (R α) (α → Hc → R β) (Unit → R β) R.bindU (.ok a h) ⟨k⟩ () = k a h := (rfl)
@[simp] theorem R.bind_exc_ap {α β : Type} (x : D) (h : Hc) (k : α → Hc → R β) : @ap (R α) (α → Hc → R β) (Unit → R β) R.bindU (.exc x h) ⟨k⟩ () = .exc x h := (rfl)
@[simp] theorem R.bind_stuck_ap {α β : Type} (k : α → Hc → R β) : @ap (R α) (α → Hc → R β) (Unit → R β) R.bindU .stuck ⟨k⟩ () = .stuck := (rfl)
def RS.fin : RS → R D
  | .nx _ h => .ok .non h
  | .ret d h => .ok d h
  | .exc _ x h => .exc x h
  | _ => .stuck
theorem fnOf_eq (N n : Nat) (m : MS) (ds : List D) (h : Hc) (e : ds.length = n) : fnOf N n m ds h = (m (mkEnv N ds) h).fin := by
  unfold fnOf RS.fin
  refine (if_pos e).trans ?_
  cases m (mkEnv N ds) h <;> rfl
@[simp] theorem RS.fin_nx (e : Env) (h : Hc) : (RS.nx e h).fin = .ok .non h := rfl
@[simp] theorem RS.fin_ret (d : D) (h : Hc) : (RS.ret d h).fin = .ok d h := rfl
@[simp] theorem RS.fin_exc (e : Env) (x : D) (h : Hc) : (RS.exc e x h).fin = .exc x h := rfl
def pick {α : Type} (c : Bool) (a b : α) : α := if c then a else b
@[simp] theorem pick_t {α : Type} (a b : α) : pick true a b = a := rfl
@[simp] theorem pick_f {α : Type} (a b : α) : pick false a b = b := rfl
def pickU {α : Type} (c : Bool) (p : α × α) (_ : Unit) : α := pick c p.1 p.2
@[simp ↓] theorem pick_ap {α : Type} (c : Bool) (a b : α) : pick c a b = @ap Bool (α × α) (Unit → α) pickU c ⟨(a, b)⟩ () := (rfl)
@[simp] theorem pick_t_ap {α : Type} (a b : α) : @ap Bool (α × α) (Unit → α) pickU true ⟨(a, b)⟩ () = a := (rfl)
@[simp] theorem pick_f_ap {α : Type} (a b : α) : @ap Bool (α × α) (Unit → α) pickU false ⟨(a, b)⟩ () = b := (rfl)
section
variable (env : Env) (h : Hc)
@[simp] theorem mIfS_eq (c : MB) (a b : MS) : mIfS c a b env h = (c env h).thenS env fun x h1 => pick x (a env h1) (b env h1) := rfl
@[simp] theorem tAndM_eq (a b : MB) : tAndM a b env h = (a env h).bind fun x h1 => pick x (b env h1) (.ok false h1) := rfl
@[simp] theorem tOrM_eq (a b : MB) : tOrM a b env h = (a env h).bind fun x h1 => pick x (.ok true h1) (b env h1) := rfl
@[simp] theorem mIf_eq (c : MB) (a b : ME) : mIf c a b env h = (c env h).bind fun x h1 => pick x (a env h1) (b env h1) := rfl
end
@[simp] theorem mVar_d (i : Nat) (env : Env) (h : Hc) (x : D) (e : env[i]? = some (some (.d x))) : mVar i env h = .ok (.d x) h := by unfold mVar; rw [e]
@[simp] theorem mVar_o (i : Nat) (env : Env) (h : Hc) (x : List D) (e : env[i]? = some (some (.ol x))) : mVar i env h = .ok (.bl x) h := by unfold mVar; rw [e]
@[simp] theorem fEq_int (neg : Bool) (a b : Int) (h : Hc) : fEq neg (.d (.int a)) (.d (.int b)) h = .ok (.d (.bl (if neg then !decide (a = b) else decide (a = b)))) h := rfl
@[simp] theorem fLen_tup (xs : List D) (h : Hc) : fLen [.d (.tup xs)] h = .ok (.d (.int xs.length)) h := rfl
@[simp] theorem fLen_lst (xs : List D) (h : Hc) : fLen [.d (.lst xs)] h = .ok (.d (.int xs.length)) h := rfl
@[simp] theorem fIx_tup (xs : List D) (i : Int) (h : Hc) : fIx (.d (.tup xs)) (.d (.int i)) h = (match atI xs i with
  | some d => .ok (.d d) h
  | none => .stuck) := rfl
@[simp] theorem fIx_lst (xs : List D) (i : Int) (h : Hc) : fIx (.d (.lst xs)) (.d (.int i)) h = (match atI xs i with
  | some d => .ok (.d d) h
  | none => .stuck) := rfl
def RS.again (r : RS) (k : MS) : RS := match r with
  | .nx e h => k e h
  | .cnt e h => k e h
  | .brk e h => .nx e h
  | r => r
@[simp] theorem RS.again_nx (e : Env) (h : Hc) (k : MS) : (RS.nx e h).again k = k e h := rfl
@[simp] theorem RS.again_cnt (e : Env) (h : Hc) (k : MS) : (RS.cnt e h).again k = k e h := rfl
@[simp] theorem RS.again_brk (e : Env) (h : Hc) (k : MS) : (RS.brk e h).again k = .nx e h := rfl
@[simp] theorem RS.again_ret (d : D) (h : Hc) (k : MS) : (RS.ret d h).again k = .ret d h := rfl
@[simp] theorem RS.again_exc (e : Env) (x : D) (h : Hc) (k : MS) : (RS.exc e x h).again k = .exc e x h := rfl
def RS.againU (r : RS) (k : MS) (_ : Unit) : RS := r.again k
@[simp ↓] theorem RS.again_ap (r : RS) (k : MS) : r.again k = @ap RS MS (Unit → RS) RS.againU r ⟨k⟩ () := (rfl)
@[simp] theorem RS.again_nx_ap (e : Env) (h : Hc) (k : MS) : @ap RS MS (Unit → RS) RS.againU (.nx e h) ⟨k⟩ () = k e h := (rfl)
@[simp] theorem RS.again_cnt_ap (e : Env) (h : Hc) (k : MS) : @ap RS MS (Unit → RS) RS.againU (.cnt e h) ⟨k⟩ () = k e h := (rfl)
@[simp] theorem RS.again_brk_ap (e : Env) (h : Hc) (k : MS) : @ap RS MS (Unit → RS) RS.againU (.brk e h) ⟨k⟩ () = .nx e h := (rfl)
@[simp] theorem RS.again_ret_ap (d : D) (h : Hc) (k : MS) : @ap RS MS (Unit → RS) RS.againU (.ret d h) ⟨k⟩ () = .ret d h := (rfl)
@[simp] theorem RS.again_exc_ap (e : Env) (x : D) (h : Hc) (k : MS) : @ap RS MS (Unit → RS) RS.againU (.exc e x h) ⟨k⟩ () = .exc e x h := (rfl)
theorem mWhile_succ (n : Nat) (c : MB) (b : MS) (env : Env) (h : Hc) : mWhile (n + 1) c b env h = (c env h).thenS env fun x h1 => pick x ((b env h1).again (mWhile n c b)) (.nx env h1) := by
  show (c env h).thenS env _ = _
  congr 1
  funext x h1
  cases x with
  | false => rfl
  | true =>
    show (match b env h1 with
      | .nx e h2 => mWhile n c b e h2
      | .cnt e h2 => mWhile n c b e h2
      | .brk e h2 => .nx e h2
      | .ret d h2 => .ret d h2
      | .exc e x h2 => .exc e x h2
      | .stuck => .stuck) = (b env h1).again _
    cases b env h1 <;> rfl
theorem forL_cons (T : TgF) (b : MS) (x : D) (r : List D) (env : Env) (h : Hc) : forL T b (x :: r) env h = (match T x env with
    | none => .stuck
    | some env1 => (b env1 h).again (forL T b r)) := by
  show (match T x env with
    | none => RS.stuck
    | some env1 => (match b env1 h with
      | .nx e h2 => forL T b r e h2
      | .cnt e h2 => forL T b r e h2
      | .brk e h2 => .nx e h2
      | .ret d h2 => .ret d h2
      | .exc e x h2 => .exc e x h2
      | .stuck => .stuck)) = _
  cases T x env with
  | none => rfl
  | some env1 =>
    dsimp only
    cases b env1 h <;> rfl
@[simp] theorem fAdd_int (o : Bool) (a b : Int) (h : Hc) : fAdd o (.d (.int a)) (.d (.int b)) h = .ok (.d (.int (a + b))) h := rfl
@[simp] theorem fSum_kl (xs : List D) (h : Hc) : fSum [.d (.kl xs)] h = (match ints? xs with
      | some ns => .ok (.d (.int ns.sum)) h
      | none => .stuck) := rfl
@[simp] theorem fList_kl (o : Bool) (xs : List D) (h : Hc) : fList o [.d (.kl xs)] h = .ok (Vl.ofL o xs) h := rfl
@[simp] theorem ints_map : ∀ ns : List Int, ints? (ns.map D.int) = some ns
  | [] => rfl
  | n :: r => by
    show (ints? (r.map D.int)).map (n :: ·) = _
    rw [ints_map r]
    rfl
end Vi
namespace Vi
open PySem L2
def vOf : D → Option V
  | .non => some .non
  | .bl b => some (.bl b)
  | .int i => some (.int i)
  | .str x => some (.str x)
  | _ => none
def vOfs : List D → Option (List V)
  | [] => some []
  | x :: r => match vOf x, vOfs r with
    | some v, some vs => some (v :: vs)
    | _, _ => none
theorem vOf_rep {g : Gi} {F : Hp} {al : Nat → Option Addr} {d : D} {v u : V} (r : Rep g F al d v) (e : vOf d = some u) : v = u ∧ flatV u = true := by
  cases d <;> cases e <;> exact ⟨r, rfl⟩
theorem vOfs_reps {g : Gi} {F : Hp} {al : Nat → Option Addr} : ∀ {ds : List D} {vs us : List V}, Reps g F al ds vs → vOfs ds = some us → vs = us ∧ us.all flatV = true
  | [], vs, us, r, e => by
    cases e
    exact ⟨r, rfl⟩
  | d :: ds, vs, us, r, e => by
    obtain ⟨v, ws, rfl, r1, r2⟩ := r
    unfold vOfs at e
    split at e
    · next u us' e1 e2 =>
      cases e
      obtain ⟨rfl, f1⟩ := vOf_rep r1 e1
      obtain ⟨rfl, f2⟩ := vOfs_reps r2 e2
      exact ⟨rfl, by rw [List.all_cons, f1, f2]; rfl⟩
    · cases e
def hasSub (j i : PySem.Str) : Bool := !(Builtin.Str.occurrences j i 0 j.length 1).isEmpty
def seq? (h : Hc) (x : Vl) : Option (List D) := match lst? h x with
  | some xs => some xs
  | none => tup? x
def nB (neg b : Bool) : D := .bl (if neg then !b else b)
def fInS (neg : Bool) (x y : Vl) (h : Hc) : R Vl := match x, seq? h y with
  | .d d, some ys => (match vOf d, vOfs ys with
    | some u, some us => .ok (.d (nB neg (inV u us))) h
    | _, _ => (match x.dat?, y.dat? with
      | some d, some (.lst ds) => if shp d && shp (.lst ds) then .ok (.d (nB neg (ds.any fun z => eqD z d))) h else .stuck
      | _, _ => .stuck))
  | _, _ => .stuck
def fIn (neg : Bool) (x y : Vl) (h : Hc) : R Vl := match x, y with
  | .d (.str a), .d (.str b) => .ok (.d (nB neg (hasSub b a))) h
  | x, y => fInS neg x y h
theorem VlRep.seq {g : Gi} {B : Bg} {env : Env} {s : Sta} {σ : L2.St} {H : Hp} {x : Vl} {v : V} {xs : List D} (gd : Good g s H) (h : VlRep g B env σ s H x v) (e : seq? s.h x = some xs) : ∃ a vs, v = .ref a ∧ (SqL g.K H a vs ∨ SqT g.K H a vs) ∧ Reps g s.F s.al xs vs := by
  unfold seq? at e
  split at e
  · next ys e1 =>
    cases e
    obtain ⟨a, vs, h1, h2, h3⟩ := h.lst gd e1
    exact ⟨a, vs, h1, .inl h2, h3⟩
  · obtain ⟨a, vs, h1, h2, h3⟩ := h.tup gd e
    exact ⟨a, vs, h1, .inr h2, h3⟩
theorem toPs_map : ∀ ds : List D, toPs ds = ds.map toP
  | [] => by simp [toPs]
  | d :: ds => by simp [toPs, toPs_map ds]
theorem any_eqD (ds : List D) (d : D) : ((toPs ds).any fun z => PyData.eqv z (toP d)) = ds.any fun z => eqD z d := by
  rw [toPs_map, List.any_map]
  rfl
section
variable {X : Cx} {g : Gi}
theorem o_in (hK : g.K = X.K) (hu : X.A.units + 65 < cLine) : OpV X g (compareOp .In) (fIn false) := by
  refine ⟨_, OpR.or (OpR.or op_in_str op_in_seq) (op_inD hu), fun B W env s σ H x y v w Q sr r1 r2 p => ?_⟩
  unfold fIn at p
  split at p
  · next a b =>
    obtain rfl : v = .str a := r1
    obtain rfl : w = .str b := r2
    exact .inl (.inl ⟨a, b, rfl, rfl, PostE.pure sr p rfl⟩)
  · unfold fInS at p
    split at p
    · next d ys e1 _ =>
      split at p
      · next u us e2 e3 =>
        obtain ⟨a, vs, rfl, h1, h2⟩ := r2.seq sr.good e1
        obtain ⟨rfl, f1⟩ := vOf_rep r1 e2
        obtain ⟨rfl, f2⟩ := vOfs_reps h2 e3
        exact .inl (.inr ⟨a, _, rfl, hK ▸ h1, f1, f2, PostE.pure sr p rfl⟩)
      · split at p
        · next d' ds e4 e5 =>
          split at p
          · next hs =>
            obtain ⟨h1, h2⟩ := Bool.and_eq_true_iff.mp hs
            refine .inr ⟨_, toPs ds, hK ▸ r1.dp' sr.good e4, ?_, h1, ?_, ?_⟩
            · have q := r2.dp' sr.good e5
              simp only [toP] at q
              exact hK ▸ q
            · unfold shp at h2
              simp only [toP] at h2
              exact h2
            · rw [any_eqD]
              exact PostE.pure sr p rfl
          · exact p.elim
        · exact p.elim
    · exact p.elim
theorem o_nin (hK : g.K = X.K) (hu : X.A.units + 65 < cLine) : OpV X g (compareOp .NotIn) (fIn true) := by
  refine ⟨_, OpR.or (OpR.or op_notin_str op_notIn_seq) (op_notInD hu), fun B W env s σ H x y v w Q sr r1 r2 p => ?_⟩
  unfold fIn at p
  split at p
  · next a b =>
    obtain rfl : v = .str a := r1
    obtain rfl : w = .str b := r2
    exact .inl (.inl ⟨a, b, rfl, rfl, PostE.pure sr p rfl⟩)
  · unfold fInS at p
    split at p
    · next d ys e1 _ =>
      split at p
      · next u us e2 e3 =>
        obtain ⟨a, vs, rfl, h1, h2⟩ := r2.seq sr.good e1
        obtain ⟨rfl, f1⟩ := vOf_rep r1 e2
        obtain ⟨rfl, f2⟩ := vOfs_reps h2 e3
        exact .inl (.inr ⟨a, _, rfl, hK ▸ h1, f1, f2, PostE.pure sr p rfl⟩)
      · split at p
        · next d' ds e4 e5 =>
          split at p
          · next hs =>
            obtain ⟨h1, h2⟩ := Bool.and_eq_true_iff.mp hs
            refine .inr ⟨_, toPs ds, hK ▸ r1.dp' sr.good e4, ?_, h1, ?_, ?_⟩
            · have q := r2.dp' sr.good e5
              simp only [toP] at q
              exact hK ▸ q
            · unfold shp at h2
              simp only [toP] at h2
              exact h2
            · rw [any_eqD]
              exact PostE.pure sr p rfl
          · exact p.elim
        · exact p.elim
    · exact p.elim
def fIsN (neg : Bool) (x y : Vl) (h : Hc) : R Vl := match y with
  | .d .non => (match x with
    | .d .non => .ok (.d (nB neg true)) h
    | .d (.cls _) => .stuck
    | _ => .ok (.d (nB neg false)) h)
  | _ => .stuck
theorem isN_val {g : Gi} {B : Bg} {env : Env} {s : Sta} {σ : L2.St} {H : Hp} {x : Vl} {v : V} (r : VlRep g B env σ s H x v) (n : x ≠ .d .non) : v ≠ .non := by
  intro e
  subst e
  cases x with
  | d d =>
    cases d with
    | non => exact n rfl
    | bl _ => cases r
    | int _ => cases r
    | str _ => cases r
    | tup _ => obtain ⟨_, _, h, _⟩ := r; cases h
    | xtup _ => obtain ⟨_, _, _, h, _⟩ := r; cases h
    | lst _ => obtain ⟨_, _, h, _⟩ := r; cases h
    | kl _ => obtain ⟨_, _, h, _⟩ := r; cases h
    | ref _ => obtain ⟨_, h, _⟩ := r; cases h
    | obj _ _ => obtain ⟨_, _, _, h, _⟩ := r; cases h
    | cls _ => cases r
    | dK _ => obtain ⟨_, _, h, _⟩ := r; cases h
    | dT _ => obtain ⟨_, _, h, _⟩ := r; cases h
  | tl _ => obtain ⟨_, _, h, _⟩ := r; cases h
  | bl _ => obtain ⟨_, _, h, _⟩ := r; cases h
  | bi _ _ => obtain ⟨_, _, _, h, _⟩ := r; cases h
theorem o_is : OpV X g (compareOp .Is) (fIsN false) := by
  refine ⟨_, op_isN, fun B W env s σ H x y v w Q sr r1 r2 p => ?_⟩
  unfold fIsN at p
  split at p
  · obtain rfl : w = .non := r2
    split at p
    · obtain rfl : v = .non := r1
      exact ⟨rfl, PostE.pure sr p rfl⟩
    · exact p.elim
    · next n1 n2 =>
      have := isN_val r1 n1
      refine ⟨rfl, ?_⟩
      rw [decide_eq_false this]
      exact PostE.pure sr p rfl
  · exact p.elim
theorem o_isnot : OpV X g (compareOp .IsNot) (fIsN true) := by
  refine ⟨_, op_notN, fun B W env s σ H x y v w Q sr r1 r2 p => ?_⟩
  unfold fIsN at p
  split at p
  · obtain rfl : w = .non := r2
    split at p
    · obtain rfl : v = .non := r1
      exact ⟨rfl, PostE.pure sr p rfl⟩
    · exact p.elim
    · next n1 n2 =>
      have := isN_val r1 n1
      refine ⟨rfl, ?_⟩
      rw [decide_eq_false this]
      exact PostE.pure sr p rfl
  · exact p.elim
def bools? : List D → Option (List Bool)
  | [] => some []
  | .bl b :: r => (bools? r).map (b :: ·)
  | _ => none
theorem Reps.bools {F : Hp} {al : Nat → Option Addr} : ∀ (ds : List D) {vs : List V} {bs : List Bool}, Reps g F al ds vs → bools? ds = some bs → vs = bs.map V.bl
  | [], vs, bs, r, e => by
    cases e
    exact r
  | d :: ds, vs, bs, r, e => by
    obtain ⟨v, ws, rfl, r1, r2⟩ := r
    cases d with
    | bl b =>
      unfold bools? at e
      cases e2 : bools? ds with
      | none => rw [e2] at e; cases e
      | some bs' =>
        rw [e2] at e
        cases e
        rw [Reps.bools ds r2 e2]
        obtain rfl : v = .bl b := r1
        rfl
    | _ => cases e
def fAll (any : Bool) (xs : List Vl) (h : Hc) : R Vl := match xs with
  | [x] => (match lst? h x with
    | some ys => (match bools? ys with
      | some bs => .ok (.d (.bl (if any then bs.any id else bs.all id))) h
      | none => .stuck)
    | none => .stuck)
  | _ => .stuck
theorem c_all (hK : g.K = X.K) (hc : X.calm = true) : CallV X g (.builtin "all") (fAll false) := by
  refine ⟨_, cr_all hc, fun B W env s σ H xs vs Q sr r p => ?_⟩
  unfold fAll at p
  split at p
  · obtain ⟨v, rfl, rr⟩ := r.one
    split at p
    · next ys e1 =>
      split at p
      · next bs e2 =>
        obtain ⟨a1, ws, rfl, h1, q1⟩ := rr.lst sr.good e1
        have e3 := Reps.bools _ q1 e2
        subst e3
        exact ⟨a1, bs, rfl, hK ▸ h1, PostE.pure sr p rfl⟩
      · exact p.elim
    · exact p.elim
  · exact p.elim
end
end Vi
namespace Vi
open PySem L2 PyProof.Rows
abbrev MO := Env → Hc → R (Option Int)
@[simp] def moN : MO := fun _ h => .ok none h
@[simp] def moS (m : ME) : MO := fun env h => (m env h).bind fun x h1 => match x with
  | .d (.int i) => .ok (some i) h1
  | _ => .stuck
def cutL {α : Type} (xs : List α) (lo hi : Option Int) : List α := (xs.drop (HT.sIx xs.length 0 lo)).take (HT.sIx xs.length xs.length hi - HT.sIx xs.length 0 lo)
def fSl (o : Bool) (x : Vl) (lo hi : Option Int) (h : Hc) : R Vl := match lst? h x with
  | some xs => .ok (Vl.ofL o (cutL xs lo hi)) h
  | none => (match ptup? x with
    | some xs => .ok (.d (.tup (cutL xs lo hi))) h
    | none => (match x with
      | .d (.str z) => if z.length ≤ 100000 then .ok (.d (.str (Txt.slice z lo hi))) h else .stuck
      | _ => .stuck))
@[simp] def mSl (o : Bool) (m : ME) (lo hi : MO) : ME := fun env h => (m env h).bind fun x h1 => (lo env h1).bind fun l h2 => (hi env h2).bind fun u h3 => fSl o x l u h3
section
variable (g : Gi) (B : Bg) (W : WXv) (env : Env) (s : Sta) (σ : L2.St) (H : Hp)
def PostO : R (Option Int) → (Option Int → Hp → Prop) → Prop
  | .ok i h, Q => ∀ (H' : Hp) (s' : Sta), s'.h = h → Evo s H s' H' → SR g B env s' σ H' → Q i H'
  | .exc x h, _ => PostX g B W env s σ H x h
  | .stuck, _ => False
end
def tP (g : Gi) (B : Bg) (W : WXv) (m : MO) : TO := fun σ H Q => ∃ env s, SR g B env s σ H ∧ PostO g B W env s σ H (m env s.h) Q
section
variable {X : Cx} {g : Gi} {B : Bg} {W : WXv} {pos p2 : Pos} {e e1 e2 : Expr} {m ma mb : ME} {lo hi : Option Expr} {ml mh : MO}
theorem vo_none : PO X none (tP g B W moN) := ⟨fun pins s σ H Q I h => by
  obtain ⟨env, st, sr, p⟩ := h
  exact po_none.run pins s σ H Q I (p H st rfl (Evo.refl st H) sr)⟩
theorem po_imp {X : Cx} {e : Option Expr} {t t' : TO} (h : PO X e t) (i : ∀ σ H Q, t' σ H Q → t σ H Q) : PO X e t' := ⟨fun pins s σ H Q I q => h.run pins s σ H Q I (i σ H Q q)⟩
theorem vo_some (h : PE X e (tE g B W m)) : PO X (some e) (tP g B W (moS m)) := by
  refine po_imp (po_some h) fun σ H Q ⟨env, s, sr, p⟩ => ?_
  refine ⟨env, s, sr, ?_⟩
  unfold moS at p
  cases e1 : m env s.h with
  | ok x h1 =>
    rw [e1] at p
    intro v H1 s1 q1 ev1 sr1 r1
    cases x with
    | d d =>
      cases d with
      | int i => exact ⟨i, r1, p H1 s1 q1 ev1 sr1⟩
      | _ => exact p.elim
    | _ => exact p.elim
  | exc x h => rw [e1] at p; exact p
  | stuck => rw [e1] at p; exact p
theorem bindO {f : Vl → Option Int → Option Int → Hc → R Vl} {env : Env} {s : Sta} {σ : L2.St} {H : Hp} {Q : VK} (sr : SR g B env s σ H) (p : PostE g B W env s σ H ((m env s.h).bind fun x h1 => (ml env h1).bind fun l h2 => (mh env h2).bind fun u h3 => f x l u h3) Q) :
    tE g B W m σ H fun v H1 => tP g B W ml σ H1 fun l H2 => tP g B W mh σ H2 fun u H3 => ∃ s3 x, SR g B env s3 σ H3 ∧ Evo s H s3 H3 ∧ VlRep g B env σ s3 H3 x v ∧ PostE g B W env s3 σ H3 (f x l u s3.h) Q := by
  refine ⟨env, s, sr, ?_⟩
  cases e1 : m env s.h with
  | ok x h1 =>
    rw [e1] at p
    intro v H1 s1 q1 ev1 sr1 r1
    refine ⟨env, s1, sr1, ?_⟩
    rw [q1]
    have p : PostE g B W env s σ H ((ml env h1).bind fun l h2 => (mh env h2).bind fun u h3 => f x l u h3) Q := p
    cases e2 : ml env h1 with
    | ok l h2 =>
      rw [e2] at p
      intro H2 s2 q2 ev2 sr2
      refine ⟨env, s2, sr2, ?_⟩
      rw [q2]
      have p : PostE g B W env s σ H ((mh env h2).bind fun u h3 => f x l u h3) Q := p
      cases e3 : mh env h2 with
      | ok u h3 =>
        rw [e3] at p
        intro H3 s3 q3 ev3 sr3
        refine ⟨s3, x, sr3, (ev1.trans ev2).trans ev3, (r1.evo ev2).evo ev3, ?_⟩
        rw [q3]
        exact PostE.later ((ev1.trans ev2).trans ev3) p
      | exc y h =>
        rw [e3] at p
        intro cls dd H3 s3 q3 ev3 sr3 xr
        exact p cls dd H3 s3 q3 ((ev1.trans ev2).trans ev3) sr3 xr
      | stuck => rw [e3] at p; exact p
    | exc y h =>
      rw [e2] at p
      intro cls dd H2 s2 q2 ev2 sr2 xr
      exact p cls dd H2 s2 q2 (ev1.trans ev2) sr2 xr
    | stuck => rw [e2] at p; exact p
  | exc y h => rw [e1] at p; exact p
  | stuck => rw [e1] at p; exact p
theorem cutL_whole {α : Type} {xs : List α} {lo hi : Option Int} (h : HT.sIx xs.length 0 lo = 0 ∧ HT.sIx xs.length xs.length hi = xs.length) : cutL xs lo hi = xs := by
  unfold cutL
  rw [h.1, h.2, List.drop_zero]
  exact List.take_of_length_le (by omega)
theorem ve_slice (o : Bool) (hK : g.K = X.K) (he : PE X e (tE g B W m)) (hl : PO X lo (tP g B W ml)) (hh : PO X hi (tP g B W mh)) : PE X (.Subscript e (.Slice lo hi none p2) pos) (tE g B W (mSl o m ml mh)) := by
  refine pe_imp (pe_slice (SlR.or (SlR.or sl_list sl_tupA) C8.sl_txt) he hl hh) fun σ H Q ⟨env, s, sr, p⟩ => ?_
  refine (bindO sr p).mono fun v H1 q1 => ?_
  obtain ⟨env1, s1, sr1, q1⟩ := q1
  refine ⟨env1, s1, sr1, ?_⟩
  revert q1
  cases ml env1 s1.h with
  | exc x h => exact fun q => q
  | stuck => exact fun q => q
  | ok l h =>
    intro q1 H2 s2 e2 ev2 sr2
    obtain ⟨env3, s3, sr3, q3⟩ := q1 H2 s2 e2 ev2 sr2
    refine ⟨env3, s3, sr3, ?_⟩
    revert q3
    cases mh env3 s3.h with
    | exc x h => exact fun q => q
    | stuck => exact fun q => q
    | ok u h =>
      intro q3 H4 s4 e4 ev4 sr4
      obtain ⟨s5, x, sr5, ev5, r5, p5⟩ := q3 H4 s4 e4 ev4 sr4
      unfold fSl at p5
      split at p5
      · next xs ex =>
        obtain ⟨a, vs, rfl, h1, h2⟩ := r5.lst sr5.good ex
        refine .inl (.inl ⟨a, vs, rfl, hK ▸ h1, fun q hq => ?_⟩)
        have hc : Reps g s5.F s5.al (cutL xs l u) (cutV vs l u) := by
          unfold cutL cutV
          rw [h2.length]
          exact (h2.drop _).take _
        exact PostE.newLO sr5 p5 hc hq
      · split at p5
        · next xs ex =>
          obtain ⟨a, vs, rfl, h1, h2⟩ := r5.tup sr5.good (ptup_tup ex)
          have hc : Reps g s5.F s5.al (cutL xs l u) (cutV vs l u) := by
            unfold cutL cutV
            rw [h2.length]
            exact (h2.drop _).take _
          refine .inl (.inr ⟨a, vs, rfl, hK ▸ h1, fun hw => ?_, fun hw q hq => PostE.newT sr5 p5 hc hq⟩)
          rw [h2.length] at hw
          rw [cutL_whole hw] at p5
          obtain rfl := tup?_eq ex
          exact PostE.pure sr5 p5 r5
        · split at p5
          · next z _ _ =>
            split at p5
            · next hz => exact .inr ⟨z, r5, size_of hz, PostE.pure sr5 p5 rfl⟩
            · exact p5.elim
          · exact p5.elim
def rRevL (K : PySem.W.Frag) : V → Hp → VK → Prop := fun x H Q => ∃ a xs, x = .ref a ∧ SqL K H a xs ∧ ∀ p, H p = none → Q (.ref p) (upd H p (.lst xs.reverse))
def fRev (o : Bool) (x : Vl) (h : Hc) : R Vl := match lst? h x with
  | some xs => .ok (Vl.ofL o xs.reverse) h
  | none => .stuck
theorem Reps.reverse {F : Hp} {al : Nat → Option Addr} : ∀ {ds : List D} {vs : List V}, Reps g F al ds vs → Reps g F al ds.reverse vs.reverse
  | [], vs, r => by
    cases r
    rfl
  | d :: ds, vs, r => by
    obtain ⟨v, ws, rfl, r1, r2⟩ := r
    rw [List.reverse_cons, List.reverse_cons]
    exact (Reps.reverse r2).append (Reps.cons r1 Reps.nil)
end
end Vi
namespace Vi
open PySem L2 PyProof.Rows
section
variable {g : Gi} {B : Bg} {W : WXv} {env : Env} {s : Sta} {σ : L2.St} {H : Hp}
theorem SR.addC {p : Addr} {o : HO} {c : Cell} (sr : SR g B env s σ H) (hp : H p = none) (hc : CellRep g s (upd H p o) p c) (nf : ∀ c0, c ≠ .frz c0) :
    SR g B env (s.addC p c) σ (upd H p o) ∧ Evo s H (s.addC p c) (upd H p o) := by
  obtain ⟨sr1, ev1⟩ := sr.new (o := o) hp
  have ow := sr.own_new hp
  have le := addC_le (a := p) (c := c) sr.good
  have gd := addC_goodC sr1.good hc ⟨o, upd_same⟩ ow.f ow.al nf
  refine ⟨⟨gd, addC_evo sr1.good sr1.evo ow.new, sr.len, fun i sl h => ?_, sr.sep⟩, addC_evo sr1.good ev1 hp⟩
  obtain ⟨v, h1, h2⟩ := sr.slot i sl h
  refine ⟨v, h1, ?_⟩
  have al' : ∀ {a : Addr} {u : HO}, H a = some u → (∀ n, s.al n ≠ some a) → ∀ n, (s.addC p c).al n ≠ some a := fun {a u} ha hn n z => by
    have z : (if n = s.h.length then some p else s.al n) = some a := z
    by_cases e : n = s.h.length
    · rw [if_pos e] at z
      cases z
      rw [hp] at ha
      cases ha
    · rw [if_neg e] at z
      exact hn n z
  cases sl with
  | d x => exact h2.mono le.f le.al
  | ol xs =>
    obtain ⟨a, vs, rfl, h3, h4, h5⟩ := h2
    exact ⟨a, vs, rfl, by rw [upd_ne (ne_of_none h3 hp)]; exact h3, ⟨h4.f, al' h3 h4.al, h4.new⟩, h5.mono le.f le.al⟩
  | oi c' fs =>
    obtain ⟨a, dx, vs, rfl, h3, h4, h5, h6⟩ := h2
    exact ⟨a, dx, vs, rfl, by rw [upd_ne (ne_of_none h3 hp)]; exact h3, ⟨h4.f, al' h3 h4.al, h4.new⟩, h5.mono le.f le.al, h6⟩
  | xc c' fs =>
    obtain ⟨h3, h4, vs, h5, h6, h7⟩ := h2
    exact ⟨h3, h4, vs, by rw [upd_ne (ne_of_none h5 hp)]; exact h5, al' h5 h6, h7.mono le.f le.al⟩
theorem PostE.newC {c : Cell} {o : HO} {p : Addr} {Q : VK} (sr : SR g B env s σ H) (h : PostE g B W env s σ H (.ok (.d (.ref s.h.length)) (s.h ++ [c])) Q) (hp : H p = none) (hc : CellRep g s (upd H p o) p c) (nf : ∀ c0, c ≠ .frz c0) : Q (.ref p) (upd H p o) := by
  obtain ⟨sr1, ev⟩ := sr.addC hp hc nf
  exact h _ _ _ rfl ev sr1 ⟨p, rfl, if_pos rfl⟩
end
@[simp] def mNewT : ME := fun _ h => .ok (.d (.ref h.length)) (h ++ [.dT []])
@[simp] def mNewK : ME := fun _ h => .ok (.d (.ref h.length)) (h ++ [.dK []])
section
variable {X : Cx} {g : Gi} {B : Bg} {W : WXv} {pos : Pos}
end
inductive DV where
  | k (kvs : List (Key × D)) | t (kvs : List (List Key × D))
def dv? (x : Vl) (h : Hc) : Option DV := match x with
  | .d (.dK kvs) => some (.k kvs)
  | .d (.dT kvs) => some (.t kvs)
  | .d (.ref n) => (match h[n]?.map Cell.bare with
    | some (.dK kvs) => some (.k kvs)
    | some (.dT kvs) => some (.t kvs)
    | some (.lk kvs) => some (.k kvs)
    | _ => none)
  | _ => none
def key? : D → Option Key
  | .int i => some (.inl i)
  | .str x => some (.inr x)
  | _ => none
def keys? : List D → Option (List Key)
  | [] => some []
  | x :: r => match key? x, keys? r with
    | some k, some ks => some (k :: ks)
    | _, _ => none
section
variable {κ : Type} [DecidableEq κ]
def getD' : List (κ × D) → κ → Option D
  | [], _ => none
  | (k, d) :: r, q => if k = q then some d else getD' r q
def putD' (kvs : List (κ × D)) (q : κ) (d : D) : List (κ × D) := match getD' kvs q with
  | some _ => kvs.map fun kv => if kv.1 = q then (kv.1, d) else kv
  | none => kvs ++ [(q, d)]
end
section
variable {g : Gi} {F : Hp} {al : Nat → Option Addr}
theorem RepK.get : ∀ {kvs : List (Key × D)} {vs : List (Key × V)} (q : Key), RepK g F al kvs vs → (match getD' kvs q with
    | some d => ∃ v, valV vs q = some v ∧ Rep g F al d v
    | none => valV vs q = none)
  | [], vs, q, r => by
    cases r
    rfl
  | (k, d) :: kvs, vs, q, r => by
    obtain ⟨v, ws, rfl, r1, r2⟩ := r
    unfold getD'
    by_cases e : k = q
    · rw [if_pos e]
      exact ⟨v, valV_pos (p := (k, v)) e, r1⟩
    · rw [if_neg e, valV_neg (p := (k, v)) e]
      exact RepK.get q r2
theorem RepT.get : ∀ {kvs : List (List Key × D)} {vs : List (List Key × V)} (q : List Key), RepT g F al kvs vs → (match getD' kvs q with
    | some d => ∃ v, valV vs q = some v ∧ Rep g F al d v
    | none => valV vs q = none)
  | [], vs, q, r => by
    cases r
    rfl
  | (k, d) :: kvs, vs, q, r => by
    obtain ⟨v, ws, rfl, r1, r2⟩ := r
    unfold getD'
    by_cases e : k = q
    · rw [if_pos e]
      exact ⟨v, valV_pos (p := (k, v)) e, r1⟩
    · rw [if_neg e, valV_neg (p := (k, v)) e]
      exact RepT.get q r2
theorem RepK.repl {q : Key} {d : D} {v : V} (rd : Rep g F al d v) : ∀ {kvs : List (Key × D)} {vs : List (Key × V)}, RepK g F al kvs vs → RepK g F al (kvs.map fun kv => if kv.1 = q then (kv.1, d) else kv) (vs.map fun kv => if kv.1 = q then (kv.1, v) else kv)
  | [], vs, r => by
    cases r
    rfl
  | (k, e) :: kvs, vs, r => by
    obtain ⟨u, ws, rfl, r1, r2⟩ := r
    rw [List.map_cons, List.map_cons]
    by_cases z : k = q
    · rw [if_pos z, if_pos z]
      exact ⟨v, _, rfl, rd, RepK.repl rd r2⟩
    · rw [if_neg z, if_neg z]
      exact ⟨u, _, rfl, r1, RepK.repl rd r2⟩
theorem RepT.repl {q : List Key} {d : D} {v : V} (rd : Rep g F al d v) : ∀ {kvs : List (List Key × D)} {vs : List (List Key × V)}, RepT g F al kvs vs → RepT g F al (kvs.map fun kv => if kv.1 = q then (kv.1, d) else kv) (vs.map fun kv => if kv.1 = q then (kv.1, v) else kv)
  | [], vs, r => by
    cases r
    rfl
  | (k, e) :: kvs, vs, r => by
    obtain ⟨u, ws, rfl, r1, r2⟩ := r
    rw [List.map_cons, List.map_cons]
    by_cases z : k = q
    · rw [if_pos z, if_pos z]
      exact ⟨v, _, rfl, rd, RepT.repl rd r2⟩
    · rw [if_neg z, if_neg z]
      exact ⟨u, _, rfl, r1, RepT.repl rd r2⟩
theorem RepK.snoc {q : Key} {d : D} {v : V} (rd : Rep g F al d v) : ∀ {kvs : List (Key × D)} {vs : List (Key × V)}, RepK g F al kvs vs → RepK g F al (kvs ++ [(q, d)]) (vs ++ [(q, v)])
  | [], vs, r => by
    cases r
    exact ⟨v, [], rfl, rd, rfl⟩
  | (k, e) :: kvs, vs, r => by
    obtain ⟨u, ws, rfl, r1, r2⟩ := r
    exact ⟨u, _, rfl, r1, RepK.snoc rd r2⟩
theorem RepT.snoc {q : List Key} {d : D} {v : V} (rd : Rep g F al d v) : ∀ {kvs : List (List Key × D)} {vs : List (List Key × V)}, RepT g F al kvs vs → RepT g F al (kvs ++ [(q, d)]) (vs ++ [(q, v)])
  | [], vs, r => by
    cases r
    exact ⟨v, [], rfl, rd, rfl⟩
  | (k, e) :: kvs, vs, r => by
    obtain ⟨u, ws, rfl, r1, r2⟩ := r
    exact ⟨u, _, rfl, r1, RepT.snoc rd r2⟩
theorem put_old {κ : Type} [DecidableEq κ] {kvs : List (κ × V)} {k : κ} {v w : V} (h : valV kvs k = some w) : putK kvs k v = kvs.map fun kv => if kv.1 = k then (kv.1, v) else kv := by
  have e := valV_any k kvs
  rw [h] at e
  unfold putK
  exact if_pos e
theorem RepK.put {q : Key} {d : D} {v : V} (rd : Rep g F al d v) {kvs : List (Key × D)} {vs : List (Key × V)} (r : RepK g F al kvs vs) : RepK g F al (putD' kvs q d) (putK vs q v) := by
  have e := r.get q
  unfold putD'
  split at e
  · next d' h =>
    obtain ⟨w, hw, _⟩ := e
    rw [put_old hw]
    exact r.repl rd
  · next h =>
    rw [putK_new v e]
    exact r.snoc rd
theorem RepT.put {q : List Key} {d : D} {v : V} (rd : Rep g F al d v) {kvs : List (List Key × D)} {vs : List (List Key × V)} (r : RepT g F al kvs vs) : RepT g F al (putD' kvs q d) (putK vs q v) := by
  have e := r.get q
  unfold putD'
  split at e
  · next d' h =>
    obtain ⟨w, hw, _⟩ := e
    rw [put_old hw]
    exact r.repl rd
  · next h =>
    rw [putK_new v e]
    exact r.snoc rd
theorem RepK.length : ∀ {kvs : List (Key × D)} {vs : List (Key × V)}, RepK g F al kvs vs → vs.length = kvs.length
  | [], vs, r => by
    cases r
    rfl
  | (k, d) :: kvs, vs, r => by
    obtain ⟨v, ws, rfl, r1, r2⟩ := r
    exact congrArg (· + 1) (RepK.length r2)
theorem RepT.length : ∀ {kvs : List (List Key × D)} {vs : List (List Key × V)}, RepT g F al kvs vs → vs.length = kvs.length
  | [], vs, r => by
    cases r
    rfl
  | (k, d) :: kvs, vs, r => by
    obtain ⟨v, ws, rfl, r1, r2⟩ := r
    exact congrArg (· + 1) (RepT.length r2)
theorem key_rep {d : D} {v : V} {k : Key} (r : Rep g F al d v) (e : key? d = some k) : v = kV k := by
  cases d <;> cases e <;> exact r
theorem keys_rep : ∀ {ds : List D} {vs : List V} {ks : List Key}, Reps g F al ds vs → keys? ds = some ks → vs = ks.map kV
  | [], vs, ks, r, e => by
    cases e
    exact r
  | d :: ds, vs, ks, r, e => by
    obtain ⟨v, ws, rfl, r1, r2⟩ := r
    unfold keys? at e
    split at e
    · next k ks' e1 e2 =>
      cases e
      rw [key_rep r1 e1, keys_rep r2 e2]
      rfl
    · cases e
end
end Vi
namespace Vi
open PySem L2 PyProof.Rows
def DvRep (g : Gi) (s : Sta) (H : Hp) (a : Addr) : DV → Prop
  | .k kvs => ∃ vs, Rd H a (.dK vs) ∧ RepK g s.F s.al kvs vs
  | .t kvs => ∃ vs, H a = some (.dT vs) ∧ RepT g s.F s.al kvs vs
section
variable {g : Gi} {B : Bg} {W : WXv} {env : Env} {s : Sta} {σ : L2.St} {H : Hp}
theorem VlRep.dv {x : Vl} {v : V} {d : DV} (gd : Good g s H) (r : VlRep g B env σ s H x v) (e : dv? x s.h = some d) : ∃ a, v = .ref a ∧ DvRep g s H a d := by
  unfold dv? at e
  split at e
  · cases e
    obtain ⟨a, vs, h1, h2, h3⟩ := r
    exact ⟨a, h1, vs, .inl (gd.fle _ _ h2), h3⟩
  · cases e
    obtain ⟨a, vs, h1, h2, h3⟩ := r
    exact ⟨a, h1, vs, gd.fle _ _ h2, h3⟩
  · next n =>
    obtain ⟨a, rfl, hal⟩ := r
    refine ⟨a, rfl, ?_⟩
    cases e1 : s.h[n]? with
    | none =>
      rw [e1] at e
      cases e
    | some c =>
      rw [e1] at e
      obtain ⟨b, g1, g2⟩ := gd.cell n c e1
      rw [hal] at g1
      cases g1
      have g3 := g2.bare
      have e : (match some c.bare with
        | some (.dK kvs) => some (DV.k kvs)
        | some (.dT kvs) => some (.t kvs)
        | some (.lk kvs) => some (.k kvs)
        | _ => none) = some d := e
      cases ec : c.bare with
      | dK kvs =>
        rw [ec] at e g3
        cases e
        obtain ⟨vs, h1, h2⟩ := g3
        exact ⟨vs, .inl h1, h2⟩
      | lk kvs =>
        rw [ec] at e g3
        cases e
        obtain ⟨od, vs, h1, h2⟩ := g3
        exact ⟨vs, .inr ⟨od, h1⟩, h2⟩
      | dT kvs =>
        rw [ec] at e g3
        cases e
        exact g3
      | _ =>
        rw [ec] at e
        cases e
  · cases e
end
def dGet (kc : List D → Bool) (dv : DV) (y : D) : Option (Option D) := match dv with
  | .k kvs => (key? y).map (getD' kvs)
  | .t kvs => (match y with
    | .tup ds => if kc ds then none else (keys? ds).map (getD' kvs)
    | _ => none)
section
variable {g : Gi} {B : Bg} {W : WXv} {env : Env} {s : Sta} {σ : L2.St} {H : Hp}
theorem dget_of {dv : DV} {a : Addr} {y : D} {w : V} {o : Option D} (gd : Good g s H) (rd : DvRep g s H a dv) (ry : Rep g s.F s.al y w) (e : dGet g.kc dv y = some o) :
    ∃ ov, DGet H a w ov ∧ (match (generalizing := false) o with
      | some d => ∃ v, ov = some v ∧ Rep g s.F s.al d v
      | none => ov = none) := by
  cases dv with
  | k kvs =>
    obtain ⟨vs, h1, h2⟩ := rd
    have e : (key? y).map (getD' kvs) = some o := e
    obtain ⟨k, e1, rfl⟩ := Option.map_eq_some_iff.mp e
    have hw := key_rep ry e1
    subst hw
    exact ⟨_, .inl ⟨vs, k, h1, rfl, rfl⟩, h2.get k⟩
  | t kvs =>
    obtain ⟨vs, h1, h2⟩ := rd
    cases y with
    | tup ds =>
      have e : (if g.kc ds then none else (keys? ds).map (getD' kvs)) = some o := e
      obtain ⟨b, us, rfl, h3, h4⟩ := ry
      by_cases hk : g.kc ds = true
      · rw [if_pos hk] at e
        cases e
      · rw [if_neg hk] at e
        obtain ⟨ks, e1, rfl⟩ := Option.map_eq_some_iff.mp e
        have hu := keys_rep h4 e1
        subst hu
        have hb : H b = some (.tup (ks.map kV)) := by
          rcases h3 with h3 | h3
          · exact gd.fle _ _ h3
          · exact absurd h3.1 hk
        exact ⟨_, .t h1 hb, h2.get ks⟩
    | _ => cases e
end
def fDIx (kc : List D → Bool) (x y : Vl) (h : Hc) : R Vl := match dv? x h, y with
  | some dv, .d y => (match dGet kc dv y with
    | some (some d) => .ok (.d d) h
    | _ => .stuck)
  | _, _ => .stuck
def fIxD (kc : List D → Bool) (x y : Vl) (h : Hc) : R Vl := if (dv? x h).isSome then fDIx kc x y h else fIx x y h
def fDIn (neg : Bool) (kc : List D → Bool) (x y : Vl) (h : Hc) : R Vl := match dv? y h, x with
  | some dv, .d x => (match dGet kc dv x with
    | some o => .ok (.d (nB neg o.isSome)) h
    | none => .stuck)
  | _, _ => .stuck
def fInD (neg : Bool) (kc : List D → Bool) (x y : Vl) (h : Hc) : R Vl := if (dv? y h).isSome then fDIn neg kc x y h else fIn neg x y h
section
variable {X : Cx} {g : Gi} {B : Bg} {W : WXv} {pos apos cpos tpos : Pos} {e a b o k : Expr} {m n1 n2 ma mb mo mk mx : ME}
theorem op_dIn (hu : X.A.units + 64 < cLine) : OpR X (compareOp .In) (fun x y H Q => ∃ a o, y = .ref a ∧ DGet H a x o ∧ Q (.bl o.isSome) H) := by
  intro pins s σ H x y v u Q I rx ry ⟨a, o, e, d, q⟩
  subst e
  cases ry
  exact d_in (by omega) I d rx fun s' I' => ⟨.bl _, H, I', rfl, q⟩
theorem o_ind (hK : g.K = X.K) (hu : X.A.units + 65 < cLine) : OpV X g (compareOp .In) (fInD false g.kc) := by
  obtain ⟨r0, o0, i0⟩ := o_in (X := X) (g := g) hK hu
  refine ⟨_, OpR.or (op_dIn (by omega)) o0, fun B W env s σ H x y v w Q sr r1 r2 p => ?_⟩
  unfold fInD at p
  split at p
  · unfold fDIn at p
    split at p
    · next dv x e1 =>
      split at p
      · next od e2 =>
        obtain ⟨c, rfl, h1⟩ := r2.dv sr.good e1
        obtain ⟨ov, h2, h3⟩ := dget_of sr.good h1 r1 e2
        refine .inl ⟨c, ov, rfl, h2, ?_⟩
        have eo : od.isSome = ov.isSome := by
          cases od with
          | none => rw [show ov = none from h3]; rfl
          | some d => obtain ⟨v, rfl, _⟩ := h3; rfl
        rw [← eo]
        exact PostE.pure sr p rfl
      · exact p.elim
    · exact p.elim
  · exact .inr (i0 B W env s σ H x y v w Q sr r1 r2 p)
def fDGet (kc : List D → Bool) (x y : Vl) (z : D) (h : Hc) : R Vl := match dv? x h, y with
  | some dv, .d y => (match dGet kc dv y with
    | some (some d) => .ok (.d d) h
    | some none => .ok (.d z) h
    | none => .stuck)
  | _, _ => .stuck
def mDGet1 (kc : List D → Bool) (mo mk : ME) : ME := fun env h => (mo env h).bind fun x h1 => if (dv? x h1).isSome then (mk env h1).bind fun y h2 => fDGet kc x y .non h2 else .stuck
def mDGet2 (kc : List D → Bool) (mo mk mx : ME) : ME := fun env h => (mo env h).bind fun x h1 => if (dv? x h1).isSome then (mk env h1).bind fun y h2 => (mx env h2).bind fun z h3 => match z with
  | .d z => fDGet kc x y z h3
  | _ => .stuck else .stuck
theorem DvRep.isD {s : Sta} {H : Hp} {a : Addr} {d : DV} (r : DvRep g s H a d) : IsD H a := by
  cases d with
  | k kvs => obtain ⟨vs, h1, _⟩ := r; exact .inl ⟨vs, h1⟩
  | t kvs => obtain ⟨vs, h1, _⟩ := r; exact .inr ⟨vs, .inl h1⟩
theorem fDGet_post {env : Env} {s : Sta} {σ : L2.St} {H : Hp} {Q : VK} {x y : Vl} {z : D} {a : Addr} {w u : V} (sr : SR g B env s σ H) (r1 : VlRep g B env σ s H x (.ref a)) (r2 : VlRep g B env σ s H y w) (r3 : Rep g s.F s.al z u) (p : PostE g B W env s σ H (fDGet g.kc x y z s.h) Q) :
    ∃ o, DGet H a w o ∧ Q (o.getD u) H := by
  unfold fDGet at p
  split at p
  · next dv y e1 =>
    obtain ⟨c, ec, h1⟩ := r1.dv sr.good e1
    cases ec
    split at p
    · next d e2 =>
      obtain ⟨ov, h2, v, rfl, h3⟩ := dget_of sr.good h1 r2 e2
      exact ⟨_, h2, PostE.pure sr p h3⟩
    · next e2 =>
      obtain ⟨ov, h2, h3⟩ := dget_of sr.good h1 r2 e2
      obtain rfl : ov = none := h3
      exact ⟨_, h2, PostE.pure sr p r3⟩
    · exact p.elim
  · exact p.elim
theorem ve_dget2 (hu : X.A.units + 64 < cLine) (ho : PE X o (tE g B W mo)) (hk : PE X k (tE g B W mk)) (hx : PE X e (tE g B W mx)) (hm : M2 X o "get" apos k e cpos) : PE X (.Call (.Attribute o "get" apos) [k, e] [] cpos) (tE g B W (mDGet2 g.kc mo mk mx)) := by
  refine pe_imp (pe_dget2 (by omega) ho hk hx hm) fun σ H Q ⟨env, s, sr, p⟩ => ?_
  refine (bindE (Q := Q) sr p).mono fun v H1 ⟨s1, x, sr1, ev1, r1, p1⟩ => ?_
  split at p1
  · next hs =>
    obtain ⟨dv, e1⟩ := Option.isSome_iff_exists.mp hs
    obtain ⟨a, rfl, h1⟩ := r1.dv sr1.good e1
    refine ⟨a, rfl, h1.isD, ?_⟩
    refine (bindE (Q := Q) sr1 p1).mono fun w H2 ⟨s2, y, sr2, ev2, r2, p2⟩ => ?_
    refine (bindE (Q := Q) sr2 p2).mono fun u H3 ⟨s3, z, sr3, ev3, r3, p3⟩ => ?_
    cases z with
    | d z => exact fDGet_post sr3 ((r1.evo ev2).evo ev3) (r2.evo ev3) r3 p3
    | _ => exact p3.elim
  · exact p1.elim
def dPut (kc : List D → Bool) (c : Cell) (y v : D) : Option Cell := match c with
  | .dK kvs => if kvs.length < 100000 then (key? y).map fun k => .dK (putD' kvs k v) else none
  | .dT kvs => (match y with
    | .tup ds => if kc ds then none else if kvs.length < 100000 then (keys? ds).map fun k => .dT (putD' kvs k v) else none
    | _ => none)
  | _ => none
def fDPut (kc : List D → Bool) (env : Env) (x y z : Vl) (h : Hc) : RS := match x, y, z with
  | .d v, .d (.ref n), .d k => (match h[n]? with
    | some c => (match dPut kc c k v with
      | some c' => .nx env (h.set n c')
      | none => .stuck)
    | none => .stuck)
  | _, _, _ => .stuck
def mDPut (kc : List D → Bool) (e o k : ME) : MS := fun env h => (e env h).thenS env fun x h1 => (o env h1).thenS env fun y h2 => (k env h2).thenS env fun z h3 => fDPut kc env x y z h3
theorem vs_dput (hu : X.A.units + 64 < cLine) (he : PE X e (tE g B W m)) (ho : PE X o (tE g B W mo)) (hk : PE X k (tE g B W mk)) (hs : swapsWith e (some (.Subscript o k tpos)) pos.line X.env = pure false := by rfl) :
    PS X (.Assign [.Subscript o k tpos] e pos) (tS g B W (mDPut g.kc m mo mk)) := by
  refine ps_imp (ps_dput (by omega) ho hk he hs) fun N σ H ⟨env, s, sr, p⟩ => ?_
  refine (bindS sr p).mono fun v H1 ⟨s1, x, sr1, l1, r1, p1⟩ => ?_
  have two := bind2S (W := W) (N := N) (f := fDPut g.kc env x) sr1 p1
  refine two.mono fun ov H2 q => q.mono fun kv H3 ⟨s3, y, z, sr3, e3, r2, r3, p3⟩ => ?_
  have r1' := r1.evo e3
  unfold fDPut at p3
  split at p3
  · next d n k =>
    split at p3
    · next c hc =>
      split at p3
      · next c' hp =>
        obtain ⟨a, rfl, hal⟩ := r2
        obtain ⟨a2, g1, g2⟩ := sr3.good.cell _ _ hc
        rw [hal] at g1
        cases g1
        cases c with
        | dK kvs =>
          obtain ⟨vs, h3, q1⟩ := g2
          unfold dPut at hp
          dsimp only at hp
          split at hp
          · next hl =>
            obtain ⟨kk, ek, rfl⟩ := Option.map_eq_some_iff.mp hp
            have hw := key_rep r3 ek
            subst hw
            refine ⟨a, _, rfl, .k h3 (by rw [q1.length]; exact size_lt hl), ?_⟩
            exact p3 σ _ { s3 with h := s3.h.set _ _ } rfl ⟨fun _ _ z => z, fun _ _ z => z, fun _ _ z => z⟩ (sr3.cell hc hal (fun _ z => by cases z) (fun _ z => by cases z) ⟨_, upd_same, q1.put r1'⟩)
          · cases hp
        | dT kvs =>
          obtain ⟨vs, h3, q1⟩ := g2
          unfold dPut at hp
          dsimp only at hp
          split at hp
          · next ds =>
            split at hp
            · cases hp
            · next hk =>
              split at hp
              · next hl =>
                obtain ⟨kk, ek, rfl⟩ := Option.map_eq_some_iff.mp hp
                obtain ⟨b, us, rfl, h5, h6⟩ := r3
                have hw := keys_rep h6 ek
                subst hw
                have hb : H3 b = some (.tup (kk.map kV)) := by
                  rcases h5 with h5 | h5
                  · exact sr3.good.fle _ _ h5
                  · exact absurd h5.1 hk
                refine ⟨a, _, rfl, .t h3 hb (by rw [q1.length]; exact size_lt hl), ?_⟩
                exact p3 σ _ { s3 with h := s3.h.set _ _ } rfl ⟨fun _ _ z => z, fun _ _ z => z, fun _ _ z => z⟩ (sr3.cell hc hal (fun _ z => by cases z) (fun _ z => by cases z) ⟨_, upd_same, q1.put r1'⟩)
              · cases hp
          · cases hp
        | _ => cases hp
      · exact p3.elim
    · exact p3.elim
  · exact p3.elim
end
end Vi
namespace Vi
open PySem L2 PyProof.Rows
def Cell.isF : Cell → Bool
  | .frz _ => true
  | _ => false
def ourZ (h : Hc) (n : Nat) : Bool := match h[n]? with
  | some c => n != 0 && !c.isF
  | none => false
def frzOne (i : Nat) (c : Cell) : Cell := if i != 0 && !c.isF then .frz c else c
def frzAll (h : Hc) : Hc := h.mapIdx frzOne
def thawOne (h : Hc) (i : Nat) (c : Cell) : Cell := if ourZ h i then c.bare else c
def thaw (h h2 : Hc) : Hc := h2.mapIdx (thawOne h)
def RS.mapH (f : Hc → Hc) : RS → RS
  | .nx e h => .nx e (f h)
  | .ret d h => .ret d (f h)
  | .brk e h => .brk e (f h)
  | .cnt e h => .cnt e (f h)
  | .exc e x h => .exc e x (f h)
  | .stuck => .stuck
def mFrzd (m : MS) : MS := fun env h => (m env (frzAll h)).mapH (thaw h)
theorem bare_isF : ∀ c : Cell, c.bare.isF = false
  | .lst _ => rfl
  | .ins _ _ => rfl
  | .dK _ => rfl
  | .dT _ => rfl
  | .lk _ => rfl
  | .frz c => bare_isF c
theorem ourZ_of {h : Hc} {n : Nat} {c : Cell} (e : h[n]? = some c) : ourZ h n = (n != 0 && !c.isF) := by
  unfold ourZ
  rw [e]
section
variable {g : Gi} {B : Bg} {W : WXv} {env : Env} {s : Sta} {σ : L2.St} {H : Hp}
def Sta.frzA (s : Sta) (H : Hp) : Sta := { s with h := frzAll s.h, z := fun n => if ourZ s.h n then (s.al n).bind H else s.z n }
def Sta.thawA (s0 s : Sta) : Sta := { s with h := thaw s0.h s.h, z := fun n => if ourZ s0.h n then none else s.z n }
theorem frzA_at {n : Nat} : (frzAll s.h)[n]? = (s.h[n]?).map (frzOne n) := by
  unfold frzAll
  rw [List.getElem?_mapIdx]
theorem zed_not {gd : Good g s H} {n : Nat} {o : HO} (h : s.z n = some o) : ourZ s.h n = false := by
  obtain ⟨a, c, _, _, h3⟩ := gd.zed.at_ n o h
  rw [ourZ_of h3]
  simp [Cell.isF]
theorem good_frzA (gd : Good g s H) : Good g (s.frzA H) H := by
  refine ⟨gd.fle, gd.inj, fun n a h => ?_, fun n c h => ?_, ⟨fun n o h => ?_, fun n c h => ?_⟩⟩
  · obtain ⟨h1, h2, h3⟩ := gd.dom n a h
    refine ⟨?_, h2, h3⟩
    show n < (frzAll s.h).length
    unfold frzAll
    rw [List.length_mapIdx]
    exact h1
  · have h : (frzAll s.h)[n]? = some c := h
    rw [frzA_at] at h
    obtain ⟨d, h1, rfl⟩ := Option.map_eq_some_iff.mp h
    obtain ⟨a, h2, h3⟩ := gd.cell n d h1
    refine ⟨a, h2, ?_⟩
    have h4 : CellRep g (s.frzA H) H a d := CellRep.mv (s := s) (s' := s.frzA H) (H := H) (fun _ z => z) (fun _ _ z => z) (fun _ _ z => z) h3
    unfold frzOne
    split
    · exact h4
    · exact h4
  · have h : (if ourZ s.h n then (s.al n).bind H else s.z n) = some o := h
    by_cases ho : ourZ s.h n = true
    · rw [if_pos ho] at h
      obtain ⟨a, h1, h2⟩ := Option.bind_eq_some_iff.mp h
      unfold ourZ at ho
      split at ho
      · next c hc =>
        refine ⟨a, c, h1, h2, ?_⟩
        show (frzAll s.h)[n]? = _
        rw [frzA_at, hc, Option.map_some]
        unfold frzOne
        rw [if_pos ho]
      · cases ho
    · rw [if_neg ho] at h
      obtain ⟨a, c, h1, h2, h3⟩ := gd.zed.at_ n o h
      refine ⟨a, c, h1, h2, ?_⟩
      show (frzAll s.h)[n]? = _
      rw [frzA_at, h3, Option.map_some]
      unfold frzOne
      simp [Cell.isF]
  · have h : (frzAll s.h)[n]? = some (.frz c) := h
    rw [frzA_at] at h
    obtain ⟨d, h1, h2⟩ := Option.map_eq_some_iff.mp h
    show ∃ o, (if ourZ s.h n then (s.al n).bind H else s.z n) = some o
    by_cases ho : ourZ s.h n = true
    · rw [if_pos ho]
      obtain ⟨a, h3, h4⟩ := gd.cell n d h1
      obtain ⟨_, _, o, h5⟩ := gd.dom n a h3
      exact ⟨o, by rw [h3]; exact h5⟩
    · rw [if_neg ho]
      have hf : ¬ (n != 0 && !d.isF) = true := by
        rw [ourZ_of h1] at ho
        exact ho
      unfold frzOne at h2
      rw [if_neg hf] at h2
      subst h2
      exact gd.zed.of n c h1
theorem evo_frzA {s0 : Sta} {H0 : Hp} (gd : Good g s H) (e : Evo s0 H0 s H) : Evo s0 H0 (s.frzA H) H := by
  refine ⟨e.f, e.al, e.oth, ?_, fun n o h => ?_⟩
  · show s0.h.length ≤ (frzAll s.h).length
    unfold frzAll
    rw [List.length_mapIdx]
    exact e.len
  · have h1 := e.z n o h
    show (if ourZ s.h n then (s.al n).bind H else s.z n) = some o
    rw [zed_not (gd := gd) h1]
    exact h1
theorem SR.frzA (sr : SR g B env s σ H) : SR g B env (s.frzA H) σ H :=
  ⟨good_frzA sr.good, evo_frzA sr.good sr.evo, sr.len, fun i sl h => by
    obtain ⟨v, h1, h2⟩ := sr.slot i sl h
    refine ⟨v, h1, ?_⟩
    cases sl with
    | d x => exact h2
    | ol xs => obtain ⟨a, vs, e1, e2, e3, e4⟩ := h2; exact ⟨a, vs, e1, e2, ⟨e3.f, e3.al, e3.new⟩, e4⟩
    | oi c fs => obtain ⟨a, dx, vs, e1, e2, e3, e4⟩ := h2; exact ⟨a, dx, vs, e1, e2, ⟨e3.f, e3.al, e3.new⟩, e4⟩
    | xc c fs => exact h2, sr.sep⟩
variable {s2 : Sta} {σ2 : L2.St} {H2 : Hp} {env2 : Env}
theorem thaw_at {n : Nat} : (thaw s.h s2.h)[n]? = (s2.h[n]?).map (thawOne s.h n) := by
  unfold thaw
  rw [List.getElem?_mapIdx]
theorem good_thaw (gd : Good g s2 H2) : Good g (s.thawA s2) H2 := by
  refine ⟨gd.fle, gd.inj, fun n a h => ?_, fun n c h => ?_, ⟨fun n o h => ?_, fun n c h => ?_⟩⟩
  · obtain ⟨h1, h2, h3⟩ := gd.dom n a h
    refine ⟨?_, h2, h3⟩
    show n < (thaw s.h s2.h).length
    unfold thaw
    rw [List.length_mapIdx]
    exact h1
  · have h : (thaw s.h s2.h)[n]? = some c := h
    rw [thaw_at] at h
    obtain ⟨d, h1, rfl⟩ := Option.map_eq_some_iff.mp h
    obtain ⟨a, h2, h3⟩ := gd.cell n d h1
    refine ⟨a, h2, ?_⟩
    have h4 : CellRep g (s.thawA s2) H2 a d := CellRep.mv (s := s2) (s' := s.thawA s2) (H := H2) (fun _ z => z) (fun _ _ z => z) (fun _ _ z => z) h3
    unfold thawOne
    split
    · exact h4.bare
    · exact h4
  · have h : (if ourZ s.h n then none else s2.z n) = some o := h
    by_cases ho : ourZ s.h n = true
    · rw [if_pos ho] at h
      cases h
    · rw [if_neg ho] at h
      obtain ⟨a, c, h1, h2, h3⟩ := gd.zed.at_ n o h
      refine ⟨a, c, h1, h2, ?_⟩
      show (thaw s.h s2.h)[n]? = _
      rw [thaw_at, h3, Option.map_some]
      unfold thawOne
      rw [if_neg ho]
  · have h : (thaw s.h s2.h)[n]? = some (.frz c) := h
    rw [thaw_at] at h
    obtain ⟨d, h1, h2⟩ := Option.map_eq_some_iff.mp h
    show ∃ o, (if ourZ s.h n then none else s2.z n) = some o
    unfold thawOne at h2
    by_cases ho : ourZ s.h n = true
    · rw [if_pos ho] at h2
      have := bare_isF d
      rw [h2] at this
      cases this
    · rw [if_neg ho] at h2 ⊢
      subst h2
      exact gd.zed.of n c h1
theorem evo_thaw {s0 : Sta} {H0 : Hp} (gd : Good g s H) (e0 : ∀ n o, s0.z n = some o → s.z n = some o) (e : Evo s0 H0 s2 H2) : Evo s0 H0 (s.thawA s2) H2 := by
  refine ⟨e.f, e.al, e.oth, ?_, fun n o h => ?_⟩
  · show s0.h.length ≤ (thaw s.h s2.h).length
    unfold thaw
    rw [List.length_mapIdx]
    exact e.len
  · show (if ourZ s.h n then none else s2.z n) = some o
    rw [zed_not (gd := gd) (e0 n o h)]
    exact e.z n o h
theorem SR.thawA (sr0 : SR g B env s σ H) (sr : SR g B env2 s2 σ2 H2) : SR g B env2 (s.thawA s2) σ2 H2 :=
  ⟨good_thaw sr.good, evo_thaw sr0.good sr0.evo.z sr.evo, sr.len, fun i sl h => by
    obtain ⟨v, h1, h2⟩ := sr.slot i sl h
    refine ⟨v, h1, ?_⟩
    cases sl with
    | d x => exact h2
    | ol xs => obtain ⟨a, vs, e1, e2, e3, e4⟩ := h2; exact ⟨a, vs, e1, e2, ⟨e3.f, e3.al, e3.new⟩, e4⟩
    | oi c fs => obtain ⟨a, dx, vs, e1, e2, e3, e4⟩ := h2; exact ⟨a, dx, vs, e1, e2, ⟨e3.f, e3.al, e3.new⟩, e4⟩
    | xc c fs => exact h2, sr.sep⟩
end
section
variable {X : Cx} {g : Gi} {B : Bg} {W : WXv} {st : Stmt} {m : MS}
end
end Vi
namespace Vi
open PySem L2 PyProof.Rows
section
variable {g : Gi} {B : Bg} {W : WXv} {env : Env} {s : Sta} {σ : L2.St} {H : Hp}
theorem Evo.cell {n : Nat} {c' : Cell} {a : Addr} {o : HO} (ha : s.al n = some a) : Evo s H { s with h := s.h.set n c' } (upd H a o) := by
  refine ⟨fun _ _ h => h, fun _ _ h => h, fun b u h hn => ?_, ?_, fun _ _ h => h⟩
  · have ne : b ≠ a := fun e => hn n (by rw [e]; exact ha)
    exact ⟨by rw [upd_ne ne]; exact h, fun z _ => z, hn⟩
  · show s.h.length ≤ (s.h.set n c').length
    rw [List.length_set]
    exact Nat.le_refl _
end
abbrev LM := List D → List D → Option (List D × D)
structure MetM (X : Cx) (g : Gi) (name : Str) (id : String) (f : LM) : Prop where
  slot : Slot "list" name id
  ty : typeOf (.builtin id) = pure (.type "method_descriptor")
  ex : ∃ r : V → List V → Hp → VK → Prop, MtR X id r ∧ ∀ (F : Hp) (al : Nat → Option Addr) (H : Hp) (l : Addr) (ws vs : List V) (xs ds xs' : List D) (d : D) (Q : VK), H l = some (.lst ws) → Reps g F al xs ws → Reps g F al ds vs → f xs ds = some (xs', d) →
    (∀ (ws' : List V) (v : V), Reps g F al xs' ws' → Rep g F al d v → Q v (upd H l (.lst ws'))) → r (.ref l) vs H Q
def isLc (h : Hc) : Vl → Option Nat
  | .d (.ref n) => (match h[n]? with
    | some (.lst _) => some n
    | _ => none)
  | _ => none
def fMet (f : LM) (n : Nat) (ys : List Vl) (h : Hc) : R Vl := match datas ys, h[n]? with
  | some ds, some (.lst xs) => (match f xs ds with
    | some (xs', d) => .ok (.d d) (h.set n (.lst xs'))
    | none => .stuck)
  | _, _ => .stuck
def mMetM (f : LM) (mo : ME) (ma : MA) : ME := fun env h => (mo env h).bind fun x h1 => match isLc h1 x with
  | some n => (ma env h1).bind fun ys h2 => fMet f n ys h2
  | none => .stuck
section
variable {X : Cx} {g : Gi} {B : Bg} {W : WXv} {env : Env} {s : Sta} {σ : L2.St} {H : Hp}
theorem isLc_at {x : Vl} {v : V} {n : Nat} (gd : Good g s H) (r : VlRep g B env σ s H x v) (e : isLc s.h x = some n) : ∃ a ws xs, v = .ref a ∧ s.al n = some a ∧ s.h[n]? = some (.lst xs) ∧ H a = some (.lst ws) ∧ Reps g s.F s.al xs ws := by
  unfold isLc at e
  split at e
  · next m =>
    split at e
    · next xs hx =>
      cases e
      obtain ⟨a, rfl, hal⟩ := r
      obtain ⟨b, g1, ws, g2, g3⟩ := gd.cell _ _ hx
      rw [hal] at g1
      cases g1
      exact ⟨a, ws, xs, rfl, hal, hx, g2, g3⟩
    · cases e
  · cases e
theorem fMet_post {name : Str} {id : String} {f : LM} {n : Nat} {a : Addr} {ys : List Vl} {vs : List V} {Q : VK} {r : V → List V → Hp → VK → Prop} (sr : SR g B env s σ H)
    (hr : ∀ (F : Hp) (al : Nat → Option Addr) (H : Hp) (l : Addr) (ws vs : List V) (xs ds xs' : List D) (d : D) (Q : VK), H l = some (.lst ws) → Reps g F al xs ws → Reps g F al ds vs → f xs ds = some (xs', d) →
      (∀ (ws' : List V) (v : V), Reps g F al xs' ws' → Rep g F al d v → Q v (upd H l (.lst ws'))) → r (.ref l) vs H Q)
    (ha : s.al n = some a) (ry : VlReps g B env σ s H ys vs) (p : PostE g B W env s σ H (fMet f n ys s.h) Q) : r (.ref a) vs H Q := by
  unfold fMet at p
  split at p
  · next ds xs e1 e2 =>
    split at p
    · next xs' d ef =>
      obtain ⟨b, g1, ws, g2, g3⟩ := sr.good.cell _ _ e2
      rw [ha] at g1
      cases g1
      refine hr s.F s.al H a ws vs xs ds xs' d Q g2 g3 (ry.datas e1) ef fun ws' v q1 q2 => ?_
      exact p v _ { s with h := s.h.set n (.lst xs') } rfl (Evo.cell ha) (sr.cell e2 ha (fun _ z => by cases z) (fun _ z => by cases z) ⟨ws', upd_same, q1⟩) q2
    · exact p.elim
  · exact p.elim
end
section
variable {X : Cx} {g : Gi} {B : Bg} {W : WXv} {pos apos cpos : Pos} {o e : Expr} {es : List Expr} {mo : ME} {ma : MA} {name : Str} {id : String} {f : LM}
theorem bindEA {b : MA} {env : Env} {s : Sta} {σ : L2.St} {H : Hp} {Q : VK} (sr : SR g B env s σ H) {kk : List Vl → Hc → R Vl} (p : PostE g B W env s σ H ((b env s.h).bind kk) Q) :
    tA g B W b σ H fun vs H2 => ∃ s2 xs, SR g B env s2 σ H2 ∧ Evo s H s2 H2 ∧ VlReps g B env σ s2 H2 xs vs ∧ PostE g B W env s2 σ H2 (kk xs s2.h) Q := by
  refine ⟨env, s, sr, ?_⟩
  cases e : b env s.h with
  | ok x h1 =>
    rw [e] at p
    intro v H1 s1 e1 ev sr1 vr
    refine ⟨s1, x, sr1, ev, vr, ?_⟩
    rw [e1]
    exact PostE.later ev p
  | exc x h1 =>
    rw [e] at p
    exact p
  | stuck =>
    rw [e] at p
    exact p
theorem ve_metM (hK : g.K = X.K) (hm : MetM X g name id f) (ho : PE X o (tE g B W mo)) (ha : PA X (e :: es) (tA g B W ma))
    (hbase : attributeBase o name X.env (eval o X.env) = eval o X.env := by rfl)
    (hfew : ((backTo cpos (starEach (e :: es) X.env)).all (fun x => !x.1) && (backToKw cpos (keywordEach [] X.env)).all (fun x => x.1.isSome) && decide ((e :: es).length + ([] : List Keyword).length + (if ([] : List Keyword).isEmpty then 0 else 1) < 30)) = true := by rfl)
    (hline : (apos.endLine == cpos.line) = true := by rfl) (hs : starEach (e :: es) X.env = (false, eval e X.env) :: starEach es X.env := by rfl) (hplain : (backTo cpos (starEach es X.env)).any (·.1) = false := by rfl) :
    PE X (.Call (.Attribute o name apos) (e :: es) [] cpos) (tE g B W (mMetM f mo ma)) := by
  obtain ⟨r, hr, hf⟩ := hm.ex
  refine pe_imp (pe_bm PySem.F.plainAttrs_list hm.slot hm.ty hr ho ha hbase hfew hline hs hplain) fun σ H Q ⟨env, s, sr, p⟩ => ?_
  refine (bindE (Q := Q) sr p).mono fun v H1 ⟨s1, x, sr1, ev1, r1, p1⟩ => ?_
  split at p1
  · next n en =>
    obtain ⟨a, ws, xs, rfl, hal, hx, h1, h2⟩ := isLc_at sr1.good r1 en
    refine ⟨.inl ⟨rfl, ws, .of h1⟩, ?_⟩
    refine (bindEA sr1 p1).mono fun vs H2 ⟨s2, ys, sr2, ev2, r2, p2⟩ => ?_
    exact fMet_post (name := name) (id := id) sr2 hf (ev2.al _ _ hal) r2 p2
  · exact p1.elim
theorem ve_metM0 (hK : g.K = X.K) (hm : MetM X g name id f) (ho : PE X o (tE g B W mo))
    (hbase : attributeBase o name X.env (eval o X.env) = eval o X.env := by rfl) (hline : (apos.endLine == cpos.line) = true := by rfl) :
    PE X (.Call (.Attribute o name apos) [] [] cpos) (tE g B W (mMetM f mo maNil)) := by
  obtain ⟨r, hr, hf⟩ := hm.ex
  refine pe_imp (pe_bm0 PySem.F.plainAttrs_list hm.slot hm.ty hr ho hbase hline) fun σ H Q ⟨env, s, sr, p⟩ => ?_
  refine (bindE (Q := Q) sr p).mono fun v H1 ⟨s1, x, sr1, ev1, r1, p1⟩ => ?_
  split at p1
  · next n en =>
    obtain ⟨a, ws, xs, rfl, hal, hx, h1, h2⟩ := isLc_at sr1.good r1 en
    refine ⟨.inl ⟨rfl, ws, .of h1⟩, ?_⟩
    exact fMet_post (name := name) (id := id) sr1 hf hal .nil p1
  · exact p1.elim
def lmAppend : LM := fun xs ds => match ds with
  | [d] => if xs.length < 100000 then some (xs ++ [d], .non) else none
  | _ => none
theorem mm_append : MetM X g "append" "list.append" lmAppend := ⟨PySem.F.slot_list_append, PySem.F.type_list_append, _, mt_append, fun F al H l ws vs xs ds xs' d Q h1 h2 h3 h4 q => by
  unfold lmAppend at h4
  split at h4
  · next y =>
    split at h4
    · next hl =>
      cases h4
      obtain ⟨v, r, rfl, r1, r2⟩ := h3
      cases r2
      exact ⟨l, ws, v, rfl, rfl, h1, by rw [h2.length]; exact size_lt hl, q _ _ (h2.append (Reps.cons r1 Reps.nil)) rfl⟩
    · cases h4
  · cases h4⟩
def lmClear : LM := fun _ ds => match ds with
  | [] => some ([], .non)
  | _ => none
def lmReverse : LM := fun xs ds => match ds with
  | [] => some (xs.reverse, .non)
  | _ => none
end
end Vi
namespace Vi
open PySem L2 PyProof.Rows
mutual
def refsD (L : Nat) : D → Bool
  | .ref n => decide (n < L)
  | .tup xs => refsDs L xs
  | .xtup xs => refsDs L xs
  | .lst xs => refsDs L xs
  | .kl xs => refsDs L xs
  | .obj _ fs => refsF L fs
  | .dK kvs => refsK L kvs
  | .dT kvs => refsT L kvs
  | _ => true
def refsDs (L : Nat) : List D → Bool
  | [] => true
  | d :: r => refsD L d && refsDs L r
def refsF (L : Nat) : List (Str × D) → Bool
  | [] => true
  | (_, d) :: r => refsD L d && refsF L r
def refsK (L : Nat) : List (Key × D) → Bool
  | [] => true
  | (_, d) :: r => refsD L d && refsK L r
def refsT (L : Nat) : List (List Key × D) → Bool
  | [] => true
  | (_, d) :: r => refsD L d && refsT L r
end
def alCut (L : Nat) (al : Nat → Option Addr) : Nat → Option Addr := fun n => if n < L then al n else none
section
variable {g : Gi} {F : Hp} {al : Nat → Option Addr} {L : Nat}
mutual
theorem Rep.cut : ∀ {d : D} {v : V}, refsD L d = true → Rep g F al d v → Rep g F (alCut L al) d v
  | .non, _, _, h => h
  | .bl _, _, _, h => h
  | .int _, _, _, h => h
  | .str _, _, _, h => h
  | .tup _, _, e, ⟨a, vs, h1, h2, h3⟩ => ⟨a, vs, h1, h2, Reps.cut (by simpa only [refsD] using e) h3⟩
  | .lst _, _, e, ⟨a, vs, h1, h2, h3⟩ => ⟨a, vs, h1, h2, Reps.cut (by simpa only [refsD] using e) h3⟩
  | .xtup _, _, e, ⟨a, o, vs, h1, h2, h3, h4⟩ => ⟨a, o, vs, h1, h2, h3, Reps.cut (by simpa only [refsD] using e) h4⟩
  | .kl _, _, e, ⟨a, vs, h1, h2, h3⟩ => ⟨a, vs, h1, h2, Reps.cut (by simpa only [refsD] using e) h3⟩
  | .ref n, _, e, ⟨a, h1, h2⟩ => ⟨a, h1, by
    have hn : n < L := of_decide_eq_true (by simpa only [refsD] using e)
    show (if n < L then al n else none) = some a
    rw [if_pos hn]
    exact h2⟩
  | .obj _ _, _, e, ⟨a, dx, vs, h1, h2, h3⟩ => ⟨a, dx, vs, h1, h2, RepF.cut (by simpa only [refsD] using e) h3⟩
  | .cls _, _, _, h => h
  | .dK _, _, e, ⟨a, vs, h1, h2, h3⟩ => ⟨a, vs, h1, h2, RepK.cut (by simpa only [refsD] using e) h3⟩
  | .dT _, _, e, ⟨a, vs, h1, h2, h3⟩ => ⟨a, vs, h1, h2, RepT.cut (by simpa only [refsD] using e) h3⟩
theorem Reps.cut : ∀ {d : List D} {v : List V}, refsDs L d = true → Reps g F al d v → Reps g F (alCut L al) d v
  | [], _, _, h => h
  | _ :: _, _, e, ⟨v, r, h1, h2, h3⟩ => by
    obtain ⟨e1, e2⟩ := Bool.and_eq_true_iff.mp (by simpa only [refsDs] using e)
    exact ⟨v, r, h1, Rep.cut e1 h2, Reps.cut e2 h3⟩
theorem RepF.cut : ∀ {d : List (Str × D)} {v : List (Str × V)}, refsF L d = true → RepF g F al d v → RepF g F (alCut L al) d v
  | [], _, _, h => h
  | (_, _) :: _, _, e, ⟨v, r, h1, h2, h3⟩ => by
    obtain ⟨e1, e2⟩ := Bool.and_eq_true_iff.mp (by simpa only [refsF] using e)
    exact ⟨v, r, h1, Rep.cut e1 h2, RepF.cut e2 h3⟩
theorem RepK.cut : ∀ {d : List (Key × D)} {v : List (Key × V)}, refsK L d = true → RepK g F al d v → RepK g F (alCut L al) d v
  | [], _, _, h => h
  | (_, _) :: _, _, e, ⟨v, r, h1, h2, h3⟩ => by
    obtain ⟨e1, e2⟩ := Bool.and_eq_true_iff.mp (by simpa only [refsK] using e)
    exact ⟨v, r, h1, Rep.cut e1 h2, RepK.cut e2 h3⟩
theorem RepT.cut : ∀ {d : List (List Key × D)} {v : List (List Key × V)}, refsT L d = true → RepT g F al d v → RepT g F (alCut L al) d v
  | [], _, _, h => h
  | (_, _) :: _, _, e, ⟨v, r, h1, h2, h3⟩ => by
    obtain ⟨e1, e2⟩ := Bool.and_eq_true_iff.mp (by simpa only [refsT] using e)
    exact ⟨v, r, h1, Rep.cut e1 h2, RepT.cut e2 h3⟩
end
end
def cellRefs (L : Nat) : Cell → Bool
  | .lst xs => refsDs L xs
  | .ins _ fs => refsF L fs
  | .dK kvs => refsK L kvs
  | .dT kvs => refsT L kvs
  | .lk kvs => refsK L kvs
  | .frz c => cellRefs L c
def cutH (L : Nat) (h : Hc) : Option Hc := if (h.take L).all (cellRefs L) then some (h.take L) else none
def RS.cut (L : Nat) : RS → RS
  | .nx e h => (match cutH L h with
    | some h2 => .nx (e.map fun _ => none) h2
    | none => .stuck)
  | .ret d h => if refsD L d then (match cutH L h with
    | some h2 => .ret d h2
    | none => .stuck) else .stuck
  | .exc e x h => if refsD L x then (match cutH L h with
    | some h2 => .exc (e.map fun _ => none) x h2
    | none => .stuck) else .stuck
  | _ => .stuck
def mCut (m : MS) : MS := fun env h => (m env h).cut h.length
section
variable {g : Gi} {B : Bg} {W : WXv} {env : Env} {s : Sta} {σ : L2.St} {H : Hp}
def Sta.cut (L : Nat) (s : Sta) : Sta := { F := s.F, al := alCut L s.al, h := s.h.take L, z := fun n => if n < L then s.z n else none }
theorem CellRep.cut {L : Nat} {a : Addr} : ∀ {c : Cell}, cellRefs L c = true → CellRep g s H a c → CellRep g (s.cut L) H a c
  | .lst _, e, ⟨vs, h1, h2⟩ => ⟨vs, h1, h2.cut e⟩
  | .ins _ _, e, ⟨dx, vs, h1, h2⟩ => ⟨dx, vs, h1, h2.cut e⟩
  | .dK _, e, ⟨vs, h1, h2⟩ => ⟨vs, h1, h2.cut e⟩
  | .dT _, e, ⟨vs, h1, h2⟩ => ⟨vs, h1, h2.cut e⟩
  | .lk _, e, ⟨od, vs, h1, h2⟩ => ⟨od, vs, h1, h2.cut e⟩
  | .frz c, e, h => CellRep.cut (c := c) e h
theorem alCut_some {L n : Nat} {al : Nat → Option Addr} {a : Addr} (h : alCut L al n = some a) : n < L ∧ al n = some a := by
  have h : (if n < L then al n else none) = some a := h
  by_cases e : n < L
  · rw [if_pos e] at h
    exact ⟨e, h⟩
  · rw [if_neg e] at h
    cases h
theorem take_some {L n : Nat} {h : Hc} {c : Cell} (e : (h.take L)[n]? = some c) : n < L ∧ h[n]? = some c := by
  by_cases hn : n < L
  · rw [List.getElem?_take_of_lt hn] at e
    exact ⟨hn, e⟩
  · rw [List.getElem?_take, if_neg hn] at e
    cases e
theorem good_cut {L : Nat} (gd : Good g s H) (hc : (s.h.take L).all (cellRefs L) = true) : Good g (s.cut L) H := by
  refine ⟨gd.fle, fun n m a h1 h2 => gd.inj n m a (alCut_some h1).2 (alCut_some h2).2, fun n a h => ?_, fun n c h => ?_, ⟨fun n o h => ?_, fun n c h => ?_⟩⟩
  · obtain ⟨e, h⟩ := alCut_some h
    obtain ⟨h1, h2, h3⟩ := gd.dom n a h
    refine ⟨?_, h2, h3⟩
    show n < (s.h.take L).length
    rw [List.length_take]
    omega
  · obtain ⟨e, h⟩ := take_some (show (s.h.take L)[n]? = some c from h)
    obtain ⟨a, h1, h2⟩ := gd.cell n c h
    have hm : c ∈ s.h.take L := List.mem_of_getElem? (by rw [List.getElem?_take_of_lt e]; exact h)
    refine ⟨a, ?_, h2.cut (List.all_eq_true.mp hc c hm)⟩
    show (if n < L then s.al n else none) = some a
    rw [if_pos e]
    exact h1
  · have h : (if n < L then s.z n else none) = some o := h
    by_cases e : n < L
    · rw [if_pos e] at h
      obtain ⟨a, c, h1, h2, h3⟩ := gd.zed.at_ n o h
      refine ⟨a, c, ?_, h2, ?_⟩
      · show (if n < L then s.al n else none) = some a
        rw [if_pos e]
        exact h1
      · show (s.h.take L)[n]? = _
        rw [List.getElem?_take_of_lt e]
        exact h3
    · rw [if_neg e] at h
      cases h
  · obtain ⟨e, h⟩ := take_some (show (s.h.take L)[n]? = some (.frz c) from h)
    obtain ⟨o, h1⟩ := gd.zed.of n c h
    exact ⟨o, by
      show (if n < L then s.z n else none) = some o
      rw [if_pos e]
      exact h1⟩
theorem evo_cut {s0 s2 : Sta} {H0 H2 : Hp} {L : Nat} (gd : Good g s H) (e0 : Evo s0 H0 s H) (hL : L = s.h.length) (e : Evo s0 H0 s2 H2) : Evo s0 H0 (s2.cut L) H2 := by
  refine ⟨e.f, fun n a h => ?_, fun a o h hn => ?_, ?_, fun n o h => ?_⟩
  · have hn := (gd.dom n a (e0.al n a h)).1
    show (if n < L then s2.al n else none) = some a
    rw [if_pos (by omega)]
    exact e.al n a h
  · obtain ⟨h1, h2, h3⟩ := e.oth a o h hn
    exact ⟨h1, h2, fun n z => h3 n (alCut_some z).2⟩
  · show s0.h.length ≤ (s2.h.take L).length
    rw [List.length_take]
    have := e.len
    have := e0.len
    omega
  · obtain ⟨a, c, h1, _, h3⟩ := gd.zed.at_ n o (e0.z n o h)
    have hn := (List.getElem?_eq_some_iff.mp h3).1
    show (if n < L then s2.z n else none) = some o
    rw [if_pos (by omega)]
    exact e.z n o h
theorem none_map {env : Env} {i : Nat} {sl : Sl} (h : (env.map fun _ => (none : Option Sl))[i]? = some (some sl)) : False := by
  rw [List.getElem?_map] at h
  cases e : env[i]? with
  | none => rw [e] at h; cases h
  | some x => rw [e] at h; cases h
theorem SR.cut {s2 : Sta} {σ2 : L2.St} {H2 : Hp} {env2 : Env} {L : Nat} (sr : SR g B env s σ H) (hL : L = s.h.length) (sr2 : SR g B env2 s2 σ2 H2) (hc : (s2.h.take L).all (cellRefs L) = true) : SR g B (env2.map fun _ => none) (s2.cut L) σ2 H2 :=
  ⟨good_cut sr2.good hc, evo_cut sr.good sr.evo hL sr2.evo, by rw [List.length_map]; exact sr2.len, fun i sl h => (none_map h).elim, fun i j sl sl' v _ h => (none_map h).elim⟩
theorem cutH_some {L : Nat} {h h2 : Hc} (e : cutH L h = some h2) : (h.take L).all (cellRefs L) = true ∧ h2 = h.take L := by
  unfold cutH at e
  split at e
  · next hc => cases e; exact ⟨hc, rfl⟩
  · cases e
theorem le_cut {s2 : Sta} {L : Nat} (gd : Good g s H) (hL : L = s.h.length) (l : Le s s2) : Le s (s2.cut L) := ⟨l.f, fun n a h => by
    have hn := (gd.dom n a h).1
    show (if n < L then s2.al n else none) = some a
    rw [if_pos (by omega)]
    exact l.al n a h, fun n o h => by
    obtain ⟨a, c, h1, _, h3⟩ := gd.zed.at_ n o h
    have hn := (List.getElem?_eq_some_iff.mp h3).1
    show (if n < L then s2.z n else none) = some o
    rw [if_pos (by omega)]
    exact l.z n o h⟩
theorem PostS.cut {N : Ends} (sr : SR g B env s σ H) : ∀ {r : RS}, PostS g B W s (r.cut s.h.length) N → PostS g B W s r N
  | .nx e h, p => fun σ2 H2 s2 eh l sr2 => by
    unfold RS.cut at p
    dsimp only at p
    split at p
    · next h2 hc =>
      rw [← eh] at hc
      obtain ⟨h1, rfl⟩ := cutH_some hc
      exact p σ2 H2 (s2.cut s.h.length) rfl (le_cut sr.good rfl l) (SR.cut sr rfl sr2 h1)
    · exact p.elim
  | .ret d h, p => fun v H2 s2 eh ev gd r => by
    unfold RS.cut at p
    dsimp only at p
    split at p
    · next hd =>
      split at p
      · next h2 hc =>
        rw [← eh] at hc
        obtain ⟨h1, rfl⟩ := cutH_some hc
        exact p v H2 (s2.cut s.h.length) rfl (evo_cut sr.good sr.evo rfl ev) (good_cut gd h1) (r.cut hd)
      · exact p.elim
    · exact p.elim
  | .exc e x h, p => fun c d σ2 H2 s2 eh l sr2 xr => by
    unfold RS.cut at p
    dsimp only at p
    split at p
    · next hd =>
      split at p
      · next h2 hc =>
        rw [← eh] at hc
        obtain ⟨h1, rfl⟩ := cutH_some hc
        refine p c d σ2 H2 (s2.cut s.h.length) rfl (le_cut sr.good rfl l) (SR.cut sr rfl sr2 h1) ?_
        cases x with
        | obj c' fs =>
          obtain ⟨d', vs, e1, e2, e3, e4, e5⟩ := xr
          exact ⟨d', vs, e1, e2, e3, fun n z => e4 n (alCut_some z).2, e5.cut (by simpa only [refsD] using hd)⟩
        | _ => exact xr.elim
      · exact p.elim
    · exact p.elim
  | .brk _ _, p => p.elim
  | .cnt _ _, p => p.elim
  | .stuck, p => p
end
section
variable {X : Cx} {g : Gi} {B : Bg} {W : WXv} {sts : List Stmt} {m : MS}
end
end Vi
namespace Vi
open PySem L2 PyProof.Rows
def isi2 (g : Gi) (u t1 t2 : Ty) : Option Bool := match g.isi u t1 with
  | some true => some true
  | some false => g.isi u t2
  | none => none
def fIsi2 (g : Gi) (t1 t2 : Ty) (x : Vl) (h : Hc) : R Vl := match x.ty g h with
  | some u => (match isi2 g u t1 t2 with
    | some b => .ok (.d (.bl b)) h
    | none => .stuck)
  | none => .stuck
section
variable {X : Cx} {g : Gi} {B : Bg} {W : WXv} {pos p p2 : Pos} {e c1 c2 : Expr} {m : ME} {k : Nat}
theorem clsV_ty (g : Gi) : ∀ t : Ty, ClsV (t.v g) (t.val g)
  | .bt n => .ty n
  | .own _ => .own _
end
end Vi
namespace Vi
open PySem L2 PyProof.Rows
structure Tot {α : Type} (lt : α → α → Bool) : Prop where
  asym : ∀ x y, lt x y = true → lt y x = false
  tr : ∀ x y z, lt y x = false → lt z y = false → lt z x = false
  tri : ∀ x y, lt x y = false → lt y x = false → x = y
theorem Tot.swo {α : Type} {lt : α → α → Bool} (T : Tot lt) : SrtO.Swo lt := ⟨T.asym, T.tr⟩
theorem Tot.irr {α : Type} {lt : α → α → Bool} (T : Tot lt) (x : α) : lt x x = false := T.swo.refl x
def sLt (a b : PySem.Str) : Bool := decide (a.cps.toList < b.cps.toList)
theorem str_eq {a b : PySem.Str} (h : a.cps.toList = b.cps.toList) : a = b := by
  cases a with
  | mk x =>
    cases b with
    | mk y =>
      have : x = y := Array.toList_inj.mp h
      rw [this]
theorem tot_str : Tot sLt := by
  refine ⟨fun x y h => ?_, fun x y z h1 h2 => ?_, fun x y h1 h2 => ?_⟩
  · have a := of_decide_eq_true (p := x.cps.toList < y.cps.toList) h
    exact decide_eq_false (p := y.cps.toList < x.cps.toList) (List.lt_asymm a)
  · have a := of_decide_eq_false (p := y.cps.toList < x.cps.toList) h1
    have b := of_decide_eq_false (p := z.cps.toList < y.cps.toList) h2
    refine decide_eq_false (p := z.cps.toList < x.cps.toList) ?_
    exact List.not_lt.mpr (List.le_trans (List.not_lt.mp a) (List.not_lt.mp b))
  · have a := of_decide_eq_false (p := x.cps.toList < y.cps.toList) h1
    have b := of_decide_eq_false (p := y.cps.toList < x.cps.toList) h2
    exact str_eq (List.le_antisymm (List.not_lt.mp b) (List.not_lt.mp a))
def kLt : Key → Key → Bool
  | .inl a, .inl b => decide (a < b)
  | .inr a, .inr b => sLt a b
  | .inl _, .inr _ => true
  | .inr _, .inl _ => false
theorem tot_key : Tot kLt := by
  refine ⟨fun x y h => ?_, fun x y z h1 h2 => ?_, fun x y h1 h2 => ?_⟩
  · cases x <;> cases y
    · next a b =>
      have q := of_decide_eq_true (p := a < b) h
      exact decide_eq_false (p := b < a) (by omega)
    · rfl
    · cases h
    · exact tot_str.asym _ _ h
  · cases x <;> cases y <;> cases z <;> first | rfl | (cases h1; done) | (cases h2; done) | skip
    · next a b c =>
      have q := of_decide_eq_false (p := b < a) h1
      have r := of_decide_eq_false (p := c < b) h2
      exact decide_eq_false (p := c < a) (by omega)
    · exact tot_str.tr _ _ _ h1 h2
  · cases x <;> cases y
    · next a b =>
      have q := of_decide_eq_false (p := a < b) h1
      have r := of_decide_eq_false (p := b < a) h2
      rw [show a = b by omega]
    · cases h1
    · cases h2
    · rw [tot_str.tri _ _ h1 h2]
def ksLt : List Key → List Key → Bool
  | [], [] => false
  | [], _ :: _ => true
  | _ :: _, [] => false
  | x :: xs, y :: ys => if x = y then ksLt xs ys else kLt x y
theorem ksLt_asym : ∀ x y : List Key, ksLt x y = true → ksLt y x = false
  | [], [], _ => rfl
  | [], _ :: _, _ => rfl
  | _ :: _, [], h => by cases h
  | x :: xs, y :: ys, h => by
    unfold ksLt at h ⊢
    by_cases e : x = y
    · rw [if_pos e] at h
      rw [if_pos e.symm]
      exact ksLt_asym xs ys h
    · rw [if_neg e] at h
      rw [if_neg fun z => e z.symm]
      exact tot_key.asym _ _ h
theorem ksLt_tri : ∀ x y : List Key, ksLt x y = false → ksLt y x = false → x = y
  | [], [], _, _ => rfl
  | [], _ :: _, h, _ => by cases h
  | _ :: _, [], _, h => by cases h
  | x :: xs, y :: ys, h1, h2 => by
    unfold ksLt at h1 h2
    by_cases e : x = y
    · rw [if_pos e] at h1
      rw [if_pos e.symm] at h2
      rw [e, ksLt_tri xs ys h1 h2]
    · rw [if_neg e] at h1
      rw [if_neg fun z => e z.symm] at h2
      exact absurd (tot_key.tri _ _ h1 h2) e
theorem ksLt_tr : ∀ x y z : List Key, ksLt y x = false → ksLt z y = false → ksLt z x = false
  | [], [], z, _, h2 => h2
  | [], y :: ys, [], _, h2 => by cases h2
  | [], y :: ys, z :: zs, _, _ => rfl
  | x :: xs, [], _, h1, _ => by cases h1
  | x :: xs, y :: ys, [], _, h2 => by cases h2
  | x :: xs, y :: ys, z :: zs, h1, h2 => by
    unfold ksLt at h1 h2 ⊢
    by_cases e1 : y = x
    · subst e1
      rw [if_pos rfl] at h1
      by_cases e2 : z = y
      · rw [if_pos e2] at h2 ⊢
        exact ksLt_tr xs ys zs h1 h2
      · rw [if_neg e2] at h2 ⊢
        exact h2
    · rw [if_neg e1] at h1
      by_cases e2 : z = y
      · subst e2
        rw [if_neg e1]
        exact h1
      · rw [if_neg e2] at h2
        have h3 := tot_key.tr _ _ _ h1 h2
        by_cases e3 : z = x
        · subst e3
          exact absurd (tot_key.tri _ _ h2 h1) e2
        · rw [if_neg e3]
          exact h3
theorem tot_keys : Tot ksLt := ⟨ksLt_asym, ksLt_tr, ksLt_tri⟩
section
variable {α : Type} {lt : α → α → Bool}
def insL (lt : α → α → Bool) (x : α) : List α → List α
  | [] => [x]
  | y :: r => if lt y x then y :: insL lt x r else x :: y :: r
def sortL (lt : α → α → Bool) : List α → List α
  | [] => []
  | x :: r => insL lt x (sortL lt r)
theorem insL_perm (x : α) : ∀ l : List α, (insL lt x l).Perm (x :: l)
  | [] => List.Perm.refl _
  | y :: r => by
    unfold insL
    split
    · exact ((insL_perm x r).cons y).trans (List.Perm.swap x y r)
    · exact List.Perm.refl _
theorem sortL_perm : ∀ l : List α, (sortL lt l).Perm l
  | [] => List.Perm.refl _
  | x :: r => (insL_perm x _).trans ((sortL_perm r).cons x)
theorem insL_srtd (T : Tot lt) (x : α) : ∀ {l : List α}, SrtO.Srtd lt l → SrtO.Srtd lt (insL lt x l)
  | [], _ => List.pairwise_singleton _ _
  | y :: r, h => by
    obtain ⟨h1, h2⟩ := List.pairwise_cons.mp h
    unfold insL
    split
    · next hy =>
      refine List.pairwise_cons.mpr ⟨fun z hz => ?_, insL_srtd T x h2⟩
      rcases List.mem_cons.mp ((insL_perm x r).mem_iff.mp hz) with rfl | hz
      · exact T.asym _ _ hy
      · exact h1 z hz
    · next hy =>
      have hy' : lt y x = false := by simpa using hy
      refine List.pairwise_cons.mpr ⟨fun z hz => ?_, h⟩
      rcases List.mem_cons.mp hz with rfl | hz
      · exact hy'
      · exact T.tr _ _ _ hy' (h1 z hz)
theorem sortL_srtd (T : Tot lt) : ∀ l : List α, SrtO.Srtd lt (sortL lt l)
  | [] => List.Pairwise.nil
  | x :: r => insL_srtd T x (sortL_srtd T r)
theorem srtd_uniq (T : Tot lt) : ∀ {l m : List α}, SrtO.Srtd lt l → SrtO.Srtd lt m → l.Perm m → l = m
  | [], m, _, _, p => (List.Perm.nil_eq p)
  | x :: l, [], _, _, p => (List.Perm.eq_nil p)
  | x :: l, y :: m, h1, h2, p => by
    obtain ⟨a1, a2⟩ := List.pairwise_cons.mp h1
    obtain ⟨b1, b2⟩ := List.pairwise_cons.mp h2
    have e : x = y := by
      rcases List.mem_cons.mp (p.mem_iff.mp (List.mem_cons_self ..)) with e | hx
      · exact e
      · rcases List.mem_cons.mp (p.mem_iff.mpr (List.mem_cons_self ..)) with e | hy
        · exact e.symm
        · exact T.tri _ _ (b1 x hx) (a1 y hy)
    subst e
    rw [srtd_uniq T a2 b2 (List.Perm.cons_inv p)]
theorem sortL_of (T : Tot lt) {l m : List α} (h : SrtO.Srtd lt m) (p : m.Perm l) : m = sortL lt l :=
  srtd_uniq T h (sortL_srtd T l) (p.trans (sortL_perm l).symm)
end
end Vi
set_option maxHeartbeats 4000000
namespace Vi
open PySem L2 PyProof.Rows
def kKind : Key → Bool
  | .inl _ => true
  | .inr _ => false
def compat : List Key → List Key → Bool
  | x :: xs, y :: ys => (kKind x == kKind y) && (if x = y then compat xs ys else true)
  | _, _ => true
section
variable {prog : Program} {w : World} {A : Around} {E : Value → Shared → Prop} {s : Shared} {Q : Bool → Shared → Prop}
theorem lex_keys {b fin : Bool} : ∀ {ks js : List Key} {us vs : List Value} (i : Nat), Vals (ks.map kV) us → Vals (js.map kV) vs → compat ks js = true → fin = decide (ks.length < js.length) → Q (ksLt ks js) s → PySem.W.KatLex prog w A b fin Q (us.zip vs) i s
  | [], [], _, _, i, .nil, .nil, _, hf, q => by
    subst hf
    exact PySem.W.kat_nil q
  | [], _ :: _, _, _, i, .nil, .cons _ _, _, hf, q => by
    subst hf
    exact PySem.W.kat_nil q
  | _ :: _, [], _, _, i, .cons _ _, .nil, _, hf, q => by
    subst hf
    exact PySem.W.kat_nil q
  | x :: xs, y :: ys, _, _, i, .cons (b := u) (l₂ := us) ru rus, .cons (b := v) (l₂ := vs) rv rvs, hc, hf, q => by
    have hc : ((kKind x == kKind y) && (if x = y then compat xs ys else true)) = true := hc
    obtain ⟨h1, h2⟩ := Bool.and_eq_true_iff.mp hc
    have q : Q (if x = y then ksLt xs ys else kLt x y) s := q
    have hf2 : fin = decide (xs.length < ys.length) := by
      rw [hf]
      refine decide_eq_decide.mpr ?_
      simp only [List.length_cons]
      omega
    have ih : x = y → PySem.W.KatLex prog w A b fin Q (us.zip vs) (i + 1) s := fun e => by
      rw [if_pos e] at h2 q
      exact lex_keys (i + 1) rus rvs h2 hf2 q
    cases x with
    | inl a =>
      cases y with
      | inl c =>
        obtain ⟨t, rfl⟩ := ru
        obtain ⟨t', rfl⟩ := rv
        refine PySem.W.kat_cons (wpAny_eqBool_int ?_)
        refine PySem.W.kat_go (fun e => ?_) (fun e => ?_)
        · have ea : a = c := by simpa using e
          exact PySem.W.kat_yes (ih (by rw [ea]))
        · have ea : ¬ a = c := by simpa using e
          rw [if_neg (fun z => ea (Sum.inl.inj z))] at q
          exact PySem.W.kat_no (PyProof.Rows.oneLt_any_int q)
      | inr c => cases h1
    | inr a =>
      cases y with
      | inl c => cases h1
      | inr c =>
        obtain ⟨t, rfl⟩ := ru
        obtain ⟨t', rfl⟩ := rv
        refine PySem.W.kat_cons (wpAny_eqBool_str ?_)
        refine PySem.W.kat_go (fun e => ?_) (fun e => ?_)
        · have ea : a = c := by simpa using e
          exact PySem.W.kat_yes (ih (by rw [ea]))
        · have ea : ¬ a = c := by simpa using e
          rw [if_neg (fun z => ea (Sum.inr.inj z))] at q
          exact PySem.W.kat_no (PyProof.Rows.oneLt_any_str q)
end
def TupK (h : Heap) (v : Value) (ks : List Key) : Prop := ∃ (a : Addr) (its : List Value), v = .ref a ∧ Vals (ks.map kV) its ∧ IsTup h a its.toArray
theorem TupK.keeps {h h' : Heap} {v : Value} {ks : List Key} (x : TupK h v ks) (k : ∀ b o, h.get? b = some o → o.cls = .type "tuple" → h'.get? b = some o) : TupK h' v ks := by
  obtain ⟨a, its, e, r, o, h1, h2, n, h3⟩ := x
  exact ⟨a, its, e, r, o, k a o h1 h2, h2, n, h3⟩
def compatAll (l : List (List Key)) : Bool := l.all fun x => !x.isEmpty && l.all fun y => compat x y
section
variable {prog : Program} {w : World} {A : Around} {E : Value → Shared → Prop} {s : Shared}
theorem tupK_cmp {b : Bool} {vs : List Value} {k : Value → List Key} (hp : ∀ v ∈ vs, TupK s.heap v (k v)) (hc : ∀ v ∈ vs, ∀ u ∈ vs, compat (k v) (k u) = true) : SrtO.Cmp prog w A s (tuples' b) (fun p => p.1 ∈ vs) (SrtO.lt2 fun v u => ksLt (k v) (k u)) := by
  intro p q m1 m2
  obtain ⟨a, its, e1, r1, o1, g1, _, n1, d1⟩ := hp _ m1
  obtain ⟨c, its2, e2, r2, o2, g2, _, n2, d2⟩ := hp _ m2
  show wpAny (model prog w) A (keyLt' (tuples' b) p.1 q.1) (fun r s' => s' = s ∧ r = ksLt (k p.1) (k q.1)) (fun _ _ => False) s
  have q3 := hc _ m1 _ m2
  generalize k p.1 = ks at r1 q3 ⊢
  generalize k q.1 = js at r2 q3 ⊢
  rw [e1, e2]
  refine PySem.W.kat_lt g1 d1 g2 d2 ?_
  refine lex_keys 0 (by simpa using r1) (by simpa using r2) q3 ?_ ⟨rfl, rfl⟩
  have l1 := r1.length
  have l2 := r2.length
  rw [List.length_map] at l1 l2
  rw [List.size_toArray, List.size_toArray, l1, l2]
theorem kat_of {k : Value → List Key} {kd : Bool} : ∀ {l : List Value}, (∀ v ∈ l, TupK s.heap v (k v)) → (∀ v ∈ l, ∃ x r, k v = x :: r ∧ kKind x = kd) →
    ∃ fs, PySem.W.KatTups s.heap l fs ∧ fs.length = l.length ∧ ∀ f ∈ fs, ∃ x, RelV (kV x) f ∧ kKind x = kd
  | [], _, _ => ⟨[], PySem.W.KatTups.nil, rfl, fun f hf => by cases hf⟩
  | v :: l, h1, h2 => by
    obtain ⟨fs, q1, q2, q3⟩ := kat_of (l := l) (fun u hu => h1 u (List.mem_cons_of_mem _ hu)) fun u hu => h2 u (List.mem_cons_of_mem _ hu)
    obtain ⟨a, its, rfl, r1, o1, g1, c1, n1, d1⟩ := h1 v (List.mem_cons_self ..)
    obtain ⟨x, r, ek, hk⟩ := h2 _ (List.mem_cons_self ..)
    rw [ek] at r1
    cases r1 with
    | @cons _ f _ its' rf rr =>
      refine ⟨f :: fs, PySem.W.KatTups.cons g1 c1 d1 (by simp) q1, by simp [q2], fun g hg => ?_⟩
      rcases List.mem_cons.mp hg with rfl | hg
      · exact ⟨x, rf, hk⟩
      · exact q3 g hg
theorem tupK_sortable {a : Addr} {vs : List Value} {k : Value → List Key} {kd : Bool} (h0 : 0 < vs.length) (hp : ∀ v ∈ vs, TupK s.heap v (k v)) (hk : ∀ v ∈ vs, ∃ x r, k v = x :: r ∧ kKind x = kd)
    (hc : ∀ v ∈ vs, ∀ u ∈ vs, compat (k v) (k u) = true) (ha : ∀ o, s.heap.get? a = some o → o.cls ≠ .type "tuple") : SrtO.SortableO prog w A s a vs fun v u => ksLt (k v) (k u) := by
  intro h' same
  have hp' : ∀ v ∈ vs, TupK h' v (k v) := fun v m => (hp v m).keeps fun b o e c => same b o (fun z => ha o (by rw [← z]; exact e) c) e
  obtain ⟨fs, q1, q2, q3⟩ := kat_of (s := { s with heap := h' }) hp' hk
  refine ⟨tuples' true, fun Q E hq => ?_, tupK_cmp hp' hc⟩
  cases kd with
  | true =>
    refine PySem.W.kat_kind (T := .type "int") q1 (by omega) (fun f m => ?_) (by rfl) ?_
    · obtain ⟨x, rx, kx⟩ := q3 f m
      cases x with
      | inl i =>
        obtain ⟨t, rfl⟩ := rx
        exact PySem.W.Looks.now
      | inr _ => cases kx
    · rw [show (Value.type "int" != Value.type "tuple") = true from by decide +kernel]
      exact hq
  | false =>
    refine PySem.W.kat_kind (T := .type "str") q1 (by omega) (fun f m => ?_) (by rfl) ?_
    · obtain ⟨x, rx, kx⟩ := q3 f m
      cases x with
      | inr i =>
        obtain ⟨t, rfl⟩ := rx
        exact PySem.W.Looks.now
      | inl _ => cases kx
    · rw [show (Value.type "str" != Value.type "tuple") = true from by decide +kernel]
      exact hq
theorem swo_by {β : Type} (k : β → List Key) : SrtO.Swo fun v u : β => ksLt (k v) (k u) := ⟨fun x y h => tot_keys.asym _ _ h, fun x y z h1 h2 => tot_keys.tr _ _ _ h1 h2⟩
end
def rSrtK (K : PySem.W.Frag) : List V → Hp → VK → Prop := fun vs H Q => ∃ (a : Addr) (xs : List V) (k : V → List Key) (kd : Bool), vs = [.ref a] ∧ SqL K H a xs ∧ (∀ x ∈ xs, ∃ t, x = .ref t ∧ SqT K H t ((k x).map kV)) ∧
  (∀ x ∈ xs, ∃ y r, k x = y :: r ∧ kKind y = kd) ∧ (∀ x ∈ xs, ∀ y ∈ xs, compat (k x) (k y) = true) ∧
  ∀ ys p, SrtO.Srtd (fun v u => ksLt (k v) (k u)) ys → ys.Perm xs → H p = none → Q (.ref p) (upd H p (.lst ys))
section
variable {X : Cx}
end
end Vi
namespace Vi
open PySem L2 PyProof.Rows
section
variable {prog : Program} {w : World} {A : Around} {E : Value → Shared → Prop} {s : Shared}
def Colls (prog : Program) (w : World) (A : Around) (s : Shared) (x : Value) (vs : List Value) : Prop :=
  ∀ (E : Value → Shared → Prop) (R : List Value → Shared → Prop), (∀ (h' : Heap) (tk : Nat), (∀ b o, s.heap.get? b = some o → h'.get? b = some o) → R vs { s with heap := h', toks := tk }) → wpAny (model prog w) A (collect x) R E s
theorem sorted_src {x : Value} {vs : List Value} {ltv : Value → Value → Bool} {Q : Value → Shared → Prop} (O : SrtO.Swo ltv) (hc : Colls prog w A.in1 s x vs) (hz : vs.length ≤ sizeLine)
    (hS : 2 ≤ vs.length → ∀ (s₁ : Shared) (a : Addr), s₁.heap.get? a = some (seqObj "list" vs.toArray 0) → (∀ b o, s.heap.get? b = some o → b ≠ a ∧ s₁.heap.get? b = some o) → SrtO.SortableO prog w A.in1.in1 s₁ a vs ltv)
    (h : ∀ (out : List Value) (h1 h' : Heap) (tk : Nat), SrtO.Srtd ltv out → SrtO.Stb ltv out vs → (∀ b o, s.heap.get? b = some o → h1.get? b = some o) → (∀ b o, h1.get? b = some o → h'.get? b = some o) → (∃ n, h'.get? h1.objs.size = some (seqObj "list" out.toArray n)) → Q (.ref h1.objs.size) { s with heap := h', toks := tk }) :
    wpAny (model prog w) A (call (.builtin "sorted") [x]) Q E s := by
  refine Calls.call_function_entry kind_sorted plain_sorted entry_sorted (args_sorted1 _) ?_
  unfold Builtin.«sorted»
  refine wpAny_bind (m := checkCount "sorted" 1 1 _) (wpAny_pure ?_)
  refine wpAny_bind (hc _ _ fun h1 tk k1 => ?_)
  refine wpAny_bind (wpAny_newList (items := vs) ?_ hz)
  have hL : (h1.push (seqObj "list" vs.toArray 0)).get? h1.objs.size = some (seqObj "list" vs.toArray 0) := Heap.get?_push_size _ rfl
  have k2 : ∀ b o, s.heap.get? b = some o → b ≠ h1.objs.size ∧ (h1.push (seqObj "list" vs.toArray 0)).get? b = some o := fun b o e => by
    have e1 := k1 b o e
    exact ⟨Nat.ne_of_lt (Heap.lt_size e1), Heap.get?_push_of_some _ e1⟩
  show wpAny _ _ _ _ _ { s with heap := h1.push (seqObj "list" vs.toArray 0), toks := tk }
  refine wpAny_bind (wpAny_holding (wpAny_call_entry slot_list_sort ⟨_, hL, rfl⟩ entry_list_sort
    (SrtO.list_sort_ord (s := { s with heap := h1.push (seqObj "list" vs.toArray 0), toks := tk }) O hL hz (fun h2 => hS h2 { s with heap := h1.push (seqObj "list" vs.toArray 0), toks := tk } _ hL k2) fun out q1 q2 => ⟨_, rfl, ?_⟩) (args_list_sort _)))
  obtain ⟨n, hn⟩ := sortedHeap_at (vs := vs) (out := out.toArray) hL
  refine wpAny_pure ⟨_, rfl, h out h1 _ tk q1 q2 k1 (fun b o e => ?_) ⟨n, hn⟩⟩
  have e2 : (h1.push (seqObj "list" vs.toArray 0)).get? b = some o := Heap.get?_push_of_some _ e
  rw [sortedHeap_old (Nat.ne_of_lt (Heap.lt_size e)) (Heap.lt_size e2)]
  exact e2
end
end Vi
namespace Vi
open PySem L2 PyProof.Rows
section
variable {prog : Program} {w : World} {A : Around} {s : Shared}
theorem colls_list {l : Addr} {vs : List Value} (hl : s.heap.IsList l vs.toArray) (hz : vs.length ≤ sizeLine) : Colls prog w A s (.ref l) vs := fun E R h => by
  refine collect_list hl (h _ s.toks fun b o e => ?_) hz
  have hb : b ≠ s.heap.objs.size := Nat.ne_of_lt (Heap.lt_size e)
  rw [Heap.get?_update_ne _ _ _ _ hb]
  exact Heap.get?_push_of_some _ e
theorem colls_tup {l : Addr} {vs : List Value} (hl : IsTup s.heap l vs.toArray) (hz : vs.length ≤ sizeLine) : Colls prog w A s (.ref l) vs := fun E R h => by
  obtain ⟨o, g1, g2, n, g3⟩ := hl
  have hn : ∀ b u, s.heap.get? b = some u → ((s.heap.push (seqObj "list" #[] 0)).update s.heap.objs.size (Obj.mapSeq (· ++ vs.toArray))).get? b = some u := fun b u e => by
    have hb : b ≠ s.heap.objs.size := Nat.ne_of_lt (Heap.lt_size e)
    rw [Heap.get?_update_ne _ _ _ _ hb]
    exact Heap.get?_push_of_some _ e
  have fin := h _ s.toks hn
  unfold collect
  refine wpAny_bind (wpAny_runValue (codeAny_builtin entry_proto_collect' ?_))
  show wpAny _ _ (newList [] >>= fun z => again (.builtin "list.__iadd__" ⟨[z, .ref l], []⟩)) _ _ s
  refine wpAny_bind (wpAny_newList (items := []) (wpAny_pure ⟨Code.quiet_builtin _ (by decide +kernel), codeAny_builtin entry_list_iadd' ?_⟩) (Nat.zero_le _))
  show wpAny _ _ (Builtin.List.listExtendWith (.ref s.heap.objs.size) (.ref l) (.ref s.heap.objs.size)) _ _ { s with heap := s.heap.push (seqObj "list" #[] 0) }
  have g4 : (s.heap.push (seqObj "list" #[] 0)).get? l = some o := Heap.get?_push_of_some _ g1
  have new : (s.heap.push (seqObj "list" #[] 0)).get? s.heap.objs.size = some (seqObj "list" #[] 0) := Heap.get?_push_size _ rfl
  unfold Builtin.List.listExtendWith
  refine wpAny_bind (wpAny_typeOf (T := "tuple") ⟨o, g4, g2⟩ ?_)
  have tt : (Value.type "tuple" == Value.type "tuple") = true := rfl
  rw [if_pos (by rw [tt, Bool.or_true])]
  refine wpAny_bind (listItems_at g4 g3 (wpAny_bind (listItems_at (xs := #[]) (n := 0) new rfl ?_)))
  rw [if_neg (by simp)]
  refine wpAny_bind (listUpdate_at (xs := #[]) (n := 0) new rfl ?_ (Nat.zero_le _) (by
    show (#[] ++ vs.toArray).size ≤ sizeLine + 1
    have e1 : vs.toArray.size = vs.length := List.size_toArray ..
    have e2 : (#[] ++ vs.toArray).size = vs.toArray.size := by simp
    omega))
  refine wpAny_pure ?_
  show wpAny (model prog w) A (load s.heap.objs.size >>= fun o => match o.data with
      | .seq xs _ => pure xs.toList
      | _ => unsupported "internal:collect") R E { s with heap := (s.heap.push (seqObj "list" #[] 0)).update s.heap.objs.size (Obj.mapSeq (· ++ vs.toArray)) }
  refine wpAny_bind (wpAny_load (get?_update_seq new _) ?_)
  show wpAny _ _ (pure ((#[] : Array Value) ++ vs.toArray).toList) R E _
  rw [show ((#[] : Array Value) ++ vs.toArray).toList = vs by simp]
  exact wpAny_pure fin
end
def bV (v : Value) : V := (absV v).getD .non
theorem bV_of {x : V} {v : Value} (r : RelV x v) : bV v = x := by
  unfold bV
  rw [r.abs]
  rfl
theorem bV_list : ∀ {xs : List V} {us : List Value}, Vals xs us → us.map bV = xs
  | _, _, .nil => rfl
  | _, _, .cons r t => by
    rw [List.map_cons, bV_of r, bV_list t]
theorem vals_bV : ∀ {us : List Value}, (∀ u ∈ us, RelV (bV u) u) → Vals (us.map bV) us
  | [], _ => .nil
  | u :: us, h => .cons (h u (List.mem_cons_self ..)) (vals_bV fun v hv => h v (List.mem_cons_of_mem _ hv))
theorem rel_bV : ∀ {xs : List V} {us : List Value}, Vals xs us → ∀ u ∈ us, bV u ∈ xs ∧ RelV (bV u) u
  | _, _, .nil, u, h => by cases h
  | _, _, .cons r t, u, h => by
    rcases List.mem_cons.mp h with rfl | h
    · rw [bV_of r]
      exact ⟨List.mem_cons_self .., r⟩
    · obtain ⟨h1, h2⟩ := rel_bV t u h
      exact ⟨List.mem_cons_of_mem _ h1, h2⟩
inductive Mode (K : PySem.W.Frag) (H : Hp) (k : V → List Key) (xs : List V) : Prop where
  | flat (kd : Bool) (h : ∀ x ∈ xs, ∃ y, x = kV y ∧ k x = [y] ∧ kKind y = kd)
  | tup (kd : Bool) (h1 : ∀ x ∈ xs, ∃ t, x = .ref t ∧ SqT K H t ((k x).map kV)) (h2 : ∀ x ∈ xs, ∃ y r, k x = y :: r ∧ kKind y = kd) (h3 : ∀ x ∈ xs, ∀ y ∈ xs, compat (k x) (k y) = true)
section
variable {prog : Program} {w : World} {A : Around} {s : Shared}
theorem ints_of {k : V → List Key} : ∀ {vs : List Value}, (∀ v ∈ vs, ∃ y, RelV (kV y) v ∧ kKind y = true) → ∃ ns, IntsAre vs ns
  | [], _ => ⟨[], .nil⟩
  | v :: vs, h => by
    obtain ⟨ns, q⟩ := ints_of (k := k) (vs := vs) fun u hu => h u (List.mem_cons_of_mem _ hu)
    obtain ⟨y, r, e⟩ := h v (List.mem_cons_self ..)
    cases y with
    | inl i =>
      obtain ⟨t, rfl⟩ := r
      exact ⟨i :: ns, .cons i t q⟩
    | inr _ => cases e
theorem strs_of {k : V → List Key} : ∀ {vs : List Value}, (∀ v ∈ vs, ∃ y, RelV (kV y) v ∧ kKind y = false) → ∃ ns, StrsAre vs ns
  | [], _ => ⟨[], .nil⟩
  | v :: vs, h => by
    obtain ⟨ns, q⟩ := strs_of (k := k) (vs := vs) fun u hu => h u (List.mem_cons_of_mem _ hu)
    obtain ⟨y, r, e⟩ := h v (List.mem_cons_self ..)
    cases y with
    | inr i =>
      obtain ⟨t, rfl⟩ := r
      exact ⟨i :: ns, .cons i t q⟩
    | inl _ => cases e
theorem flat_sortable {a : Addr} {vs : List Value} {k : V → List Key} {kd : Bool} (h2 : 2 ≤ vs.length) (hp : ∀ v ∈ vs, ∃ y, RelV (kV y) v ∧ k (bV v) = [y] ∧ kKind y = kd) : SrtO.SortableO prog w A s a vs fun v u => ksLt (k (bV v)) (k (bV u)) := by
  intro h' _
  refine ⟨oneType', fun Q E hq => ?_, fun p q m1 m2 => ?_⟩
  · match vs, h2, hp with
    | v1 :: v2 :: r, _, hp =>
      cases kd with
      | true =>
        obtain ⟨ns, hi⟩ := ints_of (k := k) fun v hv => by
          obtain ⟨y, q1, _, q3⟩ := hp v hv
          exact ⟨y, q1, q3⟩
        rw [keyKind_ints hi]
        exact wpAny_pure hq
      | false =>
        obtain ⟨ns, hi⟩ := strs_of (k := k) fun v hv => by
          obtain ⟨y, q1, _, q3⟩ := hp v hv
          exact ⟨y, q1, q3⟩
        rw [keyKind_strs hi]
        exact wpAny_pure hq
    | [], h, _ => exact absurd h (by decide)
    | [v], h, _ => exact absurd h (by simp)
  · obtain ⟨x, r1, e1, k1⟩ := hp _ m1
    obtain ⟨y, r2, e2, k2⟩ := hp _ m2
    show wpAny (model prog w) A (keyLt' oneType' p.1 q.1) (fun r s' => s' = { s with heap := h' } ∧ r = ksLt (k (bV p.1)) (k (bV q.1))) (fun _ _ => False) _
    rw [e1, e2, keyLt'_oneType]
    cases x with
    | inl i =>
      cases y with
      | inl j =>
        obtain ⟨t, et⟩ := r1
        obtain ⟨t', et'⟩ := r2
        rw [et, et']
        refine oneLt_int ⟨rfl, ?_⟩
        unfold ksLt
        by_cases e : (Sum.inl i : Key) = .inl j
        · rw [if_pos e]
          cases e
          exact decide_eq_false (Int.lt_irrefl _)
        · rw [if_neg e]
          rfl
      | inr j => rw [← k1] at k2; cases k2
    | inr i =>
      cases y with
      | inr j =>
        obtain ⟨t, et⟩ := r1
        obtain ⟨t', et'⟩ := r2
        rw [et, et']
        refine oneLt_str ⟨rfl, ?_⟩
        unfold ksLt
        by_cases e : (Sum.inr i : Key) = .inr j
        · rw [if_pos e]
          cases e
          exact decide_eq_false (List.lt_irrefl _)
        · rw [if_neg e]
          rfl
      | inl j => rw [← k1] at k2; cases k2
end
inductive SrcV (K : PySem.W.Frag) (H : Hp) (a : Addr) (xs : List V) : Prop where
  | lst (h : SqL K H a xs)
  | tup (h : SqT K H a xs)
def rSrt (K : PySem.W.Frag) : List V → Hp → VK → Prop := fun vs H Q => ∃ (a : Addr) (xs : List V) (k : V → List Key), vs = [.ref a] ∧ SrcV K H a xs ∧ Mode K H k xs ∧
  ∀ ys p, SrtO.Srtd (fun v u => ksLt (k v) (k u)) ys → ys.Perm xs → H p = none → Q (.ref p) (upd H p (.lst ys))
section
variable {X : Cx}
theorem cr_srt : CallR X (.builtin "sorted") (rSrt X.K) := by
  intro pins s σ H vs us Q I r ⟨a, xs, k, e, hs, hm, q⟩
  subst e
  obtain ⟨its, rv, hc, hz⟩ : ∃ its : List Value, Vals xs its ∧ (∀ A, Colls X.prog X.w A s (.ref a) its) ∧ xs.length ≤ sizeLine := by
    cases hs with
    | lst hs =>
      obtain ⟨its, rv, hl, hz⟩ := I.list hs
      exact ⟨its, rv, fun A => colls_list hl.isList (by rw [← rv.length]; exact hz), hz⟩
    | tup hs =>
      obtain ⟨its, rv, hl, hz⟩ := I.tuple hs
      exact ⟨its, rv, fun A => colls_tup hl (by rw [← rv.length]; exact hz), hz⟩
  rw [Vals.ref1 r]
  have mem := rel_bV rv
  refine sorted_src (swo_by fun v => k (bV v)) (hc _) (by rw [← rv.length]; exact hz) (fun h2 s₁ a' h3 same => ?_) fun out h1 h' tk q1 q2 k1 k2 q3 => ?_
  · cases hm with
    | flat kd h =>
      refine flat_sortable (kd := kd) h2 fun v hv => ?_
      obtain ⟨m1, m2⟩ := mem v hv
      obtain ⟨y, e1, e2, e3⟩ := h _ m1
      exact ⟨y, by rw [← e1]; exact m2, e2, e3⟩
    | tup kd g1 g2 g3 =>
      refine tupK_sortable (kd := kd) (k := fun v => k (bV v)) (by omega) (fun v hv => ?_) (fun v hv => g2 _ (mem v hv).1) (fun v hv u hu => g3 _ (mem v hv).1 _ (mem u hu).1) fun o e => ?_
      · obtain ⟨m1, m2⟩ := mem v hv
        obtain ⟨t, e1, e2⟩ := g1 _ m1
        rw [e1] at m2
        cases m2
        obtain ⟨js, rj, pj, _⟩ := I.tuple e2
        exact (show TupK s.heap (.ref t) (k (bV (.ref t))) from ⟨t, js, rfl, rj, pj⟩).keeps fun b o e _ => (same b o e).2
      · rw [h3] at e
        cases e
        exact fun z => absurd (show Value.type "list" = Value.type "tuple" from z) (by decide)
  · have hr : ∀ u ∈ out, RelV (bV u) u := fun u hu => (mem u (q2.perm.mem_iff.mp hu)).2
    have hp : (out.map bV).Perm xs := by
      have z := q2.perm.map bV
      rw [bV_list rv] at z
      exact z
    have I1 : Inv X pins σ H { s with heap := h1, toks := tk } := I.kept k1
    refine ⟨.ref h1.objs.size, upd H h1.objs.size (.lst (out.map bV)), I1.laid (t' := tk) k2 (Nat.le_refl _) ⟨?_, out, ?_⟩, rfl, q _ _ (List.pairwise_map.mpr q1) hp (I1.hok.fresh (Nat.le_refl _))⟩
    · rw [hp.length_eq]
      exact hz
    · obtain ⟨n, hn⟩ := q3
      exact ⟨n, vals_bV hr, hn⟩
end
end Vi
namespace Vi
open PySem L2 PyProof.Rows
def dKey : Key → D
  | .inl i => .int i
  | .inr x => .str x
def tupD (ks : List Key) : D := .tup (ks.map dKey)
def sameKinds : List Key → Bool
  | [] => true
  | k :: r => r.all fun j => kKind j == kKind k
def tupKs? (kc : List D → Bool) : List D → Option (List (List Key))
  | [] => some []
  | .tup ds :: r => if kc ds then none else (match keys? ds, tupKs? kc r with
    | some ks, some kss => some (ks :: kss)
    | _, _ => none)
  | _ => none
def sortD? (kc : List D → Bool) (ds : List D) : Option (List D) := match keys? ds with
  | some ks => if sameKinds ks then some ((sortL kLt ks).map dKey) else none
  | none => (match tupKs? kc ds with
    | some kss => if compatAll kss then some ((sortL ksLt kss).map tupD) else none
    | none => none)
def fSorted (kc : List D → Bool) (o : Bool) (xs : List Vl) (h : Hc) : R Vl := match xs with
  | [x] => (match seq? h x with
    | some ds => (match sortD? kc ds with
      | some es => .ok (Vl.ofL o es) h
      | none => .stuck)
    | none => .stuck)
  | _ => .stuck
theorem ks_one {x y : Key} : ksLt [x] [y] = kLt x y := by
  show (if x = y then ksLt [] [] else kLt x y) = kLt x y
  by_cases e : x = y
  · rw [if_pos e, e]
    exact (tot_key.irr y).symm
  · rw [if_neg e]
theorem insL_one (x : Key) : ∀ l : List Key, insL ksLt [x] (l.map fun k => [k]) = (insL kLt x l).map fun k => [k]
  | [] => rfl
  | y :: r => by
    show (if ksLt [y] [x] then [y] :: insL ksLt [x] (r.map fun k => [k]) else [x] :: [y] :: r.map fun k => [k]) = (if kLt y x then y :: insL kLt x r else x :: y :: r).map fun k => [k]
    rw [ks_one, insL_one x r]
    split <;> rfl
theorem sortL_one : ∀ l : List Key, sortL ksLt (l.map fun k => [k]) = (sortL kLt l).map fun k => [k]
  | [] => rfl
  | x :: r => by
    show insL ksLt [x] (sortL ksLt (r.map fun k => [k])) = (insL kLt x (sortL kLt r)).map fun k => [k]
    rw [sortL_one r, insL_one]
open Classical in
noncomputable def kOf (H : Hp) : V → List Key
  | .int i => [.inl i]
  | .str x => [.inr x]
  | .ref t => if h : ∃ ks : List Key, H t = some (.tup (ks.map kV)) then h.choose else []
  | _ => []
open Classical in
theorem kOf_ref {H : Hp} {t : Addr} {ks : List Key} (h : H t = some (.tup (ks.map kV))) : kOf H (.ref t) = ks := by
  have ex : ∃ ks : List Key, H t = some (.tup (ks.map kV)) := ⟨ks, h⟩
  show (if h : ∃ ks : List Key, H t = some (.tup (ks.map kV)) then h.choose else []) = ks
  rw [dif_pos ex]
  have e := h.symm.trans ex.choose_spec
  injection e with e
  injection e with e
  exact (kVs_inj e).symm
theorem kOf_key (H : Hp) (k : Key) : kOf H (kV k) = [k] := by cases k <;> rfl
section
variable {g : Gi} {F : Hp} {al : Nat → Option Addr}
theorem rep_key (k : Key) : Rep g F al (dKey k) (kV k) := by cases k <;> rfl
theorem keys_all {H : Hp} : ∀ {ds : List D} {vs : List V} {ks : List Key}, Reps g F al ds vs → keys? ds = some ks → (∀ v ∈ vs, ∃ y, v = kV y ∧ kOf H v = [y] ∧ y ∈ ks ∧ Rep g F al (dKey y) v) ∧ vs.map (kOf H) = ks.map fun k => [k] := by
  intro ds vs ks r e
  have hv := keys_rep r e
  subst hv
  refine ⟨fun v hv => ?_, ?_⟩
  · obtain ⟨y, hy, rfl⟩ := List.mem_map.mp hv
    exact ⟨y, rfl, kOf_key H y, hy, rep_key y⟩
  · rw [List.map_map]
    exact List.map_congr_left fun k _ => kOf_key H k
theorem dKeys_of : ∀ {ds : List D} {ks : List Key}, keys? ds = some ks → ds = ks.map dKey
  | [], ks, e => by
    cases e
    rfl
  | d :: ds, ks, e => by
    unfold keys? at e
    split at e
    · next k ks' e1 e2 =>
      cases e
      rw [List.map_cons, ← dKeys_of e2]
      cases d <;> cases e1 <;> rfl
    · cases e
theorem tups_all {H : Hp} (hF : ∀ a o, F a = some o → H a = some o) : ∀ {ds : List D} {vs : List V} {kss : List (List Key)}, Reps g F al ds vs → tupKs? g.kc ds = some kss →
    (∀ v ∈ vs, ∃ t ks, v = .ref t ∧ H t = some (.tup (ks.map kV)) ∧ kOf H v = ks ∧ ks ∈ kss ∧ Rep g F al (tupD ks) v) ∧ vs.map (kOf H) = kss
  | [], vs, kss, r, e => by
    cases e
    cases r
    exact ⟨fun v hv => (by cases hv), rfl⟩
  | d :: ds, vs, kss, r, e => by
    obtain ⟨v, ws, rfl, r1, r2⟩ := r
    cases d with
    | tup es =>
      unfold tupKs? at e
      split at e
      · cases e
      · next hk =>
        split at e
        · next ks kss' e1 e2 =>
          cases e
          obtain ⟨q1, q2⟩ := tups_all hF r2 e2
          obtain ⟨t, us, rfl, h1, h2⟩ := r1
          have hu := keys_rep h2 e1
          subst hu
          have hF' : F t = some (.tup (ks.map kV)) := by
            rcases h1 with h1 | h1
            · exact h1
            · exact absurd h1.1 hk
          have hH := hF _ _ hF'
          have ek := kOf_ref hH
          refine ⟨fun v hv => ?_, by rw [List.map_cons, ek, q2]⟩
          rcases List.mem_cons.mp hv with rfl | hv
          · refine ⟨t, ks, rfl, hH, ek, List.mem_cons_self .., t, _, rfl, .inl hF', ?_⟩
            rw [← dKeys_of e1]
            exact h2
          · obtain ⟨t', ks', g1, g2, g3, g4, g5⟩ := q1 v hv
            exact ⟨t', ks', g1, g2, g3, List.mem_cons_of_mem _ g4, g5⟩
        · cases e
    | _ => cases e
theorem reps_by {k : V → List Key} {f : List Key → D} : ∀ {ys : List V}, (∀ y ∈ ys, Rep g F al (f (k y)) y) → Reps g F al ((ys.map k).map f) ys
  | [], _ => rfl
  | y :: ys, h => ⟨y, ys, rfl, h y (List.mem_cons_self ..), reps_by fun z hz => h z (List.mem_cons_of_mem _ hz)⟩
end
section
variable {X : Cx} {g : Gi}
theorem c_sorted (o : Bool) (hK : g.K = X.K) : CallV X g (.builtin "sorted") (fSorted g.kc o) := by
  refine ⟨_, cr_srt, fun B W env s σ H xs vs Q sr r p => ?_⟩
  unfold fSorted at p
  split at p
  · next x =>
    obtain ⟨v, rfl, rr⟩ := r.one
    split at p
    · next ds e1 =>
      split at p
      · next es e2 =>
        obtain ⟨a, ws, rfl, h1, q1⟩ := rr.seq sr.good e1
        have hsrc : SrcV X.K H a ws := by
          rcases h1 with h1 | h1
          · exact .lst (hK ▸ h1)
          · exact .tup (hK ▸ h1)
        unfold sortD? at e2
        split at e2
        · next ks ek =>
          split at e2
          · next hs =>
            cases e2
            obtain ⟨z1, z2⟩ := keys_all (H := H) q1 ek
            refine ⟨a, ws, kOf H, rfl, hsrc, .flat (match ks with
              | [] => true
              | k :: _ => kKind k) (fun v hv => ?_), fun ys q hsd hp hq => ?_⟩
            · obtain ⟨y, g1, g2, g3, _⟩ := z1 v hv
              refine ⟨y, g1, g2, ?_⟩
              cases ks with
              | nil => cases g3
              | cons k r =>
                rcases List.mem_cons.mp g3 with rfl | g3
                · rfl
                · have := List.all_eq_true.mp hs y g3
                  exact eq_of_beq this
            · have e3 : ys.map (kOf H) = (sortL kLt ks).map fun k => [k] := by
                rw [← sortL_one, ← z2]
                exact sortL_of tot_keys (List.pairwise_map.mpr hsd) (hp.map _)
              have hr : Reps g s.F s.al ((sortL kLt ks).map dKey) ys := by
                have q5 := reps_by (g := g) (F := s.F) (al := s.al) (k := kOf H) (f := fun l => match l with
                  | [k] => dKey k
                  | _ => .non) (ys := ys) fun y hy => by
                  obtain ⟨y', g1, g2, _, g4⟩ := z1 y (hp.mem_iff.mp hy)
                  rw [g2]
                  exact g4
                rw [e3, List.map_map] at q5
                exact q5
              exact PostE.newLO sr p hr hq
          · cases e2
        · split at e2
          · next kss ek =>
            split at e2
            · next hs =>
              cases e2
              obtain ⟨z1, z2⟩ := tups_all sr.good.fle q1 ek
              have hc : ∀ x ∈ kss, x.isEmpty = false ∧ ∀ y ∈ kss, compat x y = true := fun x hx => by
                obtain ⟨c1, c2⟩ := Bool.and_eq_true_iff.mp (List.all_eq_true.mp hs x hx)
                exact ⟨by simpa using c1, fun y hy => List.all_eq_true.mp c2 y hy⟩
              refine ⟨a, ws, kOf H, rfl, hsrc, .tup (match kss with
                | (k :: _) :: _ => kKind k
                | _ => true) (fun v hv => ?_) (fun v hv => ?_) (fun v hv u hu => ?_), fun ys q hsd hp hq => ?_⟩
              · obtain ⟨t, ks, g1, g2, g3, _⟩ := z1 v hv
                exact ⟨t, g1, by rw [g3]; exact .inl (.inl g2)⟩
              · obtain ⟨t, ks, g1, g2, g3, g4, _⟩ := z1 v hv
                rw [g3]
                obtain ⟨c1, c2⟩ := hc ks g4
                cases ks with
                | nil => cases c1
                | cons y r =>
                  refine ⟨y, r, rfl, ?_⟩
                  match kss, g4, hc, c2 with
                  | l :: kss', _, hc, c2 =>
                    cases l with
                    | nil =>
                      have := (hc [] (List.mem_cons_self ..)).1
                      cases this
                    | cons z r' =>
                      have c3 := c2 (z :: r') (List.mem_cons_self ..)
                      have c4 : ((kKind y == kKind z) && (if y = z then compat r r' else true)) = true := c3
                      exact eq_of_beq (Bool.and_eq_true_iff.mp c4).1
              · obtain ⟨t, ks, _, _, g3, g4, _⟩ := z1 v hv
                obtain ⟨t', ks', _, _, g3', g4', _⟩ := z1 u hu
                rw [g3, g3']
                exact (hc ks g4).2 ks' g4'
              · have e3 : ys.map (kOf H) = sortL ksLt kss := by
                  rw [← z2]
                  exact sortL_of tot_keys (List.pairwise_map.mpr hsd) (hp.map _)
                have hr : Reps g s.F s.al ((sortL ksLt kss).map tupD) ys := by
                  have q5 := reps_by (g := g) (F := s.F) (al := s.al) (k := kOf H) (f := tupD) (ys := ys) fun y hy => by
                    obtain ⟨t, ks, g1, g2, g3, _, g5⟩ := z1 y (hp.mem_iff.mp hy)
                    rw [g3]
                    exact g5
                  rw [e3] at q5
                  exact q5
                exact PostE.newLO sr p hr hq
            · cases e2
          · cases e2
      · exact p.elim
    · exact p.elim
  · exact p.elim
end
end Vi
set_option maxHeartbeats 2000000
namespace Vi
open PySem L2 PyProof.Rows
def fLens (T : Tbl) (xs : List Vl) (h : Hc) : R Vl := match xs with
  | [.d (.obj c fs)] => (match T c with
    | some F => (F [.obj c fs] h).bind fun d h' => match d with
      | .int i => if 0 ≤ i ∧ i < 2 ^ 62 then .ok (.d (.int i)) h' else .stuck
      | _ => .stuck
    | none => .stuck)
  | _ => fLen xs h
def fIns (neg : Bool) (T : Tbl) (F0 : Vl → Vl → Hc → R Vl) (x y : Vl) (h : Hc) : R Vl := match y with
  | .d (.obj c fs) => (match T c, x with
    | some F, .d xd => (F [.obj c fs, xd] h).bind fun d h' => match d with
      | .bl b => .ok (.d (nB neg b)) h'
      | _ => .stuck
    | _, _ => .stuck)
  | _ => F0 x y h
def fOwnIx (T : Tbl) (x y : Vl) (h : Hc) : R Vl := match x, y with
  | .d (.obj c fs), .d yd => (match T c with
    | some F => (F [.obj c fs, yd] h).bind fun d h' => .ok (.d d) h'
    | none => .stuck)
  | _, _ => .stuck
def isObj? : Vl → Bool
  | .d (.obj _ _) => true
  | _ => false
def fIxs (T : Tbl) (F0 : Vl → Vl → Hc → R Vl) (x y : Vl) (h : Hc) : R Vl := if isObj? x then fOwnIx T x y h else F0 x y h
section
variable {X : Cx} {g : Gi} {B : Bg} {W : WXv} {pos p : Pos} {a b : Expr} {ma mb : ME} {A : MA}
end
end Vi
namespace Vi
open PySem L2 PyProof.Rows
section
variable {X : Cx} {g : Gi} {B : Bg} {W : WXv} {pos p : Pos} {a b : Expr} {m ma mb : ME} {A : MA}
end
end Vi
namespace Vi
open PySem L2 PyProof.Rows
theorem un65 {A : Around} {j : Nat} (hr : Room j A) : A.units + 65 < cLine := by
  have h := hr.un
  omega
end Vi
namespace Vi
open PySem L2 PyProof.Rows
def txts? : List D → Option (List Str)
  | [] => some []
  | .str a :: r => (txts? r).map (a :: ·)
  | _ => none
def fSplit (o : Bool) (a : Str) (y : Vl) (h : Hc) : R Vl := match y with
  | .d (.str b) => if b.length ≠ 0 ∧ a.length + 2 ≤ sizeLine then .ok (Vl.ofL o ((Txt.split a b).map D.str)) h else .stuck
  | _ => .stuck
def fJoin (a : Str) (y : Vl) (h : Hc) : R Vl := match (seq? h y).bind txts? with
  | some ys => if (ys.map (·.length)).sum + ys.length * a.length ≤ 16777216 then .ok (.d (.str (Txt.join a ys))) h else .stuck
  | none => .stuck
def mStr1 (f : Str → Vl → Hc → R Vl) (mo me : ME) : ME := fun env h => (mo env h).bind fun x h1 => match x with
  | .d (.str a) => (me env h1).bind fun y h2 => f a y h2
  | _ => .stuck
section
variable {X : Cx} {g : Gi} {B : Bg} {W : WXv} {apos pos : Pos} {o e : Expr} {mo me : ME}
theorem reps_txts {F : Hp} {al : Nat → Option Addr} : ∀ ys : List Str, Reps g F al (ys.map D.str) (ys.map V.str)
  | [] => rfl
  | _ :: r => ⟨_, _, rfl, rfl, reps_txts r⟩
theorem txts_reps {F : Hp} {al : Nat → Option Addr} : ∀ {ds : List D} {vs : List V} {ys : List Str}, Reps g F al ds vs → txts? ds = some ys → vs = ys.map V.str
  | [], _, _, h, e => by
    cases e
    exact h
  | .str a :: r, _, _, ⟨v, w, h1, h2, h3⟩, e => by
    obtain ⟨zs, e1, e2⟩ := Option.map_eq_some_iff.mp (show (txts? r).map (a :: ·) = some _ from e)
    subst e2 h1
    cases h2
    rw [txts_reps h3 e1]
    rfl
  | .non :: _, _, _, _, e => by cases e
  | .bl _ :: _, _, _, _, e => by cases e
  | .int _ :: _, _, _, _, e => by cases e
  | .tup _ :: _, _, _, _, e => by cases e
  | .xtup _ :: _, _, _, _, e => by cases e
  | .lst _ :: _, _, _, _, e => by cases e
  | .kl _ :: _, _, _, _, e => by cases e
  | .ref _ :: _, _, _, _, e => by cases e
  | .obj _ _ :: _, _, _, _, e => by cases e
  | .cls _ :: _, _, _, _, e => by cases e
  | .dK _ :: _, _, _, _, e => by cases e
  | .dT _ :: _, _, _, _, e => by cases e
theorem str1E {a : ME} {f : Str → Vl → Hc → R Vl} {env : Env} {s : Sta} {σ : L2.St} {H : Hp} {Q : VK} (sr : SR g B env s σ H) (p : PostE g B W env s σ H (mStr1 f mo me env s.h) Q) :
    tE g B W mo σ H fun v H1 => ∃ a, v = .str a ∧ tE g B W me σ H1 fun w H2 => ∃ s2 y, SR g B env s2 σ H2 ∧ VlRep g B env σ s2 H2 y w ∧ PostE g B W env s2 σ H2 (f a y s2.h) Q := by
  refine (bindE (Q := Q) sr p).mono fun v H1 ⟨s1, x, sr1, _, r1, p1⟩ => ?_
  split at p1
  · next a =>
    cases r1
    refine ⟨a, rfl, (bindE (Q := Q) sr1 p1).mono fun w H2 ⟨s2, y, sr2, _, r2, p2⟩ => ⟨s2, y, sr2, r2, p2⟩⟩
  · exact p1.elim
theorem ve_split (own : Bool) (ho : PE X o (tE g B W mo)) (he : PE X e (tE g B W me)) (hs : starEach [e] X.env = [(false, eval e X.env)] := by rfl) (hbase : attributeBase o "split" X.env (eval o X.env) = eval o X.env := by rfl) (hline : (apos.endLine == pos.line) = true := by rfl) :
    PE X (.Call (.Attribute o "split" apos) [e] [] pos) (tE g B W (mStr1 (fSplit own) mo me)) := by
  refine pe_imp (pe_split ho he hs hbase hline) fun σ H Q ⟨env, s, sr, p⟩ => ?_
  refine (str1E (a := mo) sr p).mono fun v H1 ⟨a, hv, q⟩ => ⟨⟨a, hv⟩, q.mono fun w H2 ⟨s2, y, sr2, r2, p2⟩ => ?_⟩
  unfold fSplit at p2
  split at p2
  · next b =>
    by_cases hc : b.length ≠ 0 ∧ a.length + 2 ≤ sizeLine
    · rw [if_pos hc] at p2
      cases r2
      exact ⟨a, b, hv, rfl, by simpa using hc.1, hc.2, fun q hq => PostE.newLO sr2 p2 (reps_txts _) hq⟩
    · rw [if_neg hc] at p2
      exact p2.elim
  · exact p2.elim
theorem ve_join (hK : g.K = X.K) (ho : PE X o (tE g B W mo)) (he : PE X e (tE g B W me)) (hs : starEach [e] X.env = [(false, eval e X.env)] := by rfl) (hbase : attributeBase o "join" X.env (eval o X.env) = eval o X.env := by rfl) (hline : (apos.endLine == pos.line) = true := by rfl) :
    PE X (.Call (.Attribute o "join" apos) [e] [] pos) (tE g B W (mStr1 fJoin mo me)) := by
  refine pe_imp (pe_join ho he hs hbase hline) fun σ H Q ⟨env, s, sr, p⟩ => ?_
  refine (str1E (a := mo) sr p).mono fun v H1 ⟨a, hv, q⟩ => ⟨⟨a, hv⟩, q.mono fun w H2 ⟨s2, y, sr2, r2, p2⟩ => ?_⟩
  unfold fJoin at p2
  split at p2
  · next ys e1 =>
    by_cases hc : (ys.map (·.length)).sum + ys.length * a.length ≤ 16777216
    · rw [if_pos hc] at p2
      obtain ⟨ds, e2, e3⟩ := Option.bind_eq_some_iff.mp e1
      obtain ⟨l, vs, rfl, h1, h2⟩ := r2.seq sr2.good e2
      cases txts_reps h2 e3
      exact ⟨a, l, ys, hv, rfl, hK ▸ h1, hc, PostE.pure sr2 p2 rfl⟩
    · rw [if_neg hc] at p2
      exact p2.elim
  · exact p2.elim
end
end Vi
namespace Vi
open PySem L2 PyProof.Rows
def ItT (l it : Addr) : HO := .ext fun h => h.IsTupleIter it l 0
def rIterT (K : PySem.W.Frag) (n : Nat) : List L2.V → Hp → VK → Prop := fun xs H Q => ∃ (l : Addr) (zs : List L2.V), xs = [.ref l] ∧ SqT K H l zs ∧ ∀ it, H it = none → n ≤ it → Q (.ref it) (upd H it (ItT l it))
def tIterF (n : Nat) (g : Gi) (B : Bg) (W : WXv) (m : ME) : TS := fun N σ H => tE g B W m σ H fun v H1 => ∃ (l : Addr) (zs : List L2.V), v = .ref l ∧ SqT g.K H1 l zs ∧ ∀ it, H1 it = none → n ≤ it → N.rt (.ref it) (upd H1 it (ItT l it))
def PostIt (b : Nat) (g : Gi) (s : Sta) (H : Hp) : R Vl → VK → Prop
  | .ok (.d (.tup xs)) h, Q => ∀ (l it : Addr) (zs : List L2.V) (H' : Hp) (s' : Sta), s'.h = h → Evo s H s' H' → Good g s' H' → SqT g.K s'.F l zs → Reps g s'.F s'.al xs zs → H' it = none → b ≤ it → Q (.ref it) (upd H' it (ItT l it))
  | _, _ => False
def spIt (g : Gi) (N n : Nat) (m : ME) (b : Nat) : Sp := fun vs H Q _ => ∃ (s : Sta) (ds : List D), vs.length = n ∧ Good g s H ∧ Reps g s.F s.al ds vs ∧ PostIt b g s H (m (mkEnv N ds) s.h) Q
structure FnGS (P : Program) (w : World) (K : PySem.W.Frag) (mg : Str → Option Value) (base : Heap) (k : Nat) (f : Addr) (fd : FuncData) (ps : List Str) (sp : Nat → Sp) : Prop where
  len : ∀ b vs H Q E, sp b vs H Q E → vs.length = ps.length
  run : ∀ (A : Around) (outer : List PySem.Env) (s : Shared) (H : Hp) (args : Args) (us : List Value) (vs : List V) (Q : VK) (E : XK), Room k A → A.guards = some [] → Env0 P w K mg base A outer s H → BindsTo s fd args (ps.zip us) → Vals vs us → sp s.heap.objs.size vs H Q E →
    codeAny (model P w) A (.call (.ref f) args) (CR (L2.CX P w) outer P w H s Q E) s
structure VIter (X : Cx) (g : Gi) (c : Nat) (m : ME) : Prop where
  ex : ∃ (k : Nat) (f : Addr) (fd : FuncData) (ps : List Str), FnGS X.prog X.w X.K X.mg X.base k f fd ps (spIt g 1 1 m) ∧ Room (k + 4) X.A ∧ PySem.W.findIn X.K (.ref (g.ca c)) "__iter__" = some (some (.ref f)) ∧ PySem.W.isFn X.K (.ref f) = true ∧ Binds X.K fd ps []  ∧ ps.length = 1
abbrev TblI := Nat → Option ME
def VIters (X : Cx) (g : Gi) (T : TblI) : Prop := ∀ c m, T c = some m → VIter X g c m
structure AOk (X : Cx) (A : Around) : Prop where
  fr : A.frames = X.A.frames
  gd : A.guards = some []
section
variable {X : Cx} {g : Gi} {B : Bg} {env : Env} {st : Sta} {σ : L2.St} {H : Hp} {s : Shared} {pins : List (Addr × Obj)}
end
end Vi
namespace Vi
open PySem L2 PyProof.Rows
def itemsO (T : TblI) (x : Vl) (h : Hc) (k : List D → Hc → R Vl) : R Vl := match x with
  | .d (.obj c fs) => (match T c with
    | some m => (match m [some (.d (.obj c fs))] h with
      | .ok (.d (.tup xs)) h1 => k xs h1
      | _ => .stuck)
    | none => .stuck)
  | _ => .stuck
def mCompO (o : Bool) (own : List Nat) (I : TblI) (T : TgF) (mt : MB) (me src : ME) : ME := fun env h => (src env h).bind fun x h1 => itemsO I x h1 fun xs h2 => compL o T mt me xs [] (wipeE env own) h2
def iOwn (K : PySem.W.Frag) (g : Gi) (B : Bg) (W : WXv) (T : TblI) (src : ME) : TI := fun σ H R => tE g B W src σ H fun v H1 => ∃ (env : Env) (st : Sta) (c : Nat) (m : ME) (fs : List (Str × D)) (xs : List D) (h1 : Hc), SR g B env st σ H1 ∧ VlRep g B env σ st H1 (.d (.obj c fs)) v ∧ T c = some m ∧ m [some (.d (.obj c fs))] st.h = .ok (.d (.tup xs)) h1 ∧
  ∀ (l : Addr) (zs : List L2.V) (H' : Hp) (st' : Sta), st'.h = h1 → Evo st H1 st' H' → SR g B env st' σ H' → SqT g.K st'.F l zs → Reps g st'.F st'.al xs zs → R (Itt K l) H'
section
variable {X : Cx} {g : Gi} {B : Bg} {W : WXv}
end
section
variable {X : Cx} {g : Gi} {B : Bg} {W : WXv} {own : List Nat} {o : Bool} {I : TblI} {T : TgF} {mt : MB} {me m : ME} {t : TG} {σ : L2.St} {H : Hp} {Q : VK}
end
section
variable {X : Cx} {g : Gi} {B : Bg} {W : WXv} {own : List (Str × Nat)} {o : Bool} {I : TblI} {T : TgF} {mt : MB} {me m : ME} {t : TG} {elt tg iter : Expr} {ifs : List Expr} {scope : Scope} {pos p' rp : Pos} {ma : MA}
end
section
variable {X : Cx} {g : Gi} {B : Bg} {env : Env} {st : Sta} {σ : L2.St} {H : Hp} {s : Shared} {pins : List (Addr × Obj)}
end
end Vi
namespace Vi
open PySem L2 PyProof.Rows
theorem Good.drop {g : Gi} {s : Sta} {H : Hp} {p : Addr} (gd : Good g s H) (hf : s.F p = none) (hn : ∀ n, s.al n ≠ some p) : Good g s (ItX.dropH H p) := by
  refine ⟨fun a u h => ?_, gd.inj, fun n a h => ?_, fun n c h => ?_, gd.zed.keep rfl rfl (fun _ _ h => h) fun n a o h1 h2 => by rw [ItX.dropH_ne (fun e => hn n (by rw [← e]; exact h1))]; exact h2⟩
  · have ne : a ≠ p := fun e => by rw [e, hf] at h; cases h
    rw [ItX.dropH_ne ne]
    exact gd.fle a u h
  · obtain ⟨h1, h2, u, h3⟩ := gd.dom n a h
    have ne : a ≠ p := fun e => hn n (by rw [← e]; exact h)
    exact ⟨h1, h2, u, by rw [ItX.dropH_ne ne]; exact h3⟩
  · obtain ⟨a, h1, h2⟩ := gd.cell n c h
    have ne : a ≠ p := fun e => hn n (by rw [← e]; exact h1)
    refine ⟨a, h1, ?_⟩
    exact h2.mv (fun o h3 => by rw [ItX.dropH_ne ne]; exact h3) (fun _ _ h => h) fun _ _ h => h
structure VOp4 (X : Cx) (g : Gi) (c : Nat) (name : Str) (n : Nat) (F : Fn) : Prop where
  ex : ∃ (k : Nat) (f : Addr) (fd : FuncData) (ps : List Str), FnG X.prog X.w X.K X.mg X.base k f fd ps (spD g ps.length F) ∧ Room (k + 4) X.A ∧ PySem.W.findIn X.K (.ref (g.ca c)) name = some (some (.ref f)) ∧ PySem.W.isFn X.K (.ref f) = true ∧ Binds X.K fd ps [] ∧ ps.length = n
def VOps4 (X : Cx) (g : Gi) (name : Str) (n : Nat) (T : Tbl) : Prop := ∀ c F, T c = some F → VOp4 X g c name n F
section
variable {X : Cx} {g : Gi} {B : Bg} {W : WXv} {env : Env} {st : Sta} {σ : L2.St} {H : Hp} {s : Shared} {pins : List (Addr × Obj)} {Q : VK}
end
def fListO (o : Bool) (T : TblI) (TL : Tbl) (xs : List Vl) (h : Hc) : R Vl := match xs with
  | [.d (.obj c fs)] => itemsO T (.d (.obj c fs)) h fun ys h1 => (match TL c with
    | some F => (match F [.obj c fs] h1 with
      | .ok (.int k) h2 => if 0 ≤ k ∧ k ≤ 100000 ∧ ys.length ≤ 100000 then .ok (Vl.ofL o ys) h2 else .stuck
      | _ => .stuck)
    | none => .stuck)
  | _ => fList o xs h
section
variable {X : Cx} {g : Gi} {B : Bg} {W : WXv} {pos p : Pos} {a : Expr} {A : MA}
end
end Vi
namespace PySem.W
open PySem PySem.Calls PyProof.Rows Builtin
section
variable {prog : Program} {w : World} {A : Around} {E : Value → Shared → Prop} {s : Shared} {K : Frag} {x C f : Addr} {ox : Obj} {od : Option Obj} {b tb : Value}
end
end PySem.W
set_option maxHeartbeats 4000000
namespace Vi
open PySem L2 PyProof.Rows
def ndS (acc : List Str) (x : Str) : List Str := if x ∈ acc then acc else acc ++ [x]
def nd (xs : List Str) : List Str := xs.foldl ndS []
section
variable {prog : Program} {w : World} {A : Around} {R : Result → Shared → Prop} {I : Addr} {fp wr : List Addr} {G : Array GenState → Array GenState → Prop} {n : Nat} {P : Nat → Value → Prop} {St : Nat → Shared → Prop}
end
section
variable {prog : Program} {w : World} {A : Around} {E : Value → Shared → Prop} {s : Shared}
end
def strs? : List D → Option (List Str)
  | [] => some []
  | .str x :: r => (strs? r).map (x :: ·)
  | _ :: _ => none
def fLenSet (x : Vl) (h : Hc) : R Vl := match (match lst? h x with
    | some ys => some ys
    | none => tup? x) with
  | some ys => (match strs? ys with
    | some xs => if xs.length ≤ 4000 then .ok (.d (.int (nd xs).length)) h else .stuck
    | none => .stuck)
  | none => .stuck
section
variable {X : Cx} {g : Gi} {B : Bg} {W : WXv} {a : Expr} {m : ME} {p p2 q pos : Pos}
end
end Vi
set_option maxHeartbeats 2000000
namespace Vi
open PySem L2 PyProof.Rows
def fNes (g : Gi) (T : Tbl) (nf : Nat → Ty → Bool) (F0 : Vl → Vl → Hc → R Vl) (x y : Vl) (h : Hc) : R Vl := match x with
  | .d (.obj c fs) => (match T c, y with
    | some F, .d yd => (match yd.ty g with
      | some t => if nf c t then (F [.obj c fs, yd] h).bind fun d h' => (match d with
        | .bl k => .ok (.d (.bl (!k))) h'
        | _ => .stuck) else .stuck
      | none => .stuck)
    | _, _ => .stuck)
  | _ => F0 x y h
section
variable {X : Cx} {g : Gi} {W : WXv} {T : Tbl}
end
def fListC (xs : List Vl) (h : Hc) : R Vl := match xs with
  | [x] => (match lst? h x with
    | some ys => .ok (.d (.ref h.length)) (h ++ [.lst ys])
    | none => (match tup? x with
      | some ys => .ok (.d (.ref h.length)) (h ++ [.lst ys])
      | none => .stuck))
  | _ => .stuck
section
variable {X : Cx} {g : Gi}
end
def deref1 (h : Hc) : D → D
  | .ref n => (match h[n]?.map Cell.bare with
    | some (.lst xs) => .lst xs
    | _ => .ref n)
  | d => d
def derefV (h : Hc) : Vl → Vl
  | .d (.lst xs) => .d (.lst (xs.map (deref1 h)))
  | x => x
def fReprC (xs : List Vl) (h : Hc) : R Vl := match xs with
  | [.d (.lst ys)] => (match (Vl.d (.lst (ys.map (deref1 h)))).dat? with
    | some d => if shwB (toP d) then .ok (.d (.str (toP d).shown)) h else .stuck
    | none => .stuck)
  | _ => fRepr xs h
section
variable {X : Cx} {g : Gi} {s : Sta} {H : Hp}
end
end Vi
namespace Vi
open PySem L2 PyProof.Rows
def chD (z : Str) : List D := z.cps.toList.map fun c => .str ⟨#[c]⟩
theorem chD_get? (z : Str) (i : Nat) : (chD z)[i]? = (z.cps[i]?).map fun c => D.str ⟨#[c]⟩ := by
  unfold chD
  rw [List.getElem?_map, Array.getElem?_toList]
def mCompS (o : Bool) (own : List Nat) (T : TgF) (mt : MB) (me src : ME) : ME := fun env h => (src env h).bind fun x h1 => match x with
  | .d (.str z) => compL o T mt me (chD z) [] (wipeE env own) h1
  | _ => .stuck
section
variable {X : Cx} {g : Gi} {B : Bg} {W : WXv} {own : List Nat} {o : Bool} {T : TgF} {mt : MB} {me m : ME} {t : TG} {σ : L2.St} {H : Hp} {Q : VK}
theorem lc_ofS (q1 : CgQ g own t T) (h : tE g B W (mCompS o own T mt me m) σ H Q) :
    tLc (iStr (tE g B W m)) t (tT g B (fun _ _ _ _ => False) mt) (tE g B (fun _ _ _ _ => False) me) own σ H Q := by
  obtain ⟨env, s, sr, p⟩ := h
  have p : PostE g B W env s σ H ((m env s.h).bind fun x h1 => match x with
    | .d (.str z) => compL o T mt me (chD z) [] (wipeE env own) h1
    | _ => .stuck) Q := p
  refine (bindE (Q := Q) sr p).mono fun v H1 ⟨s1, x, sr1, ev1, r1, p1⟩ => ?_
  split at p1
  · next z =>
    have r1 : v = .str z := r1
    have hn : (chD z).length = z.cps.size := by unfold chD; rw [List.length_map, Array.length_toList]
    refine ⟨z, r1, fun Dn hD => ⟨fun i k H => k = z.cps.size - i ∧ i ≤ z.cps.size ∧ CInv g B W env s1 σ H1 own o T mt me Q Dn ((chD z).drop i) H, ⟨z.cps.size, by simp, Nat.zero_le _, comp_start sr1 hD p1⟩, ?_⟩⟩
    rintro i k H ⟨rfl, hi, c⟩
    by_cases hlt : i < z.cps.size
    · refine .inr ⟨hlt, CInv g B W env s1 σ H1 own o T mt me Q Dn ((chD z).drop (i + 1)), fun H' c' => ⟨z.cps.size - (i + 1), by omega, rfl, hlt, c'⟩, fun x H' y => ?_⟩
      obtain ⟨rfl, ch, hc, rfl⟩ := y
      have hl : i < (chD z).length := by rw [hn]; exact hlt
      have e1 : (chD z)[i] = .str ⟨#[ch]⟩ := by
        have z2 := List.getElem?_eq_getElem hl
        rw [chD_get?, hc] at z2
        exact (Option.some.inj z2).symm
      rw [List.drop_eq_getElem_cons hl, e1] at c
      exact comp_turn q1 sr1 hD c fun s' e2 => (show Rep g s'.F s'.al (.str ⟨#[ch]⟩) (.str ⟨#[ch]⟩) from rfl)
    · have hi2 : i = z.cps.size := by omega
      subst hi2
      rw [List.drop_of_length_le (by omega)] at c
      exact .inl ⟨Nat.le_refl _, comp_end sr1 hD c⟩
  · exact p1.elim
end
section
variable {X : Cx} {g : Gi} {B : Bg} {W : WXv} {own : List (Str × Nat)} {o : Bool} {T : TgF} {mt : MB} {me m : ME} {t : TG} {elt tg iter : Expr} {ifs : List Expr} {scope : Scope} {pos : Pos}
theorem ve_lcS (o : Bool) (b : Bd X g W) (hN : X.N.Nodup) (he : PE X iter (tE g B W m)) (ok : BlkOk X.N X.env.scope scope own) (q1 : CgQ g (own.map (·.2)) t T)
    (hg : ∀ (s : Shared) (H : Hp) (C : Addr) (cl : List (Str × Addr)) (fp : List Addr), PG (X.blk s H scope (compEnvC scope cl C X.env) fp) tg t)
    (ht : ∀ (s : Shared) (H : Hp) (C : Addr) (cl : List (Str × Addr)) (fp : List Addr), PTs (X.blk s H scope (compEnvC scope cl C X.env) fp) ifs (tT g B (fun _ _ _ _ => False) mt))
    (hel : ∀ (s : Shared) (H : Hp) (C : Addr) (cl : List (Str × Addr)) (fp : List Addr), PE (X.blk s H scope (compEnvC scope cl C X.env) fp) elt (tE g B (fun _ _ _ _ => False) me)) (hs : ∀ x, foldedSetIterable iter X.env x = pure x := by intro _; rfl) :
    PE X (.ListComp elt [⟨tg, iter, ifs, 0⟩] scope pos) (tE g B W (mCompS o (own.map (·.2)) T mt me m)) :=
  pe_imp (pe_lc b.calm hN (pi_str (tg := tg) he) ok hg ht hel hs) fun σ H Q h => lc_ofS q1 h
end
structure RdyIt (P : Program) (w : World) (K : PySem.W.Frag) (mg : Str → Option Value) (base : Heap) (g : Gi) (c k : Nat) (m : ME) : Prop where
  ex : ∃ (f : Addr) (fd : FuncData) (ps : List Str), FnGS P w K mg base k f fd ps (spIt g 1 1 m) ∧ Meth K (g.ca c) "__iter__" f ∧ Binds K fd ps [] ∧ ps.length = 1
theorem RdyIt.v {X : Cx} {g : Gi} {c k j : Nat} {m : ME} (h : RdyIt X.prog X.w X.K X.mg X.base g c k m) (hr : Room j X.A) (hj : k + 4 ≤ j) : VIter X g c m := by
  obtain ⟨f, fd, ps, h1, h2, h3, h4⟩ := h.ex
  exact ⟨⟨k, f, fd, ps, h1, hr.mono hj, h2.at_, h2.fn, h3, h4⟩⟩
theorem bt_all : bootBuiltins "all" = some (.builtin "all") := by decide +kernel
theorem bt_sorted : bootBuiltins "sorted" = some (.builtin "sorted") := by decide +kernel
def kGlobI (x : Str) (i : Int) (K : PySem.W.Frag) : Bool := match PySem.W.nsIn K mainGlobals x with
  | some (some (.int j _)) => decide (j = i)
  | _ => false
def kGlobS (x : Str) (y : Str) (K : PySem.W.Frag) : Bool := match PySem.W.nsIn K mainGlobals x with
  | some (some (.str z _)) => decide (z = y)
  | _ => false
theorem gd_int {X : Cx} {g : Gi} {x : Str} {i : Int} (kin : X.K.In X.base) (gn : X.base.Ns mainGlobals X.mg) (h : kGlobI x i X.K = true) : GlobD X g x (.int i) := by
  unfold kGlobI at h
  split at h
  · next j t e =>
    obtain rfl : j = i := of_decide_eq_true h
    exact ⟨.int j, .int j t, PySem.W.mg_of kin gn e, ⟨t, rfl⟩, fun _ _ => rfl⟩
  · cases h
theorem gd_str {X : Cx} {g : Gi} {x : Str} {y : Str} (kin : X.K.In X.base) (gn : X.base.Ns mainGlobals X.mg) (h : kGlobS x y X.K = true) : GlobD X g x (.str y) := by
  unfold kGlobS at h
  split at h
  · next z t e =>
    obtain rfl : z = y := of_decide_eq_true h
    exact ⟨.str z, .str z t, PySem.W.mg_of kin gn e, ⟨t, rfl⟩, fun _ _ => rfl⟩
  · cases h
section
variable {X : Cx} {g : Gi} {B : Bg} {W : WXv} {pos : Pos} {a b c : Expr} {ma mb mc : ME}
theorem vt_chain {op op' : CmpOp} {F F' : Vl → Vl → Hc → R Vl} (ho : OpV X g (compareOp op) F) (ho' : OpV X g (compareOp op') F') (ha : PE X a (tE g B W ma)) (hb : PE X b (tE g B W mb)) (hc : PE X c (tE g B W mc))
    (hm : lastMarks [op, op'] [b, c] = false := by with_unfolding_all rfl) : PT X (.Compare a [op, op'] [b, c] pos) (tT g B W (asB (mChain F F' ma mb mc))) := by
  obtain ⟨r, h1, h2⟩ := ho
  obtain ⟨r', h1', h2'⟩ := ho'
  refine pt_imp (pt_chain h1 h1' ha hb hc hm) fun σ H Q h => ?_
  obtain ⟨env, s, sr, p⟩ := tE_asB h
  show tChain r r' (tE g B W ma) (tE g B W mb) (tE g B W mc) σ H _
  refine (bindE sr p).mono fun v H1 ⟨s1, x, sr1, _, r1, p1⟩ => (bindE sr1 p1).mono fun w H2 ⟨s2, y, sr2, e2, r2, p2⟩ => h2 B W env s2 σ H2 x y v w _ sr2 (r1.evo e2) r2 (p2.then.mono fun z H3 ⟨s3, q, sr3, e3, r3, p3⟩ => ?_)
  split at p3
  · exact ⟨true, r3, iteT ((bindE sr3 p3).mono fun u H4 ⟨s4, q4, sr4, e4, r4, p4⟩ => h2' B W env s4 σ H4 y q4 w u _ sr4 ((r2.evo e3).evo e4) r4 p4)⟩
  · exact ⟨false, r3, iteF (PostE.pure sr3 p3 rfl)⟩
  · exact p3.elim
end
end Vi
namespace Vi
open PySem L2 PyProof.Rows
def zipD : List D → List D → List D
  | x :: xs, y :: ys => .tup [x, y] :: zipD xs ys
  | _, _ => []
theorem zipD_get : ∀ (xs ys : List D) (i : Nat) (x y : D), xs[i]? = some x → ys[i]? = some y → (zipD xs ys)[i]? = some (.tup [x, y])
  | x :: xs, y :: ys, 0, a, b, h1, h2 => by
    cases h1
    cases h2
    rfl
  | x :: xs, y :: ys, i + 1, a, b, h1, h2 => zipD_get xs ys i a b h1 h2
  | [], _, _, _, _, h1, _ => by cases h1
  | _ :: _, [], _, _, _, _, h2 => by cases h2
def mForZ (T : TgF) (a : MA) (b : MS) : MS := fun env h => (a env h).thenS env fun xs h1 => match xs with
  | [x, y] => (match seqD? h1 x, seqD? h1 y with
    | some (true, xs), some (true, ys) => forL T b (zipD xs ys) env h1
    | some (false, xs), some (false, ys) => forL T b (zipD xs ys) env h1
    | _, _ => .stuck)
  | _ => .stuck
section
variable {X : Cx} {g : Gi} {B : Bg} {W : WXv} {env : Env} {s : Sta} {σ : L2.St} {H : Hp}
structure ZipIt (I : It) (P Q : Hp → List V → Prop) : Prop where
  go : ∀ {i : Nat} {H : Hp} {xs ys : List V} {x y : V}, P H xs → Q H ys → xs[i]? = some x → ys[i]? = some y → I.go i H
  stop : ∀ {i : Nat} {H : Hp} {xs ys : List V}, P H xs → Q H ys → i ≤ xs.length → i ≤ ys.length → xs.length ≤ i ∨ ys.length ≤ i → I.stop i H
  yld : ∀ {i : Nat} {H H' : Hp} {v : V} {xs ys : List V}, P H xs → Q H ys → I.yld i H v H' → ∃ T x y, v = .ref T ∧ H T = none ∧ H' = upd H T (.tup [x, y]) ∧ xs[i]? = some x ∧ ys[i]? = some y
end
section
variable {X : Cx} {g : Gi} {B : Bg} {W : WXv} {pos : Pos} {body : List Stmt} {mb : MS} {T : TgF}
end
end Vi
set_option maxHeartbeats 4000000
namespace Vi
open PySem L2 PyProof.Rows
def Sta.frzT (s : Sta) (H : Hp) : Sta := { s with F := fun a => match s.F a with
  | some o => some o
  | none => (match H a with
    | some (.tup ws) => some (.tup ws)
    | _ => none) }
section
variable {g : Gi} {s : Sta} {H : Hp}
end
section
variable {X : Cx} {pins : List (Addr × Obj)} {σ : L2.St} {H : Hp} {s : Shared} {a : Addr} {Q : VK}
def rSrtT (K : PySem.W.Frag) : List V → Hp → VK → Prop := fun vs H Q => ∃ (a : Addr) (kvs : List (List Key × V)), vs = [.ref a] ∧ H a = some (.dT kvs) ∧
  ∀ ts : List Addr, Paired (fun kv t => H t = some (.tup (kv.1.map kV))) kvs ts → ∃ k : V → List Key, Mode K H k (ts.map V.ref) ∧
    ∀ ys p, SrtO.Srtd (fun v u => ksLt (k v) (k u)) ys → ys.Perm (ts.map V.ref) → H p = none → Q (.ref p) (upd H p (.lst ys))
end
end Vi
namespace Vi
open PySem L2 PyProof.Rows
def fSortedD (kc : List D → Bool) (o : Bool) (xs : List Vl) (h : Hc) : R Vl := match xs with
  | [x] => (match dv? x h with
    | some (.t kvs) => if compatAll (kvs.map (·.1)) then .ok (Vl.ofL o ((sortL ksLt (kvs.map (·.1))).map tupD)) h else .stuck
    | _ => fSorted kc o [x] h)
  | _ => .stuck
section
variable {g : Gi} {F : Hp} {al : Nat → Option Addr}
end
section
variable {X : Cx} {g : Gi}
end
end Vi
namespace Vi
open PySem L2 PyProof.Rows
section
variable {X : Cx} {g : Gi}
def fTupleX (xs : List Vl) (h : Hc) : R Vl := match xs with
  | [x] => (match lst? h x with
    | some ys => .ok (.d (.xtup ys)) h
    | none => .stuck)
  | _ => .stuck
end
def pairsT? (kc : List D → Bool) : List D → Option (List (List Key × D))
  | [] => some []
  | .tup [.tup ks, d] :: r => if kc ks then none else (match keys? ks, pairsT? kc r with
    | some k, some kvs => some ((k, d) :: kvs)
    | _, _ => none)
  | _ => none
def allT (kvs : List (List Key × D)) : List (List Key × D) := kvs.foldl (fun acc kv => putD' acc kv.1 kv.2) []
def fDictX (kc : List D → Bool) (xs : List Vl) (h : Hc) : R Vl := match xs with
  | [.d (.xtup ds)] => (match pairsT? kc ds with
    | some kvs => if kvs.length ≤ 100000 then .ok (.d (.dT (allT kvs))) h else .stuck
    | none => .stuck)
  | _ => .stuck
def putAll (kvs : List (List Key × V)) : List (List Key × V) := kvs.foldl (fun acc kv => putK acc kv.1 kv.2) []
def PrT (K : PySem.W.Frag) (H : Hp) (p : Addr) (kv : List Key × V) : Prop := ∃ b, SqT K H p [.ref b, kv.2] ∧ H b = some (.tup (kv.1.map kV))
section
variable {X : Cx} {pins : List (Addr × Obj)} {σ : L2.St} {H : Hp} {s : Shared}
end
section
variable {X : Cx} {g : Gi}
end
end Vi
namespace Vi
open PySem L2 PyProof.Rows
def tupAt0 (K : PySem.W.Frag) (a : Addr) : Bool := match K.lookup a with
  | some ⟨.type c, _, .seq its _, _⟩ => decide (c = "tuple") && decide (its.size = 0)
  | _ => false
end Vi
set_option maxHeartbeats 2000000
namespace PySem.W
open PySem PySem.Calls PyProof.Rows Builtin
section
variable {prog : Program} {w : World} {A : Around} {E : Value → Shared → Prop} {s : Shared} {K : Frag} {x C f : Addr} {ox : Obj} {od : Option Obj} {b : Value}
end
end PySem.W
namespace Vi
open PySem L2 PyProof.Rows
def fOpsX (T : Tbl) (F0 : Vl → Vl → Hc → R Vl) (x y : Vl) (h : Hc) : R Vl := match x, y with
  | .d (.obj c fs), .d (.tup ds) => (match T c with
    | some F => (F [.obj c fs, .tup ds] h).bind fun d h' => .ok (.d d) h'
    | none => .stuck)
  | x, y => fOps T F0 x y h
section
variable {X : Cx} {g : Gi} {W : WXv} {T : Tbl}
end
end Vi
namespace Vi
open PySem L2 PyProof.Rows
section
variable {g : Gi} {B : Bg} {W : WXv} {env : Env} {s1 : Sta} {σ : L2.St} {H1 H : Hp} {own : List Nat} {o : Bool} {T : TgF} {mt : MB} {me : ME} {Q : VK} {Dn : Addr}
end
def mCompZ (o : Bool) (own : List Nat) (T : TgF) (mt : MB) (me : ME) (a : MA) : ME := fun env h => (a env h).bind fun xs h1 => match xs with
  | [x, y] => (match seqC? h1 x, seqC? h1 y with
    | some (true, xs), some (true, ys) => compL o T mt me (zipD xs ys) [] (wipeE env own) h1
    | some (false, xs), some (false, ys) => compL o T mt me (zipD xs ys) [] (wipeE env own) h1
    | _, _ => .stuck)
  | _ => .stuck
section
variable {X : Cx} {g : Gi} {B : Bg} {W : WXv} {own : List Nat} {o : Bool} {T : TgF} {mt : MB} {me : ME} {ma : MA} {t : TG} {σ : L2.St} {H : Hp} {Q : VK}
end
section
variable {X : Cx} {g : Gi} {B : Bg} {W : WXv} {own : List (Str × Nat)} {o : Bool} {T : TgF} {mt : MB} {me : ME} {t : TG} {elt a b : Expr} {elts : List Expr} {kk : Nat} {ifs : List Expr} {scope : Scope} {pos p' rp tpos : Pos} {ma : MA}
end
end Vi
namespace Vi
open PySem L2 PyProof.Rows
section
variable {prog : Program} {w : World} {A : Around} {E : Value → Shared → Prop} {s : Shared}
end
def ItnT (K : PySem.W.Frag) (a : Addr) : It where
  go := fun i H => ∃ (xs : List V) (x : V), SqT K H a xs ∧ xs[i]? = some x
  yld := fun i H v H' => ∃ T x, v = .ref T ∧ H T = none ∧ H' = upd H T (.tup [.int (i : Nat), x]) ∧ ∀ xs, SqT K H a xs → xs[i]? = some x
  stop := fun i H => ∃ xs : List V, SqT K H a xs ∧ xs.length = i
def iEnT (K : PySem.W.Frag) (ta : TA) : TI := fun σ H R => ta σ H fun vs H1 => ∃ a xs, vs = [.ref a] ∧ SqT K H1 a xs ∧ R (ItnT K a) H1
end Vi
namespace Vi
open PySem L2 PyProof.Rows
def iEnA (K : PySem.W.Frag) (ta : TA) : TI := fun σ H R => ta σ H fun vs H1 => ∃ a xs, vs = [.ref a] ∧ ((SqL K H1 a xs ∧ R (Ite K a) H1) ∨ (SqT K H1 a xs ∧ R (ItnT K a) H1))
def enumD : Nat → List D → List D
  | _, [] => []
  | k, x :: r => .tup [.int k, x] :: enumD (k + 1) r
def mForE (T : TgF) (a : MA) (b : MS) : MS := fun env h => (a env h).thenS env fun xs h1 => match xs with
  | [x] => (match seqD? h1 x with
    | some (_, xs) => forL T b (enumD 0 xs) env h1
    | none => .stuck)
  | _ => .stuck
structure EnIt (I : It) (P : Hp → List V → Prop) : Prop where
  go : ∀ {i : Nat} {H : Hp} {xs : List V} {x : V}, P H xs → xs[i]? = some x → I.go i H
  stop : ∀ {i : Nat} {H : Hp} {xs : List V}, P H xs → xs.length = i → I.stop i H
  yld : ∀ {i : Nat} {H H' : Hp} {v : V} {xs : List V}, P H xs → I.yld i H v H' → ∃ T x, v = .ref T ∧ H T = none ∧ H' = upd H T (.tup [.int (i : Nat), x]) ∧ xs[i]? = some x
section
variable {X : Cx} {g : Gi} {B : Bg} {W : WXv} {env : Env} {s : Sta} {σ : L2.St} {H : Hp}
end
section
variable {X : Cx} {g : Gi} {B : Bg} {W : WXv} {pos : Pos} {body : List Stmt} {mb : MS} {T : TgF}
end
end Vi
namespace Vi
open PySem L2 PyProof.Rows
section
variable {g : Gi} {B : Bg} {W : WXv} {env : Env} {s : Sta} {σ : L2.St} {H : Hp}
theorem VlReps.app {xs ys : List Vl} {vs ws : List V} (h : VlReps g B env σ s H xs vs) (h2 : VlReps g B env σ s H ys ws) : VlReps g B env σ s H (xs ++ ys) (vs ++ ws) := by
  induction h with
  | nil => exact h2
  | cons a b ih => exact .cons a ih
end
@[simp] def maStar (m : ME) (a : MA) : MA := fun env h => (m env h).bind fun x h1 => match seqC? h1 x with
  | some (_, ds) => (a env h1).bind fun xs h2 => .ok (ds.map Vl.d ++ xs) h2
  | none => .stuck
section
variable {X : Cx} {g : Gi} {B : Bg} {W : WXv} {pos p : Pos} {e : Expr} {es : List Expr} {m : ME} {a : MA}
end
def fIndexX (x y : Vl) (h : Hc) : R Vl := match x, y with
  | .d (.xtup ds), .d (.str z) => (match txts? ds with
    | some ys => if z ∈ ys then .ok (.d (.int (ys.idxOf z : Nat))) h else .stuck
    | none => .stuck)
  | _, _ => .stuck
section
variable {X : Cx} {g : Gi} {B : Bg} {W : WXv} {apos cpos : Pos} {o e : Expr} {mo me : ME} {to : TE} {t : TA}
end
end Vi
namespace Vi
open PySem L2 PyProof.Rows
def fLtS (x y : Vl) (h : Hc) : R Vl := match x, y with
  | .d (.str a), .d (.str b) => .ok (.d (.bl (sLt a b))) h
  | x, y => fLt x y h
section
variable {X : Cx} {g : Gi}
def fIsB (neg : Bool) (x y : Vl) (h : Hc) : R Vl := match x, y with
  | .d (.bl a), .d (.bl b) => .ok (.d (.bl (if neg then !decide (a = b) else decide (a = b)))) h
  | _, _ => .stuck
def intz? : List D → Option (List Int)
  | [] => some []
  | .int i :: r => (intz? r).map (i :: ·)
  | _ :: _ => none
def minI : Int → List Int → Int
  | m, [] => m
  | m, x :: r => minI (if x < m then x else m) r
def fMinL (xs : List Vl) (h : Hc) : R Vl := match xs with
  | [x] => (match lst? h x with
    | some ds => (match intz? ds with
      | some (i :: r) => .ok (.d (.int (minI i r))) h
      | _ => .stuck)
    | none => .stuck)
  | _ => .stuck
def fDictK (xs : List Vl) (h : Hc) : R Vl := match xs with
  | [x] => (match dv? x h with
    | some (.k kvs) => .ok (.d (.ref h.length)) (h ++ [.dK kvs])
    | _ => .stuck)
  | _ => .stuck
end
@[simp] def mIndexX (mo me : ME) : ME := fun env h => (mo env h).bind fun x h1 => match x with
  | .d (.xtup ds) => (me env h1).bind fun y h2 => fIndexX (.d (.xtup ds)) y h2
  | _ => .stuck
section
variable {X : Cx} {g : Gi} {B : Bg} {W : WXv} {apos cpos : Pos} {o e : Expr} {mo me : ME}
end
end Vi
namespace Vi
open PySem L2 PyProof.Rows
def ItzM (K : PySem.W.Frag) (a b : Addr) : It where
  go := fun i H => ∃ (xs ys : List V) (x y : V), SqL K H a xs ∧ SqT K H b ys ∧ xs[i]? = some x ∧ ys[i]? = some y
  yld := fun i H v H' => ∃ T x y, v = .ref T ∧ H T = none ∧ H' = upd H T (.tup [x, y]) ∧ (∀ l, SqL K H a l → l[i]? = some x) ∧ ∀ l, SqT K H b l → l[i]? = some y
  stop := fun i H => ∃ xs ys : List V, SqL K H a xs ∧ SqT K H b ys ∧ i ≤ xs.length ∧ i ≤ ys.length ∧ (xs.length ≤ i ∨ ys.length ≤ i)
def five (z TI TO i1 i2 : Addr) : List Addr := [z, TI, TO, i1, i2]
def iZipM (K : PySem.W.Frag) (ta : TA) : L2.TI := fun σ H R => ta σ H fun vs H1 => ∃ a b xs ys, vs = [.ref a, .ref b] ∧ SqL K H1 a xs ∧ SqT K H1 b ys ∧ R (ItzM K a b) H1
def mForZM (T : TgF) (a : MA) (b : MS) : MS := fun env h => (a env h).thenS env fun xs h1 => match xs with
  | [x, y] => (match seqD? h1 x, seqD? h1 y with
    | some (true, xs), some (false, ys) => forL T b (zipD xs ys) env h1
    | _, _ => .stuck)
  | _ => .stuck
section
variable {X : Cx} {g : Gi} {B : Bg} {W : WXv} {pos : Pos} {body : List Stmt} {mb : MS} {T : TgF}
end
end Vi
namespace Vi
open PySem L2 PyProof.Rows
inductive HitsV (K : PySem.W.Frag) (H : Hp) (ls : List (Key × V)) : List (Key × V) → Bool → Prop
  | nil : HitsV K H ls [] true
  | miss {k : Key} {v : V} {r : List (Key × V)} : valV ls k = none → HitsV K H ls ((k, v) :: r) false
  | hit {k : Key} {v w : V} {r : List (Key × V)} {d e : PyData} {b : Bool} : valV ls k = some w → Dp K H v d → Dp K H w e → SeqAt.shaped d = true → SeqAt.shaped e = true → HitsV K H ls r b → HitsV K H ls ((k, v) :: r) (PyData.eqv d e && b)
section
variable {X : Cx} {pins : List (Addr × Obj)} {σ : L2.St} {H : Hp} {s : Shared}
def rEqN (K : PySem.W.Frag) : R2 := fun x y H Q => ∃ a b ks ls r, x = .ref a ∧ y = .ref b ∧ H a = some (.dK ks) ∧ H b = some (.dK ls) ∧ (ks.length = ls.length → HitsV K H ls ks r) ∧ Q (.bl (ks.length == ls.length && r)) H
end
def hitsD (ls : List (Key × D)) : List (Key × D) → Option Bool
  | [] => some true
  | (k, d) :: r => match getD' ls k with
    | none => some false
    | some e => if dat d && (dat e && (shp d && shp e)) then (hitsD ls r).map (eqD d e && ·) else none
def dvN? (x : Vl) (h : Hc) : Option DV := match x with
  | .d (.dK kvs) => some (.k kvs)
  | .d (.dT kvs) => some (.t kvs)
  | .d (.ref n) => (match h[n]?.map Cell.bare with
    | some (.dK kvs) => some (.k kvs)
    | some (.dT kvs) => some (.t kvs)
    | _ => none)
  | _ => none
def fEqDK (x y : Vl) (h : Hc) : R Vl := match dvN? x h, dvN? y h with
  | some (.k ks), some (.k ls) => if ks.length = ls.length then (match hitsD ls ks with
    | some b => .ok (.d (.bl b)) h
    | none => .stuck) else .ok (.d (.bl false)) h
  | _, _ => fEq false x y h
section
variable {g : Gi} {F H : Hp} {al : Nat → Option Addr}
end
section
variable {X : Cx} {g : Gi}
end
end Vi
set_option maxHeartbeats 4000000
namespace Vi
open PySem PySem.Spec L2 PyProof.Rows
section
variable {X : Cx}
def rRep01 (K : PySem.W.Frag) : R2 := fun x y H Q => ∃ l xs, x = .ref l ∧ SqT K H l xs ∧ xs ≠ [] ∧ ((y = .int 1 ∧ Q (.ref l) H) ∨ (y = .int 0 ∧ ∀ p, H p = none → Q (.ref p) (upd H p (.tup []))))
end
def fMulT (x y : Vl) (h : Hc) : R Vl := match x, y with
  | .d (.tup xs), .d (.int k) => if xs.isEmpty = false ∧ 0 ≤ k ∧ k ≤ 1000 ∧ xs.length ≤ 1000 then .ok (.d (.tup (List.replicate k.toNat xs).flatten)) h else .stuck
  | x, y => fMul x y h
section
variable {X : Cx} {g : Gi}
end
end Vi
set_option maxHeartbeats 2000000
namespace Vi
open PySem PySem.Spec L2 PyProof.Rows
def txtKs? : List (Key × D) → Option (List Str)
  | [] => some []
  | (.inr x, _) :: r => (txtKs? r).map (x :: ·)
  | _ :: _ => none
def fSortedK (kc : List D → Bool) (o : Bool) (xs : List Vl) (h : Hc) : R Vl := match xs with
  | [x] => (match dv? x h with
    | some (.k kvs) => (match txtKs? kvs with
      | some ks => if ks.length < 64 then .ok (Vl.ofL o ((sortL sLt ks).map D.str)) h else .stuck
      | none => .stuck)
    | _ => fSorted kc o [x] h)
  | _ => .stuck
section
variable {X : Cx} {g : Gi}
def rSrtTx (X : Cx) : List V → Hp → VK → Prop := fun vs H Q => ∃ (a : Addr) (kvs : List (Key × V)) (ks : List Str), vs = [.ref a] ∧ Rd H a (.dK kvs) ∧ kvs.map (·.1) = ks.map Sum.inr ∧ ks.length < 64 ∧
      ∀ ys p, ys.Perm ks → sortedS ys = true → H p = none → Q (.ref p) (upd H p (.lst (ys.map V.str)))
end
end Vi
namespace Vi
open PySem L2 PyProof.Rows
structure BdQ (g : Gi) (X : Cx) : Prop where
  G : GiOk g
  K : g.K = X.K
structure FnQ (P : Program) (w : World) (K : PySem.W.Frag) (mg : Str → Option Value) (base : Heap) (k : Nat) (f : Addr) (fd : FuncData) (ps : List Str) (sp : Sp) : Prop where
  len : ∀ vs H Q E, sp vs H Q E → vs.length = ps.length
  run : ∀ (A : Around) (outer : List PySem.Env) (s : Shared) (H : Hp) (args : Args) (us : List Value) (vs : List V) (Q : VK) (E : XK) (p : Addr × Obj), L2H.RoomH k A → L2H.PinOk outer H s p → Env0 P w K mg base A outer s H → BindsTo s fd args (ps.zip us) → Vals vs us → sp vs H Q E →
    codeAny (model P w) A (.call (.ref f) args) (CR (L2.CX P w) outer P w H s Q E) s
theorem fn_Q {P : Program} {w : World} {K : PySem.W.Frag} {mg : Str → Option Value} {base : Heap} {x qual : Str} {params : Arguments} {body : List Stmt} {scope : Scope} {dvs : List V} {kws : List (Str × V)} {f : Addr} {fd : FuncData} {N ps : List Str} {k : Nat} {sp : Sp}
    (F : FunD K x qual params body scope dvs kws f fd) (S : FnScope N ps scope) (len : ∀ vs H Q E, sp vs H Q E → vs.length = ps.length)
    (hbody : ∀ (cdv : Value) (A : Around) (outer : List PySem.Env) (s : Shared) (H : Hp) (vs : List V) (Q : VK) (E : XK) (p : Addr × Obj), sp vs H Q E →
      ∃ t, PSs (L2H.cxH (L2.CX P w) P w K mg base N qual scope f cdv A outer s H E p) body t ∧ t { nx := fun _ H' => Q .non H', rt := Q } (start N vs) H) : FnQ P w K mg base (k + 1) f fd ps sp := by
  obtain ⟨oc, od, dV, kV, doc, pm, an, cdv, ct, osl, rfl, lk, hcd, _, _⟩ := F.ex
  refine ⟨len, ?_⟩
  intro A outer s H args us vs Q E p room hpin e0 bnd rv want
  have many := len _ _ _ _ want
  have inK : K.In s.heap := e0.mod.kin.keeps fun b o e => (e0.bs b o e).1
  have free : s.heap.NoLimit := e0.mod.nolimit.keeps fun b o e => (e0.bs b o e).1
  have kinds : ∀ y ∈ ps.zip us, scope.names.lookup y.1 = some .local ∨ (scope.names.lookup y.1 = some .cell ∧ ((cellsFrom (s.heap.objs.size + 1) scope.names []).lookup y.1).isSome = true) := by
    rintro ⟨n, v⟩ hy
    rcases S.par n (List.of_mem_zip hy).1 with q | q
    · exact .inl q
    · exact .inr ⟨q, PySem.W.cellsFrom_some _ _ _ (.inl q)⟩
  refine codeAny_call_function room.depth (inK _ _ lk) rfl S.co S.gen rfl (PySem.W.codeRec_of inK hcd) (bnd _ _ _ _ ?_)
  refine wpAny_newFunctionEnv_cells S.kind kinds ?_
  intro env he s1 x
  subst he
  refine ⟨free.keeps x.toInCall.keep, codeAny_func ?_⟩
  obtain ⟨t, ht, hq⟩ := hbody cdv A outer s H vs Q E p want
  have I : Inv (L2H.cxH (L2.CX P w) P w K mg base N qual scope f cdv A outer s H E p) [] (start N vs) H s1 := L2H.inv_startH S hpin e0 many rv x
  have fin : ∀ {s' : Shared} {σ' : L2.St} {H' : Hp} {v : V} {u : Value}, Inv (L2H.cxH (L2.CX P w) P w K mg base N qual scope f cdv A outer s H E p) [] σ' H' s' → RelV v u → Q v H' → CE outer P w H s Q u s' := by
    intro s' σ' H' v u J r q
    exact ⟨v, H', J.os, J.bare, J.base, J.hok, r, q⟩
  refine wpAny_mono (ht.run [] s1 (start N vs) H _ I hq) ?_ fun e s' hs => hs
  intro fl s' hs
  cases fl with
  | ret u =>
    obtain ⟨v, σ', H', J, r, q⟩ := hs
    exact fin J r q
  | next =>
    obtain ⟨σ', H', J, q⟩ := hs
    exact fin (v := V.non) (u := Value.none) J rfl q
  | brk => exact (hs.choose_spec.choose_spec.2).elim
  | cont => exact (hs.choose_spec.choose_spec.2).elim
theorem fn_DQ {P : Program} {w : World} {g : Gi} {mg : Str → Option Value} {base : Heap} {x qual : Str} {params : Arguments} {body : List Stmt} {scope : Scope} {dvs : List V} {kws : List (Str × V)} {f : Addr} {fd : FuncData} {N ps : List Str} {k : Nat} {m : MS}
    (G : GiOk g) (F : FunD g.K x qual params body scope dvs kws f fd) (S : FnScope N ps scope)
    (hbody : ∀ (cdv : Value) (A : Around) (outer : List PySem.Env) (s : Shared) (H : Hp) (E : XK) (p : Addr × Obj) (B : Bg), BdQ g (L2H.cxH (L2.CX P w) P w g.K mg base N qual scope f cdv A outer s H E p) →
      PSs (L2H.cxH (L2.CX P w) P w g.K mg base N qual scope f cdv A outer s H E p) body (tS g B (fun cls d _ H => E cls d H) m)) :
    FnQ P w g.K mg base (k + 1) f fd ps (spD g ps.length (fnOf N.length ps.length m)) := by
  refine fn_Q F S (fun vs H Q E h => ?_) ?_
  · obtain ⟨_, _, hl, _⟩ := h
    exact hl
  · intro cdv A outer s H vs Q E p0 h
    obtain ⟨st, ds, hl, gd, r, p⟩ := h
    have hb := hbody cdv A outer s H E p0 ⟨st, H, 0, 0, 0, 0⟩ ⟨G, rfl⟩
    refine ⟨_, hb, mkEnv N.length ds, st, start_sr gd r, ?_⟩
    have hl2 : ds.length = ps.length := by rw [← r.length]; exact hl
    unfold fnOf at p
    rw [if_pos hl2] at p
    cases e : m (mkEnv N.length ds) st.h with
    | nx env h =>
      rw [e] at p
      intro σ' H' s' e1 _ sr
      exact p .non H' s' e1 sr.evo sr.good rfl
    | ret d h =>
      rw [e] at p
      intro v H' s' e1 ev gd' rr
      exact p v H' s' e1 ev gd' rr
    | exc env x h =>
      rw [e] at p
      intro cls dd σ' H' s' e1 _ sr xr
      exact p cls dd H' s' e1 sr.evo sr.good xr
    | brk env h => rw [e] at p; exact p.elim
    | cnt env h => rw [e] at p; exact p.elim
    | stuck => rw [e] at p; exact p.elim
structure RdyQ (P : Program) (w : World) (K : PySem.W.Frag) (mg : Str → Option Value) (base : Heap) (g : Gi) (x : Str) (k n : Nat) (F : Fn) : Prop where
  ex : ∃ (f : Addr) (fd : FuncData) (ps : List Str), FnQ P w K mg base k f fd ps (spD g ps.length F) ∧ mg x = some (.ref f) ∧ PySem.W.keepIn K (.ref f) = true ∧ Binds K fd ps [] ∧ n = ps.length
section
variable {X X0 : Cx} {g : Gi} {B : Bg} {pos p : Pos} {e : Expr} {es : List Expr} {A : MA} {F : Fn} {n k j : Nat} {x : Str}
theorem ve_callQ {a : Addr} {pn : List (Addr × Obj)} {q : Addr × Obj} (V : RdyQ X0.prog X0.w X0.K X0.mg X0.base g x k n F) (hr : Room j X0.A) (hj : k ≤ j) (hg : Gl (X0.suite a (q :: pn)) x) (ha : PA (X0.suite a (q :: pn)) (e :: es) (tA g B (fun _ _ _ _ => False) A)) (hdb : (x == ("__debug__" : Str)) = false := by decide)
    (he : starEach (e :: es) X0.env = (false, eval e X0.env) :: starEach es X0.env := by rfl) (hpl : (backTo pos (starEach es X0.env)).any (·.1) = false := by rfl) :
    PE (X0.suite a (q :: pn)) (.Call (.Name x p) (e :: es) [] pos) (tE g B (fun _ _ _ _ => False) (mA1 (fCallN n F []) A)) := by
  obtain ⟨f, fd, ps, FQ, hm, hk, hb, hn⟩ := V.ex
  have hr2 : L2H.RoomH k (X0.suite a (q :: pn)).A := by
    have r := (hr.mono hj)
    exact ⟨r.dp, r.un⟩
  refine ⟨fun pins s σ H Q I h => ?_⟩
  refine wpAny_Call_Name_kw (ld_glob I hg hm ?_ hdb)
  obtain ⟨env, st, sr, pp⟩ := h
  have hA := (bindA (Q := Q) sr pp)
  refine PySem.W.callWith_K (h₀ := X0.base) I.ok.mod.kin hk (thn (ha.run pos pins s σ H _ I hA) fun us s1 ⟨vs, H1, I1, r, st1, xs, sr1, ev1, r1, p1⟩ => ⟨I1.kIn, ?_⟩) he hpl
  unfold fCallN at p1
  by_cases hl : xs.length = n
  · rw [if_pos hl] at p1
    unfold fCall at p1
    cases e1 : datas xs with
    | none => rw [e1] at p1; exact p1.elim
    | some dl =>
      rw [e1] at p1
      have rr := (r1.datas e1)
      simp only [List.append_nil] at p1
      have sp := spD_of (n := ps.length) sr1 (by rw [r1.length, hl]; exact hn) rr p1
      have hul : us.length = ps.length := by rw [← r.length]; exact FQ.len _ _ _ _ sp
      have b := hb s1 us I1.kIn (by rw [List.append_nil]; exact hul)
      rw [List.append_nil] at b
      have P1 := I1.pin q (List.mem_append_left _ (List.mem_cons_self ..))
      have hpin : L2H.PinOk (X0.suite a (q :: pn)).stack H1 s1 q := ⟨P1.1, P1.2.1, fun hm => (List.mem_cons.mp (I1.stkSub q.1 hm)).elim P1.2.2.1 P1.2.2.2.1, P1.2.2.2.2⟩
      refine wpAny_call (codeAny_mono (FQ.run (X0.suite a (q :: pn)).A (X0.suite a (q :: pn)).stack s1 H1 ⟨us, []⟩ us vs Q _ q hr2 hpin I1.env0 b r sp) fun r s' hq => ?_)
      cases r with
      | error e =>
        obtain ⟨_, _, _, _, _, _, _, _, _, _, _, _, w⟩ := hq
        exact w.elim
      | ok fl =>
        cases fl with
        | ret u => exact I1.after hq
        | next => exact False.elim hq
        | brk => exact False.elim hq
        | cont => exact False.elim hq
  · rw [if_neg hl] at p1
    exact p1.elim
end
end Vi
namespace Vi
open PySem L2 PyProof.Rows
theorem rdyQ_of {P : Program} {w : World} {K : PySem.W.Frag} {mg : Str → Option Value} {base : Heap} {g : Gi} {f : Addr} {x : Str} {fd : FuncData} {ps : List Str} {qual : Str} {params : Arguments} {body : List Stmt} {scope : Scope} {nm : Str} {k : Nat} {F : Fn} (FD : FunD K nm qual params body scope [] [] f fd) (FG : FnQ P w K mg base k f fd ps (spD g ps.length F)) (hm : mg x = some (.ref f))
    (hb : ∀ (kV doc pm : Value) (an : Option Addr) (cdv ct : Value) (us : List Value), us.length = ps.length → bindArgs (PySem.W.fnOf nm qual params body scope .none kV doc pm an cdv ct) ⟨us, []⟩ = pure (ps.zip us)) {n : Nat} (hn : n = ps.length) : RdyQ P w K mg base g x k n F :=
  ⟨f, fd, ps, FG, hm, FD.kp, FD.bindsN hb, hn⟩
end Vi
namespace Vi
open PySem L2 PyProof.Rows
def rInTD (K : PySem.W.Frag) (neg : Bool) : R2 := fun x y H Q => ∃ d ds, Dp K H x d ∧ Dp K H y (.tuple ds) ∧ SeqAt.shaped d = true ∧ SeqAt.shaped (.tuple ds) = true ∧ Q (.bl (if neg then !(ds.any fun z => PyData.eqv z d) else ds.any fun z => PyData.eqv z d)) H
section
variable {X : Cx} {g : Gi}
end
def fInT (neg : Bool) (x y : Vl) (h : Hc) : R Vl := match x.dat?, y.dat? with
  | some d, some (.tup ds) => if shp d && shp (.tup ds) then .ok (.d (nB neg (ds.any fun z => eqD z d))) h else .stuck
  | _, _ => .stuck
section
variable {X : Cx} {g : Gi}
end
end Vi
namespace Vi
open PySem PySem.Spec L2 PyProof.Rows
def dropD (kvs : List (Key × D)) (k : Key) : List (Key × D) := kvs.filter fun kv => decide (kv.1 ≠ k)
theorem RepK.drop {g : Gi} {F : Hp} {al : Nat → Option Addr} {q : Key} : ∀ {kvs : List (Key × D)} {vs : List (Key × V)}, RepK g F al kvs vs → RepK g F al (dropD kvs q) (dropK vs q)
  | [], vs, r => by
    cases r
    exact rfl
  | (k, d) :: kvs, vs, r => by
    obtain ⟨v, ws, rfl, r1, r2⟩ := r
    have ih := RepK.drop (q := q) r2
    by_cases e : k = q
    · have e1 : dropD ((k, d) :: kvs) q = dropD kvs q := by
        unfold dropD
        rw [List.filter_cons_of_neg (by simp [e])]
      have e2 : dropK ((k, v) :: ws) q = dropK ws q := by
        unfold dropK
        rw [List.filter_cons_of_neg (by simp [e])]
      rw [e1, e2]
      exact ih
    · have e1 : dropD ((k, d) :: kvs) q = (k, d) :: dropD kvs q := by
        unfold dropD
        rw [List.filter_cons_of_pos (by simp [e])]
      have e2 : dropK ((k, v) :: ws) q = (k, v) :: dropK ws q := by
        unfold dropK
        rw [List.filter_cons_of_pos (by simp [e])]
      rw [e1, e2]
      exact ⟨v, _, rfl, r1, ih⟩
def fDDel (env : Env) (y z : Vl) (h : Hc) : RS := match y, z with
  | .d (.ref n), .d k => (match h[n]? with
    | some (.dK kvs) => (match key? k with
      | some kk => if (getD' kvs kk).isSome then .nx env (h.set n (.dK (dropD kvs kk))) else .stuck
      | none => .stuck)
    | _ => .stuck)
  | _, _ => .stuck
def mDDel (o k : ME) : MS := fun env h => (o env h).thenS env fun y h2 => (k env h2).thenS env fun z h3 => fDDel env y z h3
section
variable {X : Cx} {g : Gi} {B : Bg} {W : WXv} {pos tpos : Pos} {o k : Expr} {mo mk : ME}
end
end Vi
namespace Vi
open PySem PySem.Spec L2 PyProof.Rows
structure SeqIt (J : It) (Sq : Hp → List V → Prop) : Prop where
  go : ∀ {i : Nat} {H : Hp} {xs : List V} {x : V}, Sq H xs → xs[i]? = some x → J.go i H
  stop : ∀ {i : Nat} {H : Hp} {xs : List V}, Sq H xs → xs.length ≤ i → J.stop i H
  yld : ∀ {i : Nat} {H H' : Hp} {xs : List V} {x : V}, Sq H xs → J.yld i H x H' → H' = H ∧ xs[i]? = some x
def compD (T : TgF) (mt : MB) (mk mv : ME) : List D → List (Key × D) → Env → Hc → R Vl
  | [], acc, _, h => .ok (.d (.ref h.length)) (h ++ [.dK acc])
  | x :: r, acc, env, h => match T x env with
    | none => .stuck
    | some env1 => (match mt env1 h with
      | .ok b h1 => if b then (match mk env1 h1 with
        | .ok (.d k) h2 => (match mv env1 h2 with
          | .ok (.d y) h3 => (match key? k with
            | some kk => if acc.length < 100000 then compD T mt mk mv r (putD' acc kk y) env h3 else .stuck
            | none => .stuck)
          | _ => .stuck)
        | _ => .stuck) else compD T mt mk mv r acc env h1
      | _ => .stuck)
def mCompD (own : List Nat) (T : TgF) (mt : MB) (mk mv src : ME) : ME := fun env h => (src env h).bind fun x h1 => match seqC? h1 x with
  | some (_, xs) => compD T mt mk mv xs [] (wipeE env own) h1
  | none => .stuck
def CInvD (g : Gi) (B : Bg) (W : WXv) (env : Env) (s1 : Sta) (σ : L2.St) (H1 : Hp) (own : List Nat) (T : TgF) (mt : MB) (mk mv : ME) (Q : VK) (Dn : Addr) (rest : List D) (H : Hp) : Prop :=
  ∃ (s' : Sta) (acc : List (Key × D)) (ws : List (Key × V)), Good g s' H ∧ Evo s1 H1 s' H ∧ H Dn = some (.dK ws) ∧ s'.F Dn = none ∧ (∀ n, s'.al n ≠ some Dn) ∧ RepK g s'.F s'.al acc ws ∧ PostE g B W env s1 σ H1 (compD T mt mk mv rest acc (wipeE env own) s'.h) Q
theorem RepK.evo {g : Gi} {s s' : Sta} {H H' : Hp} (e : Evo s H s' H') : ∀ {kvs : List (Key × D)} {ws : List (Key × V)}, RepK g s.F s.al kvs ws → RepK g s'.F s'.al kvs ws
  | [], ws, r => by
    cases r
    exact rfl
  | (k, d) :: kvs, ws, r => by
    obtain ⟨v, vr, rfl, r1, r2⟩ := r
    exact ⟨v, vr, rfl, e.rep r1, RepK.evo e r2⟩
section
variable {g : Gi} {B : Bg} {W : WXv} {env : Env} {s1 : Sta} {σ : L2.St} {H1 H : Hp} {own : List Nat} {T : TgF} {mt : MB} {mk mv : ME} {Q : VK} {Dn : Addr}
end
section
variable {X : Cx} {g : Gi} {B : Bg} {W : WXv} {own : List Nat} {T : TgF} {mt : MB} {mk mv m : ME} {t : TG} {σ : L2.St} {H : Hp} {Q : VK}
end
section
variable {X : Cx} {g : Gi} {B : Bg} {W : WXv} {T : TgF} {mt : MB} {mk mv m : ME} {t : TG} {kx vx tg iter : Expr} {ifs : List Expr} {scope : Scope} {own : List (Str × Nat)} {pos : Pos}
end
end Vi
namespace Vi
open PySem PySem.Spec L2 PyProof.Rows
def mCompDO (own : List Nat) (I : TblI) (T : TgF) (mt : MB) (mk mv src : ME) : ME := fun env h => (src env h).bind fun x h1 => itemsO I x h1 fun xs h2 => compD T mt mk mv xs [] (wipeE env own) h2
section
variable {X : Cx} {g : Gi} {B : Bg} {W : WXv} {own : List Nat} {I : TblI} {T : TgF} {mt : MB} {mk mv m : ME} {t : TG} {σ : L2.St} {H : Hp} {Q : VK}
end
section
variable {X : Cx} {g : Gi} {B : Bg} {W : WXv} {I : TblI} {T : TgF} {mt : MB} {mk mv m : ME} {t : TG} {kx vx tg iter : Expr} {ifs : List Expr} {scope : Scope} {own : List (Str × Nat)} {pos : Pos}
end
end Vi
namespace Vi
open PySem L2 PyProof.Rows
section
variable {P : Program} {w : World} {A : Around} {E : Value → Shared → Prop} {s : Shared}
end
section
variable {X : Cx} {g : Gi} {B : Bg} {W : WXv} {env : Env} {st : Sta} {σ : L2.St} {H : Hp} {s : Shared} {pins : List (Addr × Obj)} {Q : VK}
theorem Good.newF {p : Addr} {o : HO} (gd : Good g st H) (hp : H p = none) : Good g (st.frz p o) (upd H p o) ∧ Evo st H (st.frz p o) (upd H p o) := by
  have ne : ∀ {a : Addr} {u : HO}, H a = some u → a ≠ p := fun h => ne_of_none h hp
  have neF : ∀ {a : Addr} {u : HO}, st.F a = some u → a ≠ p := fun h => ne (gd.fle _ _ h)
  have ev : Evo st H (st.frz p o) (upd H p o) := ⟨fun a u h => by
      show upd st.F p o a = some u
      rw [upd_ne (neF h)]; exact h, fun _ _ h => h, fun a u h n => ⟨by rw [upd_ne (ne h)]; exact h, fun z _ => by
      show upd st.F p o a = none
      rw [upd_ne (ne h)]; exact z, n⟩, Nat.le_refl _, fun _ _ h => h⟩
  refine ⟨⟨fun a u h => ?_, gd.inj, fun n a h => ?_, fun n c h => ?_, gd.zed.keep rfl rfl (fun _ _ h => h) fun n a o _ h => by rw [upd_ne (ne h)]; exact h⟩, ev⟩
  · have h : upd st.F p o a = some u := h
    by_cases q : a = p
    · subst q
      rw [upd_same] at h ⊢
      exact h
    · rw [upd_ne q] at h ⊢
      exact gd.fle a u h
  · obtain ⟨h1, h2, u, h3⟩ := gd.dom n a h
    refine ⟨h1, ?_, u, by rw [upd_ne (ne h3)]; exact h3⟩
    show upd st.F p o a = none
    rw [upd_ne (ne h3)]; exact h2
  · obtain ⟨a, h1, h2⟩ := gd.cell n c h
    refine ⟨a, h1, ?_⟩
    exact h2.mv (fun o h3 => by rw [upd_ne (ne h3)]; exact h3) ev.f ev.al
def LZ (g : Gi) (st0 : Sta) (H0 : Hp) (q : Addr) (zs : List D) (i : Nat) (vs : List L2.V) (H : Hp) : Prop :=
  ∃ st : Sta, Good g st H ∧ Evo st0 H0 st H ∧ st.h = st0.h ∧ H q = some (.lst vs) ∧ st.F q = none ∧ (∀ n, st.al n ≠ some q) ∧ vs.length = i ∧ Reps g st.F st.al (zs.take i) vs
theorem LZ.next {st0 : Sta} {H0 : Hp} {p q : Addr} {ds es : List D} {xs ys vs : List L2.V} {i : Nat} {x y : L2.V} (hq0 : H0 q = none) (rx : Reps g st0.F st0.al ds xs) (ry : Reps g st0.F st0.al es ys) (c : LZ g st0 H0 q (zipD ds es) i vs H)
    (hp : H p = none) (hx : xs[i]? = some x) (hy : ys[i]? = some y) : LZ g st0 H0 q (zipD ds es) (i + 1) (vs ++ [.ref p]) (upd (upd H p (.tup [x, y])) q (.lst (vs ++ [.ref p]))) := by
  obtain ⟨st, gd, ev, eh, hq, hf, ha, hl, rr⟩ := c
  obtain ⟨gd1, ev1⟩ := gd.newF (o := .tup [x, y]) hp
  have qp : q ≠ p := ne_of_none hq hp
  have f1 : (st.frz p (.tup [x, y])).F q = none := by
    show upd st.F p _ q = none
    rw [upd_ne qp]; exact hf
  have evA := ev.trans ev1
  refine ⟨st.frz p (.tup [x, y]), gd1.updO f1 ha, evA.updO hq0, eh, upd_same, f1, ha, by rw [List.length_append, hl]; rfl, ?_⟩
  have l1 : i < ds.length := by
    rw [← rx.length]
    exact (List.getElem?_eq_some_iff.mp hx).1
  have l2 : i < es.length := by
    rw [← ry.length]
    exact (List.getElem?_eq_some_iff.mp hy).1
  obtain ⟨x', ex, r1⟩ := rx.get (List.getElem?_eq_getElem l1)
  obtain ⟨y', ey, r2⟩ := ry.get (List.getElem?_eq_getElem l2)
  rw [hx] at ex
  cases ex
  rw [hy] at ey
  cases ey
  rw [List.take_succ, zipD_get ds es i _ _ (List.getElem?_eq_getElem l1) (List.getElem?_eq_getElem l2)]
  exact (ev1.reps rr).append (Reps.cons ⟨p, [x, y], rfl, .inl upd_same, Reps.cons (evA.rep r1) (Reps.cons (evA.rep r2) Reps.nil)⟩ Reps.nil)
def ZSt (z TI TO i1 i2 : Addr) (H : Hp) (h : Heap) : Prop := IsPair h TI (.ref i1) (.ref i2) ∧ (∃ o, h.get? TO = some o) ∧ ((IsZip h z TI TO .none ∧ ∃ x y, IsPair h TO x y) ∨ ∃ T f ws, IsZipHeld h z TI TO T f ∧ H T = some (.tup ws))
end
end Vi
namespace Vi
open PySem L2 PyProof.Rows
section
variable {X : Cx} {g : Gi} {B : Bg} {W : WXv} {env : Env} {st : Sta} {σ : L2.St} {H : Hp} {s : Shared} {pins : List (Addr × Obj)} {Q : VK}
end
def mListZ (o : Bool) (a : MA) : ME := fun env h => (a env h).bind fun xs h1 => match xs with
  | [x, y] => (match seqD? h1 x, seqD? h1 y with
    | some (false, ds), some (false, es) => if min ds.length es.length ≤ 100000 then .ok (Vl.ofL o (zipD ds es)) h1 else .stuck
    | _, _ => .stuck)
  | _ => .stuck
section
variable {X : Cx} {g : Gi} {B : Bg} {W : WXv} {pos pos' p p' : Pos} {a b : Expr} {A : MA}
end
end Vi
namespace Vi
open PySem L2 PyProof.Rows
mutual
def dAt (K : PySem.W.Frag) : D → Value → Bool
  | .non, .none => true
  | .bl b, .bool c => b == c
  | .int i, .int j _ => decide (i = j)
  | .str x, .str y _ => decide (x = y)
  | .tup ds, .ref a => (match K.lookup a with
    | some ⟨.type c, _, .seq its _, _⟩ => decide (c = "tuple") && (decide (its.size ≤ sizeLine) && dsAt K ds its.toList)
    | _ => false)
  | _, _ => false
def dsAt (K : PySem.W.Frag) : List D → List Value → Bool
  | [], [] => true
  | d :: ds, u :: us => dAt K d u && dsAt K ds us
  | _, _ => false
end
mutual
def kcD (kc : List D → Bool) : D → Bool
  | .tup ds => kc ds && kcDs kc ds
  | _ => true
def kcDs (kc : List D → Bool) : List D → Bool
  | [] => true
  | d :: ds => kcD kc d && kcDs kc ds
end
section
variable {g : Gi} {K : PySem.W.Frag}
mutual
theorem dAt_rep (hK : g.K = K) : ∀ {d : D} {u : Value}, dAt K d u = true → kcD g.kc d = true → ∃ v, RelV v u ∧ ∀ F al, Rep g F al d v
  | .non, u, h, _ => by
    cases u <;> first | exact ⟨.non, rfl, fun _ _ => rfl⟩ | (simp [dAt] at h)
  | .bl b, u, h, _ => by
    cases u <;> first | (obtain rfl : b = _ := by simpa [dAt] using h
                         exact ⟨.bl _, rfl, fun _ _ => rfl⟩) | (simp [dAt] at h)
  | .int i, u, h, _ => by
    cases u <;> first | (obtain rfl : i = _ := by simpa [dAt] using h
                         exact ⟨.int _, ⟨_, rfl⟩, fun _ _ => rfl⟩) | (simp [dAt] at h)
  | .str x, u, h, _ => by
    cases u <;> first | (obtain rfl : x = _ := by simpa [dAt] using h
                         exact ⟨.str _, ⟨_, rfl⟩, fun _ _ => rfl⟩) | (simp [dAt] at h)
  | .tup ds, u, h, hk => by
    cases u with
    | ref a =>
      have h1 : (match K.lookup a with
        | some ⟨.type c, _, .seq its _, _⟩ => decide (c = "tuple") && (decide (its.size ≤ sizeLine) && dsAt K ds its.toList)
        | _ => false) = true := by rw [dAt] at h; exact h
      rw [kcD] at hk
      obtain ⟨k1, k2⟩ := Bool.and_eq_true_iff.mp hk
      split at h1
      · next c dd its n sl ho =>
        obtain ⟨h2, h3⟩ := Bool.and_eq_true_iff.mp h1
        obtain ⟨h4, h5⟩ := Bool.and_eq_true_iff.mp h3
        obtain rfl := of_decide_eq_true h2
        obtain ⟨vs, r, q⟩ := dsAt_rep hK h5 k2
        exact ⟨.ref a, rfl, fun F al => ⟨a, vs, rfl, .inr ⟨k1, .inr ⟨_, its, n, hK ▸ ho, rfl, rfl, of_decide_eq_true h4, r⟩⟩, q F al⟩⟩
      · cases h1
    | _ => simp [dAt] at h
  | .lst _, u, h, _ => by cases u <;> simp [dAt] at h
  | .kl _, u, h, _ => by cases u <;> simp [dAt] at h
  | .xtup _, u, h, _ => by cases u <;> simp [dAt] at h
  | .ref _, u, h, _ => by cases u <;> simp [dAt] at h
  | .obj _ _, u, h, _ => by cases u <;> simp [dAt] at h
  | .cls _, u, h, _ => by cases u <;> simp [dAt] at h
  | .dK _, u, h, _ => by cases u <;> simp [dAt] at h
  | .dT _, u, h, _ => by cases u <;> simp [dAt] at h
theorem dsAt_rep (hK : g.K = K) : ∀ {ds : List D} {us : List Value}, dsAt K ds us = true → kcDs g.kc ds = true → ∃ vs, Vals vs us ∧ ∀ F al, Reps g F al ds vs
  | [], [], _, _ => ⟨[], .nil, fun _ _ => rfl⟩
  | [], _ :: _, h, _ => by simp [dsAt] at h
  | _ :: _, [], h, _ => by simp [dsAt] at h
  | d :: ds, u :: us, h, hk => by
    rw [dsAt] at h
    rw [kcDs] at hk
    obtain ⟨h1, h2⟩ := Bool.and_eq_true_iff.mp h
    obtain ⟨k1, k2⟩ := Bool.and_eq_true_iff.mp hk
    obtain ⟨v, r1, q1⟩ := dAt_rep hK h1 k1
    obtain ⟨vs, r2, q2⟩ := dsAt_rep hK h2 k2
    exact ⟨v :: vs, .cons r1 r2, fun F al => ⟨v, vs, rfl, q1 F al, q2 F al⟩⟩
end
end
def kCon (x : Str) (d : D) (K : PySem.W.Frag) : Bool := match PySem.W.nsIn K mainGlobals x with
  | some (some u) => dAt K d u
  | _ => false
abbrev TabV : Type := Str × List (Str × D)
def kTab (t : TabV) (K : PySem.W.Frag) : Bool := t.2.all fun q => match PySem.W.nsIn K (He.ga K t.1) q.1 with
  | some (some u) => dAt K q.2 u
  | _ => false
def tabsIn (ts : List TabV) (K : PySem.W.Frag) : List (Option (List (Option (Str × Int)))) := ts.map fun t => He.dicW K (He.ga K t.1)
def tabsWant (ts : List TabV) (w : World) : List (Option (List (Option (Str × Int)))) := ts.map fun t => some (He.keysIn w.params (t.2.map Prod.fst))
structure KTab (X : Cx) (g : Gi) (x : Str) (tb : List (Str × D)) : Prop where
  ex : ∃ (a : Addr) (es : Array DictEntry) (n : Nat), X.mg x = some (.ref a) ∧ KDict X.K X.w a es n ∧ (∀ k d, tb.lookup k = some d → ∃ u v, PySem.W.nsIn X.K a k = some (some u) ∧ RelV v u ∧ ∀ F al, Rep g F al d v) ∧
    ∀ k, tb.lookup k = none → PySem.W.nsIn X.K a k = some none
def mTIx (tb : List (Str × D)) (mb : ME) : ME := fun env h => (mb env h).bind fun y h1 => match y with
  | .d (.str k) => (match tb.lookup k with
    | some d => .ok (.d d) h1
    | none => .stuck)
  | _ => .stuck
def mTIn (neg : Bool) (tb : List (Str × D)) (ma : ME) : ME := fun env h => (ma env h).bind fun y h1 => match y with
  | .d (.str k) => .ok (.d (nB neg (tb.lookup k).isSome)) h1
  | _ => .stuck
section
variable {X : Cx} {g : Gi} {B : Bg} {W : WXv} {pos p : Pos} {x : Str} {a b : Expr} {ma mb : ME} {tb : List (Str × D)}
end
abbrev AlW : Type := AlV × List (Option (List (Option (Str × Int))))
def SaysW (ck : List (PySem.W.Frag → Bool)) (fn : List DefV) (ts : List TabV) (w : World) (K : PySem.W.Frag) : Prop := SaysV ck fn K ∧ tabsIn ts K = tabsWant ts w
def obsWG (n : Nat) (ck : List (PySem.W.Frag → Bool)) (fn : List DefV) (ts : List TabV) (g : Addr → Option Obj) : AlW :=
  (obsVG n ck fn g, tabsIn ts (He.frG g (reach g [mainGlobals, cStatics] n)))
def hookW (n : Nat) (ck : List (PySem.W.Frag → Bool)) (fn : List DefV) (ts : List TabV) : PySem.W.Hook where
  α := AlW
  obs := fun s => obsWG n ck fn ts s.heap.get?
  val := fun w => (wantV fn, tabsWant ts w)
  says := fun w h => ∃ K : PySem.W.Frag, K.In h ∧ SaysW ck fn ts w K
  of := fun _ _ e => ⟨_, He.frG_in, congrArg Prod.fst e, congrArg Prod.snd e⟩
  keeps := fun _ _ _ ⟨K, i, c⟩ k => ⟨K, PySem.W.Frag.In.keeps i k, c⟩
structure GndW (PDx : PD) (ck : List (PySem.W.Frag → Bool)) (fn : List DefV) (ts : List TabV) (w : World) (K : PySem.W.Frag) (mg : Str → Option Value) (base : Heap) : Prop extends Gnd PDx ck fn K mg base where
  T : tabsIn ts K = tabsWant ts w
end Vi
namespace Vi
open PySem L2 PyProof.Rows
def obsWL (as : List Addr) (ck : List (PySem.W.Frag → Bool)) (fn : List DefV) (ts : List TabV) (g : Addr → Option Obj) : AlW := (obsV ck fn (He.frG g as), tabsIn ts (He.frG g as))
def hookL (as : List Addr) (ck : List (PySem.W.Frag → Bool)) (fn : List DefV) (ts : List TabV) : PySem.W.Hook where
  α := AlW
  obs := fun s => obsWL as ck fn ts s.heap.get?
  val := fun w => (wantV fn, tabsWant ts w)
  says := fun w h => ∃ K : PySem.W.Frag, K.In h ∧ SaysW ck fn ts w K
  of := fun _ _ e => ⟨_, He.frG_in, congrArg Prod.fst e, congrArg Prod.snd e⟩
  keeps := fun _ _ _ ⟨K, i, c⟩ k => ⟨K, PySem.W.Frag.In.keeps i k, c⟩
theorem obsWL_eq {as : List Addr} {ck : List (PySem.W.Frag → Bool)} {fn : List DefV} {ts : List TabV} {g : Addr → Option Obj} {s : Shared} (h : ∀ a, g a = s.heap.get? a) : obsWL as ck fn ts g = (hookL as ck fn ts).obs s := by
  rw [show g = s.heap.get? from funext h] <;> rfl
end Vi
set_option maxHeartbeats 4000000
namespace G38
open PySem L2 PyProof.Rows Vi
abbrev prog : Program := PySem.Challenge.pw_swornlots_k38_bad_claim_texts
def top (i : Nat) : Stmt := prog.main.body.getD i (.Pass ⟨0, 0, 0, 0⟩)
def clsB (s : Stmt) : List Stmt := match s with
  | .ClassDef (body := z) .. => z
  | _ => []
def sub (i j : Nat) : Stmt := (clsB (top i)).getD j (.Pass ⟨0, 0, 0, 0⟩)
def PDx : PD where
  nm := ["LotError", "NoClaim", "BadClaim", "Unknown", "BadLine", "BadText", "Bracket", "Reader"]
  cls := [6, 7]
  fld := [(6, "factors"), (6, "nots"), (6, "terms"), (7, "brackets"), (7, "place"), (7, "words")]
  isi := [((.bt "NoneType", .bt "str"), false), ((.bt "NoneType", .bt "int"), false), ((.bt "NoneType", .bt "bool"), false), ((.bt "NoneType", .bt "tuple"), false), ((.bt "NoneType", .bt "list"), false), ((.bt "bool", .bt "str"), false), ((.bt "bool", .bt "int"), true), ((.bt "bool", .bt "bool"), true), ((.bt "bool", .bt "tuple"), false), ((.bt "bool", .bt "list"), false), ((.bt "int", .bt "str"), false), ((.bt "int", .bt "int"), true), ((.bt "int", .bt "bool"), false), ((.bt "int", .bt "tuple"), false), ((.bt "int", .bt "list"), false), ((.bt "str", .bt "str"), true), ((.bt "str", .bt "int"), false), ((.bt "str", .bt "bool"), false), ((.bt "str", .bt "tuple"), false), ((.bt "str", .bt "list"), false), ((.bt "tuple", .bt "str"), false), ((.bt "tuple", .bt "int"), false), ((.bt "tuple", .bt "bool"), false), ((.bt "tuple", .bt "tuple"), true), ((.bt "tuple", .bt "list"), false), ((.bt "list", .bt "str"), false), ((.bt "list", .bt "int"), false), ((.bt "list", .bt "bool"), false), ((.bt "list", .bt "tuple"), false), ((.bt "list", .bt "list"), true), ((.own 2, .own 0), true), ((.own 2, .bt "ValueError"), true), ((.own 2, .own 2), true), ((.own 2, .own 4), false), ((.own 2, .own 5), false), ((.own 2, .own 1), false), ((.own 2, .own 3), false)]
  xcs := [2]
  xno := [(2, "word")]
  nf := []
  kcs := [[(.str "and"), (.str "or"), (.str "not"), (.str "free"), (.str "untouched"), (.str "least"), (.str "most"), (.str "of"), (.str "since"), (.str "until"), (.str "single"), (.str "recipe"), (.str "take"), (.str "move"), (.str "drain"), (.str "wash"), (.str "pack"), (.str "repeat"), (.str "when"), (.str "else"), (.str "end"), (.str "done"), (.str "yes"), (.str "no"), (.str "none")]]
abbrev g0 : Gi := PDx.gi []
abbrev xsB : Nat → Bool := fun c => decide (c ∈ PDx.xcs)
abbrev xnB : Nat → Str → Bool := fun c f => decide ((c, f) ∈ PDx.xno)
abbrev nfB : Nat → Ty → Bool := fun c t => decide ((c, t) ∈ PDx.nf)
abbrev d_RESERVED : D := (.tup [(.str "and"), (.str "or"), (.str "not"), (.str "free"), (.str "untouched"), (.str "least"), (.str "most"), (.str "of"), (.str "since"), (.str "until"), (.str "single"), (.str "recipe"), (.str "take"), (.str "move"), (.str "drain"), (.str "wash"), (.str "pack"), (.str "repeat"), (.str "when"), (.str "else"), (.str "end"), (.str "done"), (.str "yes"), (.str "no"), (.str "none")])
abbrev d_LETTERS : D := (.str "abcdefghijklmnopqrstuvwxyz")
abbrev d_SIGNS : D := (.str "abcdefghijklmnopqrstuvwxyz0123456789")
abbrev d_LONGEST_NAME : D := (.int 8)
abbrev d_LAST_DAY : D := (.int 99999)
abbrev d_MOST_DIGITS : D := (.int 9)
abbrev d_DIGITS : D := (.str "0123456789")
def ts : List TabV := []
def r_NoClaim_xinitx : DefV := ⟨pM "NoClaim" "__init__", "__init__", "NoClaim.__init__", defArgs (sub 3 0), defBody (sub 3 0), defScope (sub 3 0), []⟩
def r_BadClaim_xinitx : DefV := ⟨pM "BadClaim" "__init__", "__init__", "BadClaim.__init__", defArgs (sub 4 0), defBody (sub 4 0), defScope (sub 4 0), []⟩
def r_Unknown_xinitx : DefV := ⟨pM "Unknown" "__init__", "__init__", "Unknown.__init__", defArgs (sub 5 0), defBody (sub 5 0), defScope (sub 5 0), []⟩
def r_BadLine_xinitx : DefV := ⟨pM "BadLine" "__init__", "__init__", "BadLine.__init__", defArgs (sub 6 0), defBody (sub 6 0), defScope (sub 6 0), []⟩
def r_BadText_xinitx : DefV := ⟨pM "BadText" "__init__", "__init__", "BadText.__init__", defArgs (sub 7 0), defBody (sub 7 0), defScope (sub 7 0), []⟩
def r_is_name : DefV := ⟨pG "is_name", "is_name", "is_name", defArgs (top 13), defBody (top 13), defScope (top 13), []⟩
def r_lowest : DefV := ⟨pG "lowest", "lowest", "lowest", defArgs (top 15), defBody (top 15), defScope (top 15), []⟩
def r_number_told : DefV := ⟨pG "number_told", "number_told", "number_told", defArgs (top 20), defBody (top 20), defScope (top 20), []⟩
def r_share_told : DefV := ⟨pG "share_told", "share_told", "share_told", defArgs (top 21), defBody (top 21), defScope (top 21), []⟩
def r_day_told : DefV := ⟨pG "day_told", "day_told", "day_told", defArgs (top 22), defBody (top 22), defScope (top 22), []⟩
def r_Bracket_xinitx : DefV := ⟨pM "Bracket" "__init__", "__init__", "Bracket.__init__", defArgs (sub 23 0), defBody (sub 23 0), defScope (sub 23 0), []⟩
def r_Bracket_add_factor : DefV := ⟨pM "Bracket" "add_factor", "add_factor", "Bracket.add_factor", defArgs (sub 23 1), defBody (sub 23 1), defScope (sub 23 1), []⟩
def r_Bracket_whole : DefV := ⟨pM "Bracket" "whole", "whole", "Bracket.whole", defArgs (sub 23 2), defBody (sub 23 2), defScope (sub 23 2), []⟩
def r_Bracket_end_term : DefV := ⟨pM "Bracket" "end_term", "end_term", "Bracket.end_term", defArgs (sub 23 3), defBody (sub 23 3), defScope (sub 23 3), []⟩
def r_Reader_xinitx : DefV := ⟨pM "Reader" "__init__", "__init__", "Reader.__init__", defArgs (sub 24 0), defBody (sub 24 0), defScope (sub 24 0), []⟩
def r_Reader_is_at_end : DefV := ⟨pM "Reader" "is_at_end", "is_at_end", "Reader.is_at_end", defArgs (sub 24 1), defBody (sub 24 1), defScope (sub 24 1), []⟩
def r_Reader_now : DefV := ⟨pM "Reader" "now", "now", "Reader.now", defArgs (sub 24 2), defBody (sub 24 2), defScope (sub 24 2), []⟩
def r_Reader_expect : DefV := ⟨pM "Reader" "expect", "expect", "Reader.expect", defArgs (sub 24 3), defBody (sub 24 3), defScope (sub 24 3), []⟩
def r_Reader_read_name : DefV := ⟨pM "Reader" "read_name", "read_name", "Reader.read_name", defArgs (sub 24 4), defBody (sub 24 4), defScope (sub 24 4), []⟩
def r_Reader_past : DefV := ⟨pM "Reader" "past", "past", "Reader.past", defArgs (sub 24 5), defBody (sub 24 5), defScope (sub 24 5), []⟩
def r_Reader_read_farms : DefV := ⟨pM "Reader" "read_farms", "read_farms", "Reader.read_farms", defArgs (sub 24 6), defBody (sub 24 6), defScope (sub 24 6), []⟩
def r_Reader_read_plain : DefV := ⟨pM "Reader" "read_plain", "read_plain", "Reader.read_plain", defArgs (sub 24 7), defBody (sub 24 7), defScope (sub 24 7), []⟩
def r_Reader_read_factor : DefV := ⟨pM "Reader" "read_factor", "read_factor", "Reader.read_factor", defArgs (sub 24 8), defBody (sub 24 8), defScope (sub 24 8), []⟩
def r_Reader_read_closing : DefV := ⟨pM "Reader" "read_closing", "read_closing", "Reader.read_closing", defArgs (sub 24 9), defBody (sub 24 9), defScope (sub 24 9), []⟩
def r_Reader_read_all : DefV := ⟨pM "Reader" "read_all", "read_all", "Reader.read_all", defArgs (sub 24 10), defBody (sub 24 10), defScope (sub 24 10), []⟩
def r_read_claim : DefV := ⟨pG "read_claim", "read_claim", "read_claim", defArgs (top 25), defBody (top 25), defScope (top 25), []⟩
def r__law_bag : DefV := ⟨pG "_law_bag", "_law_bag", "_law_bag", defArgs (top 27), defBody (top 27), defScope (top 27), []⟩
def r__law_mixed : DefV := ⟨pG "_law_mixed", "_law_mixed", "_law_mixed", defArgs (top 28), defBody (top 28), defScope (top 28), []⟩
def r__law_draw : DefV := ⟨pG "_law_draw", "_law_draw", "_law_draw", defArgs (top 29), defBody (top 29), defScope (top 29), []⟩
def r__law_pick : DefV := ⟨pG "_law_pick", "_law_pick", "_law_pick", defArgs (top 30), defBody (top 30), defScope (top 30), []⟩
def r__law_some : DefV := ⟨pG "_law_some", "_law_some", "_law_some", defArgs (top 31), defBody (top 31), defScope (top 31), []⟩
def r__law_name : DefV := ⟨pG "_law_name", "_law_name", "_law_name", defArgs (top 32), defBody (top 32), defScope (top 32), []⟩
def r__law_names : DefV := ⟨pG "_law_names", "_law_names", "_law_names", defArgs (top 33), defBody (top 33), defScope (top 33), []⟩
def r__law_is_int : DefV := ⟨pG "_law_is_int", "_law_is_int", "_law_is_int", defArgs (top 34), defBody (top 34), defScope (top 34), []⟩
def r__law_divisor : DefV := ⟨pG "_law_divisor", "_law_divisor", "_law_divisor", defArgs (top 35), defBody (top 35), defScope (top 35), []⟩
def r__law_low : DefV := ⟨pG "_law_low", "_law_low", "_law_low", defArgs (top 36), defBody (top 36), defScope (top 36), []⟩
def r__law_p5_atom_words : DefV := ⟨pG "_law_p5_atom_words", "_law_p5_atom_words", "_law_p5_atom_words", defArgs (top 37), defBody (top 37), defScope (top 37), []⟩
def r__law_p5_claim_words : DefV := ⟨pG "_law_p5_claim_words", "_law_p5_claim_words", "_law_p5_claim_words", defArgs (top 38), defBody (top 38), defScope (top 38), []⟩
def r__law_p5_number : DefV := ⟨pG "_law_p5_number", "_law_p5_number", "_law_p5_number", defArgs (top 39), defBody (top 39), defScope (top 39), []⟩
def r__law_p5_word : DefV := ⟨pG "_law_p5_word", "_law_p5_word", "_law_p5_word", defArgs (top 40), defBody (top 40), defScope (top 40), []⟩
def r__law_p5_spoilt : DefV := ⟨pG "_law_p5_spoilt", "_law_p5_spoilt", "_law_p5_spoilt", defArgs (top 41), defBody (top 41), defScope (top 41), []⟩
def r__law_p5_digits : DefV := ⟨pG "_law_p5_digits", "_law_p5_digits", "_law_p5_digits", defArgs (top 42), defBody (top 42), defScope (top 42), []⟩
def r__law_p5_share_of : DefV := ⟨pG "_law_p5_share_of", "_law_p5_share_of", "_law_p5_share_of", defArgs (top 43), defBody (top 43), defScope (top 43), []⟩
def r__law_p5_is_name : DefV := ⟨pG "_law_p5_is_name", "_law_p5_is_name", "_law_p5_is_name", defArgs (top 44), defBody (top 44), defScope (top 44), []⟩
def r__law_p5_next : DefV := ⟨pG "_law_p5_next", "_law_p5_next", "_law_p5_next", defArgs (top 45), defBody (top 45), defScope (top 45), []⟩
def r__law_p5_judged : DefV := ⟨pG "_law_p5_judged", "_law_p5_judged", "_law_p5_judged", defArgs (top 46), defBody (top 46), defScope (top 46), []⟩
def r__law_p5_last : DefV := ⟨pG "_law_p5_last", "_law_p5_last", "_law_p5_last", defArgs (top 47), defBody (top 47), defScope (top 47), []⟩
def r__law_p5_read : DefV := ⟨pG "_law_p5_read", "_law_p5_read", "_law_p5_read", defArgs (top 48), defBody (top 48), defScope (top 48), []⟩
def r__law_p5_answered : DefV := ⟨pG "_law_p5_answered", "_law_p5_answered", "_law_p5_answered", defArgs (top 49), defBody (top 49), defScope (top 49), []⟩
def r_law : DefV := ⟨pG "law", "law", "law", defArgs (top 50), defBody (top 50), defScope (top 50), []⟩
def fn : List DefV := [r_NoClaim_xinitx, r_BadClaim_xinitx, r_Unknown_xinitx, r_BadLine_xinitx, r_BadText_xinitx, r_is_name, r_lowest, r_number_told, r_share_told, r_day_told, r_Bracket_xinitx, r_Bracket_add_factor, r_Bracket_whole, r_Bracket_end_term, r_Reader_xinitx, r_Reader_is_at_end, r_Reader_now, r_Reader_expect, r_Reader_read_name, r_Reader_past, r_Reader_read_farms, r_Reader_read_plain, r_Reader_read_factor, r_Reader_read_closing, r_Reader_read_all, r_read_claim, r__law_bag, r__law_mixed, r__law_draw, r__law_pick, r__law_some, r__law_name, r__law_names, r__law_is_int, r__law_divisor, r__law_low, r__law_p5_atom_words, r__law_p5_claim_words, r__law_p5_number, r__law_p5_word, r__law_p5_spoilt, r__law_p5_digits, r__law_p5_share_of, r__law_p5_is_name, r__law_p5_next, r__law_p5_judged, r__law_p5_last, r__law_p5_read, r__law_p5_answered, r_law]
def ck : List (PySem.W.Frag → Bool) := [PDx.ok,
  (He.Fa.glo "BadClaim").ok,
  (He.Fa.glo "BadLine").ok,
  (He.Fa.glo "BadText").ok,
  (He.Fa.glo "Bracket").ok,
  (He.Fa.glo "LotError").ok,
  (He.Fa.glo "NoClaim").ok,
  (He.Fa.glo "RESERVED").ok,
  (He.Fa.glo "Reader").ok,
  (He.Fa.glo "Unknown").ok,
  (He.Fa.glo "_law_bag").ok,
  (He.Fa.glo "_law_divisor").ok,
  (He.Fa.glo "_law_draw").ok,
  (He.Fa.glo "_law_is_int").ok,
  (He.Fa.glo "_law_low").ok,
  (He.Fa.glo "_law_mixed").ok,
  (He.Fa.glo "_law_name").ok,
  (He.Fa.glo "_law_names").ok,
  (He.Fa.glo "_law_p5_answered").ok,
  (He.Fa.glo "_law_p5_atom_words").ok,
  (He.Fa.glo "_law_p5_claim_words").ok,
  (He.Fa.glo "_law_p5_digits").ok,
  (He.Fa.glo "_law_p5_is_name").ok,
  (He.Fa.glo "_law_p5_judged").ok,
  (He.Fa.glo "_law_p5_last").ok,
  (He.Fa.glo "_law_p5_next").ok,
  (He.Fa.glo "_law_p5_number").ok,
  (He.Fa.glo "_law_p5_read").ok,
  (He.Fa.glo "_law_p5_share_of").ok,
  (He.Fa.glo "_law_p5_spoilt").ok,
  (He.Fa.glo "_law_p5_word").ok,
  (He.Fa.glo "_law_pick").ok,
  (He.Fa.glo "_law_some").ok,
  (He.Fa.glo "day_told").ok,
  (He.Fa.glo "is_name").ok,
  (He.Fa.glo "law").ok,
  (He.Fa.glo "lowest").ok,
  (He.Fa.glo "number_told").ok,
  (He.Fa.glo "read_claim").ok,
  (He.Fa.glo "share_told").ok,
  (He.Fa.free "ValueError").ok,
  (He.Fa.free "abs").ok,
  (He.Fa.free "all").ok,
  (He.Fa.free "bool").ok,
  (He.Fa.free "int").ok,
  (He.Fa.free "isinstance").ok,
  (He.Fa.free "len").ok,
  (He.Fa.free "list").ok,
  (He.Fa.free "max").ok,
  (He.Fa.free "range").ok,
  (He.Fa.free "repr").ok,
  (He.Fa.free "sorted").ok,
  (He.Fa.free "str").ok,
  (He.Fa.free "sum").ok,
  (He.Fa.free "tuple").ok,
  kGlobB "gcd" "gcd" "math.gcd",
  fun K => He.tupB K "RESERVED" [(.str "and"), (.str "or"), (.str "not"), (.str "free"), (.str "untouched"), (.str "least"), (.str "most"), (.str "of"), (.str "since"), (.str "until"), (.str "single"), (.str "recipe"), (.str "take"), (.str "move"), (.str "drain"), (.str "wash"), (.str "pack"), (.str "repeat"), (.str "when"), (.str "else"), (.str "end"), (.str "done"), (.str "yes"), (.str "no"), (.str "none")],
  kGlobS "LETTERS" "abcdefghijklmnopqrstuvwxyz",
  kGlobS "SIGNS" "abcdefghijklmnopqrstuvwxyz0123456789",
  kGlobI "LONGEST_NAME" 8,
  kGlobI "LAST_DAY" 99999,
  kGlobI "MOST_DIGITS" 9,
  kGlobS "DIGITS" "0123456789",
  kExo "BadClaim",
  (He.Fa.meth "BadClaim" "__init__").ok,
  (He.Fa.noat "BadClaim" "word").ok,
  (He.Fa.noat "BadClaim" "class_name").ok,
  (He.Fa.mkr "Bracket").ok,
  (He.Fa.meth "Bracket" "add_factor").ok,
  (He.Fa.meth "Bracket" "whole").ok,
  (He.Fa.meth "Bracket" "end_term").ok,
  (He.Fa.mkr "Reader").ok,
  (He.Fa.meth "Reader" "is_at_end").ok,
  (He.Fa.meth "Reader" "now").ok,
  (He.Fa.meth "Reader" "expect").ok,
  (He.Fa.meth "Reader" "read_name").ok,
  (He.Fa.meth "Reader" "past").ok,
  (He.Fa.meth "Reader" "read_farms").ok,
  (He.Fa.meth "Reader" "read_plain").ok,
  (He.Fa.meth "Reader" "read_factor").ok,
  (He.Fa.meth "Reader" "read_closing").ok,
  (He.Fa.meth "Reader" "read_all").ok,
  kCatch "BadClaim" "BadClaim" true]
end G38
set_option maxHeartbeats 0
namespace G38
open PySem L2 PyProof.Rows Vi
abbrev hR : PySem.W.OpenRow := PySem.W.OpenLaw.row PySem.Challenge.rw_swornlots_k38_bad_claim_texts
def as0 : List Addr := [3, 2, 6, 4, 52, 72, 91, 110, 129, 148, 151, 156, 163, 168, 175, 182, 220, 311, 322, 329, 336, 343, 350, 355, 360, 367, 374, 381, 388, 395, 402, 409, 416, 421, 426, 433, 438, 445, 452, 459,
  466, 473, 480, 16, 20, 22, 27, 33, 38, 0, 51, 71, 90, 109, 128, 147, 155, 162, 167, 174, 181, 219, 310, 321, 328, 335, 342, 349, 354, 359, 366, 373, 380, 387, 394, 401, 408, 415, 420, 425,
  432, 437, 444, 451, 458, 465, 472, 479, 15, 21, 26, 32, 50, 53, 69, 70, 88, 89, 107, 108, 126, 127, 145, 146, 152, 153, 154, 157, 158, 159, 160, 161, 164, 165, 166, 169, 170, 171, 172, 173,
  176, 177, 178, 179, 180, 196, 203, 210, 217, 218, 221, 222, 238, 245, 252, 259, 266, 273, 280, 287, 294, 301, 308, 309, 312, 313, 316, 317, 318, 319, 320, 323, 324, 325, 326, 327, 330, 331, 332, 333,
  334, 337, 338, 339, 340, 341, 344, 345, 346, 347, 348, 351, 352, 353, 356, 357, 358, 361, 362, 363, 364, 365, 368, 369, 370, 371, 372, 375, 376, 377, 378, 379, 382, 383, 384, 385, 386, 389, 390, 391,
  392, 393, 396, 397, 398, 399, 400, 403, 404, 405, 406, 407, 410, 411, 412, 413, 414, 417, 418, 419, 422, 423, 424, 427, 428, 429, 430, 431, 434, 435, 436, 439, 440, 441, 442, 443, 446, 447, 448, 449,
  450, 453, 454, 455, 456, 457, 460, 461, 462, 463, 464, 467, 468, 469, 470, 471, 474, 475, 476, 477, 478, 17, 18, 19, 23, 24, 25, 28, 34, 35, 36, 68, 87, 106, 125, 144, 195, 202, 209, 216,
  237, 244, 251, 258, 265, 272, 279, 286, 293, 300, 307, 63, 64, 65, 66, 67, 82, 83, 84, 85, 86, 101, 102, 103, 104, 105, 120, 121, 122, 123, 124, 139, 140, 141, 142, 143, 190, 191, 192, 193,
  194, 197, 198, 199, 200, 201, 204, 205, 206, 207, 208, 211, 212, 213, 214, 215, 232, 233, 234, 235, 236, 239, 240, 241, 242, 243, 246, 247, 248, 249, 250, 253, 254, 255, 256, 257, 260, 261, 262, 263,
  264, 267, 268, 269, 270, 271, 274, 275, 276, 277, 278, 281, 282, 283, 284, 285, 288, 289, 290, 291, 292, 295, 296, 297, 298, 299, 302, 303, 304, 305, 306]
abbrev hk : PySem.W.Hook := hookL as0 ck fn ts
def ob (s : PySem.W.SharedT) : AlW := obsWL as0 ck fn ts (HeadRun.getT s)
theorem ob_eq (s : PySem.W.SharedT) : ob s = hk.obs s.abs := obsWL_eq (HeadRun.getT_eq s)
def nl0 : List Str := ["LotError", "NoClaim", "BadClaim", "Unknown", "BadLine", "BadText", "RESERVED", "LETTERS", "SIGNS", "LONGEST_NAME", "is_name", "lowest", "LAST_DAY", "MOST_DIGITS", "DIGITS", "number_told", "share_told", "day_told", "Bracket", "Reader"]
def nl1 : List Str := ["read_claim", "_law_bag", "_law_mixed", "_law_draw", "_law_pick", "_law_some", "_law_name", "_law_names", "_law_is_int", "_law_divisor", "_law_low", "_law_p5_atom_words", "_law_p5_claim_words", "_law_p5_number", "_law_p5_word", "_law_p5_spoilt", "_law_p5_digits", "_law_p5_share_of", "_law_p5_is_name", "_law_p5_next"]
def nl2 : List Str := ["_law_p5_judged", "_law_p5_last", "_law_p5_read", "_law_p5_answered"]
section
open HeadRun PySem.W
def setF (w : World) (b : Bool) : World := { w with params := { w.params with followText := fun s => if s = "special-get-raises" then b else w.params.followText s } }
noncomputable abbrev WW (w : World) : Option (Shared × SharedT) := wholeF (fun p => stepQ (denQ tabQ) p w) fenceQ 20000 hR.prog
theorem joinD {α β γ δ : Type} {m : Option α} {A : α → β} {B : α → γ} {C : α → δ} {a : β} {b : γ} {c : δ} (h1 : m.map (fun x => (A x, B x)) = some (a, b)) (h2 : m.map C = some c) : m.map (fun x => (A x, B x, C x)) = some (a, b, c) := by
  cases m with
  | none => cases h1
  | some x =>
    have e1 : (A x, B x) = (a, b) := Option.some.inj h1
    have e2 : C x = c := Option.some.inj h2
    obtain ⟨e3, e4⟩ := Prod.mk.inj e1
    show some (A x, B x, C x) = _
    rw [e2, e3, e4]
theorem runAB (w : World) : ((WW w).map fun x => (looksF hR.prog x.1.heap x.2.abs, seenQ (PySem.W.view hR.prog [0, 50]) (nl0 ++ nl1 ++ nl2) (importedModules hR.prog.main.body) (fun s => xlAt (PySem.W.view hR.prog [0, 50]) [] s && recOk hR.toRowW.records s) x.2.abs)) = some (true, openGood (PySem.W.view hR.prog [0, 50]) (nl0 ++ nl1 ++ nl2)) := by
  kernel_rfl
theorem runO (w : World) : ((WW w).map fun x => ob x.2) = some (wantV fn, tabsWant ts w) := by
  kernel_rfl
theorem run (w : World) : HeadRun.RunEqI hR (PySem.W.view hR.prog [0, 50]) hk ob 20000 (nl0 ++ nl1 ++ nl2) w := joinD (runAB w) (runO w)
end
end G38
set_option maxHeartbeats 2000000
namespace Vi
open PySem L2 PyProof.Rows
def fMakeC (c n : Nat) (F : FnI) (dd : List D) (xs : List Vl) (h : Hc) : R Vl := if xs.length = n then (match datas xs with
  | some ds => (F (ds ++ dd) h).bind fun fs h' => .ok (.d (.ref h'.length)) (h' ++ [.ins c fs])
  | none => .stuck) else .stuck
section
variable {X : Cx} {g : Gi} {B : Bg} {W : WXv} {pos p : Pos} {e : Expr} {es : List Expr} {A : MA} {F : FnI} {dd : List D} {n c : Nat} {x : Str}
theorem run_makeC {pins : List (Addr × Obj)} {σ : L2.St} {H : Hp} {s : Shared} {Q : VK} {us : List Value} {ws : List V} {env : Env} {st : Sta} {dl : List D} (b : Bd X g W) (V : VMake X g c n dd F) (I : Inv X pins σ H s) (r : Vals ws us)
    (sr : SR g B env st σ H) (rr : Reps g st.F st.al dl ws) (hl : ws.length = n) (p1 : PostE g B W env st σ H ((F (dl ++ dd) st.h).bind fun fs h' => .ok (.d (.ref h'.length)) (h' ++ [.ins c fs])) Q) :
    wpAny (model X.prog X.w) X.A (call (.ref (g.ca c)) us) (EP X pins σ Q) X.xe s := by
  obtain ⟨k, f, fd, ps, q, dvs, ds, FG, hr, M, hb, hd, hdd, hn⟩ := V.ex
  have nx : H (s.heap.objs.size + 1) = none := I.hok.fresh (Nat.le_succ _)
  have nd : H s.heap.objs.size = none := I.hok.fresh (Nat.le_refl _)
  have nn : s.heap.objs.size ≠ s.heap.objs.size + 1 := Nat.ne_of_lt (Nat.lt_succ_self _)
  have I2 := Inv.made (C := g.ca c) I
  have r2 : Vals (L2.V.ref (s.heap.objs.size + 1) :: (ws ++ dvs)) (Value.ref (s.heap.objs.size + 1) :: (us ++ ds)) := .cons rfl (r.append hd)
  have hsp : spI g c ps.length F (L2.V.ref (s.heap.objs.size + 1) :: (ws ++ dvs)) (upd (upd H s.heap.objs.size (.own (s.heap.objs.size + 1))) (s.heap.objs.size + 1) (.ins (g.ca c) s.heap.objs.size []))
      (fun v H2 => v = .non ∧ Q (.ref (s.heap.objs.size + 1)) H2) (fun cls d H' => W cls d σ H') := by
    refine ⟨st, dl ++ dd, H, _, _, ws ++ dvs, rfl, by rw [List.length_append, hl]; exact hn, nx, nd, nn, rfl, sr.good, rr.append (hdd _ _), ?_⟩
    cases eF : F (dl ++ dd) st.h with
    | ok fs h =>
      rw [eF] at p1
      rintro H' s' e1 ev gd ⟨dx, vs, g1, g2, g3, g4⟩
      refine ⟨rfl, ?_⟩
      have gd2 : Good g (s'.addC (s.heap.objs.size + 1) (.ins c fs)) H' := addC_goodC gd ⟨dx, vs, g1, g4⟩ ⟨_, g1⟩ g2 g3 fun _ z => nomatch z
      have le := addC_le (a := s.heap.objs.size + 1) (c := .ins c fs) gd
      have ev2 : Evo st H (s'.addC (s.heap.objs.size + 1) (.ins c fs)) H' := ⟨fun a o z => le.f _ _ (ev.f a o z), fun n a z => le.al _ _ (ev.al n a z), fun a o z n => by
        obtain ⟨y1, y2, y3⟩ := ev.oth a o z n
        refine ⟨y1, y2, fun m => ?_⟩
        show (if m = s'.h.length then some (s.heap.objs.size + 1) else s'.al m) ≠ some a
        by_cases em : m = s'.h.length
        · rw [if_pos em]
          intro q
          have q := Option.some.inj q
          rw [← q, nx] at z
          cases z
        · rw [if_neg em]
          exact y3 m, by
        show st.h.length ≤ (s'.h ++ [Cell.ins c fs]).length
        rw [List.length_append]
        exact Nat.le_trans ev.len (Nat.le_add_right _ _), fun n o z => le.z _ _ (ev.z n o z)⟩
      subst e1
      exact p1 (.ref (s.heap.objs.size + 1)) H' (s'.addC (s.heap.objs.size + 1) (.ins c fs)) rfl ev2 (sr.call ev2 gd2) ⟨s.heap.objs.size + 1, rfl, if_pos rfl⟩
    | exc y h =>
      rw [eF] at p1
      intro cls dd' H' s' e1 ev gd xr
      exact p1 cls dd' H' s' e1 ev (sr.call ev gd) xr
    | stuck =>
      rw [eF] at p1
      exact p1
  have hl2 : (Value.ref (s.heap.objs.size + 1) :: us ++ ds).length = (q :: ps).length := by
    have e := r2.length
    rw [FG.len _ _ _ _ hsp] at e
    exact e.symm
  refine wpAny_call (make_map (f := f) I.kIn M.makes M.init (beq_iff_eq.mp M.fn) (codeAny_mono (FG.run _ X.stack _ _ ⟨Value.ref (s.heap.objs.size + 1) :: us, []⟩ (Value.ref (s.heap.objs.size + 1) :: (us ++ ds)) _ _ _ (hr.make (g.ca c) us [])
    (under_guards.trans b.gd) (I2.env0.make (g.ca c) us []) (hb _ (Value.ref (s.heap.objs.size + 1) :: us) I2.kIn hl2) r2 hsp) ?_))
  intro res s' hq
  cases res with
  | error e => exact passAt b.tk σ pins _ _ e s' I2 hq
  | ok fl =>
    cases fl with
    | ret u =>
      obtain ⟨v, H', I3, rv, ev, q3⟩ := I2.after hq
      subst ev
      exact ⟨rv, ⟨L2.V.ref (s.heap.objs.size + 1), H', I3, rfl, q3⟩⟩
    | next => exact False.elim hq
    | brk => exact False.elim hq
    | cont => exact False.elim hq
theorem ve_makeC (b : Bd X g W) (V : VMake X g c n dd F) (hg : Gl X x) (hm : X.mg x = some (.ref (g.ca c))) (ha : PA X (e :: es) (tA g B W A)) (hdb : (x == ("__debug__" : Str)) = false := by decide)
    (he : starEach (e :: es) X.env = (false, eval e X.env) :: starEach es X.env := by rfl) (hpl : (backTo pos (starEach es X.env)).any (·.1) = false := by rfl) :
    PE X (.Call (.Name x p) (e :: es) [] pos) (tE g B W (mA1 (fMakeC c n F dd) A)) := by
  have kp : PySem.W.keepIn X.K (.ref (g.ca c)) = true := by
    obtain ⟨k, f, fd, ps, q, dvs, ds, FG, hr, M, _⟩ := V.ex
    exact M.kp
  refine ⟨fun pins s σ H Q I h => ?_⟩
  refine wpAny_Call_Name_kw (ld_glob I hg hm ?_ hdb)
  obtain ⟨env, st, sr, pp⟩ := h
  refine PySem.W.callWith_K (h₀ := X.base) I.ok.mod.kin kp (thn (ha.run pos pins s σ H _ I (bindA (Q := Q) sr pp)) fun us s1 ⟨vs, H1, I1, r, st1, xs, sr1, ev1, r1, p1⟩ => ⟨I1.kIn, ?_⟩) he hpl
  unfold fMakeC at p1
  by_cases hl : xs.length = n
  · rw [if_pos hl] at p1
    cases e1 : datas xs with
    | none => rw [e1] at p1; exact p1.elim
    | some dl =>
      rw [e1] at p1
      exact run_makeC b V I1 r sr1 (r1.datas e1) (by rw [r1.length, hl]) p1
  · rw [if_neg hl] at p1
    exact p1.elim
theorem ve_makeC0 (b : Bd X g W) (V : VMake X g c 0 dd F) (hg : Gl X x) (hm : X.mg x = some (.ref (g.ca c))) (hdb : (x == ("__debug__" : Str)) = false := by decide) :
    PE X (.Call (.Name x p) [] [] pos) (tE g B W (mA1 (fMakeC c 0 F dd) maNil)) := by
  have kp : PySem.W.keepIn X.K (.ref (g.ca c)) = true := by
    obtain ⟨k, f, fd, ps, q, dvs, ds, FG, hr, M, _⟩ := V.ex
    exact M.kp
  refine ⟨fun pins s σ H Q I h => ?_⟩
  refine wpAny_Call_Name_kw (ld_glob I hg hm ?_ hdb)
  obtain ⟨env, st, sr, pp⟩ := h
  exact PySem.W.callWith_K0 I.kIn kp (run_makeC (us := []) (ws := []) (dl := []) b V I .nil sr rfl rfl pp)
end
def mSetFldC (g : Gi) (i : Nat) (f : Str) (e : ME) : MS := fun env h => (e env h).thenS env fun x h1 => match x, env[i]? with
  | .d d, some (some (.d (.ref n))) => (match h1[n]? with
    | some (.ins c fs) => if g.fld c f && decide (fs.length < 1000) then .nx env (h1.set n (.ins c (putD f d fs))) else .stuck
    | _ => .stuck)
  | _, _ => .stuck
section
variable {X : Cx} {g : Gi} {B : Bg} {W : WXv} {pos tpos : Pos} {o e : Expr} {m : ME}
theorem vs_setfldC {i : Nat} (G : GiOk g) (hK : g.K = X.K) {f : Str} (ho : PE X o (tVar i)) (he : PE X e (tE g B W m)) (hs : swapsWith e (some (.Attribute o f tpos)) pos.line X.env = pure false := by rfl) :
    PS X (.Assign [.Attribute o f tpos] e pos) (tS g B W (mSetFldC g i f m)) := by
  refine ps_imp (ps_fld ho he hs) fun N σ H ⟨env, s, sr, p⟩ => ?_
  refine (bindS sr p).mono fun v H1 ⟨s1, x, sr1, l1, r1, p1⟩ => ?_
  split at p1
  · next d n hx =>
    split at p1
    · next c fs hn =>
      split at p1
      · next hcl =>
        obtain ⟨hc, hl⟩ := Bool.and_eq_true_iff.mp hcl
        obtain ⟨w, h1, h2⟩ := sr1.slot i _ hx
        obtain ⟨a, rfl, hal⟩ := h2
        obtain ⟨a2, g1, dx, vs, h3, h4⟩ := sr1.good.cell _ _ hn
        rw [hal] at g1
        cases g1
        obtain ⟨k1, k2⟩ := G.fld c f hc
        refine ⟨_, h1, a, g.ca c, dx, vs, rfl, h3, hK ▸ (G.cls c k1).cl, hK ▸ k2, by rw [h4.length]; exact of_decide_eq_true hl, ?_⟩
        exact p1 σ _ { s1 with h := s1.h.set _ _ } rfl ⟨fun _ _ z => z, fun _ _ z => z, fun _ _ z => z⟩ (sr1.cell hn hal (fun _ z => by cases z) (fun _ z => by cases z) ⟨dx, _, upd_same, h4.put r1⟩)
      · exact p1.elim
    · exact p1.elim
  · exact p1.elim
end
def mForO (I : TblI) (T : TgF) (m : ME) (b : MS) : MS := fun env h => (m env h).thenS env fun x h1 => match x with
  | .d (.obj c fs) => (match I c with
    | some mi => (match mi [some (.d (.obj c fs))] h1 with
      | .ok (.d (.tup xs)) h2 => forL T b xs env h2
      | _ => .stuck)
    | none => .stuck)
  | _ => .stuck
section
variable {X : Cx} {g : Gi} {B : Bg} {W : WXv} {pos : Pos} {e tg : Expr} {body : List Stmt} {m : ME} {mb : MS} {T : TgF} {I : TblI}
end
end Vi
namespace Vi
open PySem L2 PyProof.Rows
abbrev ZipF (h : Heap) (z TI TO : Addr) (v : Value) (f : Bool) : Prop :=
  h.get? z = some { cls := .type "zip", dict := none, data := .fields #[v, .bool f, .bool false, .ref TI, .ref TO], slots := #[] }
def ZN (h : Heap) (z TI TO : Addr) : Prop := ∃ v f, ZipF h z TI TO v f ∧ (v = .none ∨ ∃ T : Addr, v = rawInt T)
section
variable {P : Program} {w : World} {A : Around} {E : Value → Shared → Prop} {s : Shared} {z TI TO i1 i2 : Addr} {fa fb : List Addr} {n1 n2 i : Nat} {P1 P2 : Nat → Value → Prop} {S1 S2 : Nat → Heap → Prop} {a1 a2 : Value}
end
end Vi
namespace Vi
open PySem L2 PyProof.Rows
def mCompZN (o : Bool) (own : List Nat) (T : TgF) (mt : MB) (me : ME) (a : MA) : ME := fun env h => (a env h).bind fun xs h1 => match xs with
  | [x, y] => (match seqC? h1 x, seqC? h1 y with
    | some (true, xs), some (false, ys) => compL o T mt me (zipD xs ys) [] (wipeE env own) h1
    | _, _ => .stuck)
  | _ => .stuck
section
variable {X : Cx} {g : Gi} {B : Bg} {W : WXv} {own : List Nat} {o : Bool} {T : TgF} {mt : MB} {me : ME} {ma : MA} {t : TG} {σ : L2.St} {H : Hp} {Q : VK}
end
section
variable {X : Cx} {g : Gi} {B : Bg} {W : WXv} {own : List (Str × Nat)} {o : Bool} {T : TgF} {mt : MB} {me : ME} {t : TG} {elt a b : Expr} {nm : Str} {ifs : List Expr} {scope : Scope} {pos p' rp tpos : Pos} {ma : MA}
end
end Vi
namespace Vi
open PySem L2 PyProof.Rows
section
variable {X : Cx} {g : Gi} {B : Bg} {W : WXv} {pos p : Pos} {x : Str} {a : Expr} {ma : ME} {tb : List (Str × D)}
end
end Vi
namespace Vi
open PySem L2 PyProof.Rows
def mPar (i j : Nat) (a : MA) : MS := fun env h => (a env h).thenS env fun xs h1 => match xs with
  | [.d x, .d y] => .nx ((env.set i (some (.d x))).set j (some (.d y))) h1
  | _ => .stuck
section
variable {X : Cx} {g : Gi} {B : Bg} {W : WXv} {pos : Pos}
theorem vs_par {i j : Nat} {x y : Str} {a b : Expr} {ma : MA} {px py pt : Pos} {kt k2 pt2} (hc : X.calm = true) (hN : X.N.Nodup) (hi : X.N[i]? = some x) (hj : X.N[j]? = some y) (hij : i ≠ j)
    (hx : X.env.scope.names.lookup x = some .local) (hy : X.env.scope.names.lookup y = some .local) (ha : PA X [a, b] (tA g B W ma))
    (hw : swappedStores [.Tuple [.Name x px, .Name y py] kt pt] (.Tuple [a, b] k2 pt2) X.env = pure (some [x, y]))
    (hs : swapsWithSole [.Tuple [.Name x px, .Name y py] kt pt] (.Tuple [a, b] k2 pt2) pos.line X.env = pure false := by rfl) :
    PS X (.Assign [.Tuple [.Name x px, .Name y py] kt pt] (.Tuple [a, b] k2 pt2) pos) (tS g B W (mPar i j ma)) := by
  refine ps_imp (ps_par hc hN hi hj hij hx hy ha hw hs) fun N σ H ⟨env, s, sr, p⟩ => ?_
  refine (bindSA sr p).mono fun vs H1 ⟨s1, xs, sr1, l1, r1, p1⟩ => ?_
  split at p1
  · next x y =>
    obtain ⟨v, w, rfl, rx, ry⟩ := r1.two
    exact ⟨v, w, rfl, p1 _ H1 s1 rfl (Le.refl s1) ((sr1.set rx).set ry)⟩
  · exact p1.elim
end
end Vi
namespace Vi
open PySem L2 PyProof.Rows
def asT (m : ME) : MB := fun env h => (m env h).bind fun x h1 => match x with
  | .d (.bl b) => .ok b h1
  | _ => (match tup? x with
    | some xs => .ok (!xs.isEmpty) h1
    | none => .stuck)
section
variable {X : Cx} {g : Gi} {B : Bg} {W : WXv} {a : Expr} {m : ME}
end
def fLenD (xs : List Vl) (h : Hc) : R Vl := match xs with
  | [x] => (match dvN? x h with
    | some (.k kvs) => .ok (.d (.int kvs.length)) h
    | some (.t kvs) => .ok (.d (.int kvs.length)) h
    | none => fLen [x] h)
  | _ => .stuck
section
variable {X : Cx} {g : Gi}
end
end Vi
namespace Vi
open PySem L2 PyProof.Rows
def Sta.lockK (s : Sta) (n : Nat) (o : HO) (kvs : List (Key × D)) : Sta := { s with h := s.h.set n (.frz (.lk kvs)), z := fun m => if m = n then some o else s.z m }
def Sta.openK (s : Sta) (n : Nat) (kvs : List (Key × D)) : Sta := { s with h := s.h.set n (.dK kvs), z := fun m => if m = n then none else s.z m }
section
variable {g : Gi} {B : Bg} {W : WXv} {env : Env} {s : Sta} {σ : L2.St} {H : Hp} {n : Nat} {a : Addr} {od : Obj} {kvs : List (Key × D)} {vs : List (Key × V)}
theorem good_lockK (gd : Good g s H) (hc : s.h[n]? = some (.dK kvs)) (ha : s.al n = some a) (hr : RepK g s.F s.al kvs vs) : Good g (s.lockK n (.frz od (.dK vs)) kvs) (upd H a (.frz od (.dK vs))) := by
  obtain ⟨hn, hf, u0, hu0⟩ := gd.dom n a ha
  refine ⟨fun b u h => ?_, gd.inj, fun m b h => ?_, fun m d h => ?_, ⟨fun m u h => ?_, fun m c0 h => ?_⟩⟩
  · have h : s.F b = some u := h
    have ne : b ≠ a := fun e => by rw [e, hf] at h; cases h
    rw [upd_ne ne]
    exact gd.fle b u h
  · obtain ⟨h1, h2, u, h3⟩ := gd.dom m b h
    refine ⟨by show m < (s.h.set n _).length; rw [List.length_set]; exact h1, h2, ?_⟩
    by_cases e : b = a
    · subst e
      exact ⟨_, upd_same⟩
    · exact ⟨u, by rw [upd_ne e]; exact h3⟩
  · have h : (s.h.set n (.frz (.lk kvs)))[m]? = some d := h
    by_cases e : n = m
    · subst e
      rw [List.getElem?_set_self hn] at h
      cases h
      exact ⟨a, ha, od, vs, upd_same, hr⟩
    · rw [List.getElem?_set_ne e] at h
      obtain ⟨b, h1, h2⟩ := gd.cell m d h
      have ne : b ≠ a := fun q => e (gd.inj n m a ha (by rw [← q]; exact h1))
      refine ⟨b, h1, ?_⟩
      exact CellRep.mv (s := s) (s' := s.lockK n (.frz od (.dK vs)) kvs) (H := H) (fun o h3 => by rw [upd_ne ne]; exact h3) (fun _ _ h => h) (fun _ _ h => h) h2
  · have h : (if m = n then some (HO.frz od (.dK vs)) else s.z m) = some u := h
    by_cases e : m = n
    · rw [if_pos e] at h
      cases h
      subst e
      exact ⟨a, .lk kvs, ha, upd_same, List.getElem?_set_self hn⟩
    · rw [if_neg e] at h
      obtain ⟨b, c0, h1, h2, h3⟩ := gd.zed.at_ m u h
      have ne : b ≠ a := fun q => e (gd.inj m n a (by rw [← q]; exact h1) ha)
      refine ⟨b, c0, h1, by rw [upd_ne ne]; exact h2, ?_⟩
      show (s.h.set n _)[m]? = _
      rw [List.getElem?_set_ne (fun z => e z.symm)]
      exact h3
  · have h : (s.h.set n (.frz (.lk kvs)))[m]? = some (.frz c0) := h
    show ∃ o, (if m = n then some (HO.frz od (.dK vs)) else s.z m) = some o
    by_cases e : m = n
    · exact ⟨_, if_pos e⟩
    · rw [List.getElem?_set_ne (fun z => e z.symm)] at h
      rw [if_neg e]
      exact gd.zed.of m c0 h
theorem z_none (gd : Good g s H) (hc : s.h[n]? = some (.dK kvs)) : s.z n = none := by
  cases e : s.z n with
  | none => rfl
  | some o =>
    obtain ⟨_, c, _, _, h3⟩ := gd.zed.at_ n o e
    rw [hc] at h3
    cases h3
theorem slot_upd {s' : Sta} {o : HO} (ef : s'.F = s.F) (ea : s'.al = s.al) (ha : s.al n = some a) {sl1 : Sl} {v : V} (h : SlRep g B s H sl1 v) : SlRep g B s' (upd H a o) sl1 v := by
  cases sl1 with
  | d x =>
    show Rep g s'.F s'.al x v
    rw [ef, ea]
    exact h
  | ol xs =>
    obtain ⟨b, vs, rfl, h2, h3, h4⟩ := h
    have ne : b ≠ a := fun e => h3.al n (by rw [e]; exact ha)
    exact ⟨b, vs, rfl, by rw [upd_ne ne]; exact h2, ⟨by rw [ef]; exact h3.f, by rw [ea]; exact h3.al, h3.new⟩, by rw [ef, ea]; exact h4⟩
  | oi c fs =>
    obtain ⟨b, dx, vs, rfl, h2, h3, h4, h5⟩ := h
    have ne : b ≠ a := fun e => h3.al n (by rw [e]; exact ha)
    exact ⟨b, dx, vs, rfl, by rw [upd_ne ne]; exact h2, ⟨by rw [ef]; exact h3.f, by rw [ea]; exact h3.al, h3.new⟩, by rw [ef, ea]; exact h4, h5⟩
  | xc c fs =>
    obtain ⟨h1, h2, vs, h3, h4, h5⟩ := h
    have ne : B.xd ≠ a := fun e => h4 n (by rw [e]; exact ha)
    exact ⟨h1, h2, vs, by rw [upd_ne ne]; exact h3, by rw [ea]; exact h4, by rw [ef, ea]; exact h5⟩
theorem SR.lockK (sr : SR g B env s σ H) (hc : s.h[n]? = some (.dK kvs)) (ha : s.al n = some a) (hr : RepK g s.F s.al kvs vs) : SR g B env (s.lockK n (.frz od (.dK vs)) kvs) σ (upd H a (.frz od (.dK vs))) := by
  refine ⟨good_lockK sr.good hc ha hr, ⟨sr.evo.f, sr.evo.al, fun b u h nn => ?_, by show _ ≤ (s.h.set n _).length; rw [List.length_set]; exact sr.evo.len, fun m o h => ?_⟩, sr.len, fun i sl h => ?_, sr.sep⟩
  · obtain ⟨h1, h2, h3⟩ := sr.evo.oth b u h nn
    have ne : b ≠ a := fun e => h3 n (by rw [e]; exact ha)
    exact ⟨by rw [upd_ne ne]; exact h1, h2, h3⟩
  · have h1 := sr.evo.z m o h
    show (if m = n then some _ else s.z m) = some o
    have e : m ≠ n := fun e => by
      rw [e, z_none sr.good hc] at h1
      cases h1
    rw [if_neg e]
    exact h1
  · obtain ⟨v, h1, h2⟩ := sr.slot i sl h
    exact ⟨v, h1, slot_upd (s := s) (s' := s.lockK n (.frz od (.dK vs)) kvs) rfl rfl ha h2⟩
theorem good_openK (gd : Good g s H) (hz : s.z n = some (.frz od (.dK vs))) (ha : s.al n = some a) (hr : RepK g s.F s.al kvs vs) : Good g (s.openK n kvs) (upd H a (.dK vs)) := by
  obtain ⟨hn, hf, u0, hu0⟩ := gd.dom n a ha
  refine ⟨fun b u h => ?_, gd.inj, fun m b h => ?_, fun m d h => ?_, ⟨fun m u h => ?_, fun m c0 h => ?_⟩⟩
  · have h : s.F b = some u := h
    have ne : b ≠ a := fun e => by rw [e, hf] at h; cases h
    rw [upd_ne ne]
    exact gd.fle b u h
  · obtain ⟨h1, h2, u, h3⟩ := gd.dom m b h
    refine ⟨by show m < (s.h.set n _).length; rw [List.length_set]; exact h1, h2, ?_⟩
    by_cases e : b = a
    · subst e
      exact ⟨_, upd_same⟩
    · exact ⟨u, by rw [upd_ne e]; exact h3⟩
  · have h : (s.h.set n (.dK kvs))[m]? = some d := h
    by_cases e : n = m
    · subst e
      rw [List.getElem?_set_self hn] at h
      cases h
      exact ⟨a, ha, vs, upd_same, hr⟩
    · rw [List.getElem?_set_ne e] at h
      obtain ⟨b, h1, h2⟩ := gd.cell m d h
      have ne : b ≠ a := fun q => e (gd.inj n m a ha (by rw [← q]; exact h1))
      refine ⟨b, h1, ?_⟩
      exact CellRep.mv (s := s) (s' := s.openK n kvs) (H := H) (fun o h3 => by rw [upd_ne ne]; exact h3) (fun _ _ h => h) (fun _ _ h => h) h2
  · have h : (if m = n then none else s.z m) = some u := h
    by_cases e : m = n
    · rw [if_pos e] at h
      cases h
    · rw [if_neg e] at h
      obtain ⟨b, c0, h1, h2, h3⟩ := gd.zed.at_ m u h
      have ne : b ≠ a := fun q => e (gd.inj m n a (by rw [← q]; exact h1) ha)
      refine ⟨b, c0, h1, by rw [upd_ne ne]; exact h2, ?_⟩
      show (s.h.set n _)[m]? = _
      rw [List.getElem?_set_ne (fun z => e z.symm)]
      exact h3
  · have h : (s.h.set n (.dK kvs))[m]? = some (.frz c0) := h
    show ∃ o, (if m = n then none else s.z m) = some o
    by_cases e : m = n
    · subst e
      rw [List.getElem?_set_self hn] at h
      cases h
    · rw [List.getElem?_set_ne (fun z => e z.symm)] at h
      rw [if_neg e]
      exact gd.zed.of m c0 h
theorem evo_openK {s0 : Sta} {H0 : Hp} (e : Evo s0 H0 s H) (h0 : s0.z n = none) (ha : s.al n = some a) : Evo s0 H0 (s.openK n kvs) (upd H a (.dK vs)) := by
  refine ⟨e.f, e.al, fun b u h nn => ?_, by show _ ≤ (s.h.set n _).length; rw [List.length_set]; exact e.len, fun m o h => ?_⟩
  · obtain ⟨h1, h2, h3⟩ := e.oth b u h nn
    have ne : b ≠ a := fun e => h3 n (by rw [e]; exact ha)
    exact ⟨by rw [upd_ne ne]; exact h1, h2, h3⟩
  · show (if m = n then none else s.z m) = some o
    have ne : m ≠ n := fun q => by
      rw [q, h0] at h
      cases h
    rw [if_neg ne]
    exact e.z m o h
theorem SR.openK (sr : SR g B env s σ H) (hz : s.z n = some (.frz od (.dK vs))) (h0 : B.s.z n = none) (ha : s.al n = some a) (hr : RepK g s.F s.al kvs vs) : SR g B env (s.openK n kvs) σ (upd H a (.dK vs)) := by
  refine ⟨good_openK sr.good hz ha hr, evo_openK sr.evo h0 ha, sr.len, fun i sl h => ?_, sr.sep⟩
  obtain ⟨v, h1, h2⟩ := sr.slot i sl h
  exact ⟨v, h1, slot_upd (s := s) (s' := s.openK n kvs) rfl rfl ha h2⟩
end
def RS.mapK (f : Hc → Hc) : RS → RS
  | .nx e h => .nx e (f h)
  | .brk e h => .brk e (f h)
  | .cnt e h => .cnt e (f h)
  | _ => .stuck
def fForK (n : Nat) (kvs : List (Key × D)) (T : TgF) (b : MS) (env : Env) (x : Vl) (h2 : Hc) : RS := match x with
  | .d (.ref n') => if n' = n then forL T b (kvs.map fun p => dKey p.1) env h2 else .stuck
  | _ => .stuck
def mForK (T : TgF) (m : ME) (b : MS) : MS := fun env h => match m env h with
  | .ok (.d (.ref n)) _ => (match h[n]? with
    | some (.dK kvs) => ((m env (h.set n (.frz (.lk kvs)))).thenS env fun x h2 => fForK n kvs T b env x h2).mapK fun h3 => h3.set n (.dK kvs)
    | _ => .stuck)
  | _ => .stuck
section
variable {X : Cx} {g : Gi} {B : Bg} {W : WXv} {pos : Pos} {e tg : Expr} {body : List Stmt} {m : ME} {mb : MS} {T : TgF}
abbrev openN (N : Ends) (a : Addr) (od : Obj) (vs : List (Key × V)) : Ends := ⟨fun σ' H' => H' a = some (.frz od (.dK vs)) ∧ N.nx σ' (upd H' a (.dK vs)), fun v H' => H' a = some (.frz od (.dK vs)) ∧ N.rt v (upd H' a (.dK vs)), fun σ' H' => H' a = some (.frz od (.dK vs)) ∧ N.bk σ' (upd H' a (.dK vs)), fun σ' H' => H' a = some (.frz od (.dK vs)) ∧ N.ct σ' (upd H' a (.dK vs))⟩
end
end Vi
namespace Vi
open PySem L2 PyProof.Rows
def fLstC (xs : List Vl) (h : Hc) : R Vl := match datas xs with
  | some ds => if ds.length ≤ 100000 then .ok (.d (.ref h.length)) (h ++ [.lst ds]) else .stuck
  | none => .stuck
section
variable {X : Cx} {g : Gi} {B : Bg} {W : WXv} {pos : Pos}
theorem ve_lstC {es : List Expr} {a : MA} (h : PA X es (tA g B W a)) : PE X (.List es pos) (tE g B W (mA1 fLstC a)) := by
  refine pe_imp (pe_lst h) fun σ H Q ⟨env, s, sr, p⟩ => ?_
  refine (bindA (Q := Q) sr p).mono fun vs H1 ⟨s2, ys, sr2, ev2, vr2, p2⟩ => ?_
  unfold fLstC at p2
  cases e2 : datas ys with
  | none => rw [e2] at p2; exact p2.elim
  | some ds =>
    rw [e2] at p2
    by_cases hl : ds.length ≤ 100000
    · simp only [if_pos hl] at p2
      have rr := vr2.datas e2
      exact ⟨by rw [rr.length]; exact size_of hl, fun p hp => PostE.newC sr2 p2 hp ⟨vs, upd_same, rr⟩ fun _ z => by cases z⟩
    · simp only [if_neg hl] at p2
      exact p2.elim
end
def Sta.hold (s : Sta) (n : Nat) (o : HO) (c : Cell) : Sta := { s with h := s.h.set n (.frz c), z := fun m => if m = n then some o else s.z m }
def Sta.loose (s : Sta) (n : Nat) (c : Cell) : Sta := { s with h := s.h.set n c, z := fun m => if m = n then none else s.z m }
section
variable {g : Gi} {B : Bg} {W : WXv} {env : Env} {s : Sta} {σ : L2.St} {H : Hp} {n : Nat} {a : Addr} {o : HO} {c : Cell}
theorem slot_keep {s' : Sta} (ef : s'.F = s.F) (ea : s'.al = s.al) {sl1 : Sl} {v : V} (h : SlRep g B s H sl1 v) : SlRep g B s' H sl1 v := by
  cases sl1 with
  | d x =>
    show Rep g s'.F s'.al x v
    rw [ef, ea]
    exact h
  | ol xs =>
    obtain ⟨b, vs, rfl, h2, h3, h4⟩ := h
    exact ⟨b, vs, rfl, h2, ⟨by rw [ef]; exact h3.f, by rw [ea]; exact h3.al, h3.new⟩, by rw [ef, ea]; exact h4⟩
  | oi c fs =>
    obtain ⟨b, dx, vs, rfl, h2, h3, h4, h5⟩ := h
    exact ⟨b, dx, vs, rfl, h2, ⟨by rw [ef]; exact h3.f, by rw [ea]; exact h3.al, h3.new⟩, by rw [ef, ea]; exact h4, h5⟩
  | xc c fs =>
    obtain ⟨h1, h2, vs, h3, h4, h5⟩ := h
    exact ⟨h1, h2, vs, h3, by rw [ea]; exact h4, by rw [ef, ea]; exact h5⟩
theorem good_hold (gd : Good g s H) (hc : s.h[n]? = some c) (ha : s.al n = some a) (hH : H a = some o) : Good g (s.hold n o c) H := by
  obtain ⟨hn, hf, u0, hu0⟩ := gd.dom n a ha
  refine ⟨gd.fle, gd.inj, fun m b h => ?_, fun m d h => ?_, ⟨fun m u h => ?_, fun m c0 h => ?_⟩⟩
  · obtain ⟨h1, h2, h3⟩ := gd.dom m b h
    exact ⟨by show m < (s.h.set n _).length; rw [List.length_set]; exact h1, h2, h3⟩
  · have h : (s.h.set n (.frz c))[m]? = some d := h
    by_cases e : n = m
    · subst e
      rw [List.getElem?_set_self hn] at h
      cases h
      obtain ⟨b, h1, h2⟩ := gd.cell n c hc
      exact ⟨b, h1, CellRep.mv (s := s) (s' := s.hold n o c) (H := H) (fun _ z => z) (fun _ _ z => z) (fun _ _ z => z) h2⟩
    · rw [List.getElem?_set_ne e] at h
      obtain ⟨b, h1, h2⟩ := gd.cell m d h
      exact ⟨b, h1, CellRep.mv (s := s) (s' := s.hold n o c) (H := H) (fun _ z => z) (fun _ _ z => z) (fun _ _ z => z) h2⟩
  · have h : (if m = n then some o else s.z m) = some u := h
    by_cases e : m = n
    · rw [if_pos e] at h
      cases h
      subst e
      exact ⟨a, c, ha, hH, List.getElem?_set_self hn⟩
    · rw [if_neg e] at h
      obtain ⟨b, c0, h1, h2, h3⟩ := gd.zed.at_ m u h
      refine ⟨b, c0, h1, h2, ?_⟩
      show (s.h.set n _)[m]? = _
      rw [List.getElem?_set_ne (fun z => e z.symm)]
      exact h3
  · have h : (s.h.set n (.frz c))[m]? = some (.frz c0) := h
    show ∃ o', (if m = n then some o else s.z m) = some o'
    by_cases e : m = n
    · exact ⟨_, if_pos e⟩
    · rw [List.getElem?_set_ne (fun z => e z.symm)] at h
      rw [if_neg e]
      exact gd.zed.of m c0 h
theorem z_none' (gd : Good g s H) (hc : s.h[n]? = some c) (nf : c.isF = false) : s.z n = none := by
  cases e : s.z n with
  | none => rfl
  | some o =>
    obtain ⟨_, c0, _, _, h3⟩ := gd.zed.at_ n o e
    rw [hc] at h3
    rw [Option.some.inj h3] at nf
    cases nf
theorem SR.hold (sr : SR g B env s σ H) (hc : s.h[n]? = some c) (nf : c.isF = false) (ha : s.al n = some a) (hH : H a = some o) : SR g B env (s.hold n o c) σ H := by
  refine ⟨good_hold sr.good hc ha hH, ⟨sr.evo.f, sr.evo.al, sr.evo.oth, by show _ ≤ (s.h.set n _).length; rw [List.length_set]; exact sr.evo.len, fun m o' h => ?_⟩, sr.len, fun i sl h => ?_, sr.sep⟩
  · have h1 := sr.evo.z m o' h
    show (if m = n then some o else s.z m) = some o'
    have e : m ≠ n := fun e => by
      rw [e, z_none' sr.good hc nf] at h1
      cases h1
    rw [if_neg e]
    exact h1
  · obtain ⟨v, h1, h2⟩ := sr.slot i sl h
    exact ⟨v, h1, slot_keep (s := s) (s' := s.hold n o c) rfl rfl h2⟩
theorem good_loose (gd : Good g s H) (nf : c.isF = false) (ha : s.al n = some a) (hr : CellRep g s H a c) : Good g (s.loose n c) H := by
  obtain ⟨hn, hf, u0, hu0⟩ := gd.dom n a ha
  refine ⟨gd.fle, gd.inj, fun m b h => ?_, fun m d h => ?_, ⟨fun m u h => ?_, fun m c0 h => ?_⟩⟩
  · obtain ⟨h1, h2, h3⟩ := gd.dom m b h
    exact ⟨by show m < (s.h.set n _).length; rw [List.length_set]; exact h1, h2, h3⟩
  · have h : (s.h.set n c)[m]? = some d := h
    by_cases e : n = m
    · subst e
      rw [List.getElem?_set_self hn] at h
      cases h
      exact ⟨a, ha, CellRep.mv (s := s) (s' := s.loose n c) (H := H) (fun _ z => z) (fun _ _ z => z) (fun _ _ z => z) hr⟩
    · rw [List.getElem?_set_ne e] at h
      obtain ⟨b, h1, h2⟩ := gd.cell m d h
      exact ⟨b, h1, CellRep.mv (s := s) (s' := s.loose n c) (H := H) (fun _ z => z) (fun _ _ z => z) (fun _ _ z => z) h2⟩
  · have h : (if m = n then none else s.z m) = some u := h
    by_cases e : m = n
    · rw [if_pos e] at h
      cases h
    · rw [if_neg e] at h
      obtain ⟨b, c0, h1, h2, h3⟩ := gd.zed.at_ m u h
      refine ⟨b, c0, h1, h2, ?_⟩
      show (s.h.set n _)[m]? = _
      rw [List.getElem?_set_ne (fun z => e z.symm)]
      exact h3
  · have h : (s.h.set n c)[m]? = some (.frz c0) := h
    show ∃ o', (if m = n then none else s.z m) = some o'
    by_cases e : m = n
    · subst e
      rw [List.getElem?_set_self hn] at h
      rw [Option.some.inj h] at nf
      cases nf
    · rw [List.getElem?_set_ne (fun z => e z.symm)] at h
      rw [if_neg e]
      exact gd.zed.of m c0 h
theorem SR.loose (sr : SR g B env s σ H) (h0 : B.s.z n = none) (nf : c.isF = false) (ha : s.al n = some a) (hr : CellRep g s H a c) : SR g B env (s.loose n c) σ H := by
  refine ⟨good_loose sr.good nf ha hr, ⟨sr.evo.f, sr.evo.al, sr.evo.oth, by show _ ≤ (s.h.set n _).length; rw [List.length_set]; exact sr.evo.len, fun m o' h => ?_⟩, sr.len, fun i sl h => ?_, sr.sep⟩
  · show (if m = n then none else s.z m) = some o'
    have e : m ≠ n := fun e => by
      rw [e, h0] at h
      cases h
    rw [if_neg e]
    exact sr.evo.z m o' h
  · obtain ⟨v, h1, h2⟩ := sr.slot i sl h
    exact ⟨v, h1, slot_keep (s := s) (s' := s.loose n c) rfl rfl h2⟩
end
def mHold (m : ME) (st : MS) : MS := fun env h => match m env h with
  | .ok (.d (.ref n)) _ => (match h[n]? with
    | some c => if c.isF then st env h else (st env (h.set n (.frz c))).mapK fun h3 => h3.set n c
    | none => .stuck)
  | _ => st env h
section
variable {X : Cx} {g : Gi} {B : Bg} {W : WXv} {st : Stmt} {m : ME} {ms : MS}
end
def mForA (T : TgF) (m : ME) (b : MS) : MS := fun env h => match m env h with
  | .ok (.d (.ref n)) _ => (match h[n]? with
    | some (.dK _) => mForK T m b env h
    | _ => mHold m (mFor T m b) env h)
  | _ => mHold m (mFor T m b) env h
section
variable {X : Cx} {g : Gi} {B : Bg} {W : WXv} {pos : Pos} {e tg : Expr} {body : List Stmt} {m : ME} {mb : MS} {T : TgF}
end
end Vi
namespace Vi
open PySem L2 PyProof.Rows
def mPutA (kc : List D → Bool) (me mo mk : ME) : MS := fun env h => match mo env h with
  | .ok (.d (.ref n)) _ => (match h[n]? with
    | some (.lst _) => mSetIx me mo mk env h
    | _ => mDPut kc me mo mk env h)
  | _ => mDPut kc me mo mk env h
section
variable {X : Cx} {g : Gi} {B : Bg} {W : WXv} {st : Stmt} {kc : List D → Bool} {me mo mk : ME}
end
end Vi
namespace Vi
open PySem L2 PyProof.Rows
def compLC (o : Bool) (T : TgF) (mt : MB) (me : ME) : List D → List D → Env → Hc → R Vl
  | [], acc, _, h => .ok (.d (.ref h.length)) (h ++ [.lst acc])
  | x :: r, acc, env, h => match T x env with
    | none => .stuck
    | some env1 => (match mt env1 h with
      | .ok b h1 => if b then (match me env1 h1 with
        | .ok (.d y) h2 => if acc.length < 16000000 then compLC o T mt me r (acc ++ [y]) env h2 else .stuck
        | _ => .stuck) else compLC o T mt me r acc env h1
      | _ => .stuck)
def CInvC (g : Gi) (B : Bg) (W : WXv) (env : Env) (s1 : Sta) (σ : L2.St) (H1 : Hp) (own : List Nat) (o : Bool) (T : TgF) (mt : MB) (me : ME) (Q : VK) (Dn : Addr) (rest : List D) (H : Hp) : Prop :=
  ∃ (s' : Sta) (acc : List D) (vs : List L2.V), Good g s' H ∧ Evo s1 H1 s' H ∧ H Dn = some (.lst vs) ∧ s'.F Dn = none ∧ (∀ n, s'.al n ≠ some Dn) ∧ Reps g s'.F s'.al acc vs ∧ PostE g B W env s1 σ H1 (compLC o T mt me rest acc (wipeE env own) s'.h) Q
section
variable {g : Gi} {B : Bg} {W : WXv} {env : Env} {s1 : Sta} {σ : L2.St} {H1 H : Hp} {own : List Nat} {o : Bool} {T : TgF} {mt : MB} {me : ME} {Q : VK} {Dn : Addr}
end
def mCompC (o : Bool) (own : List Nat) (T : TgF) (mt : MB) (me src : ME) : ME := fun env h => (src env h).bind fun x h1 => match seqC? h1 x with
  | some (_, xs) => compLC o T mt me xs [] (wipeE env own) h1
  | none => .stuck
section
variable {X : Cx} {g : Gi} {B : Bg} {W : WXv} {own : List Nat} {o : Bool} {T : TgF} {mt : MB} {me m : ME} {t : TG} {σ : L2.St} {H : Hp} {Q : VK}
end
section
variable {X : Cx} {g : Gi} {B : Bg} {W : WXv} {own : List (Str × Nat)} {o : Bool} {T : TgF} {mt : MB} {me m : ME} {t : TG} {elt tg iter : Expr} {ifs : List Expr} {scope : Scope} {pos p' rp : Pos} {ma : MA}
end
end Vi
namespace Vi
open PySem PySem.Spec PySem.Calls L2 PyProof.Rows
section
variable {prog : Program} {w : World} {A : Around} {E : Value → Shared → Prop} {s : Shared} {d : Addr} {vs : List (Key × Value)} {ep : Nat}
end
def rTupD : List V → Hp → VK → Prop := fun xs H Q => ∃ (a : Addr) (kvs : List (Key × V)), xs = [.ref a] ∧ Rd H a (.dK kvs) ∧ ∀ p, H p = none → Q (.ref p) (upd H p (.tup (kvs.map fun kv => kV kv.1)))
section
variable {X : Cx} {g : Gi}
def fTupleK (xs : List Vl) (h : Hc) : R Vl := match xs with
  | [x] => (match dv? x h with
    | some (.k kvs) => .ok (.d (.tup (kvs.map fun p => dKey p.1))) h
    | _ => fTuple [x] h)
  | _ => .stuck
end
end Vi
namespace Vi
open PySem L2 PyProof.Rows
def fInsC (neg : Bool) (T : Tbl) (F0 : Vl → Vl → Hc → R Vl) (x y : Vl) (h : Hc) : R Vl := match y with
  | .d (.ref n) => (match h[n]? with
    | some (.ins c fs) => (match T c, x with
      | some F, .d xd => (F [.ref n, xd] h).bind fun d h' => match d with
        | .bl b => .ok (.d (nB neg b)) h'
        | _ => .stuck
      | _, _ => .stuck)
    | _ => F0 x y h)
  | _ => F0 x y h
section
variable {X : Cx} {g : Gi} {B : Bg} {W : WXv} {env : Env} {st : Sta} {σ : L2.St} {H : Hp} {s : Shared} {pins : List (Addr × Obj)} {c n : Nat}
end
section
variable {X : Cx} {g : Gi} {W : WXv}
end
end Vi
namespace Vi
open PySem L2 PyProof.Rows
section
variable {g : Gi} {B : Bg} {W : WXv} {env : Env} {s : Sta} {σ : L2.St} {H : Hp} {n : Nat} {a : Addr} {od : Obj} {kvs : List (Key × D)} {vs : List (Key × V)}
end
def mLockE (m me : ME) : ME := fun env h => match m env h with
  | .ok (.d (.ref n)) _ => (match h[n]? with
    | some (.dK kvs) => (match me env (h.set n (.frz (.lk kvs))) with
      | .ok x h2 => .ok x (h2.set n (.dK kvs))
      | _ => .stuck)
    | _ => .stuck)
  | _ => .stuck
section
variable {X : Cx} {g : Gi} {B : Bg} {W : WXv} {e : Expr} {m me : ME}
end
end Vi
namespace Vi
open PySem L2 PyProof.Rows
def elK (p : Key × D) : D := dKey p.1
def elV (p : Key × D) : D := p.2
def elI (p : Key × D) : D := .tup [dKey p.1, p.2]
def cmpK (el : Key × D → D) (o : Bool) (own : List Nat) (T : TgF) (mt : MB) (me : ME) (env : Env) (x : Vl) (h1 : Hc) : R Vl := match x with
  | .d (.ref n) => (match h1[n]? with
    | some (.frz (.lk kvs)) => compL o T mt me (kvs.map el) [] (wipeE env own) h1
    | _ => .stuck)
  | _ => .stuck
def mCompK (el : Key × D → D) (o : Bool) (own : List Nat) (T : TgF) (mt : MB) (me m : ME) : ME := fun env h => (m env h).bind fun x h1 => cmpK el o own T mt me env x h1
section
variable {X : Cx} {g : Gi} {B : Bg} {W : WXv} {own : List Nat} {o : Bool} {T : TgF} {mt : MB} {me m : ME} {t : TG} {σ : L2.St} {H : Hp} {Q : VK} {el : Key × D → D}
end
section
variable {X : Cx} {g : Gi} {B : Bg} {W : WXv} {own : List (Str × Nat)} {T : TgF} {mt : MB} {me m : ME} {t : TG} {elt tg e : Expr} {ifs : List Expr} {scope : Scope} {pos apos cpos tpos : Pos} {elts : List Expr} {kk : Nat}
end
end Vi
namespace Vi
open PySem L2 PyProof.Rows
section
variable {X : Cx}
def rCountD (K : PySem.W.Frag) : V → List V → Hp → VK → Prop := fun x xs H Q => ∃ (a : Addr) (y : V) (d : PyData) (ds : List PyData), x = V.ref a ∧ xs = [y] ∧ Dp K H (V.ref a) (.list ds) ∧ Dp K H y d ∧
  SeqAt.shaped (.list ds) = true ∧ SeqAt.shaped d = true ∧ Q (.int ((ds.countP fun z => PyData.eqv z d : Nat) : Int)) H
end
def lqA (f : List D → D → Option Int) (ds : List D) (ys : List Vl) (h2 : Hc) : R Vl := match ys with
  | [y] => (match y.dat? with
    | some d => if shp (.lst ds) && shp d then (match f ds d with
      | some i => .ok (.d (.int i)) h2
      | none => .stuck) else .stuck
    | none => .stuck)
  | _ => .stuck
def lqK (f : List D → D → Option Int) (ma : MA) (env : Env) (x : Vl) (h1 : Hc) : R Vl := match x.dat? with
  | some (.lst ds) => (ma env h1).bind (lqA f ds)
  | _ => .stuck
def mLQ (f : List D → D → Option Int) (mo : ME) (ma : MA) : ME := fun env h => (mo env h).bind fun x h1 => lqK f ma env x h1
section
variable {X : Cx} {g : Gi} {B : Bg} {W : WXv} {apos cpos : Pos} {o e : Expr} {mo : ME} {ma : MA} {name : Str} {id : String} {f : List D → D → Option Int} {r : V → List V → Hp → VK → Prop}
end
def lqIndex (ds : List D) (d : D) : Option Int := (ds.findIdx? fun z => eqD z d).map fun j : Nat => (j : Int)
def lqCount (ds : List D) (d : D) : Option Int := some ((ds.countP fun z => eqD z d : Nat) : Int)
section
variable {X : Cx} {g : Gi} {B : Bg} {W : WXv} {apos cpos : Pos} {o e : Expr} {mo : ME} {ma : MA}
end
end Vi
namespace Vi
open PySem L2 PyProof.Rows
def unN : RS → RS
  | .nx env h => if noX env then .nx env h else .stuck
  | .brk env h => if noX env then .brk env h else .stuck
  | .cnt env h => if noX env then .cnt env h else .stuck
  | .ret d h => .ret d h
  | .exc _ _ _ => .stuck
  | .stuck => .stuck
def mTryN (cat : Nat → Option Bool) (mb ms : MS) : MS := fun env h => match mb env h with
  | .exc env' (.obj c fs) h' => (match cat c with
    | some true => if noX env' then unN (ms env' h') else .stuck
    | some false => .exc env' (.obj c fs) h'
    | none => .stuck)
  | .exc _ _ _ => .stuck
  | r => r
section
variable {X : Cx} {g : Gi} {B : Bg} {W : WXv} {x : Str} {body suite : List Stmt} {b₀ : Stmt} {np pos pos' : Pos} {mb ms : MS} {cat : Nat → Option Bool}
end
end Vi
namespace Vi
open PySem L2 PyProof.Rows
section
variable {X : Cx}
def rRemD (K : PySem.W.Frag) : V → List V → Hp → VK → Prop := fun x xs H Q => ∃ (a : Addr) (y : V) (d : PyData) (ds : List PyData) (ws : List V) (j : Nat) (z : PyData), x = V.ref a ∧ xs = [y] ∧ H a = some (.lst ws) ∧ DpAll K H ws ds ∧ Dp K H y d ∧
  SeqAt.shaped (.list ds) = true ∧ SeqAt.shaped d = true ∧ ds[j]? = some z ∧ PyData.eqv z d = true ∧ (∀ (m : Nat) (z' : PyData), m < j → ds[m]? = some z' → PyData.eqv z' d = false) ∧ Q .non (upd H a (.lst (ws.eraseIdx j)))
end
def lmRemove : LM := fun xs ds => match ds with
  | [.str z] => (match txts? xs with
    | some zs => if shp (.lst xs) && shp (.str z) && decide (z ∈ zs) then some ((zs.eraseIdx (zs.idxOf z)).map D.str, .non) else none
    | none => none)
  | _ => none
theorem txts_map : ∀ {xs : List D} {zs : List Str}, txts? xs = some zs → xs = zs.map D.str
  | [], zs, e => by
    cases e
    rfl
  | d :: xs, zs, e => by
    cases d with
    | str i =>
      obtain ⟨js, e1, rfl⟩ := Option.map_eq_some_iff.mp (show (txts? xs).map (i :: ·) = some zs from e)
      rw [txts_map e1]
      rfl
    | _ => cases e
end Vi
namespace Vi
open PySem PySem.Spec L2 PyProof.Rows
abbrev zoT (h : Heap) (i1 : Addr) (o2 : Obj) : Heap := (h.push o2).push { cls := .type "tuple", data := .seq #[.ref i1, .ref h.objs.size] }
abbrev zoO (h : Heap) (i1 : Addr) (o2 : Obj) : Heap := (zoT h i1 o2).push { cls := .type "tuple", data := .seq #[.none, .none] }
abbrev zoZ (h : Heap) (i1 : Addr) (o2 : Obj) : Heap := (zoO h i1 o2).push { cls := .type "zip", data := .fields #[.none, .bool false, .bool false, .ref (h.push o2).objs.size, .ref (zoT h i1 o2).objs.size] }
abbrev itO (b : Addr) : Obj := { cls := .type "tuple_iterator", data := .fields #[.ref b, .int 0 0] }
def iZipO (K : PySem.W.Frag) (g : Gi) (B : Bg) (W : WXv) (T : TblI) (ma : MA) : L2.TI := fun σ H R => tA g B W ma σ H fun vs H1 => ∃ (env : Env) (st : Sta) (c : Nat) (m : ME) (fs : List (Str × D)) (xs : List D) (h1 : Hc) (v : L2.V) (b : Addr) (ys : List L2.V), vs = [v, .ref b] ∧ SR g B env st σ H1 ∧ VlRep g B env σ st H1 (.d (.obj c fs)) v ∧ T c = some m ∧ m [some (.d (.obj c fs))] st.h = .ok (.d (.tup xs)) h1 ∧ SqT g.K st.F b ys ∧
  ∀ (l : Addr) (zs : List L2.V) (H' : Hp) (st' : Sta), st'.h = h1 → Evo st H1 st' H' → SR g B env st' σ H' → SqT g.K st'.F l zs → Reps g st'.F st'.al xs zs → R (RZ.ItzT K l b) H'
end Vi
namespace Vi
open PySem PySem.Spec L2 PyProof.Rows
section
variable {g : Gi} {B : Bg} {W : WXv} {env : Env} {s1 : Sta} {σ : L2.St} {H1 H : Hp} {own : List Nat} {T : TgF} {mt : MB} {mk mv : ME} {Q : VK} {Dn : Addr}
end
def mCompDZO (own : List Nat) (I : TblI) (T : TgF) (mt : MB) (mk mv : ME) (a : MA) : ME := fun env h => (a env h).bind fun xs h1 => match xs with
  | [x, y] => (match seqC? h1 y with
    | some (false, ys) => itemsO I x h1 fun xs h2 => compD T mt mk mv (zipD xs ys) [] (wipeE env own) h2
    | _ => .stuck)
  | _ => .stuck
section
variable {X : Cx} {g : Gi} {B : Bg} {W : WXv} {own : List Nat} {I : TblI} {T : TgF} {mt : MB} {mk mv : ME} {ma : MA} {t : TG} {σ : L2.St} {H : Hp} {Q : VK}
end
section
variable {X : Cx} {g : Gi} {B : Bg} {W : WXv} {I : TblI} {T : TgF} {mt : MB} {mk mv : ME} {ma : MA} {t : TG} {kx vx a b : Expr} {ifs : List Expr} {scope : Scope} {own : List (Str × Nat)} {pos p' rp tpos : Pos} {elts : List Expr} {kk : Nat}
end
end Vi
namespace Vi
open PySem L2 PyProof.Rows
section
variable {X : Cx} {g : Gi} {B : Bg} {W : WXv} {pos p apos : Pos} {e o : Expr} {es : List Expr} {A : MA} {dd : List D} {n c : Nat} {x m : Str}
def mMakeLC (i c n : Nat) (F : FnI) (dd : List D) (a : MA) : ME := fun env h => match env[i]? with
  | some (some (.d (.cls c'))) => if c' = c then (a env h).bind (fMakeC c n F dd) else .stuck
  | _ => .stuck
end
end Vi
namespace Vi
open PySem L2 PyProof.Rows
def fEqC (g : Gi) (T : Tbl) (nf : Nat → Ty → Bool) (F0 : Vl → Vl → Hc → R Vl) (x y : Vl) (h : Hc) : R Vl := match x with
  | .d (.ref n) => (match h[n]? with
    | some (.ins c fs) => (match T c, y with
      | some F, .d yd => (match (Vl.d yd).ty g h with
        | some t => if nf c t then (F [.ref n, yd] h).bind fun d h' => .ok (.d d) h' else .stuck
        | none => .stuck)
      | _, _ => .stuck)
    | _ => F0 x y h)
  | _ => F0 x y h
section
variable {X : Cx} {g : Gi} {W : WXv}
end
end Vi
namespace Vi
open PySem L2 PyProof.Rows
section
variable {X : Cx} {g : Gi} {B : Bg} {W : WXv} {own : List (Str × Nat)} {o : Bool} {T : TgF} {mt : MB} {me m : ME} {t : TG} {elt tg iter : Expr} {ifs : List Expr} {scope : Scope} {pos p' rp : Pos} {ma : MA}
end
end Vi
namespace Vi
open PySem L2 PyProof.Rows
section
variable {X : Cx} {g : Gi} {B : Bg} {W : WXv} {own : List (Str × Nat)} {o : Bool} {T : TgF} {mt : MB} {me m : ME} {t : TG} {elt tg iter : Expr} {ifs : List Expr} {scope : Scope} {pos p' rp : Pos} {ma : MA}
end
end Vi
namespace Vi
open PySem L2 PyProof.Rows
def fMulL (x y : Vl) (h : Hc) : R Vl := match x, y with
  | .d (.lst xs), .d (.int k) => if 0 ≤ k ∧ k ≤ 1000 ∧ xs.length ≤ 1000 then .ok (.d (.lst (List.replicate k.toNat xs).flatten)) h else .stuck
  | x, y => fMul x y h
end Vi
namespace Vi
open PySem PySem.Spec L2 PyProof.Rows
abbrev stp (t : SetTable) (H : Int) (c : Nat) : SetTable.Probe := nth t.mask (t.probeStart H) c
section
variable {t : SetTable} {hs : List Int} {H : Int} {K c : Nat} {hashAt : Nat → Int}
end
abbrev tKey (P : Program) (w : World) (h : Heap) (k : List PySem.Str) (a : Addr) : Prop := IsTupleKey (strKind P w) h k a
abbrev tHash (P : Program) (w : World) (k : List PySem.Str) : Int := tupleKeyHash (strKind P w) k
section
variable {P : Program} {w : World} {A : Around} {E : Value → Shared → Prop} {s : Shared}
end
end Vi
namespace Vi
open PySem PySem.Spec L2 PyProof.Rows
abbrev tRow (P : Program) (w : World) (p : Addr × List PySem.Str) : Int × Value := (tHash P w p.2, .ref p.1)
structure SetP (P : Program) (w : World) (h : Heap) (a : Addr) (L : List (Addr × List PySem.Str)) (es : Array (Int × Value)) (ep : Nat) (t : SetTable) : Prop where
  ob : ∃ o, h.get? a = some o ∧ o.ExactSet ∧ o.data = .set es ep t
  rows : es.toList = L.map (tRow P w)
  tab : TabOk t (L.map fun p => tHash P w p.2)
  nd : (L.map (·.2)).Nodup
  key : ∀ p ∈ L, tKey P w h p.2 p.1
  led : w.params.followText "set-order" = true ∨ t.led = true
  room : L.length * 5 < t.mask * 3
  few : L.length < 64
section
variable {P : Program} {w : World} {A : Around} {E : Value → Shared → Prop} {s : Shared} {a : Addr} {L : List (Addr × List PySem.Str)} {es : Array (Int × Value)} {ep : Nat} {t : SetTable}
theorem rows_sz (e : es.toList = L.map (tRow P w)) : es.size = L.length := by
  rw [← Array.length_toList, e, List.length_map]
theorem fits_of (h1 : t.place.size = es.size) (h2 : t.dummies = #[]) (h3 : es.size ≤ t.mask) : t.fits es.size = true := by
  unfold SetTable.fits SetTable.fill
  rw [h2, Bool.and_eq_true, beq_iff_eq, decide_eq_true_eq]
  show t.place.size = es.size ∧ t.place.size + 0 ≤ t.mask
  omega
theorem SetP.fits (R : SetP P w s.heap a L es ep t) : t.fits es.size = true := by
  have h1 := R.tab.sz
  rw [List.length_map] at h1
  have h2 := rows_sz R.rows
  have h3 := R.room
  exact fits_of (by omega) R.tab.dm (by omega)
theorem SetP.row (R : SetP P w s.heap a L es ep t) {i : Nat} {p : Addr × List PySem.Str} (h : L[i]? = some p) : es[i]? = some (tRow P w p) := by
  rw [← Array.getElem?_toList, R.rows, List.getElem?_map, h]
  rfl
end
end Vi
namespace Vi
open PySem PySem.Spec L2 PyProof.Rows
section
variable {P : Program} {w : World} {A : Around} {E : Value → Shared → Prop} {s : Shared} {a : Addr} {L : List (Addr × List PySem.Str)} {es : Array (Int × Value)} {ep : Nat} {t : SetTable}
end
end Vi
namespace Vi
open PySem PySem.Spec L2 PyProof.Rows
structure SetP0 (P : Program) (w : World) (h : Heap) (a : Addr) (L : List (Addr × List PySem.Str)) : Prop where
  ex : ∃ (es : Array (Int × Value)) (ep : Nat) (t : SetTable), (∃ o, h.get? a = some o ∧ o.ExactSet ∧ o.data = .set es ep t) ∧ es.toList = L.map (tRow P w) ∧ TabOk t (L.map fun p => tHash P w p.2) ∧ (L.map (·.2)).Nodup ∧
    (w.params.followText "set-order" = true ∨ t.led = true) ∧ L.length * 5 < t.mask * 3 ∧ L.length < 64
def SetPO (P : Program) (w : World) (a : Addr) (L : List (Addr × List PySem.Str)) : HO := .ext fun h => SetP0 P w h a L
section
variable {P : Program} {w : World} {h : Heap} {a : Addr} {L : List (Addr × List PySem.Str)} {es : Array (Int × Value)} {ep : Nat} {t : SetTable}
theorem SetP.p0 (R : SetP P w h a L es ep t) : SetP0 P w h a L := ⟨es, ep, t, R.ob, R.rows, R.tab, R.nd, R.led, R.room, R.few⟩
end
section
variable {prog : Program} {w : World} {A : Around} {E : Value → Shared → Prop} {s : Shared}
end
def rSrtS (K : PySem.W.Frag) (P : Program) (w : World) : List V → Hp → VK → Prop := fun vs H Q => ∃ (a : Addr) (L : List (Addr × List PySem.Str)), vs = [.ref a] ∧ H a = some (SetPO P w a L) ∧ (∀ p ∈ L, SqT K H p.1 (p.2.map V.str)) ∧
  ((L.map (·.2)).Nodup → L.length < 64 → (∀ p ∈ L, ∀ q ∈ L, p.1 = q.1 → p.2 = q.2) → ∃ k : V → List Key, Mode K H k (L.map fun q => V.ref q.1) ∧
    ∀ ys p, SrtO.Srtd (fun v u => ksLt (k v) (k u)) ys → ys.Perm (L.map fun q => V.ref q.1) → H p = none → Q (.ref p) (upd H p (.lst ys)))
section
variable {X : Cx}
end
end Vi
set_option maxHeartbeats 4000000
namespace Vi
open PySem PySem.Spec L2 PyProof.Rows
section
variable {X : Cx}
def tIn (K : PySem.W.Frag) (P : Program) (w : World) (D : Addr) (wi2 : TI) (g2 : TG) (te : TE) (vs : List Nat) (σ : L2.St) (H : Hp) (Nx : Hp → Prop) : Prop := wi2 σ H fun J H3 => ∃ W : Nat → Nat → Hp → Prop, (∃ m, W 0 m H3) ∧ ∀ j m H, W j m H →
  (J.stop j H ∧ Nx H) ∨ (J.go j H ∧ ∃ Nx2 : Hp → Prop, (∀ H', Nx2 H' → ∃ m', m' < m ∧ W (j + 1) m' H') ∧ ∀ y H', J.yld j H y H' → g2 y (wipe σ vs) H' fun σ3 H4 => wipe σ3 vs = wipe σ vs ∧ te σ3 H4 fun z H5 =>
    ∃ (x : Addr) (k : List PySem.Str) (L : List (Addr × List PySem.Str)), z = .ref x ∧ SqT K H5 x (k.map V.str) ∧ H5 D = some (SetPO P w D L) ∧ (∀ p ∈ L, SqT K H5 p.1 (p.2.map V.str)) ∧ L.length + 1 < 64 ∧
      ∀ L', (k ∈ L.map (·.2) → L' = L) → (k ∉ L.map (·.2) → L'.Perm ((x, k) :: L)) → Nx2 (upd H5 D (SetPO P w D L')))
end
end Vi
namespace Vi
open PySem PySem.Spec L2 PyProof.Rows
abbrev sc2 (elt t1 i1 t2 i2 : Expr) (scope : Scope) (pos : Pos) : Expr := .SetComp elt [⟨t1, i1, [], 0⟩, ⟨t2, i2, [], 0⟩] scope pos
section
variable {prog : Program} {w : World} {A : Around} {R : Result → Shared → Prop} {s : Shared} {env : PySem.Env} {elt t1 i1 t2 i2 : Expr} {scope : Scope} {pos : Pos} {it acc : Value}
end
section
variable {X : Cx}
end
end Vi
namespace Vi
open PySem PySem.Spec L2 PyProof.Rows
def tSc2 (K : PySem.W.Frag) (P : Program) (w : World) (wi : TI) (g : TG) (wi2 : TI) (g2 : TG) (te : TE) (vs : List Nat) : TE := fun σ H Q => wi σ H fun J H1 => ∀ D, H1 D = none → ∃ W : Nat → Nat → Hp → Prop, (∃ m, W 0 m (upd H1 D (SetPO P w D []))) ∧ ∀ i m H, W i m H →
  (J.stop i H ∧ Q (.ref D) H) ∨ (J.go i H ∧ ∃ Nx : Hp → Prop, (∀ H', Nx H' → ∃ m', m' < m ∧ W (i + 1) m' H') ∧ ∀ x H', J.yld i H x H' → g x (wipe σ vs) H' fun σ2 H2 => wipe σ2 vs = wipe σ vs ∧ tIn K P w D wi2 g2 te vs σ2 H2 Nx)
section
variable {X : Cx}
end
end Vi
namespace Vi
open PySem L2 PyProof.Rows
def tks? : List D → Option (List Str)
  | [] => some []
  | .str x :: r => (tks? r).map (x :: ·)
  | _ :: _ => none
def addK (L : List (List Str)) (k : List Str) : List (List Str) := if k ∈ L then L else k :: L
def sKey (k : List Str) : List Key := k.map Sum.inr
def seqS? (h : Hc) : Vl → Option (Bool × List D)
  | .d x => seqC? h (.d x)
  | _ => none
def gatI (T2 : TgF) (me : ME) (env : Env) : List D → List (List Str) → Hc → R (List (List Str))
  | [], acc, h => .ok acc h
  | y :: r, acc, h => match T2 y env with
    | none => .stuck
    | some env1 => (match me env1 h with
      | .ok (.d (.tup ds)) h2 => (match tks? ds with
        | some k => if 0 < k.length ∧ acc.length < 60 then gatI T2 me env r (addK acc k) h2 else .stuck
        | none => .stuck)
      | _ => .stuck)
def gatO (T1 : TgF) (m2 : ME) (T2 : TgF) (me : ME) (env : Env) : List D → List (List Str) → Hc → R (List (List Str))
  | [], acc, h => .ok acc h
  | x :: r, acc, h => match T1 x env with
    | none => .stuck
    | some env1 => (match m2 env1 h with
      | .ok v h1 => (match seqS? h1 v with
        | some (_, ys) => (match gatI T2 me env ys acc h1 with
          | .ok acc2 h2 => gatO T1 m2 T2 me env r acc2 h2
          | _ => .stuck)
        | none => .stuck)
      | _ => .stuck)
def mSortS (o : Bool) (own : List Nat) (T1 : TgF) (m2 : ME) (T2 : TgF) (me m : ME) : ME := fun env h => (m env h).bind fun x h1 => match seqS? h1 x with
  | some (_, xs) => (match gatO T1 m2 T2 me (wipeE env own) xs [] h1 with
    | .ok acc h2 => .ok (Vl.ofL o ((sortL ksLt (acc.map sKey)).map tupD)) h2
    | _ => .stuck)
  | none => .stuck
structure JOk (J : It) (xs : List V) (H : Hp) : Prop where
  stop : ∀ i, xs.length ≤ i → J.stop i H
  go : ∀ i, i < xs.length → J.go i H
  yld : ∀ i x H', J.yld i H x H' → H' = H ∧ xs[i]? = some x
structure SIn (g : Gi) (P : Program) (w : World) (s1 : Sta) (H1 : Hp) (Dn : Addr) (acc : List (List Str)) (s' : Sta) (H : Hp) (L : List (Addr × List Str)) : Prop where
  gd : Good g s' H
  ev : Evo s1 H1 s' H
  at_ : H Dn = some (SetPO P w Dn L)
  nf : s'.F Dn = none
  na : ∀ n, s'.al n ≠ some Dn
  rp : ∀ p ∈ L, Rep g s'.F s'.al (.tup (p.2.map D.str)) (.ref p.1)
  pm : (L.map (·.2)).Perm acc
  ne : ∀ k ∈ acc, 0 < k.length
theorem ext_nt {P : Program} {w : World} {a : Addr} {L : List (Addr × List Str)} : ∀ ws, SetPO P w a L ≠ .tup ws := fun _ z => by cases z
section
variable {g : Gi} {P : Program} {w : World} {s1 s' s2 : Sta} {H1 H H2 : Hp} {Dn : Addr} {acc : List (List Str)} {L : List (Addr × List Str)}
theorem SIn.mv (S : SIn g P w s1 H1 Dn acc s' H L) (ev : Evo s' H s2 H2) (gd : Good g s2 H2) : SIn g P w s1 H1 Dn acc s2 H2 L := by
  obtain ⟨k1, k2, k3⟩ := ev.oth Dn _ S.at_ S.na
  exact ⟨gd, S.ev.trans ev, k1, k2 S.nf ext_nt, k3, fun p hp => ev.rep (S.rp p hp), S.pm, S.ne⟩
theorem SIn.add (S : SIn g P w s1 H1 Dn acc s' H L) (hD : H1 Dn = none) {x : Addr} {k : List Str} (rx : Rep g s'.F s'.al (.tup (k.map D.str)) (.ref x)) (k0 : 0 < k.length) {L' : List (Addr × List Str)} (c1 : k ∈ L.map (·.2) → L' = L) (c2 : k ∉ L.map (·.2) → L'.Perm ((x, k) :: L)) :
    SIn g P w s1 H1 Dn (addK acc k) s' (upd H Dn (SetPO P w Dn L')) L' := by
  refine ⟨S.gd.updO S.nf S.na, S.ev.updO hD, upd_same, S.nf, S.na, fun p hp => ?_, ?_, fun j hj => ?_⟩
  · by_cases hk : k ∈ L.map (·.2)
    · rw [c1 hk] at hp
      exact S.rp p hp
    · rcases List.mem_cons.mp ((c2 hk).mem_iff.mp hp) with e | e
      · rw [e]
        exact rx
      · exact S.rp p e
  · unfold addK
    by_cases hk : k ∈ L.map (·.2)
    · rw [if_pos (S.pm.mem_iff.mp hk), c1 hk]
      exact S.pm
    · rw [if_neg fun z => hk (S.pm.mem_iff.mpr z)]
      exact List.Perm.trans (List.Perm.map (fun p : Addr × List Str => p.2) (c2 hk)) (S.pm.cons k)
  · unfold addK at hj
    split at hj
    · exact S.ne j hj
    · rcases List.mem_cons.mp hj with e | e
      · rw [e]
        exact k0
      · exact S.ne j e
end
end Vi
namespace Vi
open PySem L2 PyProof.Rows
def kOfL (L : List (Addr × List Str)) : V → List Key
  | .ref t => (match L.find? (fun p => p.1 == t) with
    | some p => sKey p.2
    | none => [])
  | _ => []
section
variable {X : Cx} {g : Gi} {B : Bg} {W : WXv} {env : Env} {s1 s' : Sta} {σ : L2.St} {H1 H : Hp} {own : List Nat} {o : Bool} {T1 T2 : TgF} {m m2 me : ME} {t1 t2 : TG} {Q : VK} {Dn : Addr} {acc accF : List (List Str)} {hF : Hc} {L : List (Addr × List Str)}
end
end Vi
namespace Vi
open PySem L2 PyProof.Rows
section
variable {X : Cx} {g : Gi} {B : Bg} {W : WXv} {env : Env} {s1 s' : Sta} {σ : L2.St} {H1 H : Hp} {own : List Nat} {o : Bool} {T1 T2 : TgF} {m m2 me : ME} {t1 t2 : TG} {Q : VK} {Dn : Addr} {acc accF : List (List Str)} {hF : Hc} {L : List (Addr × List Str)}
abbrev wiS (K : PySem.W.Frag) (te : TE) : TI := fun σ H R => iList K te σ H R ∨ iTup K te σ H R
end
section
variable {X : Cx} {g : Gi} {B : Bg} {W : WXv} {own : List (Str × Nat)} {T1 T2 : TgF} {m m2 me : ME} {g1 g2 : TG} {elt t1 i1 t2 i2 : Expr} {scope : Scope} {pos p' sp : Pos}
end
end Vi
set_option maxHeartbeats 2000000
namespace Vi
open PySem L2 PyProof.Rows
def rLtX (K : PySem.W.Frag) : R2 := fun x y H Q => ∃ (a b : Addr) (k j : List Str), x = .ref a ∧ y = .ref b ∧ SqT K H a (k.map V.str) ∧ SqT K H b (j.map V.str) ∧ Q (.bl (ksLt (sKey k) (sKey j))) H
def fLtX (x y : Vl) (h : Hc) : R Vl := match x, y with
  | .d (.tup a), .d (.tup b) => (match tks? a, tks? b with
    | some k, some j => .ok (.d (.bl (ksLt (sKey k) (sKey j)))) h
    | _, _ => .stuck)
  | x, y => fLt x y h
section
variable {X : Cx} {g : Gi}
end
end Vi
namespace Vi
open PySem L2 PyProof.Rows
def fAddX (o : Bool) (x y : Vl) (h : Hc) : R Vl := match tup? x, tup? y with
  | some xs, some ys => if xs.length + ys.length ≤ 100000 then (if xs.isEmpty then .ok y h else if ys.isEmpty then .ok x h else .ok (.d (.tup (xs ++ ys))) h) else .stuck
  | _, _ => fAdd o x y h
def fSlX (o : Bool) (x : Vl) (lo hi : Option Int) (h : Hc) : R Vl := match tup? x with
  | some xs => if HT.sIx xs.length 0 lo = 0 ∧ HT.sIx xs.length xs.length hi = xs.length then .ok x h else .ok (.d (.tup (cutL xs lo hi))) h
  | none => fSl o x lo hi h
@[simp] def mSlX (o : Bool) (m : ME) (lo hi : MO) : ME := fun env h => (m env h).bind fun x h1 => (lo env h1).bind fun l h2 => (hi env h2).bind fun u h3 => fSlX o x l u h3
section
variable {X : Cx} {g : Gi} {B : Bg} {W : WXv}
end
section
variable {X : Cx} {g : Gi} {B : Bg} {W : WXv} {pos p2 : Pos} {e e1 e2 : Expr} {m ma mb : ME} {lo hi : Option Expr} {ml mh : MO}
end
end Vi
namespace Vi
open PySem PySem.Spec L2 PyProof.Rows
section
variable {prog : Program} {w : World} {A : Around} {E : Value → Shared → Prop} {s : Shared}
end
section
variable {X : Cx} {g : Gi} {B : Bg} {W : WXv} {pos p2 : Pos} {e : Expr} {m : ME}
def rRevT (K : PySem.W.Frag) : V → Hp → VK → Prop := fun x H Q => ∃ a xs, x = .ref a ∧ SqT K H a xs ∧ ∀ p, H p = none → Q (.ref p) (upd H p (.tup xs.reverse))
def fRevX (o : Bool) (x : Vl) (h : Hc) : R Vl := match tup? x with
  | some xs => .ok (.d (.tup xs.reverse)) h
  | none => fRev o x h
end
end Vi
namespace Vi
open PySem L2 PyProof.Rows RT
section
variable {X : Cx} {g : Gi} {B : Bg} {W : WXv}
def lmPop : LM := fun xs ds => match ds with
  | [] => (xs[xs.length - 1]?).map fun d => (xs.dropLast, d)
  | _ => none
theorem reps_dropLast {F : Hp} {al : Nat → Option Addr} {xs : List D} {ws : List L2.V} (r : Reps g F al xs ws) : Reps g F al xs.dropLast ws.dropLast := by
  rw [List.dropLast_eq_take, List.dropLast_eq_take, r.length]
  exact r.take _
theorem mm_pop : MetM X g "pop" "list.pop" lmPop := ⟨PySem.F.slot_list_pop, PySem.F.type_list_pop, _, mt_pop, fun F al H l ws vs xs ds xs' d Q h1 h2 h3 h4 q => by
  unfold lmPop at h4
  split at h4
  · cases h3
    obtain ⟨y, e1, e2⟩ := Option.map_eq_some_iff.mp h4
    cases e2
    obtain ⟨v, ev, rv⟩ := h2.get e1
    exact ⟨l, ws, v, rfl, rfl, h1, by rw [h2.length]; exact ev, q _ _ (reps_dropLast h2) rv⟩
  · cases h4⟩
structure MetF (X : Cx) (g : Gi) (name : Str) (id : String) (f : LM) : Prop where
  slot : Slot "list" name id
  ty : typeOf (.builtin id) = pure (.type "method_descriptor")
  ex : ∃ r : V → List V → Hp → VK → Prop, MtR X id r ∧ ∀ (F : Hp) (al : Nat → Option Addr) (H : Hp) (l : Addr) (ws vs : List V) (xs ds xs' : List D) (d : D) (Q : VK), (∀ a o, F a = some o → H a = some o) → H l = some (.lst ws) → Reps g F al xs ws → Reps g F al ds vs → f xs ds = some (xs', d) →
    (∀ (ws' : List V) (v : V), Reps g F al xs' ws' → Rep g F al d v → Q v (upd H l (.lst ws'))) → r (.ref l) vs H Q
def lmExtend : LM := fun xs ds => match ds with
  | [.lst ys] => if xs.length + ys.length < 100000 then some (xs ++ ys, .non) else none
  | _ => none
end
section
variable {X : Cx} {g : Gi} {B : Bg} {W : WXv} {env : Env} {s : Sta} {σ : L2.St} {H : Hp}
end
section
variable {X : Cx} {g : Gi} {B : Bg} {W : WXv} {pos apos cpos : Pos} {o e : Expr} {es : List Expr} {mo : ME} {ma : MA} {name : Str} {id : String} {f : LM}
theorem vss_stuck {sts : List Stmt} : PSs X sts (tS g B W (fun _ _ => .stuck)) := ⟨fun pins s σ H D I h => by
  obtain ⟨env, st, sr, p⟩ := h
  exact p.elim⟩
end
def mCompRv (o : Bool) (own : List Nat) (T : TgF) (mt : MB) (me src : ME) : ME := fun env h => (src env h).bind fun x h1 => match seqC? h1 x with
  | some (_, xs) => compL o T mt me xs.reverse [] (wipeE env own) h1
  | none => .stuck
def mCompRvC (o : Bool) (own : List Nat) (T : TgF) (mt : MB) (me src : ME) : ME := fun env h => (src env h).bind fun x h1 => match seqC? h1 x with
  | some (_, xs) => compLC o T mt me xs.reverse [] (wipeE env own) h1
  | none => .stuck
structure JOr (J : It) (xs : List V) (H : Hp) : Prop where
  stop : ∀ i, xs.length ≤ i → J.stop i H
  go : ∀ i, i < xs.length → J.go i H
  yld : ∀ i x H', i < xs.length → J.yld i H x H' → H' = H ∧ xs[i]? = some x
section
variable {X : Cx} {g : Gi} {B : Bg} {W : WXv} {own : List Nat} {o : Bool} {T : TgF} {mt : MB} {me m : ME} {t : TG} {σ : L2.St} {H : Hp} {Q : VK}
end
section
variable {X : Cx} {g : Gi} {B : Bg} {W : WXv} {own : List (Str × Nat)} {o : Bool} {T : TgF} {mt : MB} {me m : ME} {t : TG} {elt tg e : Expr} {ifs : List Expr} {scope : Scope} {pos p p2 : Pos}
end
end Vi
namespace Vi
open PySem L2 PyProof.Rows RT
def asTL (m : ME) : MB := fun env h => (m env h).bind fun x h1 => match lst? h1 x with
  | some xs => .ok (!xs.isEmpty) h1
  | none => .stuck
section
variable {X : Cx} {g : Gi} {B : Bg} {W : WXv} {a : Expr} {m : ME}
end
section
variable {X : Cx} {g : Gi} {B : Bg} {W : WXv} {own : List (Str × Nat)} {o : Bool} {T : TgF} {mt : MB} {me m : ME} {t : TG} {elt tg e : Expr} {ifs : List Expr} {scope : Scope} {pos p p2 : Pos}
end
end Vi
namespace Vi
open PySem L2 PyProof.Rows RT
def mAugFldC (g : Gi) (i : Nat) (f : Str) (e : ME) : MS := fun env h => match env[i]? with
  | some (some (.d (.ref n))) => (match h[n]? with
    | some (.ins c fs) => (match g.fld c f, fs.lookup f with
      | true, some (.int x) => (e env h).thenS env fun y h1 => (match y, h1[n]? with
        | .d (.int k), some (.ins c' fs') => if c' = c ∧ fs'.length < 1000 then .nx env (h1.set n (.ins c (putD f (.int (x + k)) fs'))) else .stuck
        | _, _ => .stuck)
      | _, _ => .stuck)
    | _ => .stuck)
  | _ => .stuck
section
variable {X : Cx} {g : Gi} {B : Bg} {W : WXv} {pos tpos : Pos} {o e : Expr} {m : ME}
theorem vs_augfldC {i : Nat} (G : GiOk g) (hK : g.K = X.K) {f : Str} (ho : PE X o (tVar i)) (he : PE X e (tE g B W m)) : PS X (.AugAssign (.Attribute o f tpos) .Add e pos) (tS g B W (mAugFldC g i f m)) := by
  refine ps_imp (ps_fldaug ho he in_add) fun N σ H ⟨env, s, sr, p⟩ => ?_
  unfold mAugFldC at p
  split at p
  · next n hx =>
    split at p
    · next c fs hn =>
      split at p
      · next x hc hl =>
        obtain ⟨w, h1, h2⟩ := sr.slot i _ hx
        obtain ⟨a, rfl, hal⟩ := h2
        obtain ⟨a2, g1, dx, vs, h3, h4⟩ := sr.good.cell _ _ hn
        rw [hal] at g1
        cases g1
        obtain ⟨k1, k2⟩ := G.fld c f hc
        obtain ⟨v, hv, rv⟩ := RepF.lookup h4 hl
        cases rv
        refine ⟨_, h1, a, g.ca c, dx, vs, _, rfl, h3, hK ▸ (G.cls c k1).cl, hK ▸ k2, hv, ?_⟩
        refine (bindS sr p).mono fun u H1 ⟨s1, y, sr1, l1, r1, p1⟩ => ?_
        split at p1
        · next k c' fs' hn1 =>
          split at p1
          · next hcl =>
            obtain ⟨rfl, hlen⟩ := hcl
            cases r1
            have hal1 := l1.al _ _ hal
            obtain ⟨a3, g3, dx', vs', h5, h6⟩ := sr1.good.cell _ _ hn1
            rw [hal1] at g3
            cases g3
            refine ⟨x, k, rfl, rfl, dx', vs', h5, by rw [h6.length]; exact hlen, ?_⟩
            exact p1 σ _ { s1 with h := s1.h.set _ _ } rfl ⟨fun _ _ z => z, fun _ _ z => z, fun _ _ z => z⟩ (sr1.cell hn1 hal1 (fun _ z => by cases z) (fun _ z => by cases z) ⟨dx', _, upd_same, h6.put (show Rep g s1.F s1.al (.int (x + k)) (L2.V.int (x + k)) from rfl)⟩)
          · exact p1.elim
        · exact p1.elim
      · exact p.elim
    · exact p.elim
  · exact p.elim
end
end Vi
namespace Vi
open PySem L2 PyProof.Rows RT
def fBAnd : Vl → Vl → Hc → R Vl := fI fun i j => .int (PySem.Builtin.bitAnd i j)
def fBOr : Vl → Vl → Hc → R Vl := fI fun i j => .int (PySem.Builtin.bitOr i j)
def fBXor : Vl → Vl → Hc → R Vl := fI fun i j => .int (PySem.Builtin.bitXor i j)
def cShl (i j : Int) : Bool := decide (0 ≤ j) && decide ((PySem.Builtin.Int.intBits i : Int) + j ≤ 2 ^ 27)
def fShl : Vl → Vl → Hc → R Vl := fIc cShl fun i j => .int (i * 2 ^ j.toNat)
def fShr : Vl → Vl → Hc → R Vl := fIc (fun _ j => decide (0 ≤ j)) fun i j => .int (i.fdiv (2 ^ j.toNat))
section
variable {X : Cx} {g : Gi}
end
end Vi
namespace Vi
open PySem L2 PyProof.Rows
def isiL (g : Gi) (u : Ty) : List Ty → Option Bool
  | [] => some false
  | t :: r => (match g.isi u t with
    | some true => some true
    | some false => isiL g u r
    | none => none)
def mIsXs (g : Gi) (xs : Nat → Bool) (ts : List Ty) (i : Nat) : ME := fun env h => match env[i]? with
  | some (some (.xc c _)) => if xs c then (match isiL g (.own c) ts with
    | some b => .ok (.d (.bl b)) h
    | none => .stuck) else .stuck
  | _ => .stuck
section
variable {X : Cx} {g : Gi} {B : Bg} {W : WXv} {pos p p2 : Pos} {x : Str} {xs : Nat → Bool} {no : Nat → Str → Bool} {c1 c2 c3 : Expr} {k : Nat}
theorem isiL_kit (G : GiOk g) {u : Ty} : ∀ {ts : List Ty} {b : Bool}, isiL g u ts = some b → PySem.W.kitAny g.K (u.val g) (ts.map (·.val g)) = some b
  | [], b, h => by
    cases h
    rfl
  | t :: r, b, h => by
    unfold isiL at h
    show PySem.W.kitAny g.K (u.val g) (t.val g :: r.map (·.val g)) = some b
    unfold PySem.W.kitAny
    split at h
    · next e =>
      cases h
      rw [G.isi _ _ _ e]
    · next e =>
      rw [G.isi _ _ _ e]
      exact isiL_kit G h
    · cases h
theorem isxT_call (S : Su X g B) (T : L2.ExcC X.K (g.ca B.xcl)) {σ : L2.St} {H : Hp} {s : Shared} {pins : List (Addr × Obj)} {Q : VK} {tp : Addr} {cs : List L2.V} {ws us : List Value} {b : Bool} (I : Inv X pins σ H s) (r : Vals [.ref B.xa, .ref tp] us) (hT : H tp = some (.tup cs)) (kc : Paired ClsV cs ws)
    {vs : List (Str × L2.V)} (hd : H B.xd = some (.xd vs)) (e : PySem.W.kitAny X.K (.ref (g.ca B.xcl)) ws = some b) (q : Q (.bl b) H) : wpAny (model X.prog X.w) X.A (PySem.call (.builtin "isinstance") us) (EP X pins σ Q) X.xe s := by
  obtain ⟨X0, oe, pn, rfl, hz, hv⟩ := S.ex
  obtain ⟨u1, u2, rfl, r1, r2⟩ := vals2 r
  cases (show u1 = Value.ref B.xa from r1)
  cases (show u2 = Value.ref tp from r2)
  obtain ⟨hget, _⟩ := I.pin (B.xa, oe) (List.mem_append.mpr (.inl List.mem_cons_self))
  obtain ⟨wv, hw⟩ := hv
  have hx : ObjOk X0.prog X0.w H s.heap B.xd (.xd vs) := I.hok _ _ hd
  obtain ⟨mA, hns, hr⟩ := hx
  obtain ⟨oD, ho, _⟩ := lookIn_ns hns
  have J : PySem.W.InstAt s.heap B.xa oe (g.ca B.xcl) (some oD) := ⟨hget, hz.1, by unfold PySem.W.notCls; rw [hw] <;> rfl, by rw [hz.2]; exact ho⟩
  obtain ⟨_, its, rv, o, h1, h2, n, h3⟩ := (show ObjOk X0.prog X0.w H s.heap tp (.tup cs) from I.hok tp _ hT)
  have e3 := ClsV.all kc rv
  subst e3
  obtain ⟨oc, od, dt, sl⟩ := o
  simp only at h2 h3
  subst h2 h3
  exact PySem.W.kia_tup (kit_exc T) I.kIn J h1 e (fun z => nomatch z) fun tk => ⟨.bl b, H, I.kept (t' := tk) fun _ _ z => z, rfl, q⟩
end
end Vi
namespace Vi
open PySem L2 PyProof.Rows
def fStrS (xs : List Vl) (h : Hc) : R Vl := match xs with
  | [.d (.str a)] => .ok (.d (.str a)) h
  | xs => fStrOf xs h
def fIntS (xs : List Vl) (h : Hc) : R Vl := match xs with
  | [.d (.str a)] => (match PySem.intText? a with
    | some n => if a.length ≤ 640 then .ok (.d (.int n)) h else .stuck
    | none => .stuck)
  | xs => fIntOf xs h
section
variable {X : Cx} {g : Gi}
theorem c_strS : CallV X g (.type "str") fStrS := by
  obtain ⟨r0, c0, f0⟩ := c_str (X := X) (g := g)
  have c1 := SkE.call_str_str (X := X)
  refine ⟨fun vs H Q => r0 vs H Q ∨ ∃ a, vs = [.str a] ∧ Q (.str a) H, fun pins s σ H vs us Q I r q => ?_, fun B W env s σ H xs vs Q sr r p => ?_⟩
  · rcases q with q | q
    · exact c0 pins s σ H vs us Q I r q
    · exact c1 pins s σ H vs us Q I r q
  · unfold fStrS at p
    split at p
    · next a =>
      obtain ⟨v, rfl, rr⟩ := r.one
      cases rr
      exact .inr ⟨_, rfl, PostE.pure sr p rfl⟩
    · exact .inl (f0 B W env s σ H xs vs Q sr r p)
theorem c_intS : CallV X g (.type "int") fIntS := by
  obtain ⟨r0, c0, f0⟩ := c_int (X := X) (g := g)
  have c1 := call_int_str (X := X)
  refine ⟨fun vs H Q => r0 vs H Q ∨ ∃ a n, vs = [.str a] ∧ PySem.intText? a = some n ∧ a.length ≤ 640 ∧ Q (.int n) H, fun pins s σ H vs us Q I r q => ?_, fun B W env s σ H xs vs Q sr r p => ?_⟩
  · rcases q with q | q
    · exact c0 pins s σ H vs us Q I r q
    · exact c1 pins s σ H vs us Q I r q
  · unfold fIntS at p
    split at p
    · next a =>
      split at p
      · next n hn =>
        split at p
        · next hl =>
          obtain ⟨v, rfl, rr⟩ := r.one
          cases rr
          exact .inr ⟨_, _, rfl, hn, hl, PostE.pure sr p rfl⟩
        · exact p.elim
      · exact p.elim
    · exact .inl (f0 B W env s σ H xs vs Q sr r p)
end
end Vi
namespace Vi
open PySem L2 PyProof.Rows
def fMulS (x y : Vl) (h : Hc) : R Vl := match x, y with
  | .d (.str a), .d (.int k) => if 0 ≤ k ∧ k ≤ 10000 ∧ a.length ≤ 1000 then .ok (.d (.str (PySem.Txt.mul a k))) h else .stuck
  | x, y => fMul x y h
end Vi
namespace Vi
open PySem L2 PyProof.Rows
def mTryF (i : Nat) (cat : Nat → Option Bool) (mb ms : MS) : MS := fun env h => match mb env h with
  | .exc env' (.obj c fs) h' => (match cat c with
    | some true => mTry i cat mb ms env h
    | _ => .stuck)
  | .exc _ _ _ => .stuck
  | r => r
section
variable {X : Cx} {x n : Str} {cv : Value} {i : Nat} {body su : List Stmt} {st0 : Stmt} {hds : List ExceptHandler} {np pos pos' : Pos} {tb : WX → TS} {ts : Addr → Value → Option Addr → TS}
abbrev gone (D : Ends) (i : Nat) : Ends := { nx := fun a b => D.nx (a.set i none) b, rt := D.rt, bk := fun a b => D.bk (a.set i none) b, ct := fun a b => D.ct (a.set i none) b }
def wOne (K : PySem.W.Frag) (cv : Value) (i : Nat) (ts : Addr → Value → Option Addr → TS) (D : Ends) : WX := fun cls d σ H => PySem.W.exmOne K cls cv = some true ∧ ∀ a, H a = none → ts a cls d (gone D i) (σ.set i (some (.ref a))) H
end
section
variable {X : Cx} {g : Gi} {B : Bg} {W : WXv} {x n : Str} {i : Nat} {body suite : List Stmt} {hds : List ExceptHandler} {b₀ : Stmt} {np pos pos' : Pos} {mb ms : MS} {cat : Nat → Option Bool}
end
end Vi
namespace Vi
open PySem L2 PyProof.Rows RT
def fPart (a : Str) (y : Vl) (h : Hc) : R Vl := match y with
  | .d (.str b) => if b.length ≠ 0 ∧ a.length ≤ 100000 then .ok (.d (.tup [.str (Txt.partition a b).1, .str (Txt.partition a b).2.1, .str (Txt.partition a b).2.2])) h else .stuck
  | _ => .stuck
def fFind (a : Str) (y : Vl) (h : Hc) : R Vl := match y with
  | .d (.str b) => .ok (.d (.int (Txt.find a b))) h
  | _ => .stuck
def fCountT (a : Str) (y : Vl) (h : Hc) : R Vl := match y with
  | .d (.str b) => .ok (.d (.int (Txt.count a b))) h
  | _ => .stuck
section
variable {X : Cx} {g : Gi} {B : Bg} {W : WXv} {apos pos : Pos} {o e : Expr} {mo me : ME}
theorem ve_countT (ho : PE X o (tE g B W mo)) (he : PE X e (tE g B W me)) (hs : starEach [e] X.env = [(false, eval e X.env)] := by rfl) (hbase : attributeBase o "count" X.env (eval o X.env) = eval o X.env := by rfl) (hline : (apos.endLine == pos.line) = true := by rfl) :
    PE X (.Call (.Attribute o "count" apos) [e] [] pos) (tE g B W (mStr1 fCountT mo me)) := by
  refine pe_imp (pe_m1 PySem.F.slot_str_count PySem.F.type_str_count mt_count ho he hs hbase hline) fun σ H Q ⟨env, s, sr, p⟩ => ?_
  refine (str1E (a := mo) sr p).mono fun v H1 ⟨a, hv, q⟩ => ⟨⟨a, hv⟩, q.mono fun w H2 ⟨s2, y, sr2, r2, p2⟩ => ?_⟩
  unfold fCountT at p2
  split at p2
  · next b =>
    cases r2
    exact ⟨a, b, hv, rfl, PostE.pure sr2 p2 rfl⟩
  · exact p2.elim
theorem ve_part (ho : PE X o (tE g B W mo)) (he : PE X e (tE g B W me)) (hs : starEach [e] X.env = [(false, eval e X.env)] := by rfl) (hbase : attributeBase o "partition" X.env (eval o X.env) = eval o X.env := by rfl) (hline : (apos.endLine == pos.line) = true := by rfl) :
    PE X (.Call (.Attribute o "partition" apos) [e] [] pos) (tE g B W (mStr1 fPart mo me)) := by
  refine pe_imp (pe_partition ho he hs hbase hline) fun σ H Q ⟨env, s, sr, p⟩ => ?_
  refine (str1E (a := mo) sr p).mono fun v H1 ⟨a, hv, q⟩ => ⟨⟨a, hv⟩, q.mono fun w H2 ⟨s2, y, sr2, r2, p2⟩ => ?_⟩
  unfold fPart at p2
  split at p2
  · next b =>
    by_cases hc : b.length ≠ 0 ∧ a.length ≤ 100000
    · rw [if_pos hc] at p2
      cases r2
      exact ⟨a, b, hv, rfl, by simpa using hc.1, size_of hc.2, fun q hq => PostE.newT sr2 p2 (show Reps g s2.F s2.al [.str _, .str _, .str _] [.str _, .str _, .str _] from ⟨_, _, rfl, rfl, _, _, rfl, rfl, _, _, rfl, rfl, rfl⟩) hq⟩
    · rw [if_neg hc] at p2
      exact p2.elim
  · exact p2.elim
theorem ve_find (ho : PE X o (tE g B W mo)) (he : PE X e (tE g B W me)) (hs : starEach [e] X.env = [(false, eval e X.env)] := by rfl) (hbase : attributeBase o "find" X.env (eval o X.env) = eval o X.env := by rfl) (hline : (apos.endLine == pos.line) = true := by rfl) :
    PE X (.Call (.Attribute o "find" apos) [e] [] pos) (tE g B W (mStr1 fFind mo me)) := by
  refine pe_imp (pe_m1 PySem.F.slot_str_find PySem.F.type_str_find mt_find ho he hs hbase hline) fun σ H Q ⟨env, s, sr, p⟩ => ?_
  refine (str1E (a := mo) sr p).mono fun v H1 ⟨a, hv, q⟩ => ⟨⟨a, hv⟩, q.mono fun w H2 ⟨s2, y, sr2, r2, p2⟩ => ?_⟩
  unfold fFind at p2
  split at p2
  · next b =>
    cases r2
    exact ⟨a, b, hv, rfl, PostE.pure sr2 p2 rfl⟩
  · exact p2.elim
end
def maL : List ME → MA
  | [] => maNil
  | m :: r => maCons m (maL r)
def mergeD (acc : List (Key × D)) (more : List (Str × D)) : List (Key × D) := more.foldl (fun acc p => putD' acc (.inr p.1) p.2) acc
def mDisp (ks : List Str) (ms : List ME) : ME := fun env h => (maL ms env (h ++ [.dK []])).bind fun xs h1 => match datas xs, h1[h.length]? with
  | some ds, some (.dK []) => if ks.length ≤ 15 then .ok (.d (.ref h.length)) (h1.set h.length (.dK (mergeD [] (ks.zip ds)))) else .stuck
  | _, _ => .stuck
section
variable {g : Gi} {B : Bg} {W : WXv}
abbrev dTrs (g : Gi) (B : Bg) (W : WXv) (ks : List Str) (ms : List ME) : List (TE × TE) := (ks.zip ms).map fun p => (tC (.str p.1), tE g B W p.2)
theorem disp_mono {σ : L2.St} : ∀ (ks : List Str) (ms : List ME) (H : Hp) (P P' : List (L2.V × L2.V) → Hp → Prop), (∀ ps H, P ps H → P' ps H) → tPairs (dTrs g B W ks ms) σ H P → tPairs (dTrs g B W ks ms) σ H P'
  | [], _, H, P, P', i, h => i _ _ h
  | _ :: _, [], H, P, P', i, h => i _ _ h
  | k :: ks, m :: ms, H, P, P', i, h => (show tE g B W m σ H fun y H2 => tPairs (dTrs g B W ks ms) σ H2 fun ps H3 => P ((.str k, y) :: ps) H3 from h).mono fun y H2 q => disp_mono ks ms H2 _ _ (fun ps H3 => i _ _) q
theorem disp_pairs {σ : L2.St} : ∀ (ks : List Str) (ms : List ME), ks.length = ms.length → ∀ (H : Hp) (Q : List L2.V → Hp → Prop), tA g B W (maL ms) σ H Q → tPairs (dTrs g B W ks ms) σ H fun ps H' => ∃ vs, ps = (ks.zip vs).map (fun p => (L2.V.str p.1, p.2)) ∧ vs.length = ks.length ∧ Q vs H'
  | [], [], _, H, Q, h => by
    obtain ⟨env, s, sr, p⟩ := h
    exact ⟨[], rfl, rfl, p [] H s rfl (Evo.refl s H) sr .nil⟩
  | k :: ks, m :: ms, hl, H, Q, h => by
    obtain ⟨env, s, sr, p⟩ := h
    show tE g B W m σ H fun y H2 => tPairs (dTrs g B W ks ms) σ H2 fun ps H3 => _
    refine (bindAA (f := fun x xs h => .ok (x :: xs) h) (Q := Q) sr p).mono fun v H1 h1 => ?_
    have h2 : tA g B W (maL ms) σ H1 fun vs H2 => Q (v :: vs) H2 := h1.mono fun vs H2 ⟨s2, x, xs, sr2, ev2, vr1, vr2, p2⟩ => p2 _ H2 s2 rfl (Evo.refl _ _) sr2 (.cons vr1 vr2)
    refine disp_mono ks ms H1 _ _ (fun ps H3 q => ?_) (disp_pairs ks ms (Nat.succ.inj hl) H1 _ h2)
    obtain ⟨vs, e, l, q⟩ := q
    exact ⟨v :: vs, by rw [e]; rfl, by rw [List.length_cons, List.length_cons, l], q⟩
theorem RepK.merge {s : Sta} : ∀ {ks : List Str} {ds : List D} {vs : List L2.V} {acc : List (Key × D)} {av : List (Key × L2.V)}, Reps g s.F s.al ds vs → RepK g s.F s.al acc av → RepK g s.F s.al (mergeD acc (ks.zip ds)) (mergeK av ((ks.zip vs).map fun p => (.inr p.1, p.2)))
  | [], _, _, acc, av, _, ra => ra
  | k :: ks, [], vs, acc, av, r, ra => by
    cases r
    exact ra
  | k :: ks, d :: ds, vs, acc, av, r, ra => by
    obtain ⟨v, ws, rfl, r1, r2⟩ := r
    exact RepK.merge (ks := ks) r2 (ra.put r1)
end
section
variable {X : Cx} {g : Gi} {B : Bg} {W : WXv} {pos : Pos}
theorem ve_disp {keys : List (Option Expr)} {values : List Expr} {ks : List Str} {ms : List ME} (h : PPs X pos keys values (dTrs g B W ks ms)) (hk : ks.length = ms.length) (hall : keys.all (·.isSome) = true := by rfl) (hl : keys.length = values.length := by rfl) (h0 : keys ≠ [] := by nofun)
    (h15 : keys.length ≤ 15 := by decide) : PE X (.Dict keys values pos) (tE g B W (mDisp ks ms)) := by
  refine pe_imp (pe_disp h hall hl h0 h15) fun σ H Q ⟨env, s, sr, p⟩ q hq => ?_
  obtain ⟨sr1, ev1⟩ := sr.addC (o := .dK []) (c := .dK []) hq ⟨[], upd_same, rfl⟩ (fun _ z => by cases z)
  have al1 : (s.addC q (.dK [])).al s.h.length = some q := if_pos rfl
  have p1 : PostE g B W env (s.addC q (.dK [])) σ (upd H q (.dK [])) ((maL ms env (s.addC q (.dK [])).h).bind fun xs h1 => match datas xs, h1[s.h.length]? with
    | some ds, some (.dK []) => if ks.length ≤ 15 then .ok (.d (.ref s.h.length)) (h1.set s.h.length (.dK (mergeD [] (ks.zip ds)))) else .stuck
    | _, _ => .stuck) Q := PostE.later ev1 p
  refine disp_mono ks ms _ _ _ (fun ps H3 z => ?_) (disp_pairs ks ms hk _ _ (bindA sr1 p1))
  obtain ⟨vs, rfl, lv, s2, ys, sr2, ev2, vr2, p2⟩ := z
  split at p2
  · next ds e1 e2 =>
    split at p2
    · next h16 =>
      have al2 := ev2.al _ _ al1
      obtain ⟨a, g1, ws, g2, g3⟩ := sr2.good.cell _ _ e2
      rw [al2] at g1
      cases g1
      cases g3
      have rr := vr2.datas e1
      refine ⟨g2, (ks.zip vs).map (fun p => (.inr p.1, p.2)), by rw [List.map_map]; rfl, by rw [List.length_map, List.length_zip]; omega, ?_⟩
      exact p2 _ _ { s2 with h := s2.h.set s.h.length (.dK (mergeD [] (ks.zip ds))) } rfl ⟨fun _ _ z => z, fun _ _ z => z, fun b o z n => ⟨by rw [upd_ne (fun e => n _ (e ▸ al2))]; exact z, fun z _ => z, n⟩, (by show s2.h.length ≤ (s2.h.set _ _).length; rw [List.length_set]; exact Nat.le_refl _), fun _ _ z => z⟩
        (sr2.cell e2 al2 (fun _ z => by cases z) (fun _ z => by cases z) ⟨_, upd_same, RepK.merge rr rfl⟩) ⟨q, rfl, al2⟩
    · exact p2.elim
  · exact p2.elim
end
section
variable {X : Cx} {g : Gi} {B : Bg} {W : WXv} {pos p p2 : Pos} {x : Str} {xs : Nat → Bool} {no : Nat → Str → Bool} {c1 c2 c3 c4 : Expr} {k : Nat}
theorem ve_isx4 (S : Su X g B) (o : XcOk g xs no) (t1 t2 t3 t4 : Ty) (i : Nat) (hN : X.N[i]? = some x) (hv : Vis X.env.scope x) (hg : Gl X "isinstance") (hm : X.mg "isinstance" = none) (h1 : PE X c1 (tC (t1.v g))) (h2 : PE X c2 (tC (t2.v g))) (h3 : PE X c3 (tC (t3.v g))) (h4 : PE X c4 (tC (t4.v g)))
    (hd : (x == ("__debug__" : Str)) = false := by decide) (hcd : (x == ("__classdict__" : Str)) = false := by decide)
    (hs : starEach [.Name x p, .Tuple [c1, c2, c3, c4] k p2] X.env = (false, eval (.Name x p) X.env) :: starEach [.Tuple [c1, c2, c3, c4] k p2] X.env := by rfl) (hs2 : starEach [.Tuple [c1, c2, c3, c4] k p2] X.env = (false, eval (.Tuple [c1, c2, c3, c4] k p2) X.env) :: starEach [] X.env := by rfl)
    (hs3 : starEach [c1, c2, c3, c4] X.env = (false, eval c1 X.env) :: starEach [c2, c3, c4] X.env := by rfl) (hs4 : starEach [c2, c3, c4] X.env = (false, eval c2 X.env) :: starEach [c3, c4] X.env := by rfl) (hs5 : starEach [c3, c4] X.env = (false, eval c3 X.env) :: starEach [c4] X.env := by rfl) (hs6 : starEach [c4] X.env = (false, eval c4 X.env) :: starEach [] X.env := by rfl)
    (hpl : (backTo pos (starEach [.Tuple [c1, c2, c3, c4] k p2] X.env)).any (·.1) = false := by rfl) :
    PE X (.Call (.Name "isinstance" p1) [.Name x p, .Tuple [c1, c2, c3, c4] k p2] [] pos) (tE g B W (mIsXs g xs [t1, t2, t3, t4] i)) := by
  have call : CallR X (.builtin "isinstance") (fun ws H Q => ∃ (tp : Addr) (cs : List L2.V) (us : List Value) (b : Bool) (vs : List (Str × L2.V)), ws = [.ref B.xa, .ref tp] ∧ H tp = some (.tup cs) ∧ Paired ClsV cs us ∧ L2.ExcC X.K (g.ca B.xcl) ∧ H B.xd = some (.xd vs) ∧ PySem.W.kitAny X.K (.ref (g.ca B.xcl)) us = some b ∧ Q (.bl b) H) := by
    intro pins s σ H ws us Q I r ⟨tp, cs, us', b, vs, e1, e2, e3, T, e4, e5, q⟩
    subst e1
    exact isxT_call S T I r e2 e3 e4 e5 q
  refine pe_imp (pe_callB call hg hm (by decide +kernel) (pa_cons (pe_var hN hv hd hcd) (pa_cons (pe_tup (pa_cons h1 (pa_cons h2 (pa_cons h3 (pa_cons h4 pa_nil hs6) hs5) hs4) hs3)) pa_nil hs2) hs) (by decide) (by decide) hs hpl) fun σ H Q ⟨env, s, sr, pp⟩ => ?_
  unfold mIsXs at pp
  split at pp
  · next c' fs he =>
    split at pp
    · next hx =>
      split at pp
      · next b hb =>
        obtain ⟨v, e1, e2⟩ := sr.slot i _ he
        obtain ⟨rfl, rfl, vs, e3, e4, e5⟩ := e2
        refine ⟨_, e1, by show 4 ≤ sizeLine; decide, fun q hq => ?_⟩
        obtain ⟨sr2, ev2⟩ := sr.new (o := .tup [t1.v g, t2.v g, t3.v g, t4.v g]) hq
        obtain ⟨v2, f1, f2⟩ := sr2.slot i _ he
        obtain ⟨rfl, _, vs2, f3, f4, f5⟩ := f2
        exact ⟨q, [t1.v g, t2.v g, t3.v g, t4.v g], [t1.val g, t2.val g, t3.val g, t4.val g], b, vs2, rfl, upd_same, .cons (clsV_ty g t1) (.cons (clsV_ty g t2) (.cons (clsV_ty g t3) (.cons (clsV_ty g t4) .nil))), S.K ▸ (o.xf _ hx).2, f3, S.K ▸ isiL_kit S.G hb, pp _ _ s rfl ev2 sr2 rfl⟩
      · exact pp.elim
    · exact pp.elim
  · exact pp.elim
end
section
variable {X : Cx} {g : Gi} {B : Bg} {W : WXv} {pos tpos : Pos} {o e : Expr} {m : ME}
def mAugFldE (g : Gi) (mo : ME) (f : Str) (e : ME) : MS := fun env h => (mo env h).thenS env fun z h0 => match z with
  | .d (.ref n) => (match h0[n]? with
    | some (.ins c fs) => (match g.fld c f, fs.lookup f with
      | true, some (.int x) => (e env h0).thenS env fun y h1 => (match y, h1[n]? with
        | .d (.int k), some (.ins c' fs') => if c' = c ∧ fs'.length < 1000 then .nx env (h1.set n (.ins c (putD f (.int (x + k)) fs'))) else .stuck
        | _, _ => .stuck)
      | _, _ => .stuck)
    | _ => .stuck)
  | _ => .stuck
theorem vs_augfldE {mo : ME} (G : GiOk g) (hK : g.K = X.K) {f : Str} (ho : PE X o (tE g B W mo)) (he : PE X e (tE g B W m)) : PS X (.AugAssign (.Attribute o f tpos) .Add e pos) (tS g B W (mAugFldE g mo f m)) := by
  refine ps_imp (ps_fldaug ho he in_add) fun N σ H ⟨env, s0, sr0, p0⟩ => ?_
  unfold mAugFldE at p0
  refine (bindS sr0 p0).mono fun w H0 ⟨s, z, sr, l0, r0, p⟩ => ?_
  split at p
  · next n =>
    split at p
    · next c fs hn =>
      split at p
      · next x hc hl =>
        obtain ⟨a, rfl, hal⟩ := r0
        obtain ⟨a2, g1, dx, vs, h3, h4⟩ := sr.good.cell _ _ hn
        rw [hal] at g1
        cases g1
        obtain ⟨k1, k2⟩ := G.fld c f hc
        obtain ⟨v, hv, rv⟩ := RepF.lookup h4 hl
        cases rv
        refine ⟨a, g.ca c, dx, vs, _, rfl, h3, hK ▸ (G.cls c k1).cl, hK ▸ k2, hv, ?_⟩
        refine (bindS sr p).mono fun u H1 ⟨s1, y, sr1, l1, r1, p1⟩ => ?_
        split at p1
        · next k c' fs' hn1 =>
          split at p1
          · next hcl =>
            obtain ⟨rfl, hlen⟩ := hcl
            cases r1
            have hal1 := l1.al _ _ hal
            obtain ⟨a3, g3, dx', vs', h5, h6⟩ := sr1.good.cell _ _ hn1
            rw [hal1] at g3
            cases g3
            refine ⟨x, k, rfl, rfl, dx', vs', h5, by rw [h6.length]; exact hlen, ?_⟩
            exact p1 σ _ { s1 with h := s1.h.set _ _ } rfl ⟨fun _ _ z => z, fun _ _ z => z, fun _ _ z => z⟩ (sr1.cell hn1 hal1 (fun _ z => by cases z) (fun _ z => by cases z) ⟨dx', _, upd_same, h6.put (show Rep g s1.F s1.al (.int (x + k)) (L2.V.int (x + k)) from rfl)⟩)
          · exact p1.elim
        · exact p1.elim
      · exact p.elim
    · exact p.elim
  · exact p.elim
end
end Vi
set_option maxHeartbeats 4000000
namespace G38
open PySem L2 PyProof.Rows Vi
section
variable {P : Program} {w : World} {K : PySem.W.Frag} {mg : Str → Option Value} {base : Heap}
abbrev Gn (w : World) (K : PySem.W.Frag) (mg : Str → Option Value) (base : Heap) : Prop := GndW PDx ck fn ts w K mg base
theorem gl_BadClaim (Z : Gn w K mg base) : mg "BadClaim" = some (.ref (He.ga K "BadClaim")) := He.glo_ok Z.X Z.G (Z.S.fact 1)
theorem gl_BadLine (Z : Gn w K mg base) : mg "BadLine" = some (.ref (He.ga K "BadLine")) := He.glo_ok Z.X Z.G (Z.S.fact 2)
theorem gl_BadText (Z : Gn w K mg base) : mg "BadText" = some (.ref (He.ga K "BadText")) := He.glo_ok Z.X Z.G (Z.S.fact 3)
theorem gl_Bracket (Z : Gn w K mg base) : mg "Bracket" = some (.ref (He.ga K "Bracket")) := He.glo_ok Z.X Z.G (Z.S.fact 4)
theorem gl_LotError (Z : Gn w K mg base) : mg "LotError" = some (.ref (He.ga K "LotError")) := He.glo_ok Z.X Z.G (Z.S.fact 5)
theorem gl_NoClaim (Z : Gn w K mg base) : mg "NoClaim" = some (.ref (He.ga K "NoClaim")) := He.glo_ok Z.X Z.G (Z.S.fact 6)
theorem gl_RESERVED (Z : Gn w K mg base) : mg "RESERVED" = some (.ref (He.ga K "RESERVED")) := He.glo_ok Z.X Z.G (Z.S.fact 7)
theorem gl_Reader (Z : Gn w K mg base) : mg "Reader" = some (.ref (He.ga K "Reader")) := He.glo_ok Z.X Z.G (Z.S.fact 8)
theorem gl_Unknown (Z : Gn w K mg base) : mg "Unknown" = some (.ref (He.ga K "Unknown")) := He.glo_ok Z.X Z.G (Z.S.fact 9)
theorem gl__law_bag (Z : Gn w K mg base) : mg "_law_bag" = some (.ref (He.ga K "_law_bag")) := He.glo_ok Z.X Z.G (Z.S.fact 10)
theorem gl__law_divisor (Z : Gn w K mg base) : mg "_law_divisor" = some (.ref (He.ga K "_law_divisor")) := He.glo_ok Z.X Z.G (Z.S.fact 11)
theorem gl__law_draw (Z : Gn w K mg base) : mg "_law_draw" = some (.ref (He.ga K "_law_draw")) := He.glo_ok Z.X Z.G (Z.S.fact 12)
theorem gl__law_is_int (Z : Gn w K mg base) : mg "_law_is_int" = some (.ref (He.ga K "_law_is_int")) := He.glo_ok Z.X Z.G (Z.S.fact 13)
theorem gl__law_low (Z : Gn w K mg base) : mg "_law_low" = some (.ref (He.ga K "_law_low")) := He.glo_ok Z.X Z.G (Z.S.fact 14)
theorem gl__law_mixed (Z : Gn w K mg base) : mg "_law_mixed" = some (.ref (He.ga K "_law_mixed")) := He.glo_ok Z.X Z.G (Z.S.fact 15)
theorem gl__law_name (Z : Gn w K mg base) : mg "_law_name" = some (.ref (He.ga K "_law_name")) := He.glo_ok Z.X Z.G (Z.S.fact 16)
theorem gl__law_names (Z : Gn w K mg base) : mg "_law_names" = some (.ref (He.ga K "_law_names")) := He.glo_ok Z.X Z.G (Z.S.fact 17)
theorem gl__law_p5_answered (Z : Gn w K mg base) : mg "_law_p5_answered" = some (.ref (He.ga K "_law_p5_answered")) := He.glo_ok Z.X Z.G (Z.S.fact 18)
theorem gl__law_p5_atom_words (Z : Gn w K mg base) : mg "_law_p5_atom_words" = some (.ref (He.ga K "_law_p5_atom_words")) := He.glo_ok Z.X Z.G (Z.S.fact 19)
theorem gl__law_p5_claim_words (Z : Gn w K mg base) : mg "_law_p5_claim_words" = some (.ref (He.ga K "_law_p5_claim_words")) := He.glo_ok Z.X Z.G (Z.S.fact 20)
theorem gl__law_p5_digits (Z : Gn w K mg base) : mg "_law_p5_digits" = some (.ref (He.ga K "_law_p5_digits")) := He.glo_ok Z.X Z.G (Z.S.fact 21)
theorem gl__law_p5_is_name (Z : Gn w K mg base) : mg "_law_p5_is_name" = some (.ref (He.ga K "_law_p5_is_name")) := He.glo_ok Z.X Z.G (Z.S.fact 22)
theorem gl__law_p5_judged (Z : Gn w K mg base) : mg "_law_p5_judged" = some (.ref (He.ga K "_law_p5_judged")) := He.glo_ok Z.X Z.G (Z.S.fact 23)
theorem gl__law_p5_last (Z : Gn w K mg base) : mg "_law_p5_last" = some (.ref (He.ga K "_law_p5_last")) := He.glo_ok Z.X Z.G (Z.S.fact 24)
theorem gl__law_p5_next (Z : Gn w K mg base) : mg "_law_p5_next" = some (.ref (He.ga K "_law_p5_next")) := He.glo_ok Z.X Z.G (Z.S.fact 25)
theorem gl__law_p5_number (Z : Gn w K mg base) : mg "_law_p5_number" = some (.ref (He.ga K "_law_p5_number")) := He.glo_ok Z.X Z.G (Z.S.fact 26)
theorem gl__law_p5_read (Z : Gn w K mg base) : mg "_law_p5_read" = some (.ref (He.ga K "_law_p5_read")) := He.glo_ok Z.X Z.G (Z.S.fact 27)
theorem gl__law_p5_share_of (Z : Gn w K mg base) : mg "_law_p5_share_of" = some (.ref (He.ga K "_law_p5_share_of")) := He.glo_ok Z.X Z.G (Z.S.fact 28)
theorem gl__law_p5_spoilt (Z : Gn w K mg base) : mg "_law_p5_spoilt" = some (.ref (He.ga K "_law_p5_spoilt")) := He.glo_ok Z.X Z.G (Z.S.fact 29)
theorem gl__law_p5_word (Z : Gn w K mg base) : mg "_law_p5_word" = some (.ref (He.ga K "_law_p5_word")) := He.glo_ok Z.X Z.G (Z.S.fact 30)
theorem gl__law_pick (Z : Gn w K mg base) : mg "_law_pick" = some (.ref (He.ga K "_law_pick")) := He.glo_ok Z.X Z.G (Z.S.fact 31)
theorem gl__law_some (Z : Gn w K mg base) : mg "_law_some" = some (.ref (He.ga K "_law_some")) := He.glo_ok Z.X Z.G (Z.S.fact 32)
theorem gl_day_told (Z : Gn w K mg base) : mg "day_told" = some (.ref (He.ga K "day_told")) := He.glo_ok Z.X Z.G (Z.S.fact 33)
theorem gl_is_name (Z : Gn w K mg base) : mg "is_name" = some (.ref (He.ga K "is_name")) := He.glo_ok Z.X Z.G (Z.S.fact 34)
theorem gl_lowest (Z : Gn w K mg base) : mg "lowest" = some (.ref (He.ga K "lowest")) := He.glo_ok Z.X Z.G (Z.S.fact 36)
theorem gl_number_told (Z : Gn w K mg base) : mg "number_told" = some (.ref (He.ga K "number_told")) := He.glo_ok Z.X Z.G (Z.S.fact 37)
theorem gl_read_claim (Z : Gn w K mg base) : mg "read_claim" = some (.ref (He.ga K "read_claim")) := He.glo_ok Z.X Z.G (Z.S.fact 38)
theorem gl_share_told (Z : Gn w K mg base) : mg "share_told" = some (.ref (He.ga K "share_told")) := He.glo_ok Z.X Z.G (Z.S.fact 39)
theorem fr_ValueError (Z : Gn w K mg base) : mg "ValueError" = none := He.free_ok Z.X Z.G (Z.S.fact 40)
theorem fr_abs (Z : Gn w K mg base) : mg "abs" = none := He.free_ok Z.X Z.G (Z.S.fact 41)
theorem fr_all (Z : Gn w K mg base) : mg "all" = none := He.free_ok Z.X Z.G (Z.S.fact 42)
theorem fr_bool (Z : Gn w K mg base) : mg "bool" = none := He.free_ok Z.X Z.G (Z.S.fact 43)
theorem fr_int (Z : Gn w K mg base) : mg "int" = none := He.free_ok Z.X Z.G (Z.S.fact 44)
theorem fr_isinstance (Z : Gn w K mg base) : mg "isinstance" = none := He.free_ok Z.X Z.G (Z.S.fact 45)
theorem fr_len (Z : Gn w K mg base) : mg "len" = none := He.free_ok Z.X Z.G (Z.S.fact 46)
theorem fr_list (Z : Gn w K mg base) : mg "list" = none := He.free_ok Z.X Z.G (Z.S.fact 47)
theorem fr_max (Z : Gn w K mg base) : mg "max" = none := He.free_ok Z.X Z.G (Z.S.fact 48)
theorem fr_range (Z : Gn w K mg base) : mg "range" = none := He.free_ok Z.X Z.G (Z.S.fact 49)
theorem fr_repr (Z : Gn w K mg base) : mg "repr" = none := He.free_ok Z.X Z.G (Z.S.fact 50)
theorem fr_sorted (Z : Gn w K mg base) : mg "sorted" = none := He.free_ok Z.X Z.G (Z.S.fact 51)
theorem fr_str (Z : Gn w K mg base) : mg "str" = none := He.free_ok Z.X Z.G (Z.S.fact 52)
theorem fr_sum (Z : Gn w K mg base) : mg "sum" = none := He.free_ok Z.X Z.G (Z.S.fact 53)
theorem fr_tuple (Z : Gn w K mg base) : mg "tuple" = none := He.free_ok Z.X Z.G (Z.S.fact 54)
theorem gb_gcd (Z : Gn w K mg base) : mg "gcd" = some (.builtin "math.gcd") := PySem.W.mg_of Z.X Z.G (eqv_ok (Z.S.fact 55))
end
section
variable {X : Cx}
theorem gd_LETTERS (Z : Gn X.w X.K X.mg X.base) : GlobD X (PDx.gi X.K) "LETTERS" d_LETTERS := gd_str Z.X Z.G (Z.S.fact 57)
theorem gd_SIGNS (Z : Gn X.w X.K X.mg X.base) : GlobD X (PDx.gi X.K) "SIGNS" d_SIGNS := gd_str Z.X Z.G (Z.S.fact 58)
theorem gd_LONGEST_NAME (Z : Gn X.w X.K X.mg X.base) : GlobD X (PDx.gi X.K) "LONGEST_NAME" d_LONGEST_NAME := gd_int Z.X Z.G (Z.S.fact 59)
theorem gd_LAST_DAY (Z : Gn X.w X.K X.mg X.base) : GlobD X (PDx.gi X.K) "LAST_DAY" d_LAST_DAY := gd_int Z.X Z.G (Z.S.fact 60)
theorem gd_MOST_DIGITS (Z : Gn X.w X.K X.mg X.base) : GlobD X (PDx.gi X.K) "MOST_DIGITS" d_MOST_DIGITS := gd_int Z.X Z.G (Z.S.fact 61)
theorem gd_DIGITS (Z : Gn X.w X.K X.mg X.base) : GlobD X (PDx.gi X.K) "DIGITS" d_DIGITS := gd_str Z.X Z.G (Z.S.fact 62)
theorem gd_RESERVED (Z : Gn X.w X.K X.mg X.base) : GlobD X (PDx.gi X.K) "RESERVED" d_RESERVED := ⟨.ref (He.ga X.K "RESERVED"), _, gl_RESERVED Z, rfl, fun F al => ⟨_, _, rfl, .inr ⟨rfl, He.tupB_ok (Z.S.fact 56) F⟩, ⟨_, _, rfl, rfl, ⟨_, _, rfl, rfl, ⟨_, _, rfl, rfl, ⟨_, _, rfl, rfl, ⟨_, _, rfl, rfl, ⟨_, _, rfl, rfl, ⟨_, _, rfl, rfl, ⟨_, _, rfl, rfl, ⟨_, _, rfl, rfl, ⟨_, _, rfl, rfl, ⟨_, _, rfl, rfl, ⟨_, _, rfl, rfl, ⟨_, _, rfl, rfl, ⟨_, _, rfl, rfl, ⟨_, _, rfl, rfl, ⟨_, _, rfl, rfl, ⟨_, _, rfl, rfl, ⟨_, _, rfl, rfl, ⟨_, _, rfl, rfl, ⟨_, _, rfl, rfl, ⟨_, _, rfl, rfl, ⟨_, _, rfl, rfl, ⟨_, _, rfl, rfl, ⟨_, _, rfl, rfl, ⟨_, _, rfl, rfl, rfl⟩⟩⟩⟩⟩⟩⟩⟩⟩⟩⟩⟩⟩⟩⟩⟩⟩⟩⟩⟩⟩⟩⟩⟩⟩⟩⟩
abbrev cat_BadClaim : Nat → Option Bool := fun c => ([(2, true)] : List (Nat × Bool)).lookup c
theorem ct_BadClaim (Z : Gn X.w X.K X.mg X.base) (hg : Gl X "BadClaim") : Catch X (PDx.gi X.K) "BadClaim" cat_BadClaim := ⟨_, ⟨hg, rfl, .inl (gl_BadClaim Z)⟩, fun c b e => by
  have m := mem_of_lookup e
  simp only [List.mem_cons, Prod.mk.injEq, List.not_mem_nil, or_false] at m
  rcases m with ⟨rfl, rfl⟩
  · exact of_decide_eq_true (Z.S.fact 82)⟩
end
def m__law_bag : MS := (mRetC (mA1 (fLst true) (maCons (mA1 (fList false) (maCons (mVar 0) maNil)) (maCons (mC (.int 0)) (maCons (mC (.int 0)) (maCons (m2 fMod (mA1 fIntS (maCons (mA1 fSum (maCons (mVar 0) maNil)) maNil)) (mC (.int 1000003))) (maCons (mC (.int 0)) (maCons (mC (.int 0)) maNil))))))))
def F__law_bag : Fn := fnOf 1 1 m__law_bag
def m__law_mixed : MS := (mSeq (mSet 2 (m2 fMod (mA1 fIntS (maCons (m2 (fAdd false) (m2 fMul (m2 (fAdd false) (mVar 0) (mC (.int 1))) (mC (.int 48271))) (m2 fMul (m2 (fAdd false) (mVar 1) (mC (.int 1))) (mC (.int 69621)))) maNil)) (mC (.int 2147483647)))) (mRet (m2 fDiv (m2 fMod (mA1 fIntS (maCons (m2 (fAdd false) (m2 (fAdd false) (m2 fMul (mVar 2) (mVar 2)) (m2 fMul (mVar 2) (mC (.int 16807)))) (m2 fMul (mC (.int 7)) (mVar 1))) maNil)) (mC (.int 2147483629))) (mC (.int 7)))))
def F__law_mixed : Fn := fnOf 3 2 m__law_mixed
def m__law_draw : MS := (mSeq (mIfS (asB (m2 fLt (mVar 1) (mC (.int 2)))) (mRet (mC (.int 0))) mSkip) (mSeq (mSetIx (m2 (fAdd false) (m2 fIx (mVar 0) (mC (.int 5))) (mC (.int 1))) (mVar 0) (mC (.int 5))) (mSeq (mIfS (tAndM (asB (m2 (fEq false) (m2 fIx (mVar 0) (mC (.int 2))) (mC (.int 0)))) (tAndM (asB (m2 (fEq false) (m2 fIx (mVar 0) (mC (.int 4))) (mC (.int 0)))) (asB (m2 fLt (m2 fIx (mVar 0) (mC (.int 1))) (mA1 fLen (maCons (m2 fIx (mVar 0) (mC (.int 0))) maNil)))))) (mSeq (mSet 2 (m2 fIx (m2 fIx (mVar 0) (mC (.int 0))) (m2 fIx (mVar 0) (mC (.int 1))))) (mSeq (mSetIx (m2 (fAdd false) (m2 fIx (mVar 0) (mC (.int 1))) (mC (.int 1))) (mVar 0) (mC (.int 1))) (mIfS (asB (m2 fGe (mA1 fAbs (maCons (mVar 2) maNil)) (m2 fPow (mC (.int 10)) (mC (.int 18))))) (mSetIx (mA1 fAbs (maCons (mVar 2) maNil)) (mVar 0) (mC (.int 2))) (mSeq (mSetIx (m2 (fAdd false) (m2 fMul (mC (.int 2)) (mA1 fAbs (maCons (mVar 2) maNil))) (mA1 fIntS (maCons (m2 fLt (mVar 2) (mC (.int 0))) maNil))) (mVar 0) (mC (.int 3))) (mSetIx (mC (.int 15)) (mVar 0) (mC (.int 4))))))) mSkip) (mSeq (mIfS (asB (m2 fGt (m2 fIx (mVar 0) (mC (.int 2))) (mC (.int 0)))) (mSeq (mSet 3 (m2 fMod (mA1 fIntS (maCons (m2 fIx (mVar 0) (mC (.int 2))) maNil)) (mVar 1))) (mSeq (mSetIx (m2 fDiv (m2 fIx (mVar 0) (mC (.int 2))) (mVar 1)) (mVar 0) (mC (.int 2))) (mRet (mVar 3)))) mSkip) (mSeq (mIfS (asB (m2 fGt (m2 fIx (mVar 0) (mC (.int 4))) (mC (.int 0)))) (mSetIx (m2 fSub (m2 fIx (mVar 0) (mC (.int 4))) (mC (.int 1))) (mVar 0) (mC (.int 4))) mSkip) (mRet (m2 fMod (mA1 fIntS (maCons (mA1 (fCallN 2 F__law_mixed []) (maCons (m2 fIx (mVar 0) (mC (.int 3))) (maCons (m2 fIx (mVar 0) (mC (.int 5))) maNil))) maNil)) (mVar 1))))))))
def F__law_draw : Fn := fnOf 4 2 m__law_draw
def m__law_name : MS := (mSeq (mSet 2 (mC (.str "abcdefghijklmnopqrstuvwxyz0123456789"))) (mSeq (mSet 3 (m2 fIx (mVar 2) (mA1 (fCallN 2 F__law_draw []) (maCons (mVar 0) (maCons (mC (.int 26)) maNil))))) (mSeq (mForR (gtN 4) (maCons (m2 fIx (mA1 (fLst false) (maCons (mC (.int 0)) (maCons (mC (.int 1)) (maCons (mC (.int 2)) (maCons (mC (.int 7)) maNil))))) (mA1 (fCallN 2 F__law_draw []) (maCons (mVar 0) (maCons (mC (.int 4)) maNil)))) maNil) (mSet 3 (m2 (fAdd false) (mVar 3) (m2 fIx (mVar 2) (mA1 (fCallN 2 F__law_draw []) (maCons (mVar 0) (maCons (mC (.int 36)) maNil))))))) (mSeq (mSet 5 (mC (.str " and or not free untouched least most of since until single recipe take move drain wash pack "))) (mSeq (mIfS (tAndM (asB (m2 (fIn true) (mVar 3) (mVar 1))) (asB (m2 (fIn true) (m2 (fAdd false) (m2 (fAdd false) (mC (.str " ")) (mVar 3)) (mC (.str " "))) (m2 (fAdd false) (mVar 5) (mC (.str "repeat when else end done yes no none ")))))) (mRet (mVar 3)) mSkip) (mRet (m2 fIx (mComp false [6] (gtN 6) (asB (m2 (fIn true) (mVar 6) (mVar 1))) (mVar 6) (mCompR false [4] (gtN 4) mYes (m2 (fAdd false) (mC (.str "q")) (mA1 fStrS (maCons (mVar 4) maNil))) (maCons (m2 (fAdd false) (mA1 fLen (maCons (mVar 1) maNil)) (mC (.int 1))) maNil))) (mC (.int 0)))))))))
def F__law_name : Fn := fnOf 7 2 m__law_name
def m__law_names : MS := (mSeq (mSet 3 (mA1 (fLst true) maNil)) (mSeq (mForR (gtN 4) (maCons (mVar 1) maNil) (mAppend 3 (mA1 (fCallN 2 F__law_name []) (maCons (mVar 0) (maCons (m2 (fAdd false) (mVar 2) (mVar 3)) maNil))))) (mFrz 3 (mRet (mVar 3)))))
def F__law_names : Fn := fnOf 5 3 m__law_names
def m__law_is_int : MS := (mRet (mAnd (m1 (fIsi g0 (.bt "int")) (mVar 0)) (mNot (m1 (fIsi g0 (.bt "bool")) (mVar 0)))))
def F__law_is_int : Fn := fnOf 1 1 m__law_is_int
def m__law_p5_digits : MS := (mSeq (mIfS (tOrM (tNotM (asB (mChain fLt fLt (mC (.int 0)) (mA1 fLen (maCons (mVar 0) maNil)) (mC (.int 10))))) (asB (m2 fGt (mA1 fLen (maCons (mCompS false [1] (gtN 1) (asB (m2 (fIn true) (mVar 1) (mC (.str "0123456789")))) (mVar 1) (mVar 0)) maNil)) (mC (.int 0))))) (mRet (m1 fNeg (mC (.int 1)))) mSkip) (mSeq (mIfS (tAndM (asB (m2 fGt (mA1 fLen (maCons (mVar 0) maNil)) (mC (.int 1)))) (asB (m2 (fEq false) (m2 fIx (mVar 0) (mC (.int 0))) (mC (.str "0"))))) (mRet (m1 fNeg (mC (.int 1)))) mSkip) (mRet (mA1 fIntS (maCons (mVar 0) maNil)))))
def F__law_p5_digits : Fn := fnOf 2 1 m__law_p5_digits
def m__law_p5_is_name : MS := (mSeq (mSet 1 (mC (.str "abcdefghijklmnopqrstuvwxyz"))) (mSeq (mIfS (tOrM (tNotM (asB (mChain fLt fLt (mC (.int 0)) (mA1 fLen (maCons (mVar 0) maNil)) (mC (.int 9))))) (asB (m2 (fIn true) (m2 fIx (mVar 0) (mC (.int 0))) (mVar 1)))) (mRet (mC (.bl false))) mSkip) (mSeq (mIfS (asB (m2 fGt (mA1 fLen (maCons (mCompS false [3] (gtN 3) (asB (m2 (fIn true) (mVar 3) (m2 (fAdd false) (mVar 1) (mC (.str "0123456789"))))) (mVar 3) (mVar 0)) maNil)) (mC (.int 0)))) (mRet (mC (.bl false))) mSkip) (mSeq (mSet 2 (mC (.str "and or not free untouched least most of since until single recipe take move drain wash pack repeat when"))) (mRet (m2 (fIn true) (mVar 0) (mStr1 (fSplit false) (m2 (fAdd false) (mVar 2) (mC (.str " else end done yes no none"))) (mC (.str " ")))))))))
def F__law_p5_is_name : Fn := fnOf 4 1 m__law_p5_is_name
def m__law_divisor : MS := (mSeq (mSet 0 (mA1 fAbs (maCons (mVar 0) maNil))) (mSeq (mSet 1 (mA1 fAbs (maCons (mVar 1) maNil))) (mSeq (mWhile 20000 (asB (m2 fGt (mVar 1) (mC (.int 0)))) (mSeq (mSet 2 (m2 fMod (mA1 fIntS (maCons (mVar 0) maNil)) (mVar 1))) (mSeq (mSet 0 (mVar 1)) (mSet 1 (mVar 2))))) (mRet (mVar 0)))))
def F__law_divisor : Fn := fnOf 3 2 m__law_divisor
def m__law_low : MS := (mSeq (mIfS (asB (m2 fLt (mVar 1) (mC (.int 0)))) (mSeq (mSet 0 (m1 fNeg (mVar 0))) (mSet 1 (m1 fNeg (mVar 1)))) mSkip) (mSeq (mSet 2 (mA1 fMax2 (maCons (mC (.int 1)) (maCons (mA1 (fCallN 2 F__law_divisor []) (maCons (mVar 0) (maCons (mVar 1) maNil))) maNil)))) (mRet (mA1 fTup (maCons (m2 fDiv (mVar 0) (mVar 2)) (maCons (m2 fDiv (mVar 1) (mVar 2)) maNil))))))
def F__law_low : Fn := fnOf 3 2 m__law_low
def m__law_p5_share_of : MS := (mSeq (mIfS (asB (m2 (fEq true) (mStr1 fCountT (mVar 0) (mC (.str "/"))) (mC (.int 1)))) (mRet (mC .non)) mSkip) (mSeq (mSet 1 (mStr1 fFind (mVar 0) (mC (.str "/")))) (mSeq (mSet 2 (mA1 (fCallN 1 F__law_p5_digits []) (maCons (mSl false (mVar 0) moN (moS (mVar 1))) maNil))) (mSeq (mSet 3 (mA1 (fCallN 1 F__law_p5_digits []) (maCons (mSl false (mVar 0) (moS (m2 (fAdd false) (mVar 1) (mC (.int 1)))) moN) maNil))) (mSeq (mIfS (tOrM (asB (m2 fLt (mVar 2) (mC (.int 0)))) (tOrM (asB (m2 fLt (mVar 3) (mC (.int 1)))) (asB (m2 fGt (mVar 2) (mVar 3))))) (mRet (mC .non)) mSkip) (mRet (mA1 (fCallN 2 F__law_low []) (maCons (mVar 2) (maCons (mVar 3) maNil)))))))))
def F__law_p5_share_of : Fn := fnOf 4 1 m__law_p5_share_of
def m__law_p5_next : MS := (mSeq (mIfS (asB (m2 (fEq false) (mVar 0) (mC (.str "factor")))) (mSeq (mIfS (asB (m2 (fInD false g0.kc) (mVar 1) (mA1 (fLst false) (maCons (mC (.str "not")) (maCons (mC (.str "(")) maNil))))) (mRet (mC (.str "factor"))) mSkip) (mSeq (mSet 4 (mDisp ["free", "untouched", "least", "most"] [(mC (.str "trait")), (mC (.str "trait")), (mC (.str "share")), (mC (.str "share"))])) (mSeq (mDPut g0.kc (mC (.str "day")) (mVar 4) (mC (.str "since"))) (mSeq (mDPut g0.kc (mC (.str "day")) (mVar 4) (mC (.str "until"))) (mSeq (mDPut g0.kc (mC (.str "joint")) (mVar 4) (mC (.str "single"))) (mRet (mDGet2 g0.kc (mVar 4) (mVar 1) (mC (.str "bad"))))))))) mSkip) (mSeq (mIfS (asB (m2 (fEq false) (mVar 0) (mC (.str "trait")))) (mRet (mIf (asB (mA1 (fCallN 1 F__law_p5_is_name []) (maCons (mVar 1) maNil))) (mC (.str "joint")) (mC (.str "bad")))) mSkip) (mSeq (mIfS (asB (m2 (fEq false) (mVar 0) (mC (.str "day")))) (mRet (mIf (asB (mChain fLe fLe (mC (.int 0)) (mA1 (fCallN 1 F__law_p5_digits []) (maCons (mVar 1) maNil)) (mC (.int 99999)))) (mC (.str "joint")) (mC (.str "bad")))) mSkip) (mSeq (mIfS (asB (m2 (fEq false) (mVar 0) (mC (.str "share")))) (mRet (mIf (asB (m2 (fIsN false) (mA1 (fCallN 1 F__law_p5_share_of []) (maCons (mVar 1) maNil)) (mC .non))) (mC (.str "bad")) (mC (.str "of")))) mSkip) (mSeq (mIfS (asB (m2 (fEq false) (mVar 0) (mC (.str "of")))) (mRet (mIf (asB (m2 (fEq false) (mVar 1) (mC (.str "of")))) (mC (.str "farm")) (mC (.str "bad")))) mSkip) (mSeq (mIfS (tAndM (asB (m2 (fInD false g0.kc) (mVar 0) (mA1 (fLst false) (maCons (mC (.str "farm")) (maCons (mC (.str "farms")) maNil))))) (asB (mA1 (fCallN 1 F__law_p5_is_name []) (maCons (mVar 1) maNil)))) (mRet (mIf (asB (m2 (fInD false g0.kc) (mVar 1) (mVar 2))) (mC (.str "bad")) (mC (.str "farms")))) mSkip) (mSeq (mIfS (asB (m2 (fEq false) (mVar 0) (mC (.str "farm")))) (mRet (mC (.str "bad"))) mSkip) (mSeq (mIfS (asB (m2 (fInD false g0.kc) (mVar 1) (mA1 (fLst false) (maCons (mC (.str "and")) (maCons (mC (.str "or")) maNil))))) (mRet (mC (.str "factor"))) mSkip) (mRet (mIf (tAndM (asB (m2 (fEq false) (mVar 1) (mC (.str ")")))) (asB (m2 fGt (mVar 3) (mC (.int 0))))) (mC (.str "joint")) (mC (.str "bad"))))))))))))
def F__law_p5_next : Fn := fnOf 5 4 m__law_p5_next
def m__law_p5_judged : MS := (mSeq (mSet 1 (mC (.str "factor"))) (mSeq (mSet 2 (mA1 (fLst false) maNil)) (mSeq (mSet 3 (mC (.int 0))) (mSeq (mForR (gtN 4) (maCons (mA1 fLen (maCons (mVar 0) maNil)) maNil) (mSeq (mSet 5 (mA1 (fCallN 4 F__law_p5_next []) (maCons (mVar 1) (maCons (m2 fIx (mVar 0) (mVar 4)) (maCons (mVar 2) (maCons (mVar 3) maNil)))))) (mSeq (mIfS (asB (m2 (fEq false) (mVar 5) (mC (.str "bad")))) (mRet (m2 (fAdd false) (mVar 4) (mC (.int 1)))) mSkip) (mSeq (mSet 2 (mIf (asB (m2 (fEq false) (mVar 5) (mC (.str "farms")))) (m2 (fAdd false) (mVar 2) (mA1 (fLst false) (maCons (m2 fIx (mVar 0) (mVar 4)) maNil))) (mA1 (fLst false) maNil))) (mSeq (mSet 3 (m2 fSub (m2 (fAdd false) (mVar 3) (mA1 fIntS (maCons (m2 (fEq false) (m2 fIx (mVar 0) (mVar 4)) (mC (.str "("))) maNil))) (mA1 fIntS (maCons (m2 (fEq false) (m2 fIx (mVar 0) (mVar 4)) (mC (.str ")"))) maNil)))) (mSet 1 (mVar 5))))))) (mRet (mIf (tAndM (asB (m2 (fIn false) (mVar 1) (mA1 (fLst false) (maCons (mC (.str "joint")) (maCons (mC (.str "farms")) maNil))))) (asB (m2 (fEq false) (mVar 3) (mC (.int 0))))) (mC (.int 0)) (m2 (fAdd false) (mA1 fLen (maCons (mVar 0) maNil)) (mC (.int 1)))))))))
def F__law_p5_judged : Fn := fnOf 6 1 m__law_p5_judged
def m__law_p5_last : MS := (mSeq (mSet 2 (m1 fNeg (mC (.int 1)))) (mSeq (mSet 3 (mC (.int 0))) (mSeq (mForR (gtN 4) (maCons (mA1 fLen (maCons (mVar 0) maNil)) maNil) (mSeq (mSet 3 (m2 fSub (m2 (fAdd false) (mVar 3) (mA1 fIntS (maCons (m2 (fEq false) (m2 fIx (mVar 0) (mVar 4)) (mC (.str "("))) maNil))) (mA1 fIntS (maCons (m2 (fEq false) (m2 fIx (mVar 0) (mVar 4)) (mC (.str ")"))) maNil)))) (mIfS (tAndM (asB (m2 (fEq false) (mVar 3) (mC (.int 0)))) (asB (m2 (fEq false) (m2 fIx (mVar 0) (mVar 4)) (mVar 1)))) (mSet 2 (mVar 4)) mSkip))) (mRet (mVar 2)))))
def F__law_p5_last : Fn := fnOf 5 2 m__law_p5_last
def m__law_p5_read (G__law_p5_read : Fn) : MS := (mSeq (mFor (gtN 1) (mA1 (fLst false) (maCons (mC (.str "or")) (maCons (mC (.str "and")) maNil))) (mSeq (mSet 2 (mA1 (fCallN 2 F__law_p5_last []) (maCons (mVar 0) (maCons (mVar 1) maNil)))) (mIfS (asB (m2 fGt (mVar 2) (mC (.int 0)))) (mRet (mA1 fTup (maCons (mVar 1) (maCons (mA1 (fCallN 1 G__law_p5_read []) (maCons (mSl false (mVar 0) moN (moS (mVar 2))) maNil)) (maCons (mA1 (fCallN 1 G__law_p5_read []) (maCons (mSl false (mVar 0) (moS (m2 (fAdd false) (mVar 2) (mC (.int 1)))) moN) maNil)) maNil))))) mSkip))) (mSeq (mIfS (asB (m2 (fEq false) (m2 fIx (mVar 0) (mC (.int 0))) (mC (.str "not")))) (mRet (mA1 fTup (maCons (mC (.str "not")) (maCons (mA1 (fCallN 1 G__law_p5_read []) (maCons (mSl false (mVar 0) (moS (mC (.int 1))) moN) maNil)) maNil)))) mSkip) (mSeq (mIfS (asB (m2 (fEq false) (m2 fIx (mVar 0) (mC (.int 0))) (mC (.str "(")))) (mRet (mA1 (fCallN 1 G__law_p5_read []) (maCons (mSl false (mVar 0) (moS (mC (.int 1))) (moS (m2 fSub (mA1 fLen (maCons (mVar 0) maNil)) (mC (.int 1))))) maNil))) mSkip) (mSeq (mIfS (asB (m2 (fIn false) (m2 fIx (mVar 0) (mC (.int 0))) (mA1 (fLst false) (maCons (mC (.str "least")) (maCons (mC (.str "most")) maNil))))) (mRet (mA1 fTup (maCons (m2 fIx (mVar 0) (mC (.int 0))) (maCons (mA1 (fCallN 1 F__law_p5_share_of []) (maCons (m2 fIx (mVar 0) (mC (.int 1))) maNil)) (maCons (mA1 fTuple (maCons (mA1 (fSorted g0.kc false) (maCons (mSl false (mVar 0) (moS (mC (.int 3))) moN) maNil)) maNil)) maNil))))) mSkip) (mSeq (mIfS (asB (m2 (fIn false) (m2 fIx (mVar 0) (mC (.int 0))) (mA1 (fLst false) (maCons (mC (.str "since")) (maCons (mC (.str "until")) maNil))))) (mRet (mA1 fTup (maCons (m2 fIx (mVar 0) (mC (.int 0))) (maCons (mA1 fIntS (maCons (m2 fIx (mVar 0) (mC (.int 1))) maNil)) maNil)))) mSkip) (mRet (mA1 fTuple (maCons (mVar 0) maNil))))))))
def RS__law_p5_read : Nat → Fn
  | 0 => fnOf 3 1 (fun _ _ => .stuck)
  | k + 1 => fnOf 3 1 (m__law_p5_read (RS__law_p5_read k))
def R__law_p5_read (k : Nat) : Fn := (RS__law_p5_read k)
theorem R__law_p5_read_s (k : Nat) : R__law_p5_read (k + 1) = fnOf 3 1 (m__law_p5_read (R__law_p5_read k)) := rfl
def F__law_p5_read : Fn := R__law_p5_read 64
def m_Bracket_whole : MS := (mRet (mIf (asB (m2 (fIsN false) (m1 (fFld g0 "terms") (mVar 0)) (mC .non))) (m1 (fFld g0 "factors") (mVar 0)) (mA1 fTup (maCons (mC (.str "or")) (maCons (m1 (fFld g0 "terms") (mVar 0)) (maCons (m1 (fFld g0 "factors") (mVar 0)) maNil))))))
def F_Bracket_whole : Fn := fnOf 1 1 m_Bracket_whole
def m_Bracket_end_term : MS := (mSeq (mSetFldC g0 0 "terms" (mMeth 6 "whole" 0 F_Bracket_whole [] (mVar 0) maNil)) (mSetFldC g0 0 "factors" (mC .non)))
def F_Bracket_end_term : Fn := fnOf 1 1 m_Bracket_end_term
def m_Reader_expect : MS := (mSeq (mIfS (tNotM (asB (mVar 1))) (mRaise 2 1 (mkE "word" "class_name" "BadClaim") (maCons (m2 (fAdd false) (m1 (fFld g0 "place") (mVar 0)) (mC (.int 1))) maNil)) mSkip) (mAugFldC g0 0 "place" (mC (.int 1))))
def F_Reader_expect : Fn := fnOf 2 2 m_Reader_expect
def m_Reader_is_at_end : MS := (mRet (m2 (fEq false) (m1 (fFld g0 "place") (mVar 0)) (mA1 fLen (maCons (m1 (fFld g0 "words") (mVar 0)) maNil))))
def F_Reader_is_at_end : Fn := fnOf 1 1 m_Reader_is_at_end
def m_Reader_now : MS := (mSeq (mIfS (asB (mMeth 7 "is_at_end" 0 F_Reader_is_at_end [] (mVar 0) maNil)) (mRaise 2 1 (mkE "word" "class_name" "BadClaim") (maCons (m2 (fAdd false) (m1 (fFld g0 "place") (mVar 0)) (mC (.int 1))) maNil)) mSkip) (mRet (m2 fIx (m1 (fFld g0 "words") (mVar 0)) (m1 (fFld g0 "place") (mVar 0)))))
def F_Reader_now : Fn := fnOf 1 1 m_Reader_now
def m_Bracket_add_factor : MS := (mSeq (mForR (gtN 2) (maCons (m1 (fFld g0 "nots") (mVar 0)) maNil) (mSet 1 (mA1 fTup (maCons (mC (.str "not")) (maCons (mVar 1) maNil))))) (mSeq (mSetFldC g0 0 "nots" (mC (.int 0))) (mSetFldC g0 0 "factors" (mIf (asB (m2 (fIsN false) (m1 (fFld g0 "factors") (mVar 0)) (mC .non))) (mVar 1) (mA1 fTup (maCons (mC (.str "and")) (maCons (m1 (fFld g0 "factors") (mVar 0)) (maCons (mVar 1) maNil))))))))
def F_Bracket_add_factor : Fn := fnOf 3 2 m_Bracket_add_factor
def m_Reader_read_closing : MS := (mWhile 20000 (tAndM (tNotM (asB (mMeth 7 "is_at_end" 0 F_Reader_is_at_end [] (mVar 0) maNil))) (tAndM (asB (m2 (fEq false) (mMeth 7 "now" 0 F_Reader_now [] (mVar 0) maNil) (mC (.str ")")))) (asB (m2 fGt (mA1 fLen (maCons (m1 (fFld g0 "brackets") (mVar 0)) maNil)) (mC (.int 1)))))) (mSeq (mSet 1 (mMeth 6 "whole" 0 F_Bracket_whole [] (mMetM lmPop (m1 (fFld g0 "brackets") (mVar 0)) maNil) maNil)) (mSeq (mDrop (mMeth 6 "add_factor" 1 F_Bracket_add_factor [] (m2 fIx (m1 (fFld g0 "brackets") (mVar 0)) (m1 fNeg (mC (.int 1)))) (maCons (mVar 1) maNil))) (mAugFldC g0 0 "place" (mC (.int 1))))))
def F_Reader_read_closing : Fn := fnOf 2 1 m_Reader_read_closing
def m_Bracket_xinitx : MS := (mSeq (mSetFld g0 0 "terms" (mC .non)) (mSeq (mSetFld g0 0 "factors" (mC .non)) (mSetFld g0 0 "nots" (mC (.int 0)))))
def FI_Bracket_xinitx : FnI := initOf 0 0 6 m_Bracket_xinitx
def m_Reader_past : MS := (mSeq (mDrop (mMeth 7 "expect" 1 F_Reader_expect [] (mVar 0) (maCons (m2 (fIsN true) (mVar 1) (mC .non)) maNil))) (mRet (mVar 1)))
def F_Reader_past : Fn := fnOf 2 2 m_Reader_past
def m_is_name : MS := (mSeq (mIfS (tOrM (tNotM (asB (m1 (fIsi g0 (.bt "str")) (mVar 0)))) (tNotM (asB (mChain fLe fLe (mC (.int 1)) (mA1 fLen (maCons (mVar 0) maNil)) (mC d_LONGEST_NAME))))) (mRet (mC (.bl false))) mSkip) (mSeq (mIfS (tOrM (asB (m2 (fIn true) (m2 fIx (mVar 0) (mC (.int 0))) (mC d_LETTERS))) (asB (m2 (fIn false) (mVar 0) (mC d_RESERVED)))) (mRet (mC (.bl false))) mSkip) (mRet (mA1 (fAll false) (maCons (mCompS false [1] (gtN 1) mYes (m2 (fIn false) (mVar 1) (mC d_SIGNS)) (mVar 0)) maNil)))))
def F_is_name : Fn := fnOf 2 1 m_is_name
def m_Reader_read_name : MS := (mSeq (mSet 1 (mMeth 7 "now" 0 F_Reader_now [] (mVar 0) maNil)) (mSeq (mDrop (mMeth 7 "expect" 1 F_Reader_expect [] (mVar 0) (maCons (mA1 (fCallN 1 F_is_name []) (maCons (mVar 1) maNil)) maNil))) (mRet (mVar 1))))
def F_Reader_read_name : Fn := fnOf 2 1 m_Reader_read_name
def m_Reader_read_farms : MS := (mSeq (mSet 1 (mA1 (fLst true) (maCons (mMeth 7 "read_name" 0 F_Reader_read_name [] (mVar 0) maNil) maNil))) (mSeq (mWhile 20000 (tAndM (tNotM (asB (mMeth 7 "is_at_end" 0 F_Reader_is_at_end [] (mVar 0) maNil))) (tAndM (asB (mA1 (fCallN 1 F_is_name []) (maCons (mMeth 7 "now" 0 F_Reader_now [] (mVar 0) maNil) maNil))) (asB (m2 (fIn true) (mMeth 7 "now" 0 F_Reader_now [] (mVar 0) maNil) (mVar 1))))) (mAppend 1 (mMeth 7 "read_name" 0 F_Reader_read_name [] (mVar 0) maNil))) (mFrz 1 (mRet (mA1 fTuple (maCons (mA1 (fSorted g0.kc false) (maCons (mVar 1) maNil)) maNil))))))
def F_Reader_read_farms : Fn := fnOf 2 1 m_Reader_read_farms
def m_number_told : MS := (mSeq (mIfS (tOrM (tNotM (asB (mChain fLe fLe (mC (.int 1)) (mA1 fLen (maCons (mVar 0) maNil)) (mC d_MOST_DIGITS)))) (tNotM (asB (mA1 (fAll false) (maCons (mCompS false [1] (gtN 1) mYes (m2 (fIn false) (mVar 1) (mC d_DIGITS)) (mVar 0)) maNil))))) (mRet (mC .non)) mSkip) (mSeq (mIfS (tAndM (asB (m2 (fEq false) (m2 fIx (mVar 0) (mC (.int 0))) (mC (.str "0")))) (asB (m2 (fEq true) (mVar 0) (mC (.str "0"))))) (mRet (mC .non)) mSkip) (mRet (mA1 fIntS (maCons (mVar 0) maNil)))))
def F_number_told : Fn := fnOf 2 1 m_number_told
def m_day_told : MS := (mSeq (mSet 1 (mA1 (fCallN 1 F_number_told []) (maCons (mVar 0) maNil))) (mRet (mIf (tOrM (asB (m2 (fIsN false) (mVar 1) (mC .non))) (asB (m2 fGt (mVar 1) (mC d_LAST_DAY)))) (mC .non) (mVar 1))))
def F_day_told : Fn := fnOf 2 1 m_day_told
def m_lowest : MS := (mSeq (mSet 2 (mA1 fGcd (maCons (mVar 0) (maCons (mVar 1) maNil)))) (mSeq (mIfS (asB (m2 fLt (mVar 1) (mC (.int 0)))) (mSet 2 (m1 fNeg (mVar 2))) mSkip) (mRet (mA1 fTup (maCons (m2 fDiv (mVar 0) (mVar 2)) (maCons (m2 fDiv (mVar 1) (mVar 2)) maNil))))))
def F_lowest : Fn := fnOf 3 2 m_lowest
def m_share_told : MS := (mSeq (mUnp (gtT 3 (gtCons (gtN 1) (gtCons (gtN 2) (gtCons (gtN 3) gtNil)))) (mStr1 fPart (mVar 0) (mC (.str "/")))) (mSeq (mPar 4 5 (maCons (mA1 (fCallN 1 F_number_told []) (maCons (mVar 1) maNil)) (maCons (mA1 (fCallN 1 F_number_told []) (maCons (mVar 3) maNil)) maNil))) (mSeq (mIfS (tOrM (asB (m2 (fIsN false) (mVar 4) (mC .non))) (tOrM (asB (m2 (fIsN false) (mVar 5) (mC .non))) (tOrM (asB (m2 fLt (mVar 5) (mC (.int 1)))) (asB (m2 fGt (mVar 4) (mVar 5)))))) (mRet (mC .non)) mSkip) (mRet (mA1 (fCallN 2 F_lowest []) (maCons (mVar 4) (maCons (mVar 5) maNil)))))))
def F_share_told : Fn := fnOf 6 1 m_share_told
def m_Reader_read_plain : MS := (mSeq (mSet 1 (mMeth 7 "now" 0 F_Reader_now [] (mVar 0) maNil)) (mSeq (mDrop (mMeth 7 "expect" 1 F_Reader_expect [] (mVar 0) (maCons (m2 (fIn false) (mVar 1) (mA1 fTup (maCons (mC (.str "free")) (maCons (mC (.str "untouched")) (maCons (mC (.str "least")) (maCons (mC (.str "most")) (maCons (mC (.str "since")) (maCons (mC (.str "until")) (maCons (mC (.str "single")) maNil))))))))) maNil))) (mSeq (mIfS (asB (m2 (fIn false) (mVar 1) (mA1 fTup (maCons (mC (.str "free")) (maCons (mC (.str "untouched")) maNil))))) (mRet (mA1 fTup (maCons (mVar 1) (maCons (mMeth 7 "read_name" 0 F_Reader_read_name [] (mVar 0) maNil) maNil)))) mSkip) (mSeq (mIfS (asB (m2 (fIn false) (mVar 1) (mA1 fTup (maCons (mC (.str "least")) (maCons (mC (.str "most")) maNil))))) (mSeq (mSet 2 (mMeth 7 "past" 1 F_Reader_past [] (mVar 0) (maCons (mA1 (fCallN 1 F_share_told []) (maCons (mMeth 7 "now" 0 F_Reader_now [] (mVar 0) maNil) maNil)) maNil))) (mSeq (mDrop (mMeth 7 "expect" 1 F_Reader_expect [] (mVar 0) (maCons (m2 (fEq false) (mMeth 7 "now" 0 F_Reader_now [] (mVar 0) maNil) (mC (.str "of"))) maNil))) (mRet (mA1 fTup (maCons (mVar 1) (maCons (mVar 2) (maCons (mMeth 7 "read_farms" 0 F_Reader_read_farms [] (mVar 0) maNil) maNil))))))) mSkip) (mSeq (mIfS (asB (m2 (fIn false) (mVar 1) (mA1 fTup (maCons (mC (.str "since")) (maCons (mC (.str "until")) maNil))))) (mRet (mA1 fTup (maCons (mVar 1) (maCons (mMeth 7 "past" 1 F_Reader_past [] (mVar 0) (maCons (mA1 (fCallN 1 F_day_told []) (maCons (mMeth 7 "now" 0 F_Reader_now [] (mVar 0) maNil) maNil)) maNil)) maNil)))) mSkip) (mRet (mA1 fTup (maCons (mVar 1) maNil))))))))
def F_Reader_read_plain : Fn := fnOf 3 1 m_Reader_read_plain
def m_Reader_read_factor : MS := (mSeq (mWhile 20000 (asB (m2 (fIn false) (mMeth 7 "now" 0 F_Reader_now [] (mVar 0) maNil) (mA1 fTup (maCons (mC (.str "not")) (maCons (mC (.str "(")) maNil))))) (mSeq (mIfS (asB (m2 (fEq false) (mMeth 7 "now" 0 F_Reader_now [] (mVar 0) maNil) (mC (.str "not")))) (mAugFldE g0 (m2 fIx (m1 (fFld g0 "brackets") (mVar 0)) (m1 fNeg (mC (.int 1)))) "nots" (mC (.int 1))) (mDrop (mMetM lmAppend (m1 (fFld g0 "brackets") (mVar 0)) (maCons (mA1 (fMakeC 6 0 FI_Bracket_xinitx []) maNil) maNil)))) (mAugFldC g0 0 "place" (mC (.int 1))))) (mDrop (mMeth 6 "add_factor" 1 F_Bracket_add_factor [] (m2 fIx (m1 (fFld g0 "brackets") (mVar 0)) (m1 fNeg (mC (.int 1)))) (maCons (mMeth 7 "read_plain" 0 F_Reader_read_plain [] (mVar 0) maNil) maNil))))
def F_Reader_read_factor : Fn := fnOf 1 1 m_Reader_read_factor
def m_Reader_read_all : MS := (mSeq (mDrop (mMeth 7 "read_factor" 0 F_Reader_read_factor [] (mVar 0) maNil)) (mSeq (mDrop (mMeth 7 "read_closing" 0 F_Reader_read_closing [] (mVar 0) maNil)) (mSeq (mWhile 20000 (tNotM (asB (mMeth 7 "is_at_end" 0 F_Reader_is_at_end [] (mVar 0) maNil))) (mSeq (mSet 1 (mMeth 7 "now" 0 F_Reader_now [] (mVar 0) maNil)) (mSeq (mDrop (mMeth 7 "expect" 1 F_Reader_expect [] (mVar 0) (maCons (m2 (fIn false) (mVar 1) (mA1 fTup (maCons (mC (.str "and")) (maCons (mC (.str "or")) maNil)))) maNil))) (mSeq (mIfS (asB (m2 (fEq false) (mVar 1) (mC (.str "or")))) (mDrop (mMeth 6 "end_term" 0 F_Bracket_end_term [] (m2 fIx (m1 (fFld g0 "brackets") (mVar 0)) (m1 fNeg (mC (.int 1)))) maNil)) mSkip) (mSeq (mDrop (mMeth 7 "read_factor" 0 F_Reader_read_factor [] (mVar 0) maNil)) (mDrop (mMeth 7 "read_closing" 0 F_Reader_read_closing [] (mVar 0) maNil))))))) (mSeq (mIfS (asB (m2 fGt (mA1 fLen (maCons (m1 (fFld g0 "brackets") (mVar 0)) maNil)) (mC (.int 1)))) (mRaise 2 1 (mkE "word" "class_name" "BadClaim") (maCons (m2 (fAdd false) (m1 (fFld g0 "place") (mVar 0)) (mC (.int 1))) maNil)) mSkip) (mRet (mMeth 6 "whole" 0 F_Bracket_whole [] (m2 fIx (m1 (fFld g0 "brackets") (mVar 0)) (mC (.int 0))) maNil))))))
def F_Reader_read_all : Fn := fnOf 2 1 m_Reader_read_all
def m_Reader_xinitx : MS := (mSeq (mSetFld g0 0 "words" (mVar 1)) (mSeq (mSetFld g0 0 "place" (mC (.int 0))) (mSetFld g0 0 "brackets" (mA1 fLstC (maCons (mA1 (fMakeC 6 0 FI_Bracket_xinitx []) maNil) maNil)))))
def FI_Reader_xinitx : FnI := initOf 1 1 7 m_Reader_xinitx
def m_read_claim : MS := (mRet (mMeth 7 "read_all" 0 F_Reader_read_all [] (mA1 (fMakeC 7 1 FI_Reader_xinitx []) (maCons (mStr1 (fSplit false) (mVar 0) (mC (.str " "))) maNil)) maNil))
def F_read_claim : Fn := fnOf 1 1 m_read_claim
def m__law_p5_answered : MS := (mSeq (mSet 1 (mA1 (fCallN 1 F__law_p5_judged []) (maCons (mVar 0) maNil))) (mSeq (mTry 4 cat_BadClaim (mSet 3 (mA1 (fCallN 1 F_read_claim []) (maCons (mStr1 fJoin (mC (.str " ")) (mVar 0)) maNil))) (mSeq (mIfS (tOrM (tNotM (asB (mIsX g0 xsB (.own 0) 4))) (tOrM (tNotM (asB (mIsX g0 xsB (.bt "ValueError") 4))) (tNotM (asB (mA1 (fCallN 1 F__law_is_int []) (maCons (mXf xsB xnB "word" 4) maNil)))))) (mRet (mC (.bl false))) mSkip) (mRet (mAnd (m2 (fEq false) (mXf xsB xnB "word" 4) (mVar 1)) (mNot (mIsXs g0 xsB [(.own 4), (.own 5), (.own 1), (.own 3)] 4)))))) (mSeq (mIfS (tOrM (asB (m2 (fEq true) (mVar 1) (mC (.int 0)))) (tNotM (asB (m1 (fIsi g0 (.bt "tuple")) (mVar 3))))) (mRet (mC (.bl false))) mSkip) (mSeq (mSet 2 (mA1 (fCallN 1 F__law_p5_read []) (maCons (mVar 0) maNil))) (mRet (mAnd (m2 (fEq false) (mVar 3) (mVar 2)) (m2 (fEq false) (mA1 fRepr (maCons (mVar 3) maNil)) (mA1 fRepr (maCons (mVar 2) maNil)))))))))
def F__law_p5_answered : Fn := fnOf 5 1 m__law_p5_answered
def m__law_pick : MS := (mRet (m2 fIx (mVar 1) (mA1 (fCallN 2 F__law_draw []) (maCons (mVar 0) (maCons (mA1 fLen (maCons (mVar 1) maNil)) maNil)))))
def F__law_pick : Fn := fnOf 2 2 m__law_pick
def m__law_some : MS := (mSeq (mSet 3 (mComp true [4] (gtN 4) (asB (m2 (fEq false) (mA1 (fCallN 2 F__law_draw []) (maCons (mVar 0) (maCons (mC (.int 2)) maNil))) (mC (.int 1)))) (mVar 4) (mVar 1))) (mSeq (mFor (gtN 4) (mVar 1) (mIfS (tAndM (asB (m2 fLt (mA1 fLen (maCons (mVar 3) maNil)) (mVar 2))) (asB (m2 (fIn true) (mVar 4) (mVar 3)))) (mAppend 3 (mVar 4)) mSkip)) (mFrz 3 (mRet (mA1 (fSorted g0.kc false) (maCons (mVar 3) maNil))))))
def F__law_some : Fn := fnOf 5 3 m__law_some
def m__law_p5_atom_words : MS := (mSeq (mSet 2 (mA1 (fCallN 2 F__law_draw []) (maCons (mVar 0) (maCons (mC (.int 6)) maNil)))) (mSeq (mSet 3 (mA1 (fCallN 2 F__law_pick []) (maCons (mVar 0) (maCons (mA1 (fLst false) (maCons (mC (.str "1/2")) (maCons (mC (.str "0/1")) (maCons (mC (.str "3/3")) (maCons (mC (.str "2/4")) (maCons (mC (.str "0/7")) (maCons (mC (.str "1/999999999")) (maCons (mC (.str "999999999/999999999")) maNil)))))))) maNil)))) (mSeq (mIfS (asB (m2 fLt (mVar 2) (mC (.int 2)))) (mRet (m2 (fAdd false) (mA1 (fLst false) (maCons (m2 fIx (mA1 (fLst false) (maCons (mC (.str "least")) (maCons (mC (.str "most")) maNil))) (mVar 2)) (maCons (mVar 3) (maCons (mC (.str "of")) maNil)))) (mA1 (fCallN 3 F__law_some []) (maCons (mVar 0) (maCons (mVar 1) (maCons (mC (.int 1)) maNil)))))) mSkip) (mSeq (mIfS (asB (m2 fLt (mVar 2) (mC (.int 4)))) (mRet (mA1 (fLst false) (maCons (m2 fIx (mA1 (fLst false) (maCons (mC (.str "free")) (maCons (mC (.str "untouched")) maNil))) (m2 fSub (mVar 2) (mC (.int 2)))) (maCons (mA1 (fCallN 2 F__law_pick []) (maCons (mVar 0) (maCons (mVar 1) maNil))) maNil)))) mSkip) (mSeq (mIfS (asB (m2 (fEq false) (mVar 2) (mC (.int 4)))) (mRet (mA1 (fLst false) (maCons (mA1 (fCallN 2 F__law_pick []) (maCons (mVar 0) (maCons (mA1 (fLst false) (maCons (mC (.str "since")) (maCons (mC (.str "until")) maNil))) maNil))) (maCons (mA1 (fCallN 2 F__law_pick []) (maCons (mVar 0) (maCons (mA1 (fLst false) (maCons (mC (.str "0")) (maCons (mC (.str "9")) (maCons (mC (.str "10")) (maCons (mC (.str "99999")) maNil))))) maNil))) maNil)))) mSkip) (mRet (mA1 (fLst false) (maCons (mC (.str "single")) maNil))))))))
def F__law_p5_atom_words : Fn := fnOf 4 2 m__law_p5_atom_words
def m__law_p5_claim_words (G__law_p5_claim_words : Fn) : MS := (mSeq (mSet 3 (mA1 (fCallN 2 F__law_draw []) (maCons (mVar 0) (maCons (mC (.int 6)) maNil)))) (mSeq (mIfS (tOrM (asB (m2 (fEq false) (mVar 2) (mC (.int 0)))) (asB (m2 fGt (mVar 3) (mC (.int 4))))) (mRet (mA1 (fCallN 2 F__law_p5_atom_words []) (maCons (mVar 0) (maCons (mVar 1) maNil)))) mSkip) (mSeq (mSet 4 (mA1 (fCallN 3 G__law_p5_claim_words []) (maCons (mVar 0) (maCons (mVar 1) (maCons (m2 fSub (mVar 2) (mC (.int 1))) maNil))))) (mSeq (mIfS (asB (m2 (fEq false) (mVar 3) (mC (.int 4)))) (mRet (m2 (fAdd false) (m2 (fAdd false) (mA1 (fLst false) (maCons (mC (.str "not")) (maCons (mC (.str "(")) maNil))) (mVar 4)) (mA1 (fLst false) (maCons (mC (.str ")")) maNil)))) mSkip) (mSeq (mIfS (asB (m2 (fEq false) (mVar 3) (mC (.int 3)))) (mRet (m2 (fAdd false) (m2 (fAdd false) (mA1 (fLst false) (maCons (mC (.str "(")) maNil)) (mVar 4)) (mA1 (fLst false) (maCons (mC (.str ")")) maNil)))) mSkip) (mSeq (mSet 5 (mA1 (fCallN 3 G__law_p5_claim_words []) (maCons (mVar 0) (maCons (mVar 1) (maCons (m2 fSub (mVar 2) (mC (.int 1))) maNil))))) (mRet (m2 (fAdd false) (m2 (fAdd false) (mVar 4) (mA1 (fLst false) (maCons (m2 fIx (mA1 (fLst false) (maCons (mC (.str "and")) (maCons (mC (.str "or")) (maCons (mC (.str "and")) maNil)))) (mVar 3)) maNil))) (mVar 5)))))))))
def RS__law_p5_claim_words : Nat → Fn
  | 0 => fnOf 6 3 (fun _ _ => .stuck)
  | k + 1 => fnOf 6 3 (m__law_p5_claim_words (RS__law_p5_claim_words k))
def R__law_p5_claim_words (k : Nat) : Fn := (RS__law_p5_claim_words k)
theorem R__law_p5_claim_words_s (k : Nat) : R__law_p5_claim_words (k + 1) = fnOf 6 3 (m__law_p5_claim_words (R__law_p5_claim_words k)) := rfl
def F__law_p5_claim_words : Fn := R__law_p5_claim_words 6
def m__law_p5_number : MS := (mSeq (mSet 1 (mStr1 (fSplit false) (mC (.str "0 1 00 07 99999 100000 099999 -3 +3 3a 999999999 1234567890 0 7 1/2 0/1 1/1 3/2 1/0 0/0")) (mC (.str " ")))) (mSeq (mSet 1 (m2 (fAdd false) (mVar 1) (mStr1 (fSplit false) (mC (.str "01/2 1/02 -1/2 1/-2 1/2/3 /2 1/ / 1//2 1/1234567890 1234567890/1234567890 2/2 00/1")) (mC (.str " "))))) (mRet (mA1 (fCallN 2 F__law_pick []) (maCons (mVar 0) (maCons (mVar 1) maNil))))))
def F__law_p5_number : Fn := fnOf 2 1 m__law_p5_number
def m__law_p5_word : MS := (mSeq (mSet 3 (mA1 (fCallN 2 F__law_draw []) (maCons (mVar 0) (maCons (mC (.int 4)) maNil)))) (mSeq (mIfS (tOrM (asB (m2 (fEq false) (mVar 3) (mC (.int 0)))) (tAndM (asB (m2 fLt (mVar 3) (mC (.int 3)))) (asB (m2 (fIn false) (mVar 2) (mVar 1))))) (mRet (mA1 (fCallN 2 F__law_pick []) (maCons (mVar 0) (maCons (mVar 1) maNil)))) mSkip) (mSeq (mIfS (tOrM (asB (m2 (fEq false) (mVar 3) (mC (.int 1)))) (tAndM (asB (m2 (fEq false) (mVar 3) (mC (.int 2)))) (asB (m2 (fIn false) (mVar 2) (mA1 (fLst false) (maCons (mC (.str "and")) (maCons (mC (.str "or")) (maCons (mC (.str "of")) (maCons (mC (.str "(")) (maCons (mC (.str ")")) (maCons (mC (.str "not")) maNil))))))))))) (mSeq (mSet 4 (mStr1 (fSplit false) (mC (.str "and or not free untouched least most of since until single ( )")) (mC (.str " ")))) (mRet (mA1 (fCallN 2 F__law_pick []) (maCons (mVar 0) (maCons (mVar 4) maNil))))) mSkip) (mSeq (mIfS (asB (m2 (fEq false) (mVar 3) (mC (.int 2)))) (mRet (mA1 (fCallN 1 F__law_p5_number []) (maCons (mVar 0) maNil))) mSkip) (mSeq (mSet 4 (mA1 (fLst false) (maCons (mC (.str "")) (maCons (mC (.str "")) (maCons (mC (.str "And")) (maCons (mC (.str "OR")) (maCons (mC (.str "(single")) (maCons (mC (.str "single)")) (maCons (mC (.str "free,")) (maCons (mC (.str "a_b")) (maCons (mC (.str "9a")) (maCons (mC (.str "abcdefgh")) (maCons (mC (.str "abcdefghi")) (maCons (mC (.str "Nuts")) (maCons (mC (.str "is")) maNil))))))))))))))) (mSeq (mSet 4 (m2 (fAdd false) (mVar 4) (mA1 (fLst false) (maCons (mC (.str "recipe")) (maCons (mC (.str "take")) (maCons (mC (.str "yes")) (maCons (mC (.str "none")) (maCons (mC (.str "end")) (maCons (mC (.str "of:")) (maCons (mC (.str "((")) (maCons (mC (.str "()")) (maCons (mC (.str "least-1/2")) maNil)))))))))))) (mRet (mIf (asB (m2 (fIn false) (mSl false (mVar 2) moN (moS (mC (.int 1)))) (mA1 (fLst false) (maCons (mC (.str "0")) (maCons (mC (.str "1")) (maCons (mC (.str "2")) (maCons (mC (.str "3")) (maCons (mC (.str "9")) maNil)))))))) (mA1 (fCallN 1 F__law_p5_number []) (maCons (mVar 0) maNil)) (mA1 (fCallN 2 F__law_pick []) (maCons (mVar 0) (maCons (mVar 4) maNil)))))))))))
def F__law_p5_word : Fn := fnOf 5 3 m__law_p5_word
def m__law_p5_spoilt : MS := (mSeq (mSet 3 (mA1 (fList false) (maCons (mVar 1) maNil))) (mSeq (mForR (gtN 4) (maCons (mA1 (fCallN 2 F__law_draw []) (maCons (mVar 0) (maCons (mC (.int 4)) maNil))) maNil) (mSeq (mSet 5 (mCompR false [9] (gtN 9) (asB (m2 (fIn false) (mSl false (m2 fIx (mVar 3) (mVar 9)) moN (moS (mC (.int 1)))) (mA1 (fLst false) (maCons (mC (.str "0")) (maCons (mC (.str "1")) (maCons (mC (.str "2")) (maCons (mC (.str "3")) (maCons (mC (.str "9")) maNil)))))))) (mVar 9) (maCons (mA1 fLen (maCons (mVar 3) maNil)) maNil))) (mSeq (mSet 6 (mA1 (fCallN 2 F__law_pick []) (maCons (mVar 0) (maCons (m2 (fAdd false) (mA1 (fLst false) (maCons (mA1 (fCallN 2 F__law_draw []) (maCons (mVar 0) (maCons (m2 (fAdd false) (mA1 fLen (maCons (mVar 3) maNil)) (mC (.int 1))) maNil))) (maCons (mA1 (fCallN 2 F__law_draw []) (maCons (mVar 0) (maCons (m2 (fAdd false) (mA1 fLen (maCons (mVar 3) maNil)) (mC (.int 1))) maNil))) maNil))) (mVar 5)) maNil)))) (mSeq (mSet 7 (m2 fIx (m2 (fAdd false) (mVar 3) (mA1 (fLst false) (maCons (mC (.str "")) maNil))) (mVar 6))) (mSeq (mSet 8 (mA1 (fCallN 2 F__law_draw []) (maCons (mVar 0) (maCons (mC (.int 5)) maNil)))) (mIfS (asB (m2 (fEq false) (mVar 8) (mC (.int 0)))) (mSet 3 (m2 (fAdd false) (mSl false (mVar 3) moN (moS (mVar 6))) (mSl false (mVar 3) (moS (m2 (fAdd false) (mVar 6) (mC (.int 1)))) moN))) (mIfS (asB (m2 (fEq false) (mVar 8) (mC (.int 1)))) (mSet 3 (m2 (fAdd false) (m2 (fAdd false) (mSl false (mVar 3) moN (moS (mVar 6))) (mA1 (fLst false) (maCons (mA1 (fCallN 3 F__law_p5_word []) (maCons (mVar 0) (maCons (mVar 2) (maCons (mVar 7) maNil)))) maNil))) (mSl false (mVar 3) (moS (mVar 6)) moN))) (mIfS (asB (m2 fLt (mVar 8) (mC (.int 4)))) (mSet 3 (m2 (fAdd false) (m2 (fAdd false) (mSl false (mVar 3) moN (moS (mVar 6))) (mA1 (fLst false) (maCons (mA1 (fCallN 3 F__law_p5_word []) (maCons (mVar 0) (maCons (mVar 2) (maCons (mVar 7) maNil)))) maNil))) (mSl false (mVar 3) (moS (m2 (fAdd false) (mVar 6) (mC (.int 1)))) moN))) (mIfS (tAndM (asB (m2 fGt (mA1 fLen (maCons (mVar 3) maNil)) (mC (.int 0)))) (asB (m2 (fEq false) (mA1 (fCallN 2 F__law_draw []) (maCons (mVar 0) (maCons (mC (.int 2)) maNil))) (mC (.int 0))))) (mSet 3 (mSl false (mVar 3) moN (moS (m2 fSub (mA1 fLen (maCons (mVar 3) maNil)) (mC (.int 1)))))) (mIfS (asB (m2 fGt (mA1 fLen (maCons (mVar 3) maNil)) (mC (.int 0)))) (mSet 3 (m2 (fAdd false) (mSl false (mVar 3) moN (moS (m2 fSub (mA1 fLen (maCons (mVar 3) maNil)) (mC (.int 1))))) (mA1 (fLst false) (maCons (m2 (fAdd false) (m2 fIx (mVar 3) (m2 fSub (mA1 fLen (maCons (mVar 3) maNil)) (mC (.int 1)))) (mA1 (fCallN 2 F__law_pick []) (maCons (mVar 0) (maCons (mA1 (fLst false) (maCons (mC (.str "
")) (maCons (mC (.str "	")) (maCons (mC (.str ".")) maNil)))) maNil)))) maNil)))) mSkip)))))))))) (mRet (mVar 3))))
def F__law_p5_spoilt : Fn := fnOf 10 3 m__law_p5_spoilt
def m_law : MS := (mSeq (mSet 1 (mA1 (fCallN 1 F__law_bag []) (maCons (mVar 0) maNil))) (mSeq (mSet 2 (mA1 (fCallN 3 F__law_names []) (maCons (mVar 1) (maCons (m2 (fAdd false) (mC (.int 1)) (mA1 (fCallN 2 F__law_draw []) (maCons (mVar 1) (maCons (mC (.int 4)) maNil)))) (maCons (mA1 (fLst false) maNil) maNil))))) (mSeq (mSet 3 (mA1 (fCallN 3 F__law_p5_claim_words []) (maCons (mVar 1) (maCons (mVar 2) (maCons (mC (.int 2)) maNil))))) (mSeq (mForR (gtN 4) (maCons (mC (.int 5)) maNil) (mIfS (tNotM (asB (mA1 (fCallN 1 F__law_p5_answered []) (maCons (mA1 (fCallN 3 F__law_p5_spoilt []) (maCons (mVar 1) (maCons (mVar 3) (maCons (m2 (fAdd false) (mVar 2) (mA1 (fLst false) (maCons (mC (.str "q7")) maNil))) maNil)))) maNil)))) (mRet (mC (.bl false))) mSkip)) (mSeq (mIfS (tAndM (asB (m2 (fEq false) (mA1 (fCallN 2 F__law_draw []) (maCons (mVar 1) (maCons (mC (.int 3)) maNil))) (mC (.int 0)))) (tNotM (asB (mA1 (fCallN 1 F__law_p5_answered []) (maCons (mA1 (fLst false) (maCons (mC (.str "")) maNil)) maNil))))) (mRet (mC (.bl false))) mSkip) (mRet (mA1 (fCallN 1 F__law_p5_answered []) (maCons (mVar 3) maNil))))))))
def F_law : Fn := fnOf 5 1 m_law
section
variable {P : Program} {w : World} {K : PySem.W.Frag} {mg : Str → Option Value} {base : Heap}
theorem ok__law_bag (Z : Gn w K mg base) : Rdy P w K mg base (PDx.gi K) "_law_bag" 1 1 [] F__law_bag := by
  obtain ⟨fd, FD⟩ := SaysV.fun_ Z.S 26
  have sc : FnScope ["_law_script"] ["_law_script"] (defScope (top 27)) := ⟨rfl, rfl, rfl, by decide +kernel, rfl, by decide +kernel, by decide +kernel⟩
  exact rdy_of FD (fn_D (k := 0) (m := m__law_bag) (PD.giOk Z.ok) FD sc (fun cdv A outer s H E B hr b => (vs_one (vs_retC (ve_lst (o := true) (va_cons (ve_callTy (c_list false b.K) rfl (fr_list Z) bt_list (va_cons (ve_var 0) va_nil)) (va_cons ve_int (va_cons ve_int (va_cons (ve_bin o_mod (ve_callTy c_intS rfl (fr_int Z) bt_int (va_cons (ve_callB (c_sum b.K b.calm) rfl (fr_sum Z) bt_sum (va_cons (ve_var 0) va_nil)) va_nil)) ve_int) (va_cons ve_int (va_cons ve_int va_nil))))))))))) (gl__law_bag Z) (fun _ _ _ _ _ _ us hl => match us, hl with | [_], _ => rfl) rfl
theorem ok__law_mixed (Z : Gn w K mg base) : Rdy P w K mg base (PDx.gi K) "_law_mixed" 1 2 [] F__law_mixed := by
  obtain ⟨fd, FD⟩ := SaysV.fun_ Z.S 27
  have sc : FnScope ["_law_seed", "_law_turn", "_law_first"] ["_law_seed", "_law_turn"] (defScope (top 28)) := ⟨rfl, rfl, rfl, by decide +kernel, rfl, by decide +kernel, by decide +kernel⟩
  exact rdy_of FD (fn_D (k := 0) (m := m__law_mixed) (PD.giOk Z.ok) FD sc (fun cdv A outer s H E B hr b => (vs_cons (vs_set sc.nd rfl (Or.inl rfl) (ve_bin o_mod (ve_callTy c_intS rfl (fr_int Z) bt_int (va_cons (ve_bin (o_add false b.K) (ve_bin o_mul (ve_bin (o_add false b.K) (ve_var 0) ve_int) ve_int) (ve_bin o_mul (ve_bin (o_add false b.K) (ve_var 1) ve_int) ve_int)) va_nil)) ve_int)) (vs_one (vs_ret (ve_bin o_div (ve_bin o_mod (ve_callTy c_intS rfl (fr_int Z) bt_int (va_cons (ve_bin (o_add false b.K) (ve_bin (o_add false b.K) (ve_bin o_mul (ve_var 2) (ve_var 2)) (ve_bin o_mul (ve_var 2) ve_int)) (ve_bin o_mul ve_int (ve_var 1))) va_nil)) ve_int) ve_int)))))) (gl__law_mixed Z) (fun _ _ _ _ _ _ us hl => match us, hl with | [_, _], _ => rfl) rfl
theorem ok__law_draw (Z : Gn w K mg base) : Rdy P w K mg base (PDx.gi K) "_law_draw" 2 2 [] F__law_draw := by
  obtain ⟨fd, FD⟩ := SaysV.fun_ Z.S 28
  have sc : FnScope ["_law_bag_here", "_law_many", "_law_cell", "_law_value"] ["_law_bag_here", "_law_many"] (defScope (top 29)) := ⟨rfl, rfl, rfl, by decide +kernel, rfl, by decide +kernel, by decide +kernel⟩
  exact rdy_of FD (fn_D (k := 1) (m := m__law_draw) (PD.giOk Z.ok) FD sc (fun cdv A outer s H E B hr b => (vs_cons (vs_if (vt_cmp o_lt (ve_var 1) ve_int rfl) (vs_one (vs_ret ve_int)) vs_nil) (vs_cons (vs_setix (ve_bin (o_add false b.K) (ve_ix b.K (ve_var 0) ve_int fun _ _ => rfl) ve_int) (ve_var 0) ve_int) (vs_cons (vs_if (PW.pt (vw_and (vt_cmp (o_eq b.K b.un) (ve_ix b.K (ve_var 0) ve_int fun _ _ => rfl) ve_int rfl) (vw_and (vt_cmp (o_eq b.K b.un) (ve_ix b.K (ve_var 0) ve_int fun _ _ => rfl) ve_int rfl) (vw_and1 (vt_cmp o_lt (ve_ix b.K (ve_var 0) ve_int fun _ _ => rfl) (ve_callB (c_len b.K) rfl (fr_len Z) bt_len (va_cons (ve_ix b.K (ve_var 0) ve_int fun _ _ => rfl) va_nil)) rfl))))) (vs_cons (vs_set sc.nd rfl (Or.inl rfl) (ve_ix b.K (ve_ix b.K (ve_var 0) ve_int fun _ _ => rfl) (ve_ix b.K (ve_var 0) ve_int fun _ _ => rfl) fun _ _ => rfl)) (vs_cons (vs_setix (ve_bin (o_add false b.K) (ve_ix b.K (ve_var 0) ve_int fun _ _ => rfl) ve_int) (ve_var 0) ve_int) (vs_one (vs_if (vt_cmp o_ge (ve_callB c_abs rfl (fr_abs Z) bt_abs (va_cons (ve_var 2) va_nil)) (ve_bin o_pow ve_int ve_int) rfl) (vs_one (vs_setix (ve_callB c_abs rfl (fr_abs Z) bt_abs (va_cons (ve_var 2) va_nil)) (ve_var 0) ve_int)) (vs_cons (vs_setix (ve_bin (o_add false b.K) (ve_bin o_mul ve_int (ve_callB c_abs rfl (fr_abs Z) bt_abs (va_cons (ve_var 2) va_nil))) (ve_callTy c_intS rfl (fr_int Z) bt_int (va_cons (ve_cmp o_lt (ve_var 2) ve_int rfl) va_nil))) (ve_var 0) ve_int) (vs_one (vs_setix ve_int (ve_var 0) ve_int))))))) vs_nil) (vs_cons (vs_if (vt_cmp o_gt (ve_ix b.K (ve_var 0) ve_int fun _ _ => rfl) ve_int rfl) (vs_cons (vs_set sc.nd rfl (Or.inl rfl) (ve_bin o_mod (ve_callTy c_intS rfl (fr_int Z) bt_int (va_cons (ve_ix b.K (ve_var 0) ve_int fun _ _ => rfl) va_nil)) (ve_var 1))) (vs_cons (vs_setix (ve_bin o_div (ve_ix b.K (ve_var 0) ve_int fun _ _ => rfl) (ve_var 1)) (ve_var 0) ve_int) (vs_one (vs_ret (ve_var 3))))) vs_nil) (vs_cons (vs_if (vt_cmp o_gt (ve_ix b.K (ve_var 0) ve_int fun _ _ => rfl) ve_int rfl) (vs_one (vs_setix (ve_bin o_sub (ve_ix b.K (ve_var 0) ve_int fun _ _ => rfl) ve_int) (ve_var 0) ve_int)) vs_nil) (vs_one (vs_ret (ve_bin o_mod (ve_callTy c_intS rfl (fr_int Z) bt_int (va_cons (ve_call ((ok__law_mixed Z).v hr (by decide)) b.gd b.tk rfl (va_cons (ve_ix b.K (ve_var 0) ve_int fun _ _ => rfl) (va_cons (ve_ix b.K (ve_var 0) ve_int fun _ _ => rfl) va_nil))) va_nil)) (ve_var 1))))))))))) (gl__law_draw Z) (fun _ _ _ _ _ _ us hl => match us, hl with | [_, _], _ => rfl) rfl
theorem ok__law_name (Z : Gn w K mg base) : Rdy P w K mg base (PDx.gi K) "_law_name" 3 2 [] F__law_name := by
  obtain ⟨fd, FD⟩ := SaysV.fun_ Z.S 31
  have sc : FnScope ["_law_bag_here", "_law_taken", "_law_signs", "_law_name_here", "_law_k", "_law_words", "_law_spare"] ["_law_bag_here", "_law_taken"] (defScope (top 32)) := ⟨rfl, rfl, rfl, by decide +kernel, rfl, by decide +kernel, by decide +kernel⟩
  exact rdy_of FD (fn_D (k := 2) (m := m__law_name) (PD.giOk Z.ok) FD sc (fun cdv A outer s H E B hr b => (vs_cons (vs_set sc.nd rfl (Or.inl rfl) ve_str) (vs_cons (vs_set sc.nd rfl (Or.inl rfl) (ve_ix b.K (ve_var 2) (ve_call ((ok__law_draw Z).v hr (by decide)) b.gd b.tk rfl (va_cons (ve_var 0) (va_cons ve_int va_nil))) fun _ _ => rfl)) (vs_cons (vs_forR1 b.ps b.calm rfl (fr_range Z) (va_cons (ve_ix b.K (ve_lst (o := false) (va_cons ve_int (va_cons ve_int (va_cons ve_int (va_cons ve_int va_nil))))) (ve_call ((ok__law_draw Z).v hr (by decide)) b.gd b.tk rfl (va_cons (ve_var 0) (va_cons ve_int va_nil))) fun _ _ => rfl) va_nil) (vg_name sc.nd rfl (Or.inl rfl)) (vs_one (vs_set sc.nd rfl (Or.inl rfl) (ve_bin (o_add false b.K) (ve_var 3) (ve_ix b.K (ve_var 2) (ve_call ((ok__law_draw Z).v hr (by decide)) b.gd b.tk rfl (va_cons (ve_var 0) (va_cons ve_int va_nil))) fun _ _ => rfl))))) (vs_cons (vs_set sc.nd rfl (Or.inl rfl) ve_str) (vs_cons (vs_if (PW.pt (vw_and (vt_cmp (o_nin b.K (un65 hr)) (ve_var 3) (ve_var 1) rfl) (vw_and1 (vt_cmp (o_nin b.K (un65 hr)) (ve_bin (o_add false b.K) (ve_bin (o_add false b.K) ve_str (ve_var 3)) ve_str) (ve_bin (o_add false b.K) (ve_var 5) ve_str) rfl)))) (vs_one (vs_ret (ve_var 3))) vs_nil) (vs_one (vs_ret (ve_ix b.K (ve_lc (o := false) (own := [("_law_spare", 6)]) b sc.nd (ve_lcR (o := false) (own := [("_law_k", 4)]) b sc.nd rfl (fr_range Z) (va_cons (ve_bin (o_add false b.K) (ve_callB (c_len b.K) rfl (fr_len Z) bt_len (va_cons (ve_var 1) va_nil)) ve_int) va_nil) (blkOk_by (own := [("_law_k", 4)]) rfl) (cg_name (i := 4) (by decide)) (fun _ _ _ _ _ => (pg_name sc.nd rfl (Or.inl rfl))) (fun _ _ _ _ _ => vts_nil) (fun _ _ _ _ _ => (ve_bin (o_add false b.blk.K) ve_str (ve_callTy c_strS rfl (fr_str Z) bt_str (va_cons (ve_var 4) va_nil))))) (blkOk_by (own := [("_law_spare", 6)]) rfl) (cg_name (i := 6) (by decide)) (fun _ _ _ _ _ => (pg_name sc.nd rfl (Or.inl rfl))) (fun _ _ _ _ _ => (vts_one (vt_cmp (o_nin b.blk.K (un65 hr)) (ve_var 6) (ve_var 1) rfl))) (fun _ _ _ _ _ => (ve_var 6))) ve_int fun _ _ => rfl)))))))))) (gl__law_name Z) (fun _ _ _ _ _ _ us hl => match us, hl with | [_, _], _ => rfl) rfl
theorem ok__law_names (Z : Gn w K mg base) : Rdy P w K mg base (PDx.gi K) "_law_names" 4 3 [] F__law_names := by
  obtain ⟨fd, FD⟩ := SaysV.fun_ Z.S 32
  have sc : FnScope ["_law_bag_here", "_law_many", "_law_taken", "_law_found", "_law_k"] ["_law_bag_here", "_law_many", "_law_taken"] (defScope (top 33)) := ⟨rfl, rfl, rfl, by decide +kernel, rfl, by decide +kernel, by decide +kernel⟩
  exact rdy_of FD (fn_D (k := 3) (m := m__law_names) (PD.giOk Z.ok) FD sc (fun cdv A outer s H E B hr b => (vs_cons (vs_set sc.nd rfl (Or.inl rfl) (ve_lst (o := true) va_nil)) (vs_cons (vs_forR1 b.ps b.calm rfl (fr_range Z) (va_cons (ve_var 1) va_nil) (vg_name sc.nd rfl (Or.inl rfl)) (vs_one (vs_append b.K (pe_var (i := 3) rfl (Or.inl rfl)) (ve_call ((ok__law_name Z).v hr (by decide)) b.gd b.tk rfl (va_cons (ve_var 0) (va_cons (ve_bin (o_add false b.K) (ve_var 2) (ve_var 3)) va_nil)))))) (vss_frz 3 (vs_one (vs_ret (ve_var 3)))))))) (gl__law_names Z) (fun _ _ _ _ _ _ us hl => match us, hl with | [_, _, _], _ => rfl) rfl
theorem okq__law_is_int (Z : Gn w K mg base) : RdyQ P w K mg base (PDx.gi K) "_law_is_int" 1 1 F__law_is_int := by
  obtain ⟨fd, FD⟩ := SaysV.fun_ Z.S 33
  have sc : FnScope ["_law_thing"] ["_law_thing"] (defScope (top 34)) := ⟨rfl, rfl, rfl, by decide +kernel, rfl, by decide +kernel, by decide +kernel⟩
  exact rdyQ_of FD (fn_DQ (k := 0) (m := m__law_is_int) (PD.giOk Z.ok) FD sc (fun cdv A outer s H E p B b => (vs_one (vs_ret (ve_and (ve_isi b.G b.K (.bt "int") rfl (fr_isinstance Z) (ve_var 0) (pe_bltn (v := .ty "int") rfl (fr_int Z) bt_int rfl)) (ve_one (ve_not (ve_isi b.G b.K (.bt "bool") rfl (fr_isinstance Z) (ve_var 0) (pe_bltn (v := .ty "bool") rfl (fr_bool Z) bt_bool rfl))))))))) (gl__law_is_int Z) (fun _ _ _ _ _ _ us hl => match us, hl with | [_], _ => rfl) rfl
theorem ok__law_p5_digits (Z : Gn w K mg base) : Rdy P w K mg base (PDx.gi K) "_law_p5_digits" 1 1 [] F__law_p5_digits := by
  obtain ⟨fd, FD⟩ := SaysV.fun_ Z.S 41
  have sc : FnScope ["_law_word", "_law_sign"] ["_law_word"] (defScope (top 42)) := ⟨rfl, rfl, rfl, by decide +kernel, rfl, by decide +kernel, by decide +kernel⟩
  exact rdy_of FD (fn_D (k := 0) (m := m__law_p5_digits) (PD.giOk Z.ok) FD sc (fun cdv A outer s H E B hr b => (vs_cons (vs_if (PW.pt (vw_or (vt_not (vt_chain o_lt o_lt ve_int (ve_callB (c_len b.K) rfl (fr_len Z) bt_len (va_cons (ve_var 0) va_nil)) ve_int)) (vw_or1 (vt_cmp o_gt (ve_callB (c_len b.K) rfl (fr_len Z) bt_len (va_cons (ve_lcS (own := [("_law_sign", 1)]) false b sc.nd (ve_var 0) (blkOk_by (own := [("_law_sign", 1)]) rfl) (cg_name (i := 1) (by decide)) (fun _ _ _ _ _ => (pg_name sc.nd rfl (Or.inl rfl))) (fun _ _ _ _ _ => (vts_one (vt_cmp (o_nin b.blk.K (un65 hr)) (ve_var 1) ve_str rfl))) (fun _ _ _ _ _ => (ve_var 1))) va_nil)) ve_int rfl)))) (vs_one (vs_ret (ve_neg ve_int))) vs_nil) (vs_cons (vs_if (PW.pt (vw_and (vt_cmp o_gt (ve_callB (c_len b.K) rfl (fr_len Z) bt_len (va_cons (ve_var 0) va_nil)) ve_int rfl) (vw_and1 (vt_cmp (o_eq b.K b.un) (ve_ix b.K (ve_var 0) ve_int fun _ _ => rfl) ve_str rfl)))) (vs_one (vs_ret (ve_neg ve_int))) vs_nil) (vs_one (vs_ret (ve_callTy c_intS rfl (fr_int Z) bt_int (va_cons (ve_var 0) va_nil)))))))) (gl__law_p5_digits Z) (fun _ _ _ _ _ _ us hl => match us, hl with | [_], _ => rfl) rfl
theorem ok__law_p5_is_name (Z : Gn w K mg base) : Rdy P w K mg base (PDx.gi K) "_law_p5_is_name" 1 1 [] F__law_p5_is_name := by
  obtain ⟨fd, FD⟩ := SaysV.fun_ Z.S 43
  have sc : FnScope ["_law_word", "_law_letters", "_law_words", "_law_sign"] ["_law_word"] (defScope (top 44)) := ⟨rfl, rfl, rfl, by decide +kernel, rfl, by decide +kernel, by decide +kernel⟩
  exact rdy_of FD (fn_D (k := 0) (m := m__law_p5_is_name) (PD.giOk Z.ok) FD sc (fun cdv A outer s H E B hr b => (vs_cons (vs_set sc.nd rfl (Or.inr rfl) ve_str) (vs_cons (vs_if (PW.pt (vw_or (vt_not (vt_chain o_lt o_lt ve_int (ve_callB (c_len b.K) rfl (fr_len Z) bt_len (va_cons (ve_var 0) va_nil)) ve_int)) (vw_or1 (vt_cmp (o_nin b.K (un65 hr)) (ve_ix b.K (ve_var 0) ve_int fun _ _ => rfl) (ve_var 1) rfl)))) (vs_one (vs_ret ve_bl)) vs_nil) (vs_cons (vs_if (vt_cmp o_gt (ve_callB (c_len b.K) rfl (fr_len Z) bt_len (va_cons (ve_lcS (own := [("_law_sign", 3)]) false b sc.nd (ve_var 0) (blkOk_by (own := [("_law_sign", 3)]) rfl) (cg_name (i := 3) (by decide)) (fun _ _ _ _ _ => (pg_name sc.nd rfl (Or.inl rfl))) (fun _ _ _ _ _ => (vts_one (vt_cmp (o_nin b.blk.K (un65 hr)) (ve_var 3) (ve_bin (o_add false b.blk.K) (ve_var 1) ve_str) rfl))) (fun _ _ _ _ _ => (ve_var 3))) va_nil)) ve_int rfl) (vs_one (vs_ret ve_bl)) vs_nil) (vs_cons (vs_set sc.nd rfl (Or.inl rfl) ve_str) (vs_one (vs_ret (ve_cmp (o_nin b.K (un65 hr)) (ve_var 0) (ve_split false (ve_bin (o_add false b.K) (ve_var 2) ve_str) ve_str) rfl))))))))) (gl__law_p5_is_name Z) (fun _ _ _ _ _ _ us hl => match us, hl with | [_], _ => rfl) rfl
theorem ok__law_divisor (Z : Gn w K mg base) : Rdy P w K mg base (PDx.gi K) "_law_divisor" 1 2 [] F__law_divisor := by
  obtain ⟨fd, FD⟩ := SaysV.fun_ Z.S 34
  have sc : FnScope ["_law_first", "_law_second", "_law_left"] ["_law_first", "_law_second"] (defScope (top 35)) := ⟨rfl, rfl, rfl, by decide +kernel, rfl, by decide +kernel, by decide +kernel⟩
  exact rdy_of FD (fn_D (k := 0) (m := m__law_divisor) (PD.giOk Z.ok) FD sc (fun cdv A outer s H E B hr b => (vs_cons (vs_set sc.nd rfl (Or.inl rfl) (ve_callB c_abs rfl (fr_abs Z) bt_abs (va_cons (ve_var 0) va_nil))) (vs_cons (vs_set sc.nd rfl (Or.inl rfl) (ve_callB c_abs rfl (fr_abs Z) bt_abs (va_cons (ve_var 1) va_nil))) (vs_cons (vs_while 20000 b.ps (vt_cmp o_gt (ve_var 1) ve_int rfl) (vs_cons (vs_set sc.nd rfl (Or.inl rfl) (ve_bin o_mod (ve_callTy c_intS rfl (fr_int Z) bt_int (va_cons (ve_var 0) va_nil)) (ve_var 1))) (vs_cons (vs_set sc.nd rfl (Or.inl rfl) (ve_var 1)) (vs_one (vs_set sc.nd rfl (Or.inl rfl) (ve_var 2)))))) (vs_one (vs_ret (ve_var 0)))))))) (gl__law_divisor Z) (fun _ _ _ _ _ _ us hl => match us, hl with | [_, _], _ => rfl) rfl
theorem ok__law_low (Z : Gn w K mg base) : Rdy P w K mg base (PDx.gi K) "_law_low" 2 2 [] F__law_low := by
  obtain ⟨fd, FD⟩ := SaysV.fun_ Z.S 35
  have sc : FnScope ["_law_above", "_law_below", "_law_shared"] ["_law_above", "_law_below"] (defScope (top 36)) := ⟨rfl, rfl, rfl, by decide +kernel, rfl, by decide +kernel, by decide +kernel⟩
  exact rdy_of FD (fn_D (k := 1) (m := m__law_low) (PD.giOk Z.ok) FD sc (fun cdv A outer s H E B hr b => (vs_cons (vs_if (vt_cmp o_lt (ve_var 1) ve_int rfl) (vs_cons (vs_set sc.nd rfl (Or.inl rfl) (ve_neg (ve_var 0))) (vs_one (vs_set sc.nd rfl (Or.inl rfl) (ve_neg (ve_var 1))))) vs_nil) (vs_cons (vs_set sc.nd rfl (Or.inl rfl) (ve_callB (c_max2 b.calm) rfl (fr_max Z) bt_max (va_cons ve_int (va_cons (ve_call ((ok__law_divisor Z).v hr (by decide)) b.gd b.tk rfl (va_cons (ve_var 0) (va_cons (ve_var 1) va_nil))) va_nil)))) (vs_one (vs_ret (ve_tup (va_cons (ve_bin o_div (ve_var 0) (ve_var 2)) (va_cons (ve_bin o_div (ve_var 1) (ve_var 2)) va_nil))))))))) (gl__law_low Z) (fun _ _ _ _ _ _ us hl => match us, hl with | [_, _], _ => rfl) rfl
theorem ok__law_p5_share_of (Z : Gn w K mg base) : Rdy P w K mg base (PDx.gi K) "_law_p5_share_of" 3 1 [] F__law_p5_share_of := by
  obtain ⟨fd, FD⟩ := SaysV.fun_ Z.S 42
  have sc : FnScope ["_law_word", "_law_at", "_law_above", "_law_size"] ["_law_word"] (defScope (top 43)) := ⟨rfl, rfl, rfl, by decide +kernel, rfl, by decide +kernel, by decide +kernel⟩
  exact rdy_of FD (fn_D (k := 2) (m := m__law_p5_share_of) (PD.giOk Z.ok) FD sc (fun cdv A outer s H E B hr b => (vs_cons (vs_if (vt_cmp (o_ne b.K b.un) (ve_countT (ve_var 0) ve_str) ve_int rfl) (vs_one (vs_ret ve_non)) vs_nil) (vs_cons (vs_set sc.nd rfl (Or.inl rfl) (ve_find (ve_var 0) ve_str)) (vs_cons (vs_set sc.nd rfl (Or.inl rfl) (ve_call ((ok__law_p5_digits Z).v hr (by decide)) b.gd b.tk rfl (va_cons (ve_slice false b.K (ve_var 0) vo_none (vo_some (ve_var 1))) va_nil))) (vs_cons (vs_set sc.nd rfl (Or.inl rfl) (ve_call ((ok__law_p5_digits Z).v hr (by decide)) b.gd b.tk rfl (va_cons (ve_slice false b.K (ve_var 0) (vo_some (ve_bin (o_add false b.K) (ve_var 1) ve_int)) vo_none) va_nil))) (vs_cons (vs_if (PW.pt (vw_or (vt_cmp o_lt (ve_var 2) ve_int rfl) (vw_or (vt_cmp o_lt (ve_var 3) ve_int rfl) (vw_or1 (vt_cmp o_gt (ve_var 2) (ve_var 3) rfl))))) (vs_one (vs_ret ve_non)) vs_nil) (vs_one (vs_ret (ve_call ((ok__law_low Z).v hr (by decide)) b.gd b.tk rfl (va_cons (ve_var 2) (va_cons (ve_var 3) va_nil)))))))))))) (gl__law_p5_share_of Z) (fun _ _ _ _ _ _ us hl => match us, hl with | [_], _ => rfl) rfl
theorem ok__law_p5_next (Z : Gn w K mg base) : Rdy P w K mg base (PDx.gi K) "_law_p5_next" 4 4 [] F__law_p5_next := by
  obtain ⟨fd, FD⟩ := SaysV.fun_ Z.S 44
  have sc : FnScope ["_law_stage", "_law_word", "_law_farms", "_law_depth", "_law_table"] ["_law_stage", "_law_word", "_law_farms", "_law_depth"] (defScope (top 45)) := ⟨rfl, rfl, rfl, by decide +kernel, rfl, by decide +kernel, by decide +kernel⟩
  exact rdy_of FD (fn_D (k := 3) (m := m__law_p5_next) (PD.giOk Z.ok) FD sc (fun cdv A outer s H E B hr b => (vs_cons (vs_if (vt_cmp (o_eq b.K b.un) (ve_var 0) ve_str rfl) (vs_cons (vs_if (vt_cmp (o_ind (g := PDx.gi K) b.K (un65 hr)) (ve_var 1) (ve_lst (o := false) (va_cons ve_str (va_cons ve_str va_nil))) rfl) (vs_one (vs_ret ve_str)) vs_nil) (vs_cons (vs_set sc.nd rfl (Or.inl rfl) (ve_disp (pps_cons pe_str ve_str (pps_cons pe_str ve_str (pps_cons pe_str ve_str (pps_cons pe_str ve_str pps_nil)))) rfl)) (vs_cons (vs_dput (g := PDx.gi K) b.un ve_str (ve_var 4) ve_str) (vs_cons (vs_dput (g := PDx.gi K) b.un ve_str (ve_var 4) ve_str) (vs_cons (vs_dput (g := PDx.gi K) b.un ve_str (ve_var 4) ve_str) (vs_one (vs_ret (ve_dget2 (g := PDx.gi K) b.un (ve_var 4) (ve_var 1) ve_str ⟨rfl, rfl, rfl, rfl⟩)))))))) vs_nil) (vs_cons (vs_if (vt_cmp (o_eq b.K b.un) (ve_var 0) ve_str rfl) (vs_one (vs_ret (ve_if (vt_val (ve_call ((ok__law_p5_is_name Z).v hr (by decide)) b.gd b.tk rfl (va_cons (ve_var 1) va_nil))) ve_str ve_str))) vs_nil) (vs_cons (vs_if (vt_cmp (o_eq b.K b.un) (ve_var 0) ve_str rfl) (vs_one (vs_ret (ve_if (vt_chain o_le o_le ve_int (ve_call ((ok__law_p5_digits Z).v hr (by decide)) b.gd b.tk rfl (va_cons (ve_var 1) va_nil)) ve_int) ve_str ve_str))) vs_nil) (vs_cons (vs_if (vt_cmp (o_eq b.K b.un) (ve_var 0) ve_str rfl) (vs_one (vs_ret (ve_if (vt_cmp o_is (ve_call ((ok__law_p5_share_of Z).v hr (by decide)) b.gd b.tk rfl (va_cons (ve_var 1) va_nil)) ve_non rfl) ve_str ve_str))) vs_nil) (vs_cons (vs_if (vt_cmp (o_eq b.K b.un) (ve_var 0) ve_str rfl) (vs_one (vs_ret (ve_if (vt_cmp (o_eq b.K b.un) (ve_var 1) ve_str rfl) ve_str ve_str))) vs_nil) (vs_cons (vs_if (PW.pt (vw_and (vt_cmp (o_ind (g := PDx.gi K) b.K (un65 hr)) (ve_var 0) (ve_lst (o := false) (va_cons ve_str (va_cons ve_str va_nil))) rfl) (vw_and1 (vt_val (ve_call ((ok__law_p5_is_name Z).v hr (by decide)) b.gd b.tk rfl (va_cons (ve_var 1) va_nil)))))) (vs_one (vs_ret (ve_if (vt_cmp (o_ind (g := PDx.gi K) b.K (un65 hr)) (ve_var 1) (ve_var 2) rfl) ve_str ve_str))) vs_nil) (vs_cons (vs_if (vt_cmp (o_eq b.K b.un) (ve_var 0) ve_str rfl) (vs_one (vs_ret ve_str)) vs_nil) (vs_cons (vs_if (vt_cmp (o_ind (g := PDx.gi K) b.K (un65 hr)) (ve_var 1) (ve_lst (o := false) (va_cons ve_str (va_cons ve_str va_nil))) rfl) (vs_one (vs_ret ve_str)) vs_nil) (vs_one (vs_ret (ve_if (PW.pt (vw_and (vt_cmp (o_eq b.K b.un) (ve_var 1) ve_str rfl) (vw_and1 (vt_cmp o_gt (ve_var 3) ve_int rfl)))) ve_str ve_str))))))))))))) (gl__law_p5_next Z) (fun _ _ _ _ _ _ us hl => match us, hl with | [_, _, _, _], _ => rfl) rfl
theorem ok__law_p5_judged (Z : Gn w K mg base) : Rdy P w K mg base (PDx.gi K) "_law_p5_judged" 5 1 [] F__law_p5_judged := by
  obtain ⟨fd, FD⟩ := SaysV.fun_ Z.S 45
  have sc : FnScope ["_law_words", "_law_stage", "_law_farms", "_law_depth", "_law_k", "_law_behind"] ["_law_words"] (defScope (top 46)) := ⟨rfl, rfl, rfl, by decide +kernel, rfl, by decide +kernel, by decide +kernel⟩
  exact rdy_of FD (fn_D (k := 4) (m := m__law_p5_judged) (PD.giOk Z.ok) FD sc (fun cdv A outer s H E B hr b => (vs_cons (vs_set sc.nd rfl (Or.inl rfl) ve_str) (vs_cons (vs_set sc.nd rfl (Or.inl rfl) (ve_lst (o := false) va_nil)) (vs_cons (vs_set sc.nd rfl (Or.inl rfl) ve_int) (vs_cons (vs_forR1 b.ps b.calm rfl (fr_range Z) (va_cons (ve_callB (c_len b.K) rfl (fr_len Z) bt_len (va_cons (ve_var 0) va_nil)) va_nil) (vg_name sc.nd rfl (Or.inl rfl)) (vs_cons (vs_set sc.nd rfl (Or.inl rfl) (ve_call ((ok__law_p5_next Z).v hr (by decide)) b.gd b.tk rfl (va_cons (ve_var 1) (va_cons (ve_ix b.K (ve_var 0) (ve_var 4) fun _ _ => rfl) (va_cons (ve_var 2) (va_cons (ve_var 3) va_nil)))))) (vs_cons (vs_if (vt_cmp (o_eq b.K b.un) (ve_var 5) ve_str rfl) (vs_one (vs_ret (ve_bin (o_add false b.K) (ve_var 4) ve_int))) vs_nil) (vs_cons (vs_set sc.nd rfl (Or.inl rfl) (ve_if (vt_cmp (o_eq b.K b.un) (ve_var 5) ve_str rfl) (ve_bin (o_add false b.K) (ve_var 2) (ve_lst (o := false) (va_cons (ve_ix b.K (ve_var 0) (ve_var 4) fun _ _ => rfl) va_nil))) (ve_lst (o := false) va_nil))) (vs_cons (vs_set sc.nd rfl (Or.inl rfl) (ve_bin o_sub (ve_bin (o_add false b.K) (ve_var 3) (ve_callTy c_intS rfl (fr_int Z) bt_int (va_cons (ve_cmp (o_eq b.K b.un) (ve_ix b.K (ve_var 0) (ve_var 4) fun _ _ => rfl) ve_str rfl) va_nil))) (ve_callTy c_intS rfl (fr_int Z) bt_int (va_cons (ve_cmp (o_eq b.K b.un) (ve_ix b.K (ve_var 0) (ve_var 4) fun _ _ => rfl) ve_str rfl) va_nil)))) (vs_one (vs_set sc.nd rfl (Or.inl rfl) (ve_var 5)))))))) (vs_one (vs_ret (ve_if (PW.pt (vw_and (vt_cmp (o_in b.K (un65 hr)) (ve_var 1) (ve_lst (o := false) (va_cons ve_str (va_cons ve_str va_nil))) rfl) (vw_and1 (vt_cmp (o_eq b.K b.un) (ve_var 3) ve_int rfl)))) ve_int (ve_bin (o_add false b.K) (ve_callB (c_len b.K) rfl (fr_len Z) bt_len (va_cons (ve_var 0) va_nil)) ve_int)))))))))) (gl__law_p5_judged Z) (fun _ _ _ _ _ _ us hl => match us, hl with | [_], _ => rfl) rfl
theorem ok__law_p5_last (Z : Gn w K mg base) : Rdy P w K mg base (PDx.gi K) "_law_p5_last" 1 2 [] F__law_p5_last := by
  obtain ⟨fd, FD⟩ := SaysV.fun_ Z.S 46
  have sc : FnScope ["_law_words", "_law_joint", "_law_found", "_law_depth", "_law_k"] ["_law_words", "_law_joint"] (defScope (top 47)) := ⟨rfl, rfl, rfl, by decide +kernel, rfl, by decide +kernel, by decide +kernel⟩
  exact rdy_of FD (fn_D (k := 0) (m := m__law_p5_last) (PD.giOk Z.ok) FD sc (fun cdv A outer s H E B hr b => (vs_cons (vs_set sc.nd rfl (Or.inl rfl) (ve_neg ve_int)) (vs_cons (vs_set sc.nd rfl (Or.inl rfl) ve_int) (vs_cons (vs_forR1 b.ps b.calm rfl (fr_range Z) (va_cons (ve_callB (c_len b.K) rfl (fr_len Z) bt_len (va_cons (ve_var 0) va_nil)) va_nil) (vg_name sc.nd rfl (Or.inl rfl)) (vs_cons (vs_set sc.nd rfl (Or.inl rfl) (ve_bin o_sub (ve_bin (o_add false b.K) (ve_var 3) (ve_callTy c_intS rfl (fr_int Z) bt_int (va_cons (ve_cmp (o_eq b.K b.un) (ve_ix b.K (ve_var 0) (ve_var 4) fun _ _ => rfl) ve_str rfl) va_nil))) (ve_callTy c_intS rfl (fr_int Z) bt_int (va_cons (ve_cmp (o_eq b.K b.un) (ve_ix b.K (ve_var 0) (ve_var 4) fun _ _ => rfl) ve_str rfl) va_nil)))) (vs_one (vs_if (PW.pt (vw_and (vt_cmp (o_eq b.K b.un) (ve_var 3) ve_int rfl) (vw_and1 (vt_cmp (o_eq b.K b.un) (ve_ix b.K (ve_var 0) (ve_var 4) fun _ _ => rfl) (ve_var 1) rfl)))) (vs_one (vs_set sc.nd rfl (Or.inl rfl) (ve_var 4))) vs_nil)))) (vs_one (vs_ret (ve_var 2)))))))) (gl__law_p5_last Z) (fun _ _ _ _ _ _ us hl => match us, hl with | [_, _], _ => rfl) rfl
theorem z__law_p5_read (Z : Gn w K mg base) : Rdy P w K mg base (PDx.gi K) "_law_p5_read" 3 1 [] (fnOf 3 1 (fun _ _ => .stuck)) := by
  obtain ⟨fd, FD⟩ := SaysV.fun_ Z.S 47
  have sc : FnScope ["_law_words", "_law_joint", "_law_at"] ["_law_words"] (defScope (top 48)) := ⟨rfl, rfl, rfl, by decide +kernel, rfl, by decide +kernel, by decide +kernel⟩
  exact rdy_of FD (fn_D (k := 2) (m := fun _ _ => .stuck) (PD.giOk Z.ok) FD sc (fun cdv A outer s H E B hr b => vss_stuck)) (gl__law_p5_read Z) (fun _ _ _ _ _ _ us hl => match us, hl with | [_], _ => rfl) rfl
theorem st__law_p5_read (Z : Gn w K mg base) {G__law_p5_read : Fn} (e : Nat) (ih__law_p5_read : Rdy P w K mg base (PDx.gi K) "_law_p5_read" (3 + e) 1 [] G__law_p5_read) : Rdy P w K mg base (PDx.gi K) "_law_p5_read" (3 + e + 1) 1 [] (fnOf 3 1 (m__law_p5_read G__law_p5_read)) := by
  obtain ⟨fd, FD⟩ := SaysV.fun_ Z.S 47
  have sc : FnScope ["_law_words", "_law_joint", "_law_at"] ["_law_words"] (defScope (top 48)) := ⟨rfl, rfl, rfl, by decide +kernel, rfl, by decide +kernel, by decide +kernel⟩
  exact rdy_of FD (fn_D (k := 3 + e) (m := m__law_p5_read G__law_p5_read) (PD.giOk Z.ok) FD sc (fun cdv A outer s H E B hr b => (vs_cons (vs_for b.K b.ps b.calm (ve_lst (o := false) (va_cons ve_str (va_cons ve_str va_nil))) (vg_name sc.nd rfl (Or.inl rfl)) (vs_cons (vs_set sc.nd rfl (Or.inl rfl) (ve_call ((ok__law_p5_last Z).v hr (by omega)) b.gd b.tk rfl (va_cons (ve_var 0) (va_cons (ve_var 1) va_nil)))) (vs_one (vs_if (vt_cmp o_gt (ve_var 2) ve_int rfl) (vs_one (vs_ret (ve_tup (va_cons (ve_var 1) (va_cons (ve_call (ih__law_p5_read.v hr (Nat.le_refl _)) b.gd b.tk rfl (va_cons (ve_slice false b.K (ve_var 0) vo_none (vo_some (ve_var 2))) va_nil)) (va_cons (ve_call (ih__law_p5_read.v hr (Nat.le_refl _)) b.gd b.tk rfl (va_cons (ve_slice false b.K (ve_var 0) (vo_some (ve_bin (o_add false b.K) (ve_var 2) ve_int)) vo_none) va_nil)) va_nil)))))) vs_nil)))) (vs_cons (vs_if (vt_cmp (o_eq b.K b.un) (ve_ix b.K (ve_var 0) ve_int fun _ _ => rfl) ve_str rfl) (vs_one (vs_ret (ve_tup (va_cons ve_str (va_cons (ve_call (ih__law_p5_read.v hr (Nat.le_refl _)) b.gd b.tk rfl (va_cons (ve_slice false b.K (ve_var 0) (vo_some ve_int) vo_none) va_nil)) va_nil))))) vs_nil) (vs_cons (vs_if (vt_cmp (o_eq b.K b.un) (ve_ix b.K (ve_var 0) ve_int fun _ _ => rfl) ve_str rfl) (vs_one (vs_ret (ve_call (ih__law_p5_read.v hr (Nat.le_refl _)) b.gd b.tk rfl (va_cons (ve_slice false b.K (ve_var 0) (vo_some ve_int) (vo_some (ve_bin o_sub (ve_callB (c_len b.K) rfl (fr_len Z) bt_len (va_cons (ve_var 0) va_nil)) ve_int))) va_nil)))) vs_nil) (vs_cons (vs_if (vt_cmp (o_in b.K (un65 hr)) (ve_ix b.K (ve_var 0) ve_int fun _ _ => rfl) (ve_lst (o := false) (va_cons ve_str (va_cons ve_str va_nil))) rfl) (vs_one (vs_ret (ve_tup (va_cons (ve_ix b.K (ve_var 0) ve_int fun _ _ => rfl) (va_cons (ve_call ((ok__law_p5_share_of Z).v hr (by omega)) b.gd b.tk rfl (va_cons (ve_ix b.K (ve_var 0) ve_int fun _ _ => rfl) va_nil)) (va_cons (ve_callTy (c_tuple b.K) rfl (fr_tuple Z) bt_tuple (va_cons (ve_callB (c_sorted (g := PDx.gi K) false b.K) rfl (fr_sorted Z) bt_sorted (va_cons (ve_slice false b.K (ve_var 0) (vo_some ve_int) vo_none) va_nil)) va_nil)) va_nil)))))) vs_nil) (vs_cons (vs_if (vt_cmp (o_in b.K (un65 hr)) (ve_ix b.K (ve_var 0) ve_int fun _ _ => rfl) (ve_lst (o := false) (va_cons ve_str (va_cons ve_str va_nil))) rfl) (vs_one (vs_ret (ve_tup (va_cons (ve_ix b.K (ve_var 0) ve_int fun _ _ => rfl) (va_cons (ve_callTy c_intS rfl (fr_int Z) bt_int (va_cons (ve_ix b.K (ve_var 0) ve_int fun _ _ => rfl) va_nil)) va_nil))))) vs_nil) (vs_one (vs_ret (ve_callTy (c_tuple b.K) rfl (fr_tuple Z) bt_tuple (va_cons (ve_var 0) va_nil))))))))))) (gl__law_p5_read Z) (fun _ _ _ _ _ _ us hl => match us, hl with | [_], _ => rfl) rfl
theorem oks__law_p5_read (Z : Gn w K mg base) : ∀ e : Nat, (Rdy P w K mg base (PDx.gi K) "_law_p5_read" (3 + e) 1 [] (R__law_p5_read e))
  | 0 => z__law_p5_read Z
  | e + 1 => st__law_p5_read Z e (oks__law_p5_read Z e)
theorem ok__law_p5_read (Z : Gn w K mg base) : Rdy P w K mg base (PDx.gi K) "_law_p5_read" 67 1 [] F__law_p5_read := (oks__law_p5_read Z 64)
theorem ok_BadClaim_xinitx (Z : Gn w K mg base) : RdyE P w K mg base (PDx.gi K) "BadClaim" 2 1 1 (mkE "word" "class_name" "BadClaim") := by
  obtain ⟨fd, FD⟩ := SaysV.fun_ Z.S 1
  have sc : FnScope ["self", "word"] ["self", "word"] (defScope (sub 4 0)) := ⟨rfl, rfl, rfl, by decide +kernel, rfl, by decide +kernel, by decide +kernel⟩
  have T := kExo_ok (Z.S.fact 63)
  have M := He.meth_ok (Z.S.fact 64)
  exact ⟨_, fd, _, _, T, M.at_, beq_iff_eq.mp M.fn, fn_E FD sc T (He.noat_ok (Z.S.fact 65)) (He.noat_ok (Z.S.fact 66)) (Or.inl rfl) (Or.inl rfl) rfl rfl rfl rfl, FD.bindsN (ps := ["self", "word"]) (fun _ _ _ _ _ _ us hl => match us, hl with | [_, _], _ => rfl), gl_BadClaim Z, by decide, mkE_ok⟩
theorem ok_Bracket_whole (Z : Gn w K mg base) : RdyM P w K mg base (PDx.gi K) 6 "whole" 1 0 [] F_Bracket_whole := by
  obtain ⟨fd, FD⟩ := SaysV.fun_ Z.S 12
  have sc : FnScope ["self"] ["self"] (defScope (sub 23 2)) := ⟨rfl, rfl, rfl, by decide +kernel, rfl, by decide +kernel, by decide +kernel⟩
  exact rdyM_of (g := PDx.gi K) (c := 6) FD (fn_D (k := 0) (m := m_Bracket_whole) (PD.giOk Z.ok) FD sc (fun cdv A outer s H E B hr b => (vs_one (vs_ret (ve_if (vt_cmp o_is (ve_fld b.G b.K (ve_var 0)) ve_non rfl) (ve_fld b.G b.K (ve_var 0)) (ve_tup (va_cons ve_str (va_cons (ve_fld b.G b.K (ve_var 0)) (va_cons (ve_fld b.G b.K (ve_var 0)) va_nil))))))))) (He.meth_ok (Z.S.fact 69)) (show decide (6 ∈ PDx.cls) = true by decide) (fun _ _ _ _ _ _ us hl => match us, hl with | [_], _ => rfl) rfl
theorem ok_Bracket_end_term (Z : Gn w K mg base) : RdyM P w K mg base (PDx.gi K) 6 "end_term" 3 0 [] F_Bracket_end_term := by
  obtain ⟨fd, FD⟩ := SaysV.fun_ Z.S 13
  have sc : FnScope ["self"] ["self"] (defScope (sub 23 3)) := ⟨rfl, rfl, rfl, by decide +kernel, rfl, by decide +kernel, by decide +kernel⟩
  exact rdyM_of (g := PDx.gi K) (c := 6) FD (fn_D (k := 2) (m := m_Bracket_end_term) (PD.giOk Z.ok) FD sc (fun cdv A outer s H E B hr b => (vs_cons (vs_setfldC b.G b.K (pe_var (i := 0) rfl (Or.inl rfl)) (ve_meth0 b ((ok_Bracket_whole Z).v hr (by decide)) (ve_var 0))) (vs_one (vs_setfldC b.G b.K (pe_var (i := 0) rfl (Or.inl rfl)) ve_non))))) (He.meth_ok (Z.S.fact 70)) (show decide (6 ∈ PDx.cls) = true by decide) (fun _ _ _ _ _ _ us hl => match us, hl with | [_], _ => rfl) rfl
theorem ok_Reader_expect (Z : Gn w K mg base) : RdyM P w K mg base (PDx.gi K) 7 "expect" 3 1 [] F_Reader_expect := by
  obtain ⟨fd, FD⟩ := SaysV.fun_ Z.S 17
  have sc : FnScope ["self", "good"] ["self", "good"] (defScope (sub 24 3)) := ⟨rfl, rfl, rfl, by decide +kernel, rfl, by decide +kernel, by decide +kernel⟩
  exact rdyM_of (g := PDx.gi K) (c := 7) FD (fn_D (k := 2) (m := m_Reader_expect) (PD.giOk Z.ok) FD sc (fun cdv A outer s H E B hr b => (vs_cons (vs_if (vt_not (vt_val (ve_var 1))) (vs_one (vs_raise b ((ok_BadClaim_xinitx Z).v hr (by decide)) rfl (va_cons (ve_bin (o_add false b.K) (ve_fld b.G b.K (ve_var 0)) ve_int) va_nil))) vs_nil) (vs_one (vs_augfldC b.G b.K (pe_var (i := 0) rfl (Or.inl rfl)) ve_int))))) (He.meth_ok (Z.S.fact 74)) (show decide (7 ∈ PDx.cls) = true by decide) (fun _ _ _ _ _ _ us hl => match us, hl with | [_, _], _ => rfl) rfl
theorem ok_Reader_is_at_end (Z : Gn w K mg base) : RdyM P w K mg base (PDx.gi K) 7 "is_at_end" 1 0 [] F_Reader_is_at_end := by
  obtain ⟨fd, FD⟩ := SaysV.fun_ Z.S 15
  have sc : FnScope ["self"] ["self"] (defScope (sub 24 1)) := ⟨rfl, rfl, rfl, by decide +kernel, rfl, by decide +kernel, by decide +kernel⟩
  exact rdyM_of (g := PDx.gi K) (c := 7) FD (fn_D (k := 0) (m := m_Reader_is_at_end) (PD.giOk Z.ok) FD sc (fun cdv A outer s H E B hr b => (vs_one (vs_ret (ve_cmp (o_eq b.K b.un) (ve_fld b.G b.K (ve_var 0)) (ve_callB (c_len b.K) rfl (fr_len Z) bt_len (va_cons (ve_fld b.G b.K (ve_var 0)) va_nil)) rfl))))) (He.meth_ok (Z.S.fact 72)) (show decide (7 ∈ PDx.cls) = true by decide) (fun _ _ _ _ _ _ us hl => match us, hl with | [_], _ => rfl) rfl
theorem ok_Reader_now (Z : Gn w K mg base) : RdyM P w K mg base (PDx.gi K) 7 "now" 3 0 [] F_Reader_now := by
  obtain ⟨fd, FD⟩ := SaysV.fun_ Z.S 16
  have sc : FnScope ["self"] ["self"] (defScope (sub 24 2)) := ⟨rfl, rfl, rfl, by decide +kernel, rfl, by decide +kernel, by decide +kernel⟩
  exact rdyM_of (g := PDx.gi K) (c := 7) FD (fn_D (k := 2) (m := m_Reader_now) (PD.giOk Z.ok) FD sc (fun cdv A outer s H E B hr b => (vs_cons (vs_if (vt_val (ve_meth0 b ((ok_Reader_is_at_end Z).v hr (by decide)) (ve_var 0))) (vs_one (vs_raise b ((ok_BadClaim_xinitx Z).v hr (by decide)) rfl (va_cons (ve_bin (o_add false b.K) (ve_fld b.G b.K (ve_var 0)) ve_int) va_nil))) vs_nil) (vs_one (vs_ret (ve_ix b.K (ve_fld b.G b.K (ve_var 0)) (ve_fld b.G b.K (ve_var 0)) fun _ _ => rfl)))))) (He.meth_ok (Z.S.fact 73)) (show decide (7 ∈ PDx.cls) = true by decide) (fun _ _ _ _ _ _ us hl => match us, hl with | [_], _ => rfl) rfl
theorem ok_Bracket_add_factor (Z : Gn w K mg base) : RdyM P w K mg base (PDx.gi K) 6 "add_factor" 1 1 [] F_Bracket_add_factor := by
  obtain ⟨fd, FD⟩ := SaysV.fun_ Z.S 11
  have sc : FnScope ["self", "claim", "_"] ["self", "claim"] (defScope (sub 23 1)) := ⟨rfl, rfl, rfl, by decide +kernel, rfl, by decide +kernel, by decide +kernel⟩
  exact rdyM_of (g := PDx.gi K) (c := 6) FD (fn_D (k := 0) (m := m_Bracket_add_factor) (PD.giOk Z.ok) FD sc (fun cdv A outer s H E B hr b => (vs_cons (vs_forR1 b.ps b.calm rfl (fr_range Z) (va_cons (ve_fld b.G b.K (ve_var 0)) va_nil) (vg_name sc.nd rfl (Or.inl rfl)) (vs_one (vs_set sc.nd rfl (Or.inl rfl) (ve_tup (va_cons ve_str (va_cons (ve_var 1) va_nil)))))) (vs_cons (vs_setfldC b.G b.K (pe_var (i := 0) rfl (Or.inl rfl)) ve_int) (vs_one (vs_setfldC b.G b.K (pe_var (i := 0) rfl (Or.inl rfl)) (ve_if (vt_cmp o_is (ve_fld b.G b.K (ve_var 0)) ve_non rfl) (ve_var 1) (ve_tup (va_cons ve_str (va_cons (ve_fld b.G b.K (ve_var 0)) (va_cons (ve_var 1) va_nil))))))))))) (He.meth_ok (Z.S.fact 68)) (show decide (6 ∈ PDx.cls) = true by decide) (fun _ _ _ _ _ _ us hl => match us, hl with | [_, _], _ => rfl) rfl
theorem ok_Reader_read_closing (Z : Gn w K mg base) : RdyM P w K mg base (PDx.gi K) 7 "read_closing" 5 0 [] F_Reader_read_closing := by
  obtain ⟨fd, FD⟩ := SaysV.fun_ Z.S 23
  have sc : FnScope ["self", "claim"] ["self"] (defScope (sub 24 9)) := ⟨rfl, rfl, rfl, by decide +kernel, rfl, by decide +kernel, by decide +kernel⟩
  exact rdyM_of (g := PDx.gi K) (c := 7) FD (fn_D (k := 4) (m := m_Reader_read_closing) (PD.giOk Z.ok) FD sc (fun cdv A outer s H E B hr b => (vs_one (vs_while 20000 b.ps (PW.pt (vw_and (vt_not (vt_val (ve_meth0 b ((ok_Reader_is_at_end Z).v hr (by decide)) (ve_var 0)))) (vw_and (vt_cmp (o_eq b.K b.un) (ve_meth0 b ((ok_Reader_now Z).v hr (by decide)) (ve_var 0)) ve_str rfl) (vw_and1 (vt_cmp o_gt (ve_callB (c_len b.K) rfl (fr_len Z) bt_len (va_cons (ve_fld b.G b.K (ve_var 0)) va_nil)) ve_int rfl))))) (vs_cons (vs_set sc.nd rfl (Or.inl rfl) (ve_meth0 b ((ok_Bracket_whole Z).v hr (by decide)) (ve_metM0 b.K mm_pop (ve_fld b.G b.K (ve_var 0))))) (vs_cons (vs_expr (ve_meth b ((ok_Bracket_add_factor Z).v hr (by decide)) (ve_ix b.K (ve_fld b.G b.K (ve_var 0)) (ve_neg ve_int) fun _ _ => rfl) (va_cons (ve_var 1) va_nil))) (vs_one (vs_augfldC b.G b.K (pe_var (i := 0) rfl (Or.inl rfl)) ve_int)))))))) (He.meth_ok (Z.S.fact 80)) (show decide (7 ∈ PDx.cls) = true by decide) (fun _ _ _ _ _ _ us hl => match us, hl with | [_], _ => rfl) rfl
theorem ok_Bracket_xinitx (Z : Gn w K mg base) : RdyI P w K mg base (PDx.gi K) 6 1 0 [] FI_Bracket_xinitx := by
  obtain ⟨fd, FD⟩ := SaysV.fun_ Z.S 10
  have sc : FnScope ["self"] ["self"] (defScope (sub 23 0)) := ⟨rfl, rfl, rfl, by decide +kernel, rfl, by decide +kernel, by decide +kernel⟩
  have bn : Binds K fd ["self"] [] := FD.bindsN (fun _ _ _ _ _ _ us hl => match us, hl with | [_], _ => rfl)
  exact ⟨_, fd, _, _, [], [], fn_I (c := 6) (k := 0) (m := m_Bracket_xinitx) (PD.giOk Z.ok) FD sc (fun cdv A outer s H E B hr b => (vs_cons (vs_setfld b.G b.K (pe_var (i := 0) rfl (Or.inl rfl)) ve_non) (vs_cons (vs_setfld b.G b.K (pe_var (i := 0) rfl (Or.inl rfl)) ve_non) (vs_one (vs_setfld b.G b.K (pe_var (i := 0) rfl (Or.inl rfl)) ve_int))))), He.mkr_ok (Z.S.fact 67), bn, .nil, fun _ _ => rfl, rfl⟩
theorem ok_Reader_past (Z : Gn w K mg base) : RdyM P w K mg base (PDx.gi K) 7 "past" 5 1 [] F_Reader_past := by
  obtain ⟨fd, FD⟩ := SaysV.fun_ Z.S 19
  have sc : FnScope ["self", "worth"] ["self", "worth"] (defScope (sub 24 5)) := ⟨rfl, rfl, rfl, by decide +kernel, rfl, by decide +kernel, by decide +kernel⟩
  exact rdyM_of (g := PDx.gi K) (c := 7) FD (fn_D (k := 4) (m := m_Reader_past) (PD.giOk Z.ok) FD sc (fun cdv A outer s H E B hr b => (vs_cons (vs_expr (ve_meth b ((ok_Reader_expect Z).v hr (by decide)) (ve_var 0) (va_cons (ve_cmp o_isnot (ve_var 1) ve_non rfl) va_nil))) (vs_one (vs_ret (ve_var 1)))))) (He.meth_ok (Z.S.fact 76)) (show decide (7 ∈ PDx.cls) = true by decide) (fun _ _ _ _ _ _ us hl => match us, hl with | [_, _], _ => rfl) rfl
theorem ok_is_name (Z : Gn w K mg base) : Rdy P w K mg base (PDx.gi K) "is_name" 1 1 [] F_is_name := by
  obtain ⟨fd, FD⟩ := SaysV.fun_ Z.S 5
  have sc : FnScope ["thing", "sign"] ["thing"] (defScope (top 13)) := ⟨rfl, rfl, rfl, by decide +kernel, rfl, by decide +kernel, by decide +kernel⟩
  exact rdy_of FD (fn_D (k := 0) (m := m_is_name) (PD.giOk Z.ok) FD sc (fun cdv A outer s H E B hr b => (vs_cons (vs_if (PW.pt (vw_or (vt_not (vt_val (ve_isi b.G b.K (.bt "str") rfl (fr_isinstance Z) (ve_var 0) (pe_bltn (v := .ty "str") rfl (fr_str Z) bt_str rfl)))) (vw_or1 (vt_not (vt_chain o_le o_le ve_int (ve_callB (c_len b.K) rfl (fr_len Z) bt_len (va_cons (ve_var 0) va_nil)) (ve_glob rfl (gd_LONGEST_NAME Z))))))) (vs_one (vs_ret ve_bl)) vs_nil) (vs_cons (vs_if (PW.pt (vw_or (vt_cmp (o_nin b.K (un65 hr)) (ve_ix b.K (ve_var 0) ve_int fun _ _ => rfl) (ve_glob rfl (gd_LETTERS Z)) rfl) (vw_or1 (vt_cmp (o_in b.K (un65 hr)) (ve_var 0) (ve_glob rfl (gd_RESERVED Z)) rfl)))) (vs_one (vs_ret ve_bl)) vs_nil) (vs_one (vs_ret (ve_callB (c_all b.K b.calm) rfl (fr_all Z) bt_all (va_cons (ve_lcS (own := [("sign", 1)]) false b sc.nd (ve_var 0) (blkOk_by (own := [("sign", 1)]) rfl) (cg_name (i := 1) (by decide)) (fun _ _ _ _ _ => (pg_name sc.nd rfl (Or.inl rfl))) (fun _ _ _ _ _ => vts_nil) (fun _ _ _ _ _ => (ve_cmp (o_in b.blk.K (un65 hr)) (ve_var 1) (ve_glob rfl (gd_SIGNS Z)) rfl))) va_nil)))))))) (gl_is_name Z) (fun _ _ _ _ _ _ us hl => match us, hl with | [_], _ => rfl) rfl
theorem ok_Reader_read_name (Z : Gn w K mg base) : RdyM P w K mg base (PDx.gi K) 7 "read_name" 5 0 [] F_Reader_read_name := by
  obtain ⟨fd, FD⟩ := SaysV.fun_ Z.S 18
  have sc : FnScope ["self", "word"] ["self"] (defScope (sub 24 4)) := ⟨rfl, rfl, rfl, by decide +kernel, rfl, by decide +kernel, by decide +kernel⟩
  exact rdyM_of (g := PDx.gi K) (c := 7) FD (fn_D (k := 4) (m := m_Reader_read_name) (PD.giOk Z.ok) FD sc (fun cdv A outer s H E B hr b => (vs_cons (vs_set sc.nd rfl (Or.inl rfl) (ve_meth0 b ((ok_Reader_now Z).v hr (by decide)) (ve_var 0))) (vs_cons (vs_expr (ve_meth b ((ok_Reader_expect Z).v hr (by decide)) (ve_var 0) (va_cons (ve_call ((ok_is_name Z).v hr (by decide)) b.gd b.tk rfl (va_cons (ve_var 1) va_nil)) va_nil))) (vs_one (vs_ret (ve_var 1))))))) (He.meth_ok (Z.S.fact 75)) (show decide (7 ∈ PDx.cls) = true by decide) (fun _ _ _ _ _ _ us hl => match us, hl with | [_], _ => rfl) rfl
theorem ok_Reader_read_farms (Z : Gn w K mg base) : RdyM P w K mg base (PDx.gi K) 7 "read_farms" 7 0 [] F_Reader_read_farms := by
  obtain ⟨fd, FD⟩ := SaysV.fun_ Z.S 20
  have sc : FnScope ["self", "farms"] ["self"] (defScope (sub 24 6)) := ⟨rfl, rfl, rfl, by decide +kernel, rfl, by decide +kernel, by decide +kernel⟩
  exact rdyM_of (g := PDx.gi K) (c := 7) FD (fn_D (k := 6) (m := m_Reader_read_farms) (PD.giOk Z.ok) FD sc (fun cdv A outer s H E B hr b => (vs_cons (vs_set sc.nd rfl (Or.inl rfl) (ve_lst (o := true) (va_cons (ve_meth0 b ((ok_Reader_read_name Z).v hr (by decide)) (ve_var 0)) va_nil))) (vs_cons (vs_while 20000 b.ps (PW.pt (vw_and (vt_not (vt_val (ve_meth0 b ((ok_Reader_is_at_end Z).v hr (by decide)) (ve_var 0)))) (vw_and (vt_val (ve_call ((ok_is_name Z).v hr (by decide)) b.gd b.tk rfl (va_cons (ve_meth0 b ((ok_Reader_now Z).v hr (by decide)) (ve_var 0)) va_nil))) (vw_and1 (vt_cmp (o_nin b.K (un65 hr)) (ve_meth0 b ((ok_Reader_now Z).v hr (by decide)) (ve_var 0)) (ve_var 1) rfl))))) (vs_one (vs_append b.K (pe_var (i := 1) rfl (Or.inl rfl)) (ve_meth0 b ((ok_Reader_read_name Z).v hr (by decide)) (ve_var 0))))) (vss_frz 1 (vs_one (vs_ret (ve_callTy (c_tuple b.K) rfl (fr_tuple Z) bt_tuple (va_cons (ve_callB (c_sorted (g := PDx.gi K) false b.K) rfl (fr_sorted Z) bt_sorted (va_cons (ve_var 1) va_nil)) va_nil))))))))) (He.meth_ok (Z.S.fact 77)) (show decide (7 ∈ PDx.cls) = true by decide) (fun _ _ _ _ _ _ us hl => match us, hl with | [_], _ => rfl) rfl
theorem ok_number_told (Z : Gn w K mg base) : Rdy P w K mg base (PDx.gi K) "number_told" 1 1 [] F_number_told := by
  obtain ⟨fd, FD⟩ := SaysV.fun_ Z.S 7
  have sc : FnScope ["word", "sign"] ["word"] (defScope (top 20)) := ⟨rfl, rfl, rfl, by decide +kernel, rfl, by decide +kernel, by decide +kernel⟩
  exact rdy_of FD (fn_D (k := 0) (m := m_number_told) (PD.giOk Z.ok) FD sc (fun cdv A outer s H E B hr b => (vs_cons (vs_if (PW.pt (vw_or (vt_not (vt_chain o_le o_le ve_int (ve_callB (c_len b.K) rfl (fr_len Z) bt_len (va_cons (ve_var 0) va_nil)) (ve_glob rfl (gd_MOST_DIGITS Z)))) (vw_or1 (vt_not (vt_val (ve_callB (c_all b.K b.calm) rfl (fr_all Z) bt_all (va_cons (ve_lcS (own := [("sign", 1)]) false b sc.nd (ve_var 0) (blkOk_by (own := [("sign", 1)]) rfl) (cg_name (i := 1) (by decide)) (fun _ _ _ _ _ => (pg_name sc.nd rfl (Or.inl rfl))) (fun _ _ _ _ _ => vts_nil) (fun _ _ _ _ _ => (ve_cmp (o_in b.blk.K (un65 hr)) (ve_var 1) (ve_glob rfl (gd_DIGITS Z)) rfl))) va_nil))))))) (vs_one (vs_ret ve_non)) vs_nil) (vs_cons (vs_if (PW.pt (vw_and (vt_cmp (o_eq b.K b.un) (ve_ix b.K (ve_var 0) ve_int fun _ _ => rfl) ve_str rfl) (vw_and1 (vt_cmp (o_ne b.K b.un) (ve_var 0) ve_str rfl)))) (vs_one (vs_ret ve_non)) vs_nil) (vs_one (vs_ret (ve_callTy c_intS rfl (fr_int Z) bt_int (va_cons (ve_var 0) va_nil)))))))) (gl_number_told Z) (fun _ _ _ _ _ _ us hl => match us, hl with | [_], _ => rfl) rfl
theorem ok_day_told (Z : Gn w K mg base) : Rdy P w K mg base (PDx.gi K) "day_told" 2 1 [] F_day_told := by
  obtain ⟨fd, FD⟩ := SaysV.fun_ Z.S 9
  have sc : FnScope ["word", "day"] ["word"] (defScope (top 22)) := ⟨rfl, rfl, rfl, by decide +kernel, rfl, by decide +kernel, by decide +kernel⟩
  exact rdy_of FD (fn_D (k := 1) (m := m_day_told) (PD.giOk Z.ok) FD sc (fun cdv A outer s H E B hr b => (vs_cons (vs_set sc.nd rfl (Or.inl rfl) (ve_call ((ok_number_told Z).v hr (by decide)) b.gd b.tk rfl (va_cons (ve_var 0) va_nil))) (vs_one (vs_ret (ve_if (PW.pt (vw_or (vt_cmp o_is (ve_var 1) ve_non rfl) (vw_or1 (vt_cmp o_gt (ve_var 1) (ve_glob rfl (gd_LAST_DAY Z)) rfl)))) ve_non (ve_var 1))))))) (gl_day_told Z) (fun _ _ _ _ _ _ us hl => match us, hl with | [_], _ => rfl) rfl
theorem ok_lowest (Z : Gn w K mg base) : Rdy P w K mg base (PDx.gi K) "lowest" 1 2 [] F_lowest := by
  obtain ⟨fd, FD⟩ := SaysV.fun_ Z.S 6
  have sc : FnScope ["above", "below", "common"] ["above", "below"] (defScope (top 15)) := ⟨rfl, rfl, rfl, by decide +kernel, rfl, by decide +kernel, by decide +kernel⟩
  exact rdy_of FD (fn_D (k := 0) (m := m_lowest) (PD.giOk Z.ok) FD sc (fun cdv A outer s H E B hr b => (vs_cons (vs_set sc.nd rfl (Or.inl rfl) (ve_callG c_gcd rfl (gb_gcd Z) (va_cons (ve_var 0) (va_cons (ve_var 1) va_nil)))) (vs_cons (vs_if (vt_cmp o_lt (ve_var 1) ve_int rfl) (vs_one (vs_set sc.nd rfl (Or.inl rfl) (ve_neg (ve_var 2)))) vs_nil) (vs_one (vs_ret (ve_tup (va_cons (ve_bin o_div (ve_var 0) (ve_var 2)) (va_cons (ve_bin o_div (ve_var 1) (ve_var 2)) va_nil))))))))) (gl_lowest Z) (fun _ _ _ _ _ _ us hl => match us, hl with | [_, _], _ => rfl) rfl
theorem ok_share_told (Z : Gn w K mg base) : Rdy P w K mg base (PDx.gi K) "share_told" 2 1 [] F_share_told := by
  obtain ⟨fd, FD⟩ := SaysV.fun_ Z.S 8
  have sc : FnScope ["word", "above", "_", "below", "first", "second"] ["word"] (defScope (top 21)) := ⟨rfl, rfl, rfl, by decide +kernel, rfl, by decide +kernel, by decide +kernel⟩
  exact rdy_of FD (fn_D (k := 1) (m := m_share_told) (PD.giOk Z.ok) FD sc (fun cdv A outer s H E B hr b => (vs_cons (vs_unp (ve_part (ve_var 0) ve_str) (vg_tup b.K b.calm (vg_cons (vg_name sc.nd rfl (Or.inl rfl)) (vg_cons (vg_name sc.nd rfl (Or.inl rfl)) (vg_cons (vg_name sc.nd rfl (Or.inl rfl)) vg_nil))))) (vs_cons (vs_par b.calm sc.nd rfl rfl (by decide) rfl rfl (va_cons (ve_call ((ok_number_told Z).v hr (by decide)) b.gd b.tk rfl (va_cons (ve_var 1) va_nil)) (va_cons (ve_call ((ok_number_told Z).v hr (by decide)) b.gd b.tk rfl (va_cons (ve_var 3) va_nil)) va_nil)) rfl) (vs_cons (vs_if (PW.pt (vw_or (vt_cmp o_is (ve_var 4) ve_non rfl) (vw_or (vt_cmp o_is (ve_var 5) ve_non rfl) (vw_or (vt_cmp o_lt (ve_var 5) ve_int rfl) (vw_or1 (vt_cmp o_gt (ve_var 4) (ve_var 5) rfl)))))) (vs_one (vs_ret ve_non)) vs_nil) (vs_one (vs_ret (ve_call ((ok_lowest Z).v hr (by decide)) b.gd b.tk rfl (va_cons (ve_var 4) (va_cons (ve_var 5) va_nil)))))))))) (gl_share_told Z) (fun _ _ _ _ _ _ us hl => match us, hl with | [_], _ => rfl) rfl
theorem ok_Reader_read_plain (Z : Gn w K mg base) : RdyM P w K mg base (PDx.gi K) 7 "read_plain" 9 0 [] F_Reader_read_plain := by
  obtain ⟨fd, FD⟩ := SaysV.fun_ Z.S 21
  have sc : FnScope ["self", "word", "share"] ["self"] (defScope (sub 24 7)) := ⟨rfl, rfl, rfl, by decide +kernel, rfl, by decide +kernel, by decide +kernel⟩
  exact rdyM_of (g := PDx.gi K) (c := 7) FD (fn_D (k := 8) (m := m_Reader_read_plain) (PD.giOk Z.ok) FD sc (fun cdv A outer s H E B hr b => (vs_cons (vs_set sc.nd rfl (Or.inl rfl) (ve_meth0 b ((ok_Reader_now Z).v hr (by decide)) (ve_var 0))) (vs_cons (vs_expr (ve_meth b ((ok_Reader_expect Z).v hr (by decide)) (ve_var 0) (va_cons (ve_cmp (o_in b.K (un65 hr)) (ve_var 1) (ve_tup (va_cons ve_str (va_cons ve_str (va_cons ve_str (va_cons ve_str (va_cons ve_str (va_cons ve_str (va_cons ve_str va_nil)))))))) rfl) va_nil))) (vs_cons (vs_if (vt_cmp (o_in b.K (un65 hr)) (ve_var 1) (ve_tup (va_cons ve_str (va_cons ve_str va_nil))) rfl) (vs_one (vs_ret (ve_tup (va_cons (ve_var 1) (va_cons (ve_meth0 b ((ok_Reader_read_name Z).v hr (by decide)) (ve_var 0)) va_nil))))) vs_nil) (vs_cons (vs_if (vt_cmp (o_in b.K (un65 hr)) (ve_var 1) (ve_tup (va_cons ve_str (va_cons ve_str va_nil))) rfl) (vs_cons (vs_set sc.nd rfl (Or.inl rfl) (ve_meth b ((ok_Reader_past Z).v hr (by decide)) (ve_var 0) (va_cons (ve_call ((ok_share_told Z).v hr (by decide)) b.gd b.tk rfl (va_cons (ve_meth0 b ((ok_Reader_now Z).v hr (by decide)) (ve_var 0)) va_nil)) va_nil))) (vs_cons (vs_expr (ve_meth b ((ok_Reader_expect Z).v hr (by decide)) (ve_var 0) (va_cons (ve_cmp (o_eq b.K b.un) (ve_meth0 b ((ok_Reader_now Z).v hr (by decide)) (ve_var 0)) ve_str rfl) va_nil))) (vs_one (vs_ret (ve_tup (va_cons (ve_var 1) (va_cons (ve_var 2) (va_cons (ve_meth0 b ((ok_Reader_read_farms Z).v hr (by decide)) (ve_var 0)) va_nil)))))))) vs_nil) (vs_cons (vs_if (vt_cmp (o_in b.K (un65 hr)) (ve_var 1) (ve_tup (va_cons ve_str (va_cons ve_str va_nil))) rfl) (vs_one (vs_ret (ve_tup (va_cons (ve_var 1) (va_cons (ve_meth b ((ok_Reader_past Z).v hr (by decide)) (ve_var 0) (va_cons (ve_call ((ok_day_told Z).v hr (by decide)) b.gd b.tk rfl (va_cons (ve_meth0 b ((ok_Reader_now Z).v hr (by decide)) (ve_var 0)) va_nil)) va_nil)) va_nil))))) vs_nil) (vs_one (vs_ret (ve_tup (va_cons (ve_var 1) va_nil))))))))))) (He.meth_ok (Z.S.fact 78)) (show decide (7 ∈ PDx.cls) = true by decide) (fun _ _ _ _ _ _ us hl => match us, hl with | [_], _ => rfl) rfl
theorem ok_Reader_read_factor (Z : Gn w K mg base) : RdyM P w K mg base (PDx.gi K) 7 "read_factor" 11 0 [] F_Reader_read_factor := by
  obtain ⟨fd, FD⟩ := SaysV.fun_ Z.S 22
  have sc : FnScope ["self"] ["self"] (defScope (sub 24 8)) := ⟨rfl, rfl, rfl, by decide +kernel, rfl, by decide +kernel, by decide +kernel⟩
  exact rdyM_of (g := PDx.gi K) (c := 7) FD (fn_D (k := 10) (m := m_Reader_read_factor) (PD.giOk Z.ok) FD sc (fun cdv A outer s H E B hr b => (vs_cons (vs_while 20000 b.ps (vt_cmp (o_in b.K (un65 hr)) (ve_meth0 b ((ok_Reader_now Z).v hr (by decide)) (ve_var 0)) (ve_tup (va_cons ve_str (va_cons ve_str va_nil))) rfl) (vs_cons (vs_if (vt_cmp (o_eq b.K b.un) (ve_meth0 b ((ok_Reader_now Z).v hr (by decide)) (ve_var 0)) ve_str rfl) (vs_one (vs_augfldE b.G b.K (ve_ix b.K (ve_fld b.G b.K (ve_var 0)) (ve_neg ve_int) fun _ _ => rfl) ve_int)) (vs_one (vs_expr (ve_metM b.K mm_append (ve_fld b.G b.K (ve_var 0)) (va_cons (ve_makeC0 b ((ok_Bracket_xinitx Z).v hr (by decide)) rfl (gl_Bracket Z)) va_nil))))) (vs_one (vs_augfldC b.G b.K (pe_var (i := 0) rfl (Or.inl rfl)) ve_int)))) (vs_one (vs_expr (ve_meth b ((ok_Bracket_add_factor Z).v hr (by decide)) (ve_ix b.K (ve_fld b.G b.K (ve_var 0)) (ve_neg ve_int) fun _ _ => rfl) (va_cons (ve_meth0 b ((ok_Reader_read_plain Z).v hr (by decide)) (ve_var 0)) va_nil))))))) (He.meth_ok (Z.S.fact 79)) (show decide (7 ∈ PDx.cls) = true by decide) (fun _ _ _ _ _ _ us hl => match us, hl with | [_], _ => rfl) rfl
theorem ok_Reader_read_all (Z : Gn w K mg base) : RdyM P w K mg base (PDx.gi K) 7 "read_all" 13 0 [] F_Reader_read_all := by
  obtain ⟨fd, FD⟩ := SaysV.fun_ Z.S 24
  have sc : FnScope ["self", "word"] ["self"] (defScope (sub 24 10)) := ⟨rfl, rfl, rfl, by decide +kernel, rfl, by decide +kernel, by decide +kernel⟩
  exact rdyM_of (g := PDx.gi K) (c := 7) FD (fn_D (k := 12) (m := m_Reader_read_all) (PD.giOk Z.ok) FD sc (fun cdv A outer s H E B hr b => (vs_cons (vs_expr (ve_meth0 b ((ok_Reader_read_factor Z).v hr (by decide)) (ve_var 0))) (vs_cons (vs_expr (ve_meth0 b ((ok_Reader_read_closing Z).v hr (by decide)) (ve_var 0))) (vs_cons (vs_while 20000 b.ps (vt_not (vt_val (ve_meth0 b ((ok_Reader_is_at_end Z).v hr (by decide)) (ve_var 0)))) (vs_cons (vs_set sc.nd rfl (Or.inl rfl) (ve_meth0 b ((ok_Reader_now Z).v hr (by decide)) (ve_var 0))) (vs_cons (vs_expr (ve_meth b ((ok_Reader_expect Z).v hr (by decide)) (ve_var 0) (va_cons (ve_cmp (o_in b.K (un65 hr)) (ve_var 1) (ve_tup (va_cons ve_str (va_cons ve_str va_nil))) rfl) va_nil))) (vs_cons (vs_if (vt_cmp (o_eq b.K b.un) (ve_var 1) ve_str rfl) (vs_one (vs_expr (ve_meth0 b ((ok_Bracket_end_term Z).v hr (by decide)) (ve_ix b.K (ve_fld b.G b.K (ve_var 0)) (ve_neg ve_int) fun _ _ => rfl)))) vs_nil) (vs_cons (vs_expr (ve_meth0 b ((ok_Reader_read_factor Z).v hr (by decide)) (ve_var 0))) (vs_one (vs_expr (ve_meth0 b ((ok_Reader_read_closing Z).v hr (by decide)) (ve_var 0))))))))) (vs_cons (vs_if (vt_cmp o_gt (ve_callB (c_len b.K) rfl (fr_len Z) bt_len (va_cons (ve_fld b.G b.K (ve_var 0)) va_nil)) ve_int rfl) (vs_one (vs_raise b ((ok_BadClaim_xinitx Z).v hr (by decide)) rfl (va_cons (ve_bin (o_add false b.K) (ve_fld b.G b.K (ve_var 0)) ve_int) va_nil))) vs_nil) (vs_one (vs_ret (ve_meth0 b ((ok_Bracket_whole Z).v hr (by decide)) (ve_ix b.K (ve_fld b.G b.K (ve_var 0)) ve_int fun _ _ => rfl)))))))))) (He.meth_ok (Z.S.fact 81)) (show decide (7 ∈ PDx.cls) = true by decide) (fun _ _ _ _ _ _ us hl => match us, hl with | [_], _ => rfl) rfl
theorem ok_Reader_xinitx (Z : Gn w K mg base) : RdyI P w K mg base (PDx.gi K) 7 3 1 [] FI_Reader_xinitx := by
  obtain ⟨fd, FD⟩ := SaysV.fun_ Z.S 14
  have sc : FnScope ["self", "words"] ["self", "words"] (defScope (sub 24 0)) := ⟨rfl, rfl, rfl, by decide +kernel, rfl, by decide +kernel, by decide +kernel⟩
  have bn : Binds K fd ["self", "words"] [] := FD.bindsN (fun _ _ _ _ _ _ us hl => match us, hl with | [_, _], _ => rfl)
  exact ⟨_, fd, _, _, [], [], fn_I (c := 7) (k := 2) (m := m_Reader_xinitx) (PD.giOk Z.ok) FD sc (fun cdv A outer s H E B hr b => (vs_cons (vs_setfld b.G b.K (pe_var (i := 0) rfl (Or.inl rfl)) (ve_var 1)) (vs_cons (vs_setfld b.G b.K (pe_var (i := 0) rfl (Or.inl rfl)) ve_int) (vs_one (vs_setfld b.G b.K (pe_var (i := 0) rfl (Or.inl rfl)) (ve_lstC (va_cons (ve_makeC0 b ((ok_Bracket_xinitx Z).v hr (by decide)) rfl (gl_Bracket Z)) va_nil))))))), He.mkr_ok (Z.S.fact 71), bn, .nil, fun _ _ => rfl, rfl⟩
theorem ok_read_claim (Z : Gn w K mg base) : Rdy P w K mg base (PDx.gi K) "read_claim" 15 1 [] F_read_claim := by
  obtain ⟨fd, FD⟩ := SaysV.fun_ Z.S 25
  have sc : FnScope ["text"] ["text"] (defScope (top 25)) := ⟨rfl, rfl, rfl, by decide +kernel, rfl, by decide +kernel, by decide +kernel⟩
  exact rdy_of FD (fn_D (k := 14) (m := m_read_claim) (PD.giOk Z.ok) FD sc (fun cdv A outer s H E B hr b => (vs_one (vs_ret (ve_meth0 b ((ok_Reader_read_all Z).v hr (by decide)) (ve_makeC b ((ok_Reader_xinitx Z).v hr (by decide)) rfl (gl_Reader Z) (va_cons (ve_split false (ve_var 0) ve_str) va_nil))))))) (gl_read_claim Z) (fun _ _ _ _ _ _ us hl => match us, hl with | [_], _ => rfl) rfl
theorem ok__law_p5_answered (Z : Gn w K mg base) : Rdy P w K mg base (PDx.gi K) "_law_p5_answered" 68 1 [] F__law_p5_answered := by
  obtain ⟨fd, FD⟩ := SaysV.fun_ Z.S 48
  have sc : FnScope ["_law_words", "_law_due", "_law_told", "_law_tree", "e"] ["_law_words"] (defScope (top 49)) := ⟨rfl, rfl, rfl, by decide +kernel, rfl, by decide +kernel, by decide +kernel⟩
  exact rdy_of FD (fn_D (k := 67) (m := m__law_p5_answered) (PD.giOk Z.ok) FD sc (fun cdv A outer s H E B hr b => (vs_cons (vs_set sc.nd rfl (Or.inl rfl) (ve_call ((ok__law_p5_judged Z).v hr (by decide)) b.gd b.tk rfl (va_cons (ve_var 0) va_nil))) (vs_cons (vs_try b rfl rfl sc.nd rfl rfl (ct_BadClaim Z rfl) (fun W1 pn xe b1 => (vs_one (vs_set sc.nd rfl (Or.inl rfl) (ve_call ((ok_read_claim Z).v hr (by decide)) b1.gd b1.tk rfl (va_cons (ve_join b1.K ve_str (ve_var 0)) va_nil))))) (fun a1 d1 c1 oe pn S => (vs_cons (vs_if (PW.pt (vw_or (vt_not (vt_val (ve_isx S (PD.xcOk Z.ok) (.own 0) 4 rfl (Or.inl rfl) rfl (fr_isinstance Z) (pe_glob rfl (gl_LotError Z) rfl)))) (vw_or (vt_not (vt_val (ve_isx S (PD.xcOk Z.ok) (.bt "ValueError") 4 rfl (Or.inl rfl) rfl (fr_isinstance Z) (pe_bltn (v := .ty "ValueError") rfl (fr_ValueError Z) bt_ValueError rfl)))) (vw_or1 (vt_not (vt_val (ve_callQ (okq__law_is_int Z) hr (by decide) rfl (va_cons (ve_xf S (PD.xcOk Z.ok) "word" 4 rfl (Or.inl rfl)) va_nil)))))))) (vs_one (vs_ret ve_bl)) vs_nil) (vs_one (vs_ret (ve_and (ve_cmp (o_eq S.K hr.units) (ve_xf S (PD.xcOk Z.ok) "word" 4 rfl (Or.inl rfl)) (ve_var 1) rfl) (ve_one (ve_not (ve_isx4 S (PD.xcOk Z.ok) (.own 4) (.own 5) (.own 1) (.own 3) 4 rfl (Or.inl rfl) rfl (fr_isinstance Z) (pe_glob rfl (gl_BadLine Z) rfl) (pe_glob rfl (gl_BadText Z) rfl) (pe_glob rfl (gl_NoClaim Z) rfl) (pe_glob rfl (gl_Unknown Z) rfl)))))))))) (vs_cons (vs_if (PW.pt (vw_or (vt_cmp (o_ne b.K b.un) (ve_var 1) ve_int rfl) (vw_or1 (vt_not (vt_val (ve_isi b.G b.K (.bt "tuple") rfl (fr_isinstance Z) (ve_var 3) (pe_bltn (v := .ty "tuple") rfl (fr_tuple Z) bt_tuple rfl))))))) (vs_one (vs_ret ve_bl)) vs_nil) (vs_cons (vs_set sc.nd rfl (Or.inl rfl) (ve_call ((ok__law_p5_read Z).v hr (by decide)) b.gd b.tk rfl (va_cons (ve_var 0) va_nil))) (vs_one (vs_ret (ve_and (ve_cmp (o_eq b.K b.un) (ve_var 3) (ve_var 2) rfl) (ve_one (ve_cmp (o_eq b.K b.un) (ve_callB (c_repr b) rfl (fr_repr Z) bt_repr (va_cons (ve_var 3) va_nil)) (ve_callB (c_repr b) rfl (fr_repr Z) bt_repr (va_cons (ve_var 2) va_nil)) rfl))))))))))) (gl__law_p5_answered Z) (fun _ _ _ _ _ _ us hl => match us, hl with | [_], _ => rfl) rfl
theorem ok__law_pick (Z : Gn w K mg base) : Rdy P w K mg base (PDx.gi K) "_law_pick" 3 2 [] F__law_pick := by
  obtain ⟨fd, FD⟩ := SaysV.fun_ Z.S 29
  have sc : FnScope ["_law_bag_here", "_law_row"] ["_law_bag_here", "_law_row"] (defScope (top 30)) := ⟨rfl, rfl, rfl, by decide +kernel, rfl, by decide +kernel, by decide +kernel⟩
  exact rdy_of FD (fn_D (k := 2) (m := m__law_pick) (PD.giOk Z.ok) FD sc (fun cdv A outer s H E B hr b => (vs_one (vs_ret (ve_ix b.K (ve_var 1) (ve_call ((ok__law_draw Z).v hr (by decide)) b.gd b.tk rfl (va_cons (ve_var 0) (va_cons (ve_callB (c_len b.K) rfl (fr_len Z) bt_len (va_cons (ve_var 1) va_nil)) va_nil))) fun _ _ => rfl))))) (gl__law_pick Z) (fun _ _ _ _ _ _ us hl => match us, hl with | [_, _], _ => rfl) rfl
theorem ok__law_some (Z : Gn w K mg base) : Rdy P w K mg base (PDx.gi K) "_law_some" 3 3 [] F__law_some := by
  obtain ⟨fd, FD⟩ := SaysV.fun_ Z.S 30
  have sc : FnScope ["_law_bag_here", "_law_row", "_law_floor", "_law_found", "_law_thing"] ["_law_bag_here", "_law_row", "_law_floor"] (defScope (top 31)) := ⟨rfl, rfl, rfl, by decide +kernel, rfl, by decide +kernel, by decide +kernel⟩
  exact rdy_of FD (fn_D (k := 2) (m := m__law_some) (PD.giOk Z.ok) FD sc (fun cdv A outer s H E B hr b => (vs_cons (vs_setLc (o := true) (own := [("_law_thing", 4)]) b sc.nd rfl rfl (sw_true rfl rfl rfl rfl) (ve_var 1) (blkOk_by (own := [("_law_thing", 4)]) rfl) (cg_name (i := 4) (by decide)) (fun _ _ _ _ _ => (pg_name sc.nd rfl (Or.inl rfl))) (fun _ _ _ _ _ => (vts_one (vt_cmp (o_eq b.blk.K b.blk.un) (ve_call ((ok__law_draw Z).v hr (by decide)) b.blk.gd b.blk.tk rfl (va_cons (ve_var 0) (va_cons ve_int va_nil))) ve_int rfl))) (fun _ _ _ _ _ => (ve_var 4))) (vs_cons (vs_for b.K b.ps b.calm (ve_var 1) (vg_name sc.nd rfl (Or.inl rfl)) (vs_one (vs_if (PW.pt (vw_and (vt_cmp o_lt (ve_callB (c_len b.K) rfl (fr_len Z) bt_len (va_cons (ve_var 3) va_nil)) (ve_var 2) rfl) (vw_and1 (vt_cmp (o_nin b.K (un65 hr)) (ve_var 4) (ve_var 3) rfl)))) (vs_one (vs_append b.K (pe_var (i := 3) rfl (Or.inl rfl)) (ve_var 4))) vs_nil))) (vss_frz 3 (vs_one (vs_ret (ve_callB (c_sorted (g := PDx.gi K) false b.K) rfl (fr_sorted Z) bt_sorted (va_cons (ve_var 3) va_nil))))))))) (gl__law_some Z) (fun _ _ _ _ _ _ us hl => match us, hl with | [_, _, _], _ => rfl) rfl
theorem ok__law_p5_atom_words (Z : Gn w K mg base) : Rdy P w K mg base (PDx.gi K) "_law_p5_atom_words" 4 2 [] F__law_p5_atom_words := by
  obtain ⟨fd, FD⟩ := SaysV.fun_ Z.S 36
  have sc : FnScope ["_law_bag_here", "_law_names_here", "_law_way", "_law_share"] ["_law_bag_here", "_law_names_here"] (defScope (top 37)) := ⟨rfl, rfl, rfl, by decide +kernel, rfl, by decide +kernel, by decide +kernel⟩
  exact rdy_of FD (fn_D (k := 3) (m := m__law_p5_atom_words) (PD.giOk Z.ok) FD sc (fun cdv A outer s H E B hr b => (vs_cons (vs_set sc.nd rfl (Or.inl rfl) (ve_call ((ok__law_draw Z).v hr (by decide)) b.gd b.tk rfl (va_cons (ve_var 0) (va_cons ve_int va_nil)))) (vs_cons (vs_set sc.nd rfl (Or.inl rfl) (ve_call ((ok__law_pick Z).v hr (by decide)) b.gd b.tk rfl (va_cons (ve_var 0) (va_cons (ve_lst (o := false) (va_cons ve_str (va_cons ve_str (va_cons ve_str (va_cons ve_str (va_cons ve_str (va_cons ve_str (va_cons ve_str va_nil)))))))) va_nil)))) (vs_cons (vs_if (vt_cmp o_lt (ve_var 2) ve_int rfl) (vs_one (vs_ret (ve_bin (o_add false b.K) (ve_lst (o := false) (va_cons (ve_ix b.K (ve_lst (o := false) (va_cons ve_str (va_cons ve_str va_nil))) (ve_var 2) fun _ _ => rfl) (va_cons (ve_var 3) (va_cons ve_str va_nil)))) (ve_call ((ok__law_some Z).v hr (by decide)) b.gd b.tk rfl (va_cons (ve_var 0) (va_cons (ve_var 1) (va_cons ve_int va_nil))))))) vs_nil) (vs_cons (vs_if (vt_cmp o_lt (ve_var 2) ve_int rfl) (vs_one (vs_ret (ve_lst (o := false) (va_cons (ve_ix b.K (ve_lst (o := false) (va_cons ve_str (va_cons ve_str va_nil))) (ve_bin o_sub (ve_var 2) ve_int) fun _ _ => rfl) (va_cons (ve_call ((ok__law_pick Z).v hr (by decide)) b.gd b.tk rfl (va_cons (ve_var 0) (va_cons (ve_var 1) va_nil))) va_nil))))) vs_nil) (vs_cons (vs_if (vt_cmp (o_eq b.K b.un) (ve_var 2) ve_int rfl) (vs_one (vs_ret (ve_lst (o := false) (va_cons (ve_call ((ok__law_pick Z).v hr (by decide)) b.gd b.tk rfl (va_cons (ve_var 0) (va_cons (ve_lst (o := false) (va_cons ve_str (va_cons ve_str va_nil))) va_nil))) (va_cons (ve_call ((ok__law_pick Z).v hr (by decide)) b.gd b.tk rfl (va_cons (ve_var 0) (va_cons (ve_lst (o := false) (va_cons ve_str (va_cons ve_str (va_cons ve_str (va_cons ve_str va_nil))))) va_nil))) va_nil))))) vs_nil) (vs_one (vs_ret (ve_lst (o := false) (va_cons ve_str va_nil))))))))))) (gl__law_p5_atom_words Z) (fun _ _ _ _ _ _ us hl => match us, hl with | [_, _], _ => rfl) rfl
theorem z__law_p5_claim_words (Z : Gn w K mg base) : Rdy P w K mg base (PDx.gi K) "_law_p5_claim_words" 4 3 [] (fnOf 6 3 (fun _ _ => .stuck)) := by
  obtain ⟨fd, FD⟩ := SaysV.fun_ Z.S 37
  have sc : FnScope ["_law_bag_here", "_law_names_here", "_law_levels", "_law_way", "_law_inner", "_law_other"] ["_law_bag_here", "_law_names_here", "_law_levels"] (defScope (top 38)) := ⟨rfl, rfl, rfl, by decide +kernel, rfl, by decide +kernel, by decide +kernel⟩
  exact rdy_of FD (fn_D (k := 3) (m := fun _ _ => .stuck) (PD.giOk Z.ok) FD sc (fun cdv A outer s H E B hr b => vss_stuck)) (gl__law_p5_claim_words Z) (fun _ _ _ _ _ _ us hl => match us, hl with | [_, _, _], _ => rfl) rfl
theorem st__law_p5_claim_words (Z : Gn w K mg base) {G__law_p5_claim_words : Fn} (e : Nat) (ih__law_p5_claim_words : Rdy P w K mg base (PDx.gi K) "_law_p5_claim_words" (4 + e) 3 [] G__law_p5_claim_words) : Rdy P w K mg base (PDx.gi K) "_law_p5_claim_words" (4 + e + 1) 3 [] (fnOf 6 3 (m__law_p5_claim_words G__law_p5_claim_words)) := by
  obtain ⟨fd, FD⟩ := SaysV.fun_ Z.S 37
  have sc : FnScope ["_law_bag_here", "_law_names_here", "_law_levels", "_law_way", "_law_inner", "_law_other"] ["_law_bag_here", "_law_names_here", "_law_levels"] (defScope (top 38)) := ⟨rfl, rfl, rfl, by decide +kernel, rfl, by decide +kernel, by decide +kernel⟩
  exact rdy_of FD (fn_D (k := 4 + e) (m := m__law_p5_claim_words G__law_p5_claim_words) (PD.giOk Z.ok) FD sc (fun cdv A outer s H E B hr b => (vs_cons (vs_set sc.nd rfl (Or.inl rfl) (ve_call ((ok__law_draw Z).v hr (by omega)) b.gd b.tk rfl (va_cons (ve_var 0) (va_cons ve_int va_nil)))) (vs_cons (vs_if (PW.pt (vw_or (vt_cmp (o_eq b.K b.un) (ve_var 2) ve_int rfl) (vw_or1 (vt_cmp o_gt (ve_var 3) ve_int rfl)))) (vs_one (vs_ret (ve_call ((ok__law_p5_atom_words Z).v hr (by omega)) b.gd b.tk rfl (va_cons (ve_var 0) (va_cons (ve_var 1) va_nil))))) vs_nil) (vs_cons (vs_set sc.nd rfl (Or.inl rfl) (ve_call (ih__law_p5_claim_words.v hr (Nat.le_refl _)) b.gd b.tk rfl (va_cons (ve_var 0) (va_cons (ve_var 1) (va_cons (ve_bin o_sub (ve_var 2) ve_int) va_nil))))) (vs_cons (vs_if (vt_cmp (o_eq b.K b.un) (ve_var 3) ve_int rfl) (vs_one (vs_ret (ve_bin (o_add false b.K) (ve_bin (o_add false b.K) (ve_lst (o := false) (va_cons ve_str (va_cons ve_str va_nil))) (ve_var 4)) (ve_lst (o := false) (va_cons ve_str va_nil))))) vs_nil) (vs_cons (vs_if (vt_cmp (o_eq b.K b.un) (ve_var 3) ve_int rfl) (vs_one (vs_ret (ve_bin (o_add false b.K) (ve_bin (o_add false b.K) (ve_lst (o := false) (va_cons ve_str va_nil)) (ve_var 4)) (ve_lst (o := false) (va_cons ve_str va_nil))))) vs_nil) (vs_cons (vs_set sc.nd rfl (Or.inl rfl) (ve_call (ih__law_p5_claim_words.v hr (Nat.le_refl _)) b.gd b.tk rfl (va_cons (ve_var 0) (va_cons (ve_var 1) (va_cons (ve_bin o_sub (ve_var 2) ve_int) va_nil))))) (vs_one (vs_ret (ve_bin (o_add false b.K) (ve_bin (o_add false b.K) (ve_var 4) (ve_lst (o := false) (va_cons (ve_ix b.K (ve_lst (o := false) (va_cons ve_str (va_cons ve_str (va_cons ve_str va_nil)))) (ve_var 3) fun _ _ => rfl) va_nil))) (ve_var 5)))))))))))) (gl__law_p5_claim_words Z) (fun _ _ _ _ _ _ us hl => match us, hl with | [_, _, _], _ => rfl) rfl
theorem oks__law_p5_claim_words (Z : Gn w K mg base) : ∀ e : Nat, (Rdy P w K mg base (PDx.gi K) "_law_p5_claim_words" (4 + e) 3 [] (R__law_p5_claim_words e))
  | 0 => z__law_p5_claim_words Z
  | e + 1 => st__law_p5_claim_words Z e (oks__law_p5_claim_words Z e)
theorem ok__law_p5_claim_words (Z : Gn w K mg base) : Rdy P w K mg base (PDx.gi K) "_law_p5_claim_words" 10 3 [] F__law_p5_claim_words := (oks__law_p5_claim_words Z 6)
theorem ok__law_p5_number (Z : Gn w K mg base) : Rdy P w K mg base (PDx.gi K) "_law_p5_number" 4 1 [] F__law_p5_number := by
  obtain ⟨fd, FD⟩ := SaysV.fun_ Z.S 38
  have sc : FnScope ["_law_bag_here", "_law_row"] ["_law_bag_here"] (defScope (top 39)) := ⟨rfl, rfl, rfl, by decide +kernel, rfl, by decide +kernel, by decide +kernel⟩
  exact rdy_of FD (fn_D (k := 3) (m := m__law_p5_number) (PD.giOk Z.ok) FD sc (fun cdv A outer s H E B hr b => (vs_cons (vs_set sc.nd rfl (Or.inl rfl) (ve_split false ve_str ve_str)) (vs_cons (vs_set sc.nd rfl (Or.inl rfl) (ve_bin (o_add false b.K) (ve_var 1) (ve_split false ve_str ve_str))) (vs_one (vs_ret (ve_call ((ok__law_pick Z).v hr (by decide)) b.gd b.tk rfl (va_cons (ve_var 0) (va_cons (ve_var 1) va_nil))))))))) (gl__law_p5_number Z) (fun _ _ _ _ _ _ us hl => match us, hl with | [_], _ => rfl) rfl
theorem ok__law_p5_word (Z : Gn w K mg base) : Rdy P w K mg base (PDx.gi K) "_law_p5_word" 5 3 [] F__law_p5_word := by
  obtain ⟨fd, FD⟩ := SaysV.fun_ Z.S 39
  have sc : FnScope ["_law_bag_here", "_law_names_here", "_law_word", "_law_way", "_law_row"] ["_law_bag_here", "_law_names_here", "_law_word"] (defScope (top 40)) := ⟨rfl, rfl, rfl, by decide +kernel, rfl, by decide +kernel, by decide +kernel⟩
  exact rdy_of FD (fn_D (k := 4) (m := m__law_p5_word) (PD.giOk Z.ok) FD sc (fun cdv A outer s H E B hr b => (vs_cons (vs_set sc.nd rfl (Or.inl rfl) (ve_call ((ok__law_draw Z).v hr (by decide)) b.gd b.tk rfl (va_cons (ve_var 0) (va_cons ve_int va_nil)))) (vs_cons (vs_if (PW.pt (vw_or (vt_cmp (o_eq b.K b.un) (ve_var 3) ve_int rfl) (vw_or1 (PW.pt (vw_and (vt_cmp o_lt (ve_var 3) ve_int rfl) (vw_and1 (vt_cmp (o_in b.K (un65 hr)) (ve_var 2) (ve_var 1) rfl))))))) (vs_one (vs_ret (ve_call ((ok__law_pick Z).v hr (by decide)) b.gd b.tk rfl (va_cons (ve_var 0) (va_cons (ve_var 1) va_nil))))) vs_nil) (vs_cons (vs_if (PW.pt (vw_or (vt_cmp (o_eq b.K b.un) (ve_var 3) ve_int rfl) (vw_or1 (PW.pt (vw_and (vt_cmp (o_eq b.K b.un) (ve_var 3) ve_int rfl) (vw_and1 (vt_cmp (o_in b.K (un65 hr)) (ve_var 2) (ve_lst (o := false) (va_cons ve_str (va_cons ve_str (va_cons ve_str (va_cons ve_str (va_cons ve_str (va_cons ve_str va_nil))))))) rfl))))))) (vs_cons (vs_set sc.nd rfl (Or.inl rfl) (ve_split false ve_str ve_str)) (vs_one (vs_ret (ve_call ((ok__law_pick Z).v hr (by decide)) b.gd b.tk rfl (va_cons (ve_var 0) (va_cons (ve_var 4) va_nil)))))) vs_nil) (vs_cons (vs_if (vt_cmp (o_eq b.K b.un) (ve_var 3) ve_int rfl) (vs_one (vs_ret (ve_call ((ok__law_p5_number Z).v hr (by decide)) b.gd b.tk rfl (va_cons (ve_var 0) va_nil)))) vs_nil) (vs_cons (vs_set sc.nd rfl (Or.inl rfl) (ve_lst (o := false) (va_cons ve_str (va_cons ve_str (va_cons ve_str (va_cons ve_str (va_cons ve_str (va_cons ve_str (va_cons ve_str (va_cons ve_str (va_cons ve_str (va_cons ve_str (va_cons ve_str (va_cons ve_str (va_cons ve_str va_nil))))))))))))))) (vs_cons (vs_set sc.nd rfl (Or.inl rfl) (ve_bin (o_add false b.K) (ve_var 4) (ve_lst (o := false) (va_cons ve_str (va_cons ve_str (va_cons ve_str (va_cons ve_str (va_cons ve_str (va_cons ve_str (va_cons ve_str (va_cons ve_str (va_cons ve_str va_nil)))))))))))) (vs_one (vs_ret (ve_if (vt_cmp (o_in b.K (un65 hr)) (ve_slice false b.K (ve_var 2) vo_none (vo_some ve_int)) (ve_lst (o := false) (va_cons ve_str (va_cons ve_str (va_cons ve_str (va_cons ve_str (va_cons ve_str va_nil)))))) rfl) (ve_call ((ok__law_p5_number Z).v hr (by decide)) b.gd b.tk rfl (va_cons (ve_var 0) va_nil)) (ve_call ((ok__law_pick Z).v hr (by decide)) b.gd b.tk rfl (va_cons (ve_var 0) (va_cons (ve_var 4) va_nil)))))))))))))) (gl__law_p5_word Z) (fun _ _ _ _ _ _ us hl => match us, hl with | [_, _, _], _ => rfl) rfl
theorem ok__law_p5_spoilt (Z : Gn w K mg base) : Rdy P w K mg base (PDx.gi K) "_law_p5_spoilt" 6 3 [] F__law_p5_spoilt := by
  obtain ⟨fd, FD⟩ := SaysV.fun_ Z.S 40
  have sc : FnScope ["_law_bag_here", "_law_words", "_law_names_here", "_law_found", "_law_k", "_law_places", "_law_at", "_law_word", "_law_way", "_law_j"] ["_law_bag_here", "_law_words", "_law_names_here"] (defScope (top 41)) := ⟨rfl, rfl, rfl, by decide +kernel, rfl, by decide +kernel, by decide +kernel⟩
  exact rdy_of FD (fn_D (k := 5) (m := m__law_p5_spoilt) (PD.giOk Z.ok) FD sc (fun cdv A outer s H E B hr b => (vs_cons (vs_set sc.nd rfl (Or.inr rfl) (ve_callTy (c_list false b.K) rfl (fr_list Z) bt_list (va_cons (ve_var 1) va_nil))) (vs_cons (vs_forR1 b.ps b.calm rfl (fr_range Z) (va_cons (ve_call ((ok__law_draw Z).v hr (by decide)) b.gd b.tk rfl (va_cons (ve_var 0) (va_cons ve_int va_nil))) va_nil) (vg_name sc.nd rfl (Or.inl rfl)) (vs_cons (vs_setLcR (o := false) (own := [("_law_j", 9)]) b sc.nd rfl rfl (sw_true rfl rfl rfl rfl) rfl (fr_range Z) (va_cons (ve_callB (c_len b.K) rfl (fr_len Z) bt_len (va_cons (ve_var 3) va_nil)) va_nil) (blkOk_by (own := [("_law_j", 9)]) rfl) (cg_name (i := 9) (by decide)) (fun _ _ _ _ _ => (pg_name sc.nd rfl (Or.inl rfl))) (fun _ _ _ _ _ => (vts_one (vt_cmp (o_in b.blk.K (un65 hr)) (ve_slice false b.blk.K (ve_ix b.blk.K (ve_var 3) (ve_var 9) fun _ _ => rfl) vo_none (vo_some ve_int)) (ve_lst (o := false) (va_cons ve_str (va_cons ve_str (va_cons ve_str (va_cons ve_str (va_cons ve_str va_nil)))))) rfl))) (fun _ _ _ _ _ => (ve_var 9))) (vs_cons (vs_set sc.nd rfl (Or.inl rfl) (ve_call ((ok__law_pick Z).v hr (by decide)) b.gd b.tk rfl (va_cons (ve_var 0) (va_cons (ve_bin (o_add false b.K) (ve_lst (o := false) (va_cons (ve_call ((ok__law_draw Z).v hr (by decide)) b.gd b.tk rfl (va_cons (ve_var 0) (va_cons (ve_bin (o_add false b.K) (ve_callB (c_len b.K) rfl (fr_len Z) bt_len (va_cons (ve_var 3) va_nil)) ve_int) va_nil))) (va_cons (ve_call ((ok__law_draw Z).v hr (by decide)) b.gd b.tk rfl (va_cons (ve_var 0) (va_cons (ve_bin (o_add false b.K) (ve_callB (c_len b.K) rfl (fr_len Z) bt_len (va_cons (ve_var 3) va_nil)) ve_int) va_nil))) va_nil))) (ve_var 5)) va_nil)))) (vs_cons (vs_set sc.nd rfl (Or.inl rfl) (ve_ix b.K (ve_bin (o_add false b.K) (ve_var 3) (ve_lst (o := false) (va_cons ve_str va_nil))) (ve_var 6) fun _ _ => rfl)) (vs_cons (vs_set sc.nd rfl (Or.inl rfl) (ve_call ((ok__law_draw Z).v hr (by decide)) b.gd b.tk rfl (va_cons (ve_var 0) (va_cons ve_int va_nil)))) (vs_one (vs_if (vt_cmp (o_eq b.K b.un) (ve_var 8) ve_int rfl) (vs_one (vs_set sc.nd rfl (Or.inr rfl) (ve_bin (o_add false b.K) (ve_slice false b.K (ve_var 3) vo_none (vo_some (ve_var 6))) (ve_slice false b.K (ve_var 3) (vo_some (ve_bin (o_add false b.K) (ve_var 6) ve_int)) vo_none)))) (vs_one (vs_if (vt_cmp (o_eq b.K b.un) (ve_var 8) ve_int rfl) (vs_one (vs_set sc.nd rfl (Or.inr rfl) (ve_bin (o_add false b.K) (ve_bin (o_add false b.K) (ve_slice false b.K (ve_var 3) vo_none (vo_some (ve_var 6))) (ve_lst (o := false) (va_cons (ve_call ((ok__law_p5_word Z).v hr (by decide)) b.gd b.tk rfl (va_cons (ve_var 0) (va_cons (ve_var 2) (va_cons (ve_var 7) va_nil)))) va_nil))) (ve_slice false b.K (ve_var 3) (vo_some (ve_var 6)) vo_none)))) (vs_one (vs_if (vt_cmp o_lt (ve_var 8) ve_int rfl) (vs_one (vs_set sc.nd rfl (Or.inr rfl) (ve_bin (o_add false b.K) (ve_bin (o_add false b.K) (ve_slice false b.K (ve_var 3) vo_none (vo_some (ve_var 6))) (ve_lst (o := false) (va_cons (ve_call ((ok__law_p5_word Z).v hr (by decide)) b.gd b.tk rfl (va_cons (ve_var 0) (va_cons (ve_var 2) (va_cons (ve_var 7) va_nil)))) va_nil))) (ve_slice false b.K (ve_var 3) (vo_some (ve_bin (o_add false b.K) (ve_var 6) ve_int)) vo_none)))) (vs_one (vs_if (PW.pt (vw_and (vt_cmp o_gt (ve_callB (c_len b.K) rfl (fr_len Z) bt_len (va_cons (ve_var 3) va_nil)) ve_int rfl) (vw_and1 (vt_cmp (o_eq b.K b.un) (ve_call ((ok__law_draw Z).v hr (by decide)) b.gd b.tk rfl (va_cons (ve_var 0) (va_cons ve_int va_nil))) ve_int rfl)))) (vs_one (vs_set sc.nd rfl (Or.inr rfl) (ve_slice false b.K (ve_var 3) vo_none (vo_some (ve_bin o_sub (ve_callB (c_len b.K) rfl (fr_len Z) bt_len (va_cons (ve_var 3) va_nil)) ve_int))))) (vs_one (vs_if (vt_cmp o_gt (ve_callB (c_len b.K) rfl (fr_len Z) bt_len (va_cons (ve_var 3) va_nil)) ve_int rfl) (vs_one (vs_set sc.nd rfl (Or.inr rfl) (ve_bin (o_add false b.K) (ve_slice false b.K (ve_var 3) vo_none (vo_some (ve_bin o_sub (ve_callB (c_len b.K) rfl (fr_len Z) bt_len (va_cons (ve_var 3) va_nil)) ve_int))) (ve_lst (o := false) (va_cons (ve_bin (o_add false b.K) (ve_ix b.K (ve_var 3) (ve_bin o_sub (ve_callB (c_len b.K) rfl (fr_len Z) bt_len (va_cons (ve_var 3) va_nil)) ve_int) fun _ _ => rfl) (ve_call ((ok__law_pick Z).v hr (by decide)) b.gd b.tk rfl (va_cons (ve_var 0) (va_cons (ve_lst (o := false) (va_cons ve_str (va_cons ve_str (va_cons ve_str va_nil)))) va_nil)))) va_nil))))) vs_nil))))))))))))))) (vs_one (vs_ret (ve_var 3))))))) (gl__law_p5_spoilt Z) (fun _ _ _ _ _ _ us hl => match us, hl with | [_, _, _], _ => rfl) rfl
theorem fg_law (Z : Gn w K mg base) {fd : FuncData} (FD : FunD K r_law.name r_law.qual r_law.params r_law.body r_law.scope [] [] (r_law.pth K) fd) : FnG P w K mg base 69 (r_law.pth K) fd ["_law_script"] (spD (PDx.gi K) 1 F_law) := by
  have sc : FnScope ["_law_script", "_law_bag_here", "_law_names_here", "_law_words", "_law_turn"] ["_law_script"] (defScope (top 50)) := ⟨rfl, rfl, rfl, by decide +kernel, rfl, by decide +kernel, by decide +kernel⟩
  exact fn_D (k := 68) (m := m_law) (PD.giOk Z.ok) FD sc (fun cdv A outer s H E B hr b => (vs_cons (vs_set sc.nd rfl (Or.inl rfl) (ve_call ((ok__law_bag Z).v hr (by decide)) b.gd b.tk rfl (va_cons (ve_var 0) va_nil))) (vs_cons (vs_set sc.nd rfl (Or.inl rfl) (ve_call ((ok__law_names Z).v hr (by decide)) b.gd b.tk rfl (va_cons (ve_var 1) (va_cons (ve_bin (o_add false b.K) ve_int (ve_call ((ok__law_draw Z).v hr (by decide)) b.gd b.tk rfl (va_cons (ve_var 1) (va_cons ve_int va_nil)))) (va_cons (ve_lst (o := false) va_nil) va_nil))))) (vs_cons (vs_set sc.nd rfl (Or.inl rfl) (ve_call ((ok__law_p5_claim_words Z).v hr (by decide)) b.gd b.tk rfl (va_cons (ve_var 1) (va_cons (ve_var 2) (va_cons ve_int va_nil))))) (vs_cons (vs_forR1 b.ps b.calm rfl (fr_range Z) (va_cons ve_int va_nil) (vg_name sc.nd rfl (Or.inl rfl)) (vs_one (vs_if (vt_not (vt_val (ve_call ((ok__law_p5_answered Z).v hr (by decide)) b.gd b.tk rfl (va_cons (ve_call ((ok__law_p5_spoilt Z).v hr (by decide)) b.gd b.tk rfl (va_cons (ve_var 1) (va_cons (ve_var 3) (va_cons (ve_bin (o_add false b.K) (ve_var 2) (ve_lst (o := false) (va_cons ve_str va_nil))) va_nil)))) va_nil)))) (vs_one (vs_ret ve_bl)) vs_nil))) (vs_cons (vs_if (PW.pt (vw_and (vt_cmp (o_eq b.K b.un) (ve_call ((ok__law_draw Z).v hr (by decide)) b.gd b.tk rfl (va_cons (ve_var 1) (va_cons ve_int va_nil))) ve_int rfl) (vw_and1 (vt_not (vt_val (ve_call ((ok__law_p5_answered Z).v hr (by decide)) b.gd b.tk rfl (va_cons (ve_lst (o := false) (va_cons ve_str va_nil)) va_nil))))))) (vs_one (vs_ret ve_bl)) vs_nil) (vs_one (vs_ret (ve_call ((ok__law_p5_answered Z).v hr (by decide)) b.gd b.tk rfl (va_cons (ve_var 3) va_nil))))))))))
end
end G38
set_option exponentiation.threshold 8000
namespace G38
open PySem L2 Vi
@[simp] theorem fIntS_int (i : Int) (h : Hc) : fIntS [.d (.int i)] h = .ok (.d (.int i)) h := rfl
@[simp] theorem fIntS_bl (i : Bool) (h : Hc) : fIntS [.d (.bl i)] h = fIntOf [.d (.bl i)] h := rfl
theorem fdiv_pos {a g : Int} (hg : 0 < g) : a.fdiv g = a / g := Int.fdiv_eq_ediv_of_nonneg a (by omega)
theorem cDiv_of {i g : Int} (h0 : g ≠ 0) (h : g.natAbs.log2 < 8000) : cDiv i g = true := by
  unfold cDiv
  have : g.natAbs.log2 < 9000 := by omega
  simp [h0, this]
theorem abs_if (a : Int) : (if a < 0 then -a else a) = (a.natAbs : Int) := by
  split <;> omega
theorem log2_lt {a k : Nat} (h : a < 2 ^ k) (hk : 0 < k) : a.log2 < k := by
  by_cases h0 : a = 0
  · subst h0
    simpa using hk
  · exact (Nat.log2_lt h0).mpr h
theorem fIx_ref (n : Nat) (i : Int) (h : Hc) (xs : List D) (e : h[n]? = some (.lst xs)) : fIx (.d (.ref n)) (.d (.int i)) h = (match atI xs i with
  | some d => .ok (.d d) h
  | none => .stuck) := by
  have el : lst? h (.d (.ref n)) = some xs := by
    show (match h[n]?.map Cell.bare with
      | some (.lst xs) => some xs
      | _ => none) = _
    rw [e]
    rfl
  show (match lst? h (.d (.ref n)) with
    | some xs => (match atI xs i with
      | some d => R.ok (Vl.d d) h
      | none => .stuck)
    | none => _) = _
  rw [el]
abbrev bagC (t : Hc) (ns : List Int) (p v sd l c : Int) : Hc := .lst [.lst (ns.map D.int), .int p, .int v, .int sd, .int l, .int c] :: t
theorem v_bag (ns : List Int) : F__law_bag [.kl (ns.map D.int)] [] = .ok (.ref 0) (bagC [] ns 0 0 (ns.sum % 1000003) 0 0) := by
  refine (fnOf_eq _ _ _ _ _ rfl).trans ?_
  unfold m__law_bag
  simp [mRetC]
theorem cMul_of {i j : Int} (hi : i.natAbs < 2 ^ 1000) (hj : j.natAbs < 2 ^ 1000) : cMul i j = true := by
  have h1 := log2_lt hi (by omega)
  have h2 := log2_lt hj (by omega)
  unfold cMul
  exact decide_eq_true (by omega)
theorem cDivS {i j : Int} (h0 : j ≠ 0) (h : j.natAbs < 2 ^ 1000) : cDiv i j = true := cDiv_of h0 (by have := log2_lt h (by omega); omega)
theorem v_mixed {s t : Int} {h : Hc} (h1 : 0 ≤ s) (h2 : s < 2 ^ 70) (h3 : 0 ≤ t) (h4 : t < 2 ^ 70) : ∃ r, 0 ≤ r ∧ F__law_mixed [.int s, .int t] h = .ok (.int r) h := by
  have a1 : cMul (s + 1) 48271 = true := cMul_of (by omega) (by omega)
  have a2 : cMul (t + 1) 69621 = true := cMul_of (by omega) (by omega)
  have m1 : 0 ≤ ((s + 1) * 48271 + (t + 1) * 69621) % 2147483647 := Int.emod_nonneg _ (by omega)
  have m2 : ((s + 1) * 48271 + (t + 1) * 69621) % 2147483647 < 2147483647 := Int.emod_lt_of_pos _ (by omega)
  generalize hf : ((s + 1) * 48271 + (t + 1) * 69621) % 2147483647 = f at m1 m2
  have a3 : cMul f f = true := cMul_of (by omega) (by omega)
  have a4 : cMul f 16807 = true := cMul_of (by omega) (by omega)
  have a5 : cMul 7 t = true := cMul_of (by omega) (by omega)
  have a6 : cDiv ((f * f + f * 16807 + 7 * t) % 2147483629) 7 = true := cDivS (by omega) (by omega)
  have nn : 0 ≤ ((f * f + f * 16807 + 7 * t) % 2147483629) := Int.emod_nonneg _ (by omega)
  refine ⟨((f * f + f * 16807 + 7 * t) % 2147483629) / 7, by omega, ?_⟩
  refine (fnOf_eq _ _ _ _ _ rfl).trans ?_
  unfold m__law_mixed
  simp [a1, a2, hf, a3, a4, a5, a6, fdiv_pos]
def tl1 : MS := mIfS (asB (m2 fGt (m2 fIx (mVar 0) (mC (.int 2))) (mC (.int 0)))) (mSeq (mSet 3 (m2 fMod (mA1 fIntS (maCons (m2 fIx (mVar 0) (mC (.int 2))) maNil)) (mVar 1))) (mSeq (mSetIx (m2 fDiv (m2 fIx (mVar 0) (mC (.int 2))) (mVar 1)) (mVar 0) (mC (.int 2))) (mRet (mVar 3)))) mSkip
def tl2 : MS := mSeq (mIfS (asB (m2 fGt (m2 fIx (mVar 0) (mC (.int 4))) (mC (.int 0)))) (mSetIx (m2 fSub (m2 fIx (mVar 0) (mC (.int 4))) (mC (.int 1))) (mVar 0) (mC (.int 4))) mSkip) (mRet (m2 fMod (mA1 fIntS (maCons (mA1 (fCallN 2 F__law_mixed []) (maCons (m2 fIx (mVar 0) (mC (.int 3))) (maCons (m2 fIx (mVar 0) (mC (.int 5))) maNil))) maNil)) (mVar 1)))
def hd2 : MS := mSeq (mSet 2 (m2 fIx (m2 fIx (mVar 0) (mC (.int 0))) (m2 fIx (mVar 0) (mC (.int 1))))) (mSeq (mSetIx (m2 (fAdd false) (m2 fIx (mVar 0) (mC (.int 1))) (mC (.int 1))) (mVar 0) (mC (.int 1))) (mIfS (asB (m2 fGe (mA1 fAbs (maCons (mVar 2) maNil)) (m2 fPow (mC (.int 10)) (mC (.int 18))))) (mSetIx (mA1 fAbs (maCons (mVar 2) maNil)) (mVar 0) (mC (.int 2))) (mSeq (mSetIx (m2 (fAdd false) (m2 fMul (mC (.int 2)) (mA1 fAbs (maCons (mVar 2) maNil))) (mA1 fIntS (maCons (m2 fLt (mVar 2) (mC (.int 0))) maNil))) (mVar 0) (mC (.int 3))) (mSetIx (mC (.int 15)) (mVar 0) (mC (.int 4))))))
theorem draw_parts : m__law_draw = mSeq (mIfS (asB (m2 fLt (mVar 1) (mC (.int 2)))) (mRet (mC (.int 0))) mSkip) (mSeq (mSetIx (m2 (fAdd false) (m2 fIx (mVar 0) (mC (.int 5))) (mC (.int 1))) (mVar 0) (mC (.int 5))) (mSeq (mIfS (tAndM (asB (m2 (fEq false) (m2 fIx (mVar 0) (mC (.int 2))) (mC (.int 0)))) (tAndM (asB (m2 (fEq false) (m2 fIx (mVar 0) (mC (.int 4))) (mC (.int 0)))) (asB (m2 fLt (m2 fIx (mVar 0) (mC (.int 1))) (mA1 fLen (maCons (m2 fIx (mVar 0) (mC (.int 0))) maNil)))))) hd2 mSkip) (mSeq tl1 tl2))) := rfl
abbrev envD (many : Int) (a b : Option Sl) : Vi.Env := [some (.d (.ref 0)), some (.d (.int many)), a, b]
@[simp] theorem bix (t : Hc) (ns : List Int) (p v sd l c i : Int) : fIx (.d (.ref 0)) (.d (.int i)) (bagC t ns p v sd l c) = (match atI [.lst (ns.map D.int), .int p, .int v, .int sd, .int l, .int c] i with
  | some d => .ok (.d d) (bagC t ns p v sd l c)
  | none => .stuck) := fIx_ref 0 i _ _ rfl
theorem at6 (a b c d e f : D) : atI [a, b, c, d, e, f] 0 = some a ∧ atI [a, b, c, d, e, f] 1 = some b ∧ atI [a, b, c, d, e, f] 2 = some c ∧ atI [a, b, c, d, e, f] 3 = some d ∧ atI [a, b, c, d, e, f] 4 = some e ∧ atI [a, b, c, d, e, f] 5 = some f := by
  refine ⟨?_, ?_, ?_, ?_, ?_, ?_⟩ <;> simp [atI, ixN]
theorem ix6 : ixN 6 0 = some 0 ∧ ixN 6 1 = some 1 ∧ ixN 6 2 = some 2 ∧ ixN 6 3 = some 3 ∧ ixN 6 4 = some 4 ∧ ixN 6 5 = some 5 := by
  refine ⟨?_, ?_, ?_, ?_, ?_, ?_⟩ <;> simp [ixN]
def BG (t : Hc) (m : Int) (h : Hc) : Prop := ∃ (ns : List Int) (p v sd l c : Int), h = bagC t ns p v sd l c ∧ 0 ≤ p ∧ 0 ≤ v ∧ 0 ≤ sd ∧ sd < 2 ^ 66 ∧ 0 ≤ l ∧ 0 ≤ c ∧ c ≤ m
theorem v_tl2 (t : Hc) (ns : List Int) {p v sd l c many : Int} {a b : Option Sl} (h1 : 0 ≤ sd) (h2 : sd < 2 ^ 66) (h3 : 0 ≤ l) (h4 : 0 ≤ c) (h5 : c < 2 ^ 66) (hm : 2 ≤ many) :
    ∃ r l', 0 ≤ r ∧ r < many ∧ 0 ≤ l' ∧ tl2 (envD many a b) (bagC t ns p v sd l c) = .ret (.int r) (bagC t ns p v sd l' c) := by
  have go : ∀ l' : Int, ∃ r, 0 ≤ r ∧ r < many ∧ (mRet (m2 fMod (mA1 fIntS (maCons (mA1 (fCallN 2 F__law_mixed []) (maCons (m2 fIx (mVar 0) (mC (.int 3))) (maCons (m2 fIx (mVar 0) (mC (.int 5))) maNil))) maNil)) (mVar 1))) (envD many a b) (bagC t ns p v sd l' c) = .ret (.int r) (bagC t ns p v sd l' c) := fun l' => by
    obtain ⟨r, _, e⟩ := v_mixed (s := sd) (t := c) (h := bagC t ns p v sd l' c) h1 (by omega) h4 (by omega)
    refine ⟨r % many, Int.emod_nonneg _ (by omega), Int.emod_lt_of_pos _ (by omega), ?_⟩
    have hp : 0 < many := by omega
    simp [at6, e, hp]
  by_cases hl : 0 < l
  · obtain ⟨r, r1, r2, e⟩ := go (l - 1)
    refine ⟨r, l - 1, r1, r2, by omega, ?_⟩
    unfold tl2
    rw [mSeq_eq]
    have e0 : (mIfS (asB (m2 fGt (m2 fIx (mVar 0) (mC (.int 4))) (mC (.int 0)))) (mSetIx (m2 fSub (m2 fIx (mVar 0) (mC (.int 4))) (mC (.int 1))) (mVar 0) (mC (.int 4))) mSkip) (envD many a b) (bagC t ns p v sd l c) = .nx (envD many a b) (bagC t ns p v sd (l - 1) c) := by
      simp [at6, ix6, hl]
    rw [e0]
    exact e
  · obtain ⟨r, r1, r2, e⟩ := go l
    refine ⟨r, l, r1, r2, h3, ?_⟩
    unfold tl2
    rw [mSeq_eq]
    have e0 : (mIfS (asB (m2 fGt (m2 fIx (mVar 0) (mC (.int 4))) (mC (.int 0)))) (mSetIx (m2 fSub (m2 fIx (mVar 0) (mC (.int 4))) (mC (.int 1))) (mVar 0) (mC (.int 4))) mSkip) (envD many a b) (bagC t ns p v sd l c) = .nx (envD many a b) (bagC t ns p v sd l c) := by
      simp [at6, ix6, hl]
    rw [e0]
    exact e
theorem v_tl (t : Hc) (ns : List Int) {p v sd l c many : Int} {a b : Option Sl} (hv : 0 ≤ v) (h1 : 0 ≤ sd) (h2 : sd < 2 ^ 66) (h3 : 0 ≤ l) (h4 : 0 ≤ c) (h5 : c < 2 ^ 66) (hm : 2 ≤ many) (hm2 : many < 2 ^ 140) :
    ∃ r v' l', 0 ≤ r ∧ r < many ∧ 0 ≤ v' ∧ 0 ≤ l' ∧ (mSeq tl1 tl2) (envD many a b) (bagC t ns p v sd l c) = .ret (.int r) (bagC t ns p v' sd l' c) := by
  rw [mSeq_eq]
  by_cases h0 : 0 < v
  · refine ⟨v % many, v / many, l, Int.emod_nonneg _ (by omega), Int.emod_lt_of_pos _ (by omega), Int.ediv_nonneg hv (by omega), h3, ?_⟩
    have hp : 0 < many := by omega
    have cd : cDiv v many = true := cDivS (by omega) (by omega)
    unfold tl1
    simp [at6, ix6, h0, hp, cd, fdiv_pos hp]
  · obtain ⟨r, l', r1, r2, r3, e⟩ := v_tl2 t ns (p := p) (v := v) (a := a) (b := b) h1 h2 h3 h4 h5 hm
    refine ⟨r, v, l', r1, r2, hv, r3, ?_⟩
    have e0 : tl1 (envD many a b) (bagC t ns p v sd l c) = .nx (envD many a b) (bagC t ns p v sd l c) := by
      unfold tl1
      simp [at6, ix6, h0]
    rw [e0]
    exact e
theorem atI_map (ns : List Int) {p : Int} (h0 : 0 ≤ p) (h1 : p < ns.length) : ∃ z, atI (ns.map D.int) p = some (.int z) := by
  have hl : p.toNat < ns.length := by omega
  refine ⟨ns[p.toNat], ?_⟩
  unfold atI ixN
  rw [if_pos h0, List.length_map, if_pos h1]
  show (ns.map D.int)[p.toNat]? = _
  rw [List.getElem?_map, List.getElem?_eq_getElem hl]
  rfl
theorem v_hd2 (t : Hc) (ns : List Int) {p sd c many : Int} {a b : Option Sl} (h0 : 0 ≤ p) (hp : p < ns.length) (h1 : 0 ≤ sd) (h2 : sd < 2 ^ 66) :
    ∃ a' v' sd' l', 0 ≤ v' ∧ 0 ≤ sd' ∧ sd' < 2 ^ 66 ∧ 0 ≤ l' ∧ hd2 (envD many a b) (bagC t ns p 0 sd 0 c) = .nx (envD many a' b) (bagC t ns (p + 1) v' sd' l' c) := by
  obtain ⟨z, ez⟩ := atI_map ns h0 hp
  have pw : cPow 10 18 = true := by decide
  by_cases hz : (1000000000000000000 : Int) ≤ (z.natAbs : Int)
  · refine ⟨some (.d (.int z)), z.natAbs, sd, 0, by omega, h1, h2, by omega, ?_⟩
    unfold hd2
    simp [at6, ix6, ez, pw, abs_if, hz]
  · have cm : cMul 2 (z.natAbs : Int) = true := cMul_of (by omega) (by omega)
    refine ⟨some (.d (.int z)), 0, 2 * (z.natAbs : Int) + (if z < 0 then 1 else 0), 15, by omega, by split <;> omega, by split <;> omega, by omega, ?_⟩
    unfold hd2
    simp [at6, ix6, ez, pw, abs_if, hz, cm]
theorem v_draw {t : Hc} {m many : Int} {h : Hc} (g : BG t m h) (hm : m < 2 ^ 60) (h0 : 0 ≤ many) (h1 : many < 2 ^ 140) :
    ∃ r h', F__law_draw [.ref 0, .int many] h = .ok (.int r) h' ∧ BG t (m + 1) h' ∧ 0 ≤ r ∧ (2 ≤ many → r < many) ∧ (many < 2 → r = 0) := by
  obtain ⟨ns, p, v, sd, l, c, rfl, g1, g2, g3, g4, g5, g6, g7⟩ := g
  by_cases hs : many < 2
  · refine ⟨0, bagC t ns p v sd l c, ?_, ⟨ns, p, v, sd, l, c, rfl, g1, g2, g3, g4, g5, g6, by omega⟩, by omega, fun z => by omega, fun _ => rfl⟩
    refine (fnOf_eq _ _ _ _ _ rfl).trans ?_
    rw [draw_parts]
    simp [hs]
  · have fin : ∀ {p' v' sd' l' : Int} {a : Option Sl}, 0 ≤ p' → 0 ≤ v' → 0 ≤ sd' → sd' < 2 ^ 66 → 0 ≤ l' → (mIfS (tAndM (asB (m2 (fEq false) (m2 fIx (mVar 0) (mC (.int 2))) (mC (.int 0)))) (tAndM (asB (m2 (fEq false) (m2 fIx (mVar 0) (mC (.int 4))) (mC (.int 0)))) (asB (m2 fLt (m2 fIx (mVar 0) (mC (.int 1))) (mA1 fLen (maCons (m2 fIx (mVar 0) (mC (.int 0))) maNil)))))) hd2 mSkip) (envD many none none) (bagC t ns p v sd l (c + 1)) = .nx (envD many a none) (bagC t ns p' v' sd' l' (c + 1)) →
        ∃ r h', F__law_draw [.ref 0, .int many] (bagC t ns p v sd l c) = .ok (.int r) h' ∧ BG t (m + 1) h' ∧ 0 ≤ r ∧ (2 ≤ many → r < many) ∧ (many < 2 → r = 0) := fun {p' v' sd' l' a} k1 k2 k3 k4 k5 e => by
      obtain ⟨r, v2, l2, r1, r2, r3, r4, e2⟩ := v_tl t ns (p := p') (v := v') (sd := sd') (l := l') (c := c + 1) (many := many) (a := a) (b := none) k2 k3 k4 k5 (by omega) (by omega) (by omega) h1
      refine ⟨r, bagC t ns p' v2 sd' l2 (c + 1), ?_, ⟨ns, p', v2, sd', l2, c + 1, rfl, k1, r3, k3, k4, r4, by omega, by omega⟩, r1, fun _ => r2, fun z => absurd z hs⟩
      refine (fnOf_eq _ _ _ _ _ rfl).trans ?_
      rw [draw_parts, mSeq_eq]
      have e3 : (mIfS (asB (m2 fLt (mVar 1) (mC (.int 2)))) (mRet (mC (.int 0))) mSkip) (mkEnv 4 [.ref 0, .int many]) (bagC t ns p v sd l c) = .nx (envD many none none) (bagC t ns p v sd l c) := by simp [hs]
      rw [e3, RS.seq_nx, mSeq_eq]
      have e4 : (mSetIx (m2 (fAdd false) (m2 fIx (mVar 0) (mC (.int 5))) (mC (.int 1))) (mVar 0) (mC (.int 5))) (envD many none none) (bagC t ns p v sd l c) = .nx (envD many none none) (bagC t ns p v sd l (c + 1)) := by simp [at6, ix6]
      rw [e4, RS.seq_nx, mSeq_eq, e, RS.seq_nx, e2]
      rfl
    by_cases hv : v = 0
    · by_cases hl : l = 0
      · by_cases hp : p < ns.length
        · subst hv hl
          obtain ⟨a', v', sd', l', q1, q2, q3, q4, e⟩ := v_hd2 t ns (p := p) (sd := sd) (c := c + 1) (many := many) (a := none) (b := none) g1 hp g3 g4
          refine fin (p' := p + 1) (v' := v') (sd' := sd') (l' := l') (a := a') (by omega) q1 q2 q3 q4 ?_
          rw [← e]
          simp [at6, hp, fLen_lst]
        · exact fin (a := none) g1 g2 g3 g4 g5 (by simp [at6, hv, hl, hp, fLen_lst])
      · exact fin (a := none) g1 g2 g3 g4 g5 (by simp [at6, hv, hl])
    · exact fin (a := none) g1 g2 g3 g4 g5 (by simp [at6, hv])
end G38
namespace G38
open PySem L2 Vi
theorem comp_map (o : Bool) (i : Nat) (mt : MB) (me : ME) (f : D → D) (b : D → Bool) (env : Vi.Env) (h : Hc) : ∀ (xs acc : List D), (∀ x ∈ xs, mt (env.set i (some (.d x))) h = .ok (b x) h ∧ (b x = true → me (env.set i (some (.d x))) h = .ok (.d (f x)) h)) → acc.length + xs.length < 16000000 →
    compL o (gtN i) mt me xs acc env h = .ok (Vl.ofL o (acc ++ (xs.filter b).map f)) h := by
  intro xs
  induction xs with
  | nil =>
    intro acc _ _
    show R.ok (Vl.ofL o acc) h = _
    rw [List.filter_nil, List.map_nil, List.append_nil]
  | cons x r ih =>
    intro acc hx hl
    rw [List.length_cons] at hl
    obtain ⟨e1, e2⟩ := hx x (List.mem_cons_self ..)
    have hr := fun y hy => hx y (List.mem_cons_of_mem _ hy)
    show (match mt (env.set i (some (.d x))) h with
      | .ok b h1 => if b then (match me (env.set i (some (.d x))) h1 with
        | .ok (.d y) h2 => if acc.length < 16000000 then compL o (gtN i) mt me r (acc ++ [y]) env h2 else .stuck
        | _ => .stuck) else compL o (gtN i) mt me r acc env h1
      | _ => .stuck) = _
    rw [e1]
    cases hb : b x with
    | true =>
      have e2 := e2 hb
      dsimp only
      rw [if_pos rfl, e2]
      dsimp only
      rw [if_pos (by omega), ih _ hr (by rw [List.length_append, List.length_singleton]; omega), List.filter_cons_of_pos hb, List.map_cons, List.append_assoc]
      rfl
    | false =>
      dsimp only
      rw [if_neg Bool.false_ne_true, ih _ hr (by omega), List.filter_cons_of_neg (by rw [hb]; exact Bool.false_ne_true)]
theorem filter_yes {α : Type} (xs : List α) : xs.filter (fun _ => true) = xs := List.filter_eq_self.mpr fun _ _ => rfl
theorem comp_all (o : Bool) (i : Nat) (me : ME) (f : D → D) (env : Vi.Env) (h : Hc) (xs : List D) (hx : ∀ x ∈ xs, me (env.set i (some (.d x))) h = .ok (.d (f x)) h) (hl : xs.length < 16000000) :
    compL o (gtN i) mYes me xs [] env h = .ok (Vl.ofL o (xs.map f)) h := by
  rw [comp_map o i mYes me f (fun _ => true) env h xs [] (fun x hm => ⟨rfl, fun _ => hx x hm⟩) (by simpa using hl), filter_yes]
  rfl
abbrev letL : List Nat := (Str.ofString "abcdefghijklmnopqrstuvwxyz").cps.toList
abbrev sgnL : List Nat := (Str.ofString "abcdefghijklmnopqrstuvwxyz0123456789").cps.toList
abbrev resL : List PySem.Str := ["and", "or", "not", "free", "untouched", "least", "most", "of", "since", "until", "single", "recipe", "take", "move", "drain", "wash", "pack", "repeat", "when", "else", "end", "done", "yes", "no", "none"]
structure NameOk (x : PySem.Str) : Prop where
  n1 : 1 ≤ x.cps.size
  n8 : x.cps.size ≤ 8
  first : ∀ c, x.cps[0]? = some c → c ∈ letL
  all : ∀ c ∈ x.cps.toList, c ∈ sgnL
  res : x ∉ resL
theorem let_sgn : ∀ c ∈ letL, c ∈ sgnL := by decide +kernel
theorem vOfs_str : ∀ xs : List PySem.Str, vOfs (xs.map D.str) = some (xs.map L2.V.str)
  | [] => rfl
  | x :: r => by
    show (match vOf (.str x), vOfs (r.map D.str) with
      | some v, some vs => some (v :: vs)
      | _, _ => none) = _
    rw [vOfs_str r]
    rfl
theorem inV_str (x : PySem.Str) (xs : List PySem.Str) : inV (.str x) (xs.map L2.V.str) = decide (x ∈ xs) := by
  unfold inV
  rw [List.any_map]
  induction xs with
  | nil => rfl
  | cons y r ih =>
    rw [List.any_cons, ih]
    have e : eqV (.str y) (.str x) = decide (x = y) := by
      show (y == x) = _
      rw [Bool.eq_iff_iff, decide_eq_true_iff, beq_iff_eq]
      exact eq_comm
    show (eqV (.str y) (.str x) || _) = _
    rw [e, Bool.eq_iff_iff]
    simp
theorem in_txt (x : PySem.Str) (neg : Bool) (h : Hc) (y : Vl) (xs : List PySem.Str) (hy : seq? h y = some (xs.map D.str)) (hs : ∀ z, y ≠ .d (.str z)) : fIn neg (.d (.str x)) y h = .ok (.d (nB neg (decide (x ∈ xs)))) h := by
  have e : fIn neg (.d (.str x)) y h = fInS neg (.d (.str x)) y h := by
    unfold fIn
    split
    · next a b => exact absurd rfl (hs _)
    · rfl
  rw [e]
  unfold fInS
  simp only [hy, vOf, vOfs_str, inV_str]
theorem bools_map {α : Type} (f : α → Bool) : ∀ xs : List α, bools? (xs.map fun x => .bl (f x)) = some (xs.map f)
  | [] => rfl
  | x :: r => by
    show (bools? (r.map fun x => .bl (f x))).map (f x :: ·) = _
    rw [bools_map f r]
    rfl
theorem all_map {α : Type} (f : α → Bool) (xs : List α) (h : Hc) : fAll false [.d (.lst (xs.map fun x => .bl (f x)))] h = .ok (.d (.bl (xs.all f))) h := by
  show (match bools? (xs.map fun x => D.bl (f x)) with
    | some bs => R.ok (Vl.d (.bl (if false then bs.any id else bs.all id))) h
    | none => .stuck) = _
  rw [bools_map]
  show R.ok (Vl.d (.bl ((xs.map f).all id))) h = _
  rw [List.all_map]
  rfl
def Nm (d : D) (b : Bool) : Prop := ∀ h, F_is_name [d] h = .ok (.bl b) h
end G38
namespace G38
open PySem L2 Vi
theorem BG.up {t : Hc} {m n : Int} {h : Hc} (g : BG t m h) (hm : m ≤ n) : BG t n h := by
  obtain ⟨ns, p, v, sd, l, c, e, g1, g2, g3, g4, g5, g6, g7⟩ := g
  exact ⟨ns, p, v, sd, l, c, e, g1, g2, g3, g4, g5, g6, by omega⟩
theorem atI_get {α : Type} {xs : List α} {i : Int} (h0 : 0 ≤ i) (h1 : i < xs.length) : ∃ x, atI xs i = some x ∧ x ∈ xs := by
  have hl : i.toNat < xs.length := by omega
  refine ⟨xs[i.toNat], ?_, List.getElem_mem hl⟩
  unfold atI ixN
  rw [if_pos h0, if_pos h1]
  show xs[i.toNat]? = _
  exact List.getElem?_eq_getElem hl
theorem v_pick {t : Hc} {m : Int} {h : Hc} {xs : List D} (g : BG t m h) (hm : m < 2 ^ 60) (h0 : 0 < xs.length) (h1 : xs.length < 2 ^ 60) : ∃ x h', F__law_pick [.ref 0, .lst xs] h = .ok x h' ∧ BG t (m + 1) h' ∧ x ∈ xs := by
  obtain ⟨r, h2, e, g2, r0, r1, r2⟩ := v_draw (many := xs.length) g hm (by omega) (by omega)
  have r3 : r < xs.length := by
    by_cases h2 : (xs.length : Int) < 2
    · have := r2 h2
      omega
    · exact r1 (by omega)
  obtain ⟨x, ex, hx⟩ := atI_get r0 r3
  refine ⟨x, h2, ?_, g2, hx⟩
  refine (fnOf_eq 2 2 m__law_pick [.ref 0, .lst xs] h rfl).trans ?_
  unfold m__law_pick
  simp [e, ex]
structure Pre (n : Nat) (x : PySem.Str) : Prop where
  n : x.cps.size = n
  first : ∀ c, x.cps[0]? = some c → c ∈ letL
  all : ∀ c ∈ x.cps.toList, c ∈ sgnL
theorem Pre.one {c : Nat} (h : c ∈ letL) : Pre 1 ⟨#[c]⟩ := ⟨rfl, fun d e => by
  have e : some c = some d := e
  cases e
  exact h, fun d hd => by
  have : d = c := by simpa using hd
  subst this
  exact let_sgn _ h⟩
theorem Pre.more {n : Nat} {x : PySem.Str} {c : Nat} (p : Pre n x) (hn : 1 ≤ n) (h : c ∈ sgnL) : Pre (n + 1) (x ++ ⟨#[c]⟩) := by
  have e : (x ++ (⟨#[c]⟩ : PySem.Str)).cps = x.cps ++ #[c] := rfl
  refine ⟨by rw [e, Array.size_append, p.n]; rfl, fun d hd => ?_, fun d hd => ?_⟩
  · rw [e, Array.getElem?_append_left (by rw [p.n]; exact hn)] at hd
    exact p.first d hd
  · rw [e, Array.toList_append, List.mem_append] at hd
    rcases hd with z | z
    · exact p.all d z
    · have : d = c := by simpa using z
      subst this
      exact h
theorem Pre.name {n : Nat} {x : PySem.Str} (p : Pre n x) (h1 : 1 ≤ n) (h8 : n ≤ 8) (hr : x ∉ resL) : NameOk x := ⟨by rw [p.n]; exact h1, by rw [p.n]; exact h8, p.first, p.all, hr⟩
abbrev bigW : PySem.Str := " and or not free untouched least most of since until single recipe take move drain wash pack repeat when else end done yes no none "
theorem res_big : ∀ x ∈ resL, hasSub bigW (" " ++ x ++ " ") = true := by decide +kernel
theorem lets_at : ∀ r ∈ List.range 26, atI sgnL (r : Nat) = atI letL (r : Nat) := by decide +kernel
theorem fIx_str (z : PySem.Str) (i : Int) (c : Nat) (h : Hc) (e : atI z.cps.toList i = some c) (hl : z.cps.size ≤ 100000) : fIx (.d (.str z)) (.d (.int i)) h = .ok (.d (.str ⟨#[c]⟩)) h := by
  show (match atI z.cps.toList i with
    | some c => if z.length ≤ 100000 then R.ok (Vl.d (.str ⟨#[c]⟩)) h else .stuck
    | none => .stuck) = _
  rw [e]
  exact if_pos hl
abbrev sgnS : PySem.Str := "abcdefghijklmnopqrstuvwxyz0123456789"
theorem fAdd_str (o : Bool) (a b : PySem.Str) (h : Hc) (hl : a.cps.size + b.cps.size ≤ 100000) : fAdd o (.d (.str a)) (.d (.str b)) h = .ok (.d (.str (a ++ b))) h := by
  show (if a.length + b.length ≤ 100000 then R.ok (Vl.d (.str (a ++ b))) h else .stuck) = _
  exact if_pos hl
def nmB : MS := mSet 3 (m2 (fAdd false) (mVar 3) (m2 fIx (mVar 2) (mA1 (fCallN 2 F__law_draw []) (maCons (mVar 0) (maCons (mC (.int 36)) maNil)))))
theorem nm_loop {t : Hc} {tk : D} : ∀ (xs : List D) (j : Nat) (m : Int) (x : PySem.Str) (kv : Option Sl) (h : Hc), BG t m h → m + xs.length < 2 ^ 60 → 1 ≤ j → j + xs.length ≤ 100 → Pre j x →
    ∃ x' kv' h', forL (gtN 4) nmB xs [some (.d (.ref 0)), some (.d tk), some (.d (.str sgnS)), some (.d (.str x)), kv, none, none] h = .nx [some (.d (.ref 0)), some (.d tk), some (.d (.str sgnS)), some (.d (.str x')), kv', none, none] h' ∧ BG t (m + xs.length) h' ∧ Pre (j + xs.length) x' := by
  intro xs
  induction xs with
  | nil =>
    intro j m x kv h g hm hj hs p
    exact ⟨x, kv, h, rfl, by simpa using g, p⟩
  | cons z xs ih =>
    intro j m x kv h g hm hj hs p
    simp only [List.length_cons] at hm hs ⊢
    obtain ⟨r, h2, e, g2, r1, r2, _⟩ := v_draw (many := 36) g (by omega) (by omega) (by omega)
    have r2 := r2 (by omega)
    obtain ⟨c, ec, hc⟩ := atI_get (xs := sgnL) r1 (show r < ((36 : Nat) : Int) from r2)
    obtain ⟨x', kv', h', e4, g4, p4⟩ := ih (j + 1) (m + 1) (x ++ ⟨#[c]⟩) (some (.d z)) h2 g2 (by omega) (by omega) (by omega) (p.more hj hc)
    refine ⟨x', kv', h', ?_, g4.up (by omega), by rw [show j + (xs.length + 1) = j + 1 + xs.length by omega]; exact p4⟩
    have ei := fIx_str sgnS r c h2 ec (by decide)
    have ea := fAdd_str false x ⟨#[c]⟩ h2 (by have e0 := p.n; have e1 : (⟨#[c]⟩ : PySem.Str).cps.size = 1 := rfl; omega)
    rw [forL_cons, ← e4]
    unfold nmB gtN
    simp [e, ei, ea]
def spare (k : Nat) : PySem.Str := "q" ++ Str.ofString (toString (k : Int))
theorem spare_ok : ∀ k ∈ List.range 60, (spare k).cps.size ≤ 8 ∧ 1 ≤ (spare k).cps.size ∧ (∀ c ∈ (spare k).cps.toList, c ∈ sgnL) ∧ (spare k).cps[0]? = some 113 ∧ spare k ∉ resL := by decide +kernel
theorem spare_name {k : Nat} (h : k < 60) : NameOk (spare k) := by
  obtain ⟨h1, h2, h3, h4, h5⟩ := spare_ok k (List.mem_range.mpr h)
  exact ⟨h2, h1, fun c e => by
    rw [h4] at e
    cases e
    decide +kernel, h3, h5⟩
theorem spare_inj : ∀ i ∈ List.range 60, ∀ j ∈ List.range 60, spare i = spare j → i = j := by decide +kernel
theorem spare_free {tk : List PySem.Str} (hl : tk.length < 59) : ∃ k, k < tk.length + 1 ∧ spare k ∉ tk := by
  apply Classical.byContradiction
  intro hn
  have all : ∀ k, k < tk.length + 1 → spare k ∈ tk := fun k hk => Classical.byContradiction fun z => hn ⟨k, hk, z⟩
  have sub : ((List.range (tk.length + 1)).map spare) ⊆ tk := fun x hx => by
    obtain ⟨k, hk, rfl⟩ := List.mem_map.mp hx
    exact all k (List.mem_range.mp hk)
  have nd : ((List.range (tk.length + 1)).map spare).Nodup := by
    refine List.pairwise_map.mpr (List.Pairwise.imp_of_mem (fun {a b} ha hb ne e => ne ?_) (List.nodup_range (n := tk.length + 1)))
    have := List.mem_range.mp ha
    have := List.mem_range.mp hb
    exact spare_inj a (List.mem_range.mpr (by omega)) b (List.mem_range.mpr (by omega)) e
  have := List.Nodup.length_le_of_subset nd sub
  rw [List.length_map, List.length_range] at this
  omega
def nmC : MB := tAndM (asB (m2 (fIn true) (mVar 3) (mVar 1))) (asB (m2 (fIn true) (m2 (fAdd false) (m2 (fAdd false) (mC (.str " ")) (mVar 3)) (mC (.str " "))) (m2 (fAdd false) (mVar 5) (mC (.str "repeat when else end done yes no none ")))))
def nmF : MS := mRet (m2 fIx (mComp false [6] (gtN 6) (asB (m2 (fIn true) (mVar 6) (mVar 1))) (mVar 6) (mCompR false [4] (gtN 4) mYes (m2 (fAdd false) (mC (.str "q")) (mA1 fStrS (maCons (mVar 4) maNil))) (maCons (m2 (fAdd false) (mA1 fLen (maCons (mVar 1) maNil)) (mC (.int 1))) maNil))) (mC (.int 0)))
theorem name_parts : m__law_name = mSeq (mSet 2 (mC (.str sgnS))) (mSeq (mSet 3 (m2 fIx (mVar 2) (mA1 (fCallN 2 F__law_draw []) (maCons (mVar 0) (maCons (mC (.int 26)) maNil))))) (mSeq (mForR (gtN 4) (maCons (m2 fIx (mA1 (fLst false) (maCons (mC (.int 0)) (maCons (mC (.int 1)) (maCons (mC (.int 2)) (maCons (mC (.int 7)) maNil))))) (mA1 (fCallN 2 F__law_draw []) (maCons (mVar 0) (maCons (mC (.int 4)) maNil)))) maNil) nmB) (mSeq (mSet 5 (mC (.str " and or not free untouched least most of since until single recipe take move drain wash pack "))) (mSeq (mIfS nmC (mRet (mVar 3)) mSkip) nmF)))) := rfl
abbrev envN (tk : List PySem.Str) (x : PySem.Str) (kv w : Option Sl) : Vi.Env := [some (.d (.ref 0)), some (.d (.lst (tk.map D.str))), some (.d (.str sgnS)), some (.d (.str x)), kv, w, none]
theorem e_nmF {tk : List PySem.Str} (hl : tk.length < 59) (x : PySem.Str) (kv w : Option Sl) (h : Hc) : ∃ y, nmF (envN tk x kv w) h = .ret (.str y) h ∧ NameOk y ∧ y ∉ tk ∧ y.cps[0]? = some 113 := by
  obtain ⟨k, hk, hf⟩ := spare_free hl
  have c1 : mCompR false [4] (gtN 4) mYes (m2 (fAdd false) (mC (.str "q")) (mA1 fStrS (maCons (mVar 4) maNil))) (maCons (m2 (fAdd false) (mA1 fLen (maCons (mVar 1) maNil)) (mC (.int 1))) maNil) (envN tk x kv w) h = .ok (.d (.lst (((List.range (tk.length + 1)).map spare).map D.str))) h := by
    have ea : maCons (m2 (fAdd false) (mA1 fLen (maCons (mVar 1) maNil)) (mC (.int 1))) maNil (envN tk x kv w) h = .ok [.d (.int ((tk.length : Int) + 1))] h := by
      simp [fLen_lst]
    unfold mCompR
    rw [ea, R.bind_ok]
    dsimp only
    have cd : -(2 ^ 62) ≤ (tk.length : Int) + 1 ∧ (tk.length : Int) + 1 < 2 ^ 62 := by omega
    rw [if_pos cd, show ((tk.length : Int) + 1).toNat = tk.length + 1 by omega]
    rw [comp_all false 4 (m2 (fAdd false) (mC (.str "q")) (mA1 fStrS (maCons (mVar 4) maNil))) (fun d => match d with
      | .int i => .str ("q" ++ Str.ofString (toString i))
      | d => d) (wipeE (envN tk x kv w) [4]) h (rangeD 0 (tk.length + 1)) ?_ (by rw [rangeD_len]; omega)]
    · unfold rangeD
      rw [List.map_map, List.map_map]
      refine congrArg (fun l => R.ok (Vl.d (.lst l)) h) (List.map_congr_left fun i _ => ?_)
      show D.str ("q" ++ Str.ofString (toString (0 + (i : Int)))) = .str (spare i)
      rw [Int.zero_add]
      rfl
    · intro d hd
      unfold rangeD at hd
      obtain ⟨i, hi, rfl⟩ := List.mem_map.mp hd
      have hi := List.mem_range.mp hi
      have e1 : fStrS [.d (.int (0 + (i : Int)))] h = .ok (.d (.str (Str.ofString (toString (0 + (i : Int)))))) h := by
        show (if (0 + (i : Int)).natAbs.log2 < 1920 then R.ok (Vl.d (.str (toString (0 + (i : Int))))) h else .stuck) = _
        rw [if_pos (log2_lt (show (0 + (i : Int)).natAbs < 2 ^ 1920 from Nat.lt_of_lt_of_le (show (0 + (i : Int)).natAbs < 2 ^ 10 by omega) (Nat.pow_le_pow_right (by omega) (by omega))) (by omega))]
      have e2 : fAdd false (.d (.str "q")) (.d (.str (Str.ofString (toString (0 + (i : Int)))))) h = .ok (.d (.str ("q" ++ Str.ofString (toString (0 + (i : Int)))))) h := fAdd_str _ _ _ _ (by
        have := (spare_ok i (List.mem_range.mpr (by omega))).1
        have e3 : (spare i).cps.size = ("q" : PySem.Str).cps.size + (Str.ofString (toString ((i : Int)))).cps.size := Array.size_append ..
        rw [Int.zero_add]
        omega)
      show (m2 (fAdd false) (mC (.str "q")) (mA1 fStrS (maCons (mVar 4) maNil))) ((wipeE (envN tk x kv w) [4]).set 4 (some (.d (.int (0 + (i : Int)))))) h = _
      show ((fStrS [.d (.int (0 + (i : Int)))] h).bind fun y h2 => fAdd false (.d (.str "q")) y h2) = _
      rw [e1, R.bind_ok, e2]
  have c2 : mComp false [6] (gtN 6) (asB (m2 (fIn true) (mVar 6) (mVar 1))) (mVar 6) (mCompR false [4] (gtN 4) mYes (m2 (fAdd false) (mC (.str "q")) (mA1 fStrS (maCons (mVar 4) maNil))) (maCons (m2 (fAdd false) (mA1 fLen (maCons (mVar 1) maNil)) (mC (.int 1))) maNil)) (envN tk x kv w) h = .ok (.d (.lst (((List.range (tk.length + 1)).map spare).filter (fun y => decide (y ∉ tk)) |>.map D.str))) h := by
    have c3 := comp_map false 6 (asB (m2 (fIn true) (mVar 6) (mVar 1))) (mVar 6) (fun d => d) (fun d => match d with
      | .str y => decide (y ∉ tk)
      | _ => false) (wipeE (envN tk x kv w) [6]) h (((List.range (tk.length + 1)).map spare).map D.str) [] ?_ (by rw [List.length_map, List.length_map, List.length_range]; simp only [List.length_nil]; omega)
    · unfold mComp
      rw [c1]
      show compL false (gtN 6) (asB (m2 (fIn true) (mVar 6) (mVar 1))) (mVar 6) (((List.range (tk.length + 1)).map spare).map D.str) [] (wipeE (envN tk x kv w) [6]) h = _
      rw [c3, List.nil_append, List.filter_map, List.map_id']
      rfl
    · intro d hd
      obtain ⟨y, hy, rfl⟩ := List.mem_map.mp hd
      refine ⟨?_, fun _ => rfl⟩
      have e1 := in_txt y true h (.d (.lst (tk.map D.str))) tk rfl (fun z e => by cases e)
      show (asB (m2 (fIn true) (mVar 6) (mVar 1))) ((wipeE (envN tk x kv w) [6]).set 6 (some (.d (.str y)))) h = _
      simp only [wipeE]
      simp [e1, nB]
  have ne : (((List.range (tk.length + 1)).map spare).filter (fun y => decide (y ∉ tk))) ≠ [] := fun e => by
    have := List.eq_nil_iff_forall_not_mem.mp e (spare k)
    exact this (List.mem_filter.mpr ⟨List.mem_map.mpr ⟨k, List.mem_range.mpr hk, rfl⟩, decide_eq_true hf⟩)
  obtain ⟨y, r, er⟩ := List.exists_cons_of_ne_nil ne
  have hy : y ∈ ((List.range (tk.length + 1)).map spare).filter (fun y => decide (y ∉ tk)) := by rw [er]; exact List.mem_cons_self ..
  obtain ⟨h1, h2⟩ := List.mem_filter.mp hy
  obtain ⟨i, hi, rfl⟩ := List.mem_map.mp h1
  refine ⟨_, ?_, spare_name (by have := List.mem_range.mp hi; omega), of_decide_eq_true h2, (spare_ok i (List.mem_range.mpr (by have := List.mem_range.mp hi; omega))).2.2.2.1⟩
  unfold nmF
  rw [er] at c2
  simp [c2, atI, ixN]
end G38
namespace G38
open PySem L2 Vi
abbrev w1 : PySem.Str := " and or not free untouched least most of since until single recipe take move drain wash pack "
theorem big_eq : w1 ++ ("repeat when else end done yes no none " : PySem.Str) = bigW := by decide +kernel
theorem big_n : (" and or not free untouched least most of since until single recipe take move drain wash pack " : PySem.Str).cps.size + ("repeat when else end done yes no none " : PySem.Str).cps.size ≤ 100000 := by decide +kernel
theorem e_nmC {tk : List PySem.Str} {x : PySem.Str} {kv : Option Sl} {h : Hc} (hx : x.cps.size ≤ 8) : nmC (envN tk x kv (some (.d (.str w1)))) h = .ok (decide (x ∉ tk) && !hasSub bigW (" " ++ x ++ " ")) h := by
  have e1 := in_txt x true h (.d (.lst (tk.map D.str))) tk rfl (fun z e => by cases e)
  have n1 : (" " : PySem.Str).cps.size = 1 := rfl
  have n2 : (" " ++ x : PySem.Str).cps.size = 1 + x.cps.size := Array.size_append ..
  have e2 := fAdd_str false " " x h (by omega)
  have e3 := fAdd_str false (" " ++ x) " " h (by omega)
  have e4 := fAdd_str false w1 "repeat when else end done yes no none " h big_n
  rw [big_eq] at e4
  have e5 : fIn true (.d (.str (" " ++ x ++ " "))) (.d (.str bigW)) h = .ok (.d (.bl (!hasSub bigW (" " ++ x ++ " ")))) h := rfl
  unfold nmC
  by_cases hm : x ∈ tk
  · simp [e1, hm, nB]
  · simp [e1, hm, nB, e2, e3, e4, e5]
theorem lens4 {r : Int} (h0 : 0 ≤ r) (h1 : r < 4) : ∃ k : Nat, atI [D.int 0, .int 1, .int 2, .int 7] r = some (.int k) ∧ k ≤ 7 ∧ k ≠ 5 := by
  have : r = 0 ∨ r = 1 ∨ r = 2 ∨ r = 3 := by omega
  rcases this with rfl | rfl | rfl | rfl
  · exact ⟨0, by simp [atI, ixN], by omega⟩
  · exact ⟨1, by simp [atI, ixN], by omega⟩
  · exact ⟨2, by simp [atI, ixN], by omega⟩
  · exact ⟨7, by simp [atI, ixN], by omega⟩
abbrev zzN : PySem.Str := "zz9zz9"
theorem zz_size : zzN.cps.size = 6 ∧ zzN.cps[0]? = some 122 := by decide +kernel
theorem v_lname {t : Hc} {m : Int} {h : Hc} {tk : List PySem.Str} (g : BG t m h) (hm : m < 2 ^ 50) (hl : tk.length < 59) : ∃ y h', F__law_name [.ref 0, .lst (tk.map D.str)] h = .ok (.str y) h' ∧ BG t (m + 10) h' ∧ NameOk y ∧ y ∉ zzN :: tk := by
  obtain ⟨r, h1, e1, g1, r0, r1, _⟩ := v_draw (many := 26) g (by omega) (by omega) (by omega)
  have r1 := r1 (by omega)
  obtain ⟨c, ec, hc⟩ := atI_get (xs := letL) r0 (show r < ((26 : Nat) : Int) from r1)
  have ec2 : atI sgnL r = some c := by
    have z := lets_at r.toNat (List.mem_range.mpr (by omega))
    rw [show ((r.toNat : Nat) : Int) = r by omega] at z
    rw [z, ec]
  obtain ⟨q, h2, e2, g2, q0, q1, _⟩ := v_draw (many := 4) g1 (by omega) (by omega) (by omega)
  obtain ⟨k, ek, hk⟩ := lens4 q0 (q1 (by omega))
  have lk : (rangeD 0 k).length = k := rangeD_len 0 k
  obtain ⟨x, kv, h3, e3, g3, p⟩ := nm_loop (tk := .lst (tk.map D.str)) (rangeD 0 k) 1 _ ⟨#[c]⟩ none h2 g2 (by omega) (by omega) (by omega) (Pre.one hc)
  rw [lk] at p g3
  have s1 : mSet 2 (mC (.str sgnS)) (mkEnv 7 [.ref 0, .lst (tk.map D.str)]) h = .nx [some (.d (.ref 0)), some (.d (.lst (tk.map D.str))), some (.d (.str sgnS)), none, none, none, none] h := rfl
  have i1 := fIx_str sgnS r c h1 ec2 (by decide)
  have s2 : mSet 3 (m2 fIx (mVar 2) (mA1 (fCallN 2 F__law_draw []) (maCons (mVar 0) (maCons (mC (.int 26)) maNil)))) [some (.d (.ref 0)), some (.d (.lst (tk.map D.str))), some (.d (.str sgnS)), none, none, none, none] h = .nx (envN tk ⟨#[c]⟩ none none) h1 := by
    simp [e1, i1]
  have s3 : mForR (gtN 4) (maCons (m2 fIx (mA1 (fLst false) (maCons (mC (.int 0)) (maCons (mC (.int 1)) (maCons (mC (.int 2)) (maCons (mC (.int 7)) maNil))))) (mA1 (fCallN 2 F__law_draw []) (maCons (mVar 0) (maCons (mC (.int 4)) maNil)))) maNil) nmB (envN tk ⟨#[c]⟩ none none) h1 = .nx (envN tk x kv none) h3 := by
    have ea : maCons (m2 fIx (mA1 (fLst false) (maCons (mC (.int 0)) (maCons (mC (.int 1)) (maCons (mC (.int 2)) (maCons (mC (.int 7)) maNil))))) (mA1 (fCallN 2 F__law_draw []) (maCons (mVar 0) (maCons (mC (.int 4)) maNil)))) maNil (envN tk ⟨#[c]⟩ none none) h1 = .ok [.d (.int k)] h2 := by
      simp [e2, ek]
    unfold mForR
    rw [ea, R.thenS_ok]
    dsimp only
    have cd : -(2 ^ 62) ≤ (k : Int) ∧ (k : Int) < 2 ^ 62 := by omega
    rw [if_pos cd, Int.toNat_natCast]
    exact e3
  have s4 : mSet 5 (mC (.str " and or not free untouched least most of since until single recipe take move drain wash pack ")) (envN tk x kv none) h3 = .nx (envN tk x kv (some (.d (.str w1)))) h3 := rfl
  have hx : x.cps.size ≤ 8 := by rw [p.n]; omega
  have s5 := e_nmC (tk := tk) (kv := kv) (h := h3) hx
  have go : F__law_name [.ref 0, .lst (tk.map D.str)] h = ((mSeq (mIfS nmC (mRet (mVar 3)) mSkip) nmF) (envN tk x kv (some (.d (.str w1)))) h3).fin := by
    refine (fnOf_eq 7 2 m__law_name _ h rfl).trans ?_
    rw [name_parts, mSeq_eq, s1, RS.seq_nx, mSeq_eq, s2, RS.seq_nx, mSeq_eq, s3, RS.seq_nx, mSeq_eq, s4, RS.seq_nx]
  rw [go]
  by_cases hb : (decide (x ∉ tk) && !hasSub bigW (" " ++ x ++ " ")) = true
  · obtain ⟨b1, b2⟩ := Bool.and_eq_true_iff.mp hb
    refine ⟨x, h3, ?_, g3.up (by omega), p.name (by omega) (by omega) fun hr => ?_, fun z => (List.mem_cons.mp z).elim (fun e => by
      have q := p.n
      rw [e, zz_size.1] at q
      omega) (show x ∉ tk from of_decide_eq_true b1)⟩
    · rw [hb] at s5
      rw [mSeq_eq, mIfS_eq, s5, R.thenS_ok, pick_t]
      rfl
    · rw [res_big x hr] at b2
      cases b2
  · obtain ⟨y, ey, ny, hy, hq⟩ := e_nmF hl x kv (some (.d (.str w1))) h3
    refine ⟨y, h3, ?_, g3.up (by omega), ny, fun z => (List.mem_cons.mp z).elim (fun e => by
      rw [e, zz_size.2] at hq
      cases hq) hy⟩
    rw [Bool.eq_false_iff.mpr hb] at s5
    rw [mSeq_eq, mIfS_eq, s5, R.thenS_ok, pick_f]
    rw [show mSkip (envN tk x kv (some (.d (.str w1)))) h3 = .nx (envN tk x kv (some (.d (.str w1)))) h3 from rfl, RS.seq_nx, ey]
    rfl
structure Names (xs : List PySem.Str) : Prop where
  ok : ∀ x ∈ xs, NameOk x
  nodup : xs.Nodup
def nsB : MS := mAppend 3 (mA1 (fCallN 2 F__law_name []) (maCons (mVar 0) (maCons (m2 (fAdd false) (mVar 2) (mVar 3)) maNil)))
theorem ns_loop {t : Hc} {tk : List PySem.Str} {n : D} : ∀ (zs : List D) (m : Int) (xs : List PySem.Str) (kv : Option Sl) (h : Hc), BG t m h → m + 10 * zs.length < 2 ^ 50 → tk.length + xs.length + zs.length < 59 → Names xs → (∀ x ∈ xs, x ∉ zzN :: tk) →
    ∃ xs' kv' h', forL (gtN 4) nsB zs [some (.d (.ref 0)), some (.d n), some (.d (.lst (tk.map D.str))), some (.ol (xs.map D.str)), kv] h = .nx [some (.d (.ref 0)), some (.d n), some (.d (.lst (tk.map D.str))), some (.ol (xs'.map D.str)), kv'] h' ∧ BG t (m + 10 * zs.length) h' ∧ Names xs' ∧ (∀ x ∈ xs', x ∉ zzN :: tk) ∧ xs'.length = xs.length + zs.length := by
  intro zs
  induction zs with
  | nil =>
    intro m xs kv h g hm hl n1 n2
    exact ⟨xs, kv, h, rfl, by simpa using g, n1, n2, by simp⟩
  | cons z zs ih =>
    intro m xs kv h g hm hl n1 n2
    simp only [List.length_cons] at hm hl ⊢
    obtain ⟨y, h1, e1, g1, ny, hy⟩ := v_lname (tk := tk ++ xs) g (by omega) (by rw [List.length_append]; omega)
    have hy1 : y ∉ zzN :: tk := fun z => hy ((List.mem_cons.mp z).elim (fun e => e ▸ List.mem_cons_self ..) fun w => List.mem_cons_of_mem _ (List.mem_append_left _ w))
    have hy2 : y ∉ xs := fun z => hy (List.mem_cons_of_mem _ (List.mem_append_right _ z))
    obtain ⟨xs', kv', h', e4, g4, q1, q2, q3⟩ := ih (m + 10) (xs ++ [y]) (some (.d z)) h1 g1 (by omega) (by rw [List.length_append, List.length_singleton]; omega)
      ⟨fun x hx => by
        rcases List.mem_append.mp hx with hx | hx
        · exact n1.ok x hx
        · rw [List.mem_singleton.mp hx]; exact ny, List.nodup_append.mpr ⟨n1.nodup, by simp, fun a ha b hb => by
        rw [List.mem_singleton.mp hb]
        exact fun e => hy2 (e ▸ ha)⟩⟩ (fun x hx => by
        rcases List.mem_append.mp hx with hx | hx
        · exact n2 x hx
        · rw [List.mem_singleton.mp hx]; exact hy1)
    refine ⟨xs', kv', h', ?_, g4.up (by omega), q1, q2, by rw [q3, List.length_append, List.length_singleton]; omega⟩
    rw [List.map_append] at e1
    have ea : fAdd false (.d (.lst (tk.map D.str))) (.bl (xs.map D.str)) h = .ok (.d (.lst (tk.map D.str ++ xs.map D.str))) h := by
      show (if (tk.map D.str).length + (xs.map D.str).length ≤ 100000 then R.ok (Vl.ofL false (tk.map D.str ++ xs.map D.str)) h else .stuck) = _
      rw [if_pos (by rw [List.length_map, List.length_map]; omega)]
      rfl
    rw [forL_cons, ← e4]
    unfold nsB gtN
    have hs : xs.length < 100000 := by omega
    simp [ea, e1, mAppend, hs]
theorem v_lnames {t : Hc} {m : Int} {h : Hc} {tk : List PySem.Str} {n : Nat} (g : BG t m h) (hm : m < 2 ^ 49) (hl : tk.length + n < 59) : ∃ xs h', F__law_names [.ref 0, .int n, .lst (tk.map D.str)] h = .ok (.lst (xs.map D.str)) h' ∧ BG t (m + 600) h' ∧ Names xs ∧ (∀ x ∈ xs, x ∉ zzN :: tk) ∧ xs.length = n := by
  have ln : (rangeD 0 n).length = n := rangeD_len 0 n
  obtain ⟨xs, kv, h1, e1, g1, q1, q2, q3⟩ := ns_loop (tk := tk) (n := .int n) (rangeD 0 n) m [] none h g (by omega) (by rw [ln]; simpa using hl) ⟨by simp, List.nodup_nil⟩ (by simp)
  rw [ln] at q3 g1
  refine ⟨xs, h1, ?_, g1.up (by omega), q1, q2, by simpa using q3⟩
  refine (fnOf_eq 5 3 m__law_names _ h rfl).trans ?_
  have p : m__law_names = mSeq (mSet 3 (mA1 (fLst true) maNil)) (mSeq (mForR (gtN 4) (maCons (mVar 1) maNil) nsB) (mFrz 3 (mRet (mVar 3)))) := rfl
  have s2 : mForR (gtN 4) (maCons (mVar 1) maNil) nsB [some (.d (.ref 0)), some (.d (.int n)), some (.d (.lst (tk.map D.str))), some (.ol []), none] h = .nx [some (.d (.ref 0)), some (.d (.int n)), some (.d (.lst (tk.map D.str))), some (.ol (xs.map D.str)), kv] h1 := by
    have ea : maCons (mVar 1) maNil [some (.d (.ref 0)), some (.d (.int n)), some (.d (.lst (tk.map D.str))), some (.ol []), none] h = .ok [.d (.int n)] h := rfl
    unfold mForR
    rw [ea, R.thenS_ok]
    dsimp only
    have cd : -(2 ^ 62) ≤ (n : Int) ∧ (n : Int) < 2 ^ 62 := by omega
    rw [if_pos cd, Int.toNat_natCast]
    exact e1
  rw [p, mSeq_eq, show mSet 3 (mA1 (fLst true) maNil) (mkEnv 5 [.ref 0, .int n, .lst (tk.map D.str)]) h = .nx [some (.d (.ref 0)), some (.d (.int n)), some (.d (.lst (tk.map D.str))), some (.ol []), none] h from rfl, RS.seq_nx, mSeq_eq, s2, RS.seq_nx]
  rfl
end G38
namespace G38
open PySem L2 Vi
theorem repr_of {t : D} (h1 : dat t = true) (h2 : shwB (toP t) = true) (h : Hc) : fRepr [.d t] h = .ok (.d (.str (toP t).shown)) h := by
  have e : fRepr [.d t] h = (match (if dat t then some t else none) with
    | some d => if shwB (toP d) then R.ok (Vl.d (.str (toP d).shown)) h else .stuck
    | none => .stuck) := rfl
  rw [e, h1, if_pos rfl]
  dsimp only
  rw [if_pos h2]
theorem eq_txt (neg : Bool) (a b : PySem.Str) (h : Hc) : fEq neg (.d (.str a)) (.d (.str b)) h = .ok (.d (.bl (if neg then !decide (a = b) else decide (a = b)))) h := rfl
section
variable {h : Hc}
theorem ret_of {m : ME} {env : Vi.Env} {d : D} {h' : Hc} (e : m env h = .ok (.d d) h') : mRet m env h = .ret d h' := by
  unfold mRet
  rw [e]
  rfl
end
end G38
namespace G38
open PySem L2 Vi
theorem mA1_eq (F : List Vl → Hc → R Vl) (m : MA) (env : Vi.Env) (h : Hc) : mA1 F m env h = (m env h).bind fun xs h1 => F xs h1 := rfl
theorem maCons_eq (a : ME) (b : MA) (env : Vi.Env) (h : Hc) : maCons a b env h = (a env h).bind fun x h1 => (b env h1).bind fun xs h2 => .ok (x :: xs) h2 := rfl
theorem m2_eq (F : Vl → Vl → Hc → R Vl) (a b : ME) (env : Vi.Env) (h : Hc) : m2 F a b env h = (a env h).bind fun x h1 => (b env h1).bind fun y h2 => F x y h2 := rfl
theorem asB_of {m : ME} {env : Vi.Env} {h h' : Hc} {b : Bool} (e : m env h = .ok (.d (.bl b)) h') : asB m env h = .ok b h' := by
  unfold asB
  rw [e]
  rfl
theorem set_d {i : Nat} {env : Vi.Env} {m : ME} {d : D} {h h' : Hc} (e : m env h = .ok (.d d) h') : mSet i m env h = .nx (env.set i (some (.d d))) h' := by
  unfold mSet
  rw [e]
  rfl
theorem call1 {F : Fn} {env : Vi.Env} {a : ME} {x d : D} {h h1 h2 : Hc} (ea : a env h = .ok (.d x) h1) (e : F [x] h1 = .ok d h2) : mA1 (fCallN 1 F []) (maCons a maNil) env h = .ok (.d d) h2 := by
  rw [mA1_eq, maCons_eq, ea, R.bind_ok]
  show ((F [x] h1).bind fun d h' => R.ok (Vl.d d) h') = _
  rw [e]
  rfl
theorem call2 {F : Fn} {env : Vi.Env} {a b : ME} {x y d : D} {h h1 h2 h3 : Hc} (ea : a env h = .ok (.d x) h1) (eb : b env h1 = .ok (.d y) h2) (e : F [x, y] h2 = .ok d h3) : mA1 (fCallN 2 F []) (maCons a (maCons b maNil)) env h = .ok (.d d) h3 := by
  rw [mA1_eq, maCons_eq, ea, R.bind_ok, maCons_eq, eb, R.bind_ok]
  show ((F [x, y] h2).bind fun d h' => R.ok (Vl.d d) h') = _
  rw [e]
  rfl
theorem call3 {F : Fn} {env : Vi.Env} {a b c : ME} {x y z d : D} {h h1 h2 h3 h4 : Hc} (ea : a env h = .ok (.d x) h1) (eb : b env h1 = .ok (.d y) h2) (ec : c env h2 = .ok (.d z) h3) (e : F [x, y, z] h3 = .ok d h4) : mA1 (fCallN 3 F []) (maCons a (maCons b (maCons c maNil))) env h = .ok (.d d) h4 := by
  rw [mA1_eq, maCons_eq, ea, R.bind_ok, maCons_eq, eb, R.bind_ok, maCons_eq, ec, R.bind_ok]
  show ((F [x, y, z] h3).bind fun d h' => R.ok (Vl.d d) h') = _
  rw [e]
  rfl
theorem call4 {F : Fn} {env : Vi.Env} {a b c e0 : ME} {x y z w d : D} {h h1 h2 h3 h4 h5 : Hc} (ea : a env h = .ok (.d x) h1) (eb : b env h1 = .ok (.d y) h2) (ec : c env h2 = .ok (.d z) h3) (ed : e0 env h3 = .ok (.d w) h4) (e : F [x, y, z, w] h4 = .ok d h5) : mA1 (fCallN 4 F []) (maCons a (maCons b (maCons c (maCons e0 maNil)))) env h = .ok (.d d) h5 := by
  rw [mA1_eq, maCons_eq, ea, R.bind_ok, maCons_eq, eb, R.bind_ok, maCons_eq, ec, R.bind_ok, maCons_eq, ed, R.bind_ok]
  show ((F [x, y, z, w] h4).bind fun d h' => R.ok (Vl.d d) h') = _
  rw [e]
  rfl
theorem ma_cons {a : ME} {b : MA} {env : Vi.Env} {d : Vl} {ds : List Vl} {h h1 h2 : Hc} (e1 : a env h = .ok d h1) (e2 : b env h1 = .ok ds h2) : maCons a b env h = .ok (d :: ds) h2 := by
  rw [maCons_eq, e1, R.bind_ok, e2]
  rfl
theorem ma_nil {env : Vi.Env} {h : Hc} : maNil env h = .ok [] h := rfl
theorem a1_of {F : List Vl → Hc → R Vl} {env : Vi.Env} {a : ME} {x : Vl} {h h1 : Hc} (ea : a env h = .ok x h1) : mA1 F (maCons a maNil) env h = F [x] h1 := by
  rw [mA1_eq, maCons_eq, ea]
  rfl
theorem m2_of {F : Vl → Vl → Hc → R Vl} {env : Vi.Env} {a b : ME} {x y : Vl} {h h1 h2 : Hc} (ea : a env h = .ok x h1) (eb : b env h1 = .ok y h2) : m2 F a b env h = F x y h2 := by
  rw [m2_eq, ea, R.bind_ok, eb, R.bind_ok]
theorem m1_of {F : Vl → Hc → R Vl} {env : Vi.Env} {a : ME} {x : Vl} {h h1 : Hc} (ea : a env h = .ok x h1) : m1 F a env h = F x h1 := by
  show (a env h).bind (fun x h1 => F x h1) = _
  rw [ea]
  rfl
theorem seq_nx {a b : MS} {env env1 : Vi.Env} {h h1 : Hc} (e : a env h = .nx env1 h1) : mSeq a b env h = b env1 h1 := by rw [mSeq_eq, e]; rfl
theorem seq_ret {a b : MS} {env : Vi.Env} {d : D} {h h1 : Hc} (e : a env h = .ret d h1) : mSeq a b env h = .ret d h1 := by rw [mSeq_eq, e]; rfl
theorem seq_exc {a b : MS} {env env1 : Vi.Env} {d : D} {h h1 : Hc} (e : a env h = .exc env1 d h1) : mSeq a b env h = .exc env1 d h1 := by rw [mSeq_eq, e]; rfl
theorem if_t {t : MB} {a b : MS} {env : Vi.Env} {h h1 : Hc} (e : t env h = .ok true h1) : mIfS t a b env h = a env h1 := by
  unfold mIfS
  rw [e]
  rfl
theorem if_f {t : MB} {a b : MS} {env : Vi.Env} {h h1 : Hc} (e : t env h = .ok false h1) : mIfS t a b env h = b env h1 := by
  unfold mIfS
  rw [e]
  rfl
theorem if_skip {t : MB} {a : MS} {env : Vi.Env} {h h1 : Hc} (e : t env h = .ok false h1) : mIfS t a mSkip env h = .nx env h1 := (if_f e).trans rfl
theorem not_b {t : MB} {env : Vi.Env} {h h1 : Hc} {b : Bool} (e : t env h = .ok b h1) : tNotM t env h = .ok (!b) h1 := by
  unfold tNotM
  rw [e]
  rfl
theorem or_f {a b : MB} {env : Vi.Env} {h h1 : Hc} (e : a env h = .ok false h1) : tOrM a b env h = b env h1 := by
  unfold tOrM
  rw [e]
  rfl
theorem or_t {a b : MB} {env : Vi.Env} {h h1 : Hc} (e : a env h = .ok true h1) : tOrM a b env h = .ok true h1 := by
  unfold tOrM
  rw [e]
  rfl
theorem and_tt {a b : MB} {env : Vi.Env} {h h1 : Hc} (e : a env h = .ok true h1) : tAndM a b env h = b env h1 := by
  unfold tAndM
  rw [e]
  rfl
theorem and_ff {a b : MB} {env : Vi.Env} {h h1 : Hc} (e : a env h = .ok false h1) : tAndM a b env h = .ok false h1 := by
  unfold tAndM
  rw [e]
  rfl
theorem eq_int (a b : Int) : PyData.eqv (.int a) (.int b) = decide (a = b) := by
  simp only [PyData.eqv]
  rw [Bool.eq_iff_iff]
  simp
theorem eqI (neg : Bool) (a b : Int) (h : Hc) : fEq neg (.d (.int a)) (.d (.int b)) h = .ok (.d (.bl (if neg then !decide (a = b) else decide (a = b)))) h := by
  have e : eqD (.int a) (.int b) = decide (a = b) := eq_int a b
  show (if shp (.int a) && shp (.int b) then R.ok (Vl.d (.bl (if neg then !eqD (.int a) (.int b) else eqD (.int a) (.int b)))) h else .stuck) = _
  rw [e]
  rfl
theorem comp_gen {α : Type} (T : TgF) (me : ME) (g f : α → D) (env : Vi.Env) (h : Hc) : ∀ (xs : List α) (acc : List D), (∀ x ∈ xs, ∃ env1, T (g x) env = some env1 ∧ me env1 h = .ok (.d (f x)) h) → acc.length + xs.length < 16000000 →
    compL false T mYes me (xs.map g) acc env h = .ok (.d (.lst (acc ++ xs.map f))) h := by
  intro xs
  induction xs with
  | nil =>
    intro acc _ _
    show R.ok (Vl.d (.lst acc)) h = _
    rw [List.map_nil, List.append_nil]
  | cons x r ih =>
    intro acc hx hl
    rw [List.length_cons] at hl
    obtain ⟨env1, e1, e2⟩ := hx x (List.mem_cons_self ..)
    show (match T (g x) env with
      | none => R.stuck
      | some env1 => (match mYes env1 h with
        | .ok b h1 => if b then (match me env1 h1 with
          | .ok (.d y) h2 => if acc.length < 16000000 then compL false T mYes me (r.map g) (acc ++ [y]) env h2 else .stuck
          | _ => R.stuck) else compL false T mYes me (r.map g) acc env h1
        | _ => .stuck)) = _
    rw [e1]
    show (match me env1 h with
          | .ok (.d y) h2 => if acc.length < 16000000 then compL false T mYes me (r.map g) (acc ++ [y]) env h2 else .stuck
          | _ => .stuck) = _
    rw [e2]
    dsimp only
    rw [if_pos (by omega), ih _ (fun y hy => hx y (List.mem_cons_of_mem _ hy)) (by rw [List.length_append, List.length_singleton]; omega), List.map_cons, List.append_assoc]
    rfl
theorem app_eq {i : Nat} {env : Vi.Env} {e : ME} {xs : List D} {d : D} {h h' : Hc} (h5 : env[i]? = some (some (.ol xs))) (he : e env h = .ok (.d d) h') (hl : xs.length < 100000) : mAppend i e env h = .nx (env.set i (some (.ol (xs ++ [d])))) h' := by
  unfold mAppend
  rw [h5]
  dsimp only
  rw [he, R.thenS_ok]
  dsimp only
  rw [if_pos hl]
end G38
namespace G38
open PySem L2 Vi
theorem for_nx {T : TgF} {b : MS} {x : D} {r : List D} {env env1 env2 : Vi.Env} {h h2 : Hc} (e1 : T x env = some env1) (e2 : b env1 h = .nx env2 h2) : forL T b (x :: r) env h = forL T b r env2 h2 := by
  rw [forL_cons, e1]
  dsimp only
  rw [e2]
  rfl
theorem for_ret {T : TgF} {b : MS} {x : D} {r : List D} {env env1 : Vi.Env} {d : D} {h h2 : Hc} (e1 : T x env = some env1) (e2 : b env1 h = .ret d h2) : forL T b (x :: r) env h = .ret d h2 := by
  rw [forL_cons, e1]
  dsimp only
  rw [e2]
  rfl
theorem for_eq {T : TgF} {a : ME} {b : MS} {env : Vi.Env} {h h1 : Hc} {x : Vl} {bb : Bool} {xs : List D} (e : a env h = .ok x h1) (es : seqD? h1 x = some (bb, xs)) : mFor T a b env h = forL T b xs env h1 := by
  unfold mFor
  rw [e, R.thenS_ok, es]
theorem draw2 {t : Hc} {m many : Int} {h : Hc} (g : BG t m h) (hm : m < 2 ^ 60) (h0 : 1 ≤ many) (h1 : many < 2 ^ 140) : ∃ r h', F__law_draw [.ref 0, .int many] h = .ok (.int r) h' ∧ BG t (m + 1) h' ∧ 0 ≤ r ∧ r < many := by
  obtain ⟨r, h', e, g2, r0, r1, r2⟩ := v_draw (many := many) g hm (by omega) h1
  refine ⟨r, h', e, g2, r0, ?_⟩
  by_cases hs : 2 ≤ many
  · exact r1 hs
  · have := r2 (by omega)
    omega
end G38
namespace G38
open PySem L2 Vi
structure Sh (d : D) (k : Nat) : Prop where
  t : dat d = true
  y : PyData.canLay0 (toP d) = true
  k : (toP d).depth ≤ k
structure Shs (xs : List D) (k : Nat) : Prop where
  t : dats xs = true
  y : PyData.canLayAll0 (toPs xs) = true
  k : PyData.depthAll (toPs xs) ≤ k
theorem Sh.up {d : D} {j k : Nat} (a : Sh d j) (h : j ≤ k) : Sh d k := ⟨a.t, a.y, Nat.le_trans a.k h⟩
theorem Sh.int (i : Int) : Sh (.int i) 0 := ⟨rfl, by show PyData.canLay0 (.int i) = true; simp only [PyData.canLay0], by show PyData.depth (.int i) ≤ 0; simp only [PyData.depth]; exact Nat.le_refl _⟩
theorem Sh.bl (i : Bool) : Sh (.bl i) 0 := ⟨rfl, by show PyData.canLay0 (.bool i) = true; simp only [PyData.canLay0], by show PyData.depth (.bool i) ≤ 0; simp only [PyData.depth]; exact Nat.le_refl _⟩
theorem Sh.non : Sh .non 0 := ⟨rfl, by show PyData.canLay0 .none = true; simp only [PyData.canLay0], by show PyData.depth .none ≤ 0; simp only [PyData.depth]; exact Nat.le_refl _⟩
theorem Sh.str {x : PySem.Str} (h : PyData.strOk x = true) : Sh (.str x) 0 := ⟨rfl, by show PyData.canLay0 (.str x) = true; simp only [PyData.canLay0]; exact h, by show PyData.depth (.str x) ≤ 0; simp only [PyData.depth]; exact Nat.le_refl _⟩
theorem Shs.nil {k : Nat} : Shs [] k := ⟨rfl, by show PyData.canLayAll0 [] = true; simp only [PyData.canLayAll0], by show PyData.depthAll [] ≤ k; simp only [PyData.depthAll]; omega⟩
theorem Shs.cons {d : D} {ds : List D} {k : Nat} (a : Sh d k) (b : Shs ds k) : Shs (d :: ds) k := by
  refine ⟨?_, ?_, ?_⟩
  · show (dat d && dats ds) = true
    rw [a.t, b.t]
    rfl
  · show PyData.canLayAll0 (toP d :: toPs ds) = true
    simp only [PyData.canLayAll0]
    rw [a.y, b.y]
    rfl
  · show PyData.depthAll (toP d :: toPs ds) ≤ k
    simp only [PyData.depthAll]
    have := a.k
    have := b.k
    omega
theorem Shs.of {ds : List D} {k : Nat} (h : ∀ d ∈ ds, Sh d k) : Shs ds k := by
  induction ds with
  | nil => exact .nil
  | cons d r ih => exact .cons (h d (List.mem_cons_self ..)) (ih fun x hx => h x (List.mem_cons_of_mem _ hx))
theorem Shs.map {α : Type} {f : α → D} {xs : List α} {k : Nat} (h : ∀ x ∈ xs, Sh (f x) k) : Shs (xs.map f) k := .of fun d hd => by
  obtain ⟨x, hx, rfl⟩ := List.mem_map.mp hd
  exact h x hx
theorem Shs.tup {ds : List D} {k : Nat} (b : Shs ds k) : Sh (.tup ds) (k + 1) := ⟨b.t, by show PyData.canLay0 (.tuple (toPs ds)) = true; simpa only [PyData.canLay0] using b.y, by show PyData.depth (.tuple (toPs ds)) ≤ k + 1; simpa only [PyData.depth, Nat.add_le_add_iff_right] using b.k⟩
theorem Shs.lst {ds : List D} {k : Nat} (b : Shs ds k) : Sh (.lst ds) (k + 1) := ⟨b.t, by show PyData.canLay0 (.list (toPs ds)) = true; simpa only [PyData.canLay0] using b.y, by show PyData.depth (.list (toPs ds)) ≤ k + 1; simpa only [PyData.depth, Nat.add_le_add_iff_right] using b.k⟩
theorem Sh.shp {d : D} {k : Nat} (a : Sh d k) (hk : k ≤ 60) : shp d = true := by
  show (PyData.canLay0 (toP d) && decide ((toP d).depth ≤ 64)) = true
  rw [a.y, decide_eq_true (Nat.le_trans a.k (by omega))]
  rfl
theorem eqD_self {d : D} {k : Nat} (a : Sh d k) : eqD d d = true := PySem.SeqAt.eqv_refl _ a.y
theorem eq_gen {x y : D} {j k : Nat} (neg : Bool) (a : Sh x j) (b : Sh y k) (hj : j ≤ 60) (hk : k ≤ 60) (hx : ∀ s, x ≠ .str s) (h : Hc) : fEq neg (.d x) (.d y) h = .ok (.d (.bl (if neg then !eqD x y else eqD x y))) h := by
  have e : fEq neg (.d x) (.d y) h = fEq0 neg (.d x) (.d y) h := by
    cases x with
    | str s => exact absurd rfl (hx s)
    | _ => rfl
  rw [e]
  show (match (if dat x then some x else none), (if dat y then some y else none) with
    | some d, some e => if shp d && shp e then R.ok (Vl.d (.bl (if neg then !eqD d e else eqD d e))) h else .stuck
    | _, _ => .stuck) = _
  rw [a.t, b.t, if_pos rfl, if_pos rfl]
  dsimp only
  rw [a.shp hj, b.shp hk]
  rfl
theorem sgn_cp : ∀ c ∈ sgnL, c < 0x110000 := by decide +kernel
theorem name_lay {x : PySem.Str} (n : NameOk x) : PyData.strOk x = true := by
  unfold PyData.strOk
  rw [← Array.all_toList]
  exact List.all_eq_true.mpr fun c hc => decide_eq_true (sgn_cp c (n.all c hc))
theorem Sh.nm {x : PySem.Str} (n : NameOk x) : Sh (.str x) 0 := .str (name_lay n)
theorem comp_filt {α : Type} (o : Bool) (T : TgF) (mt : MB) (me : ME) (g f : α → D) (b : α → Bool) (env : Vi.Env) (h : Hc) : ∀ (xs : List α) (acc : List D), (∀ x ∈ xs, ∃ env1, T (g x) env = some env1 ∧ mt env1 h = .ok (b x) h ∧ (b x = true → me env1 h = .ok (.d (f x)) h)) → acc.length + xs.length < 16000000 →
    compL o T mt me (xs.map g) acc env h = .ok (Vl.ofL o (acc ++ (xs.filter b).map f)) h := by
  intro xs
  induction xs with
  | nil =>
    intro acc _ _
    show R.ok (Vl.ofL o acc) h = _
    rw [List.filter_nil, List.map_nil, List.append_nil]
  | cons x r ih =>
    intro acc hx hl
    rw [List.length_cons] at hl
    obtain ⟨env1, e0, e1, e2⟩ := hx x (List.mem_cons_self ..)
    have hr := fun y hy => hx y (List.mem_cons_of_mem _ hy)
    show (match T (g x) env with
      | none => R.stuck
      | some env1 => (match mt env1 h with
        | .ok b h1 => if b then (match me env1 h1 with
          | .ok (.d y) h2 => if acc.length < 16000000 then compL o T mt me (r.map g) (acc ++ [y]) env h2 else .stuck
          | _ => R.stuck) else compL o T mt me (r.map g) acc env h1
        | _ => .stuck)) = _
    rw [e0]
    dsimp only
    rw [e1]
    cases hb : b x with
    | true =>
      have e2 := e2 hb
      dsimp only
      rw [if_pos rfl, e2]
      dsimp only
      rw [if_pos (by omega), ih _ hr (by rw [List.length_append, List.length_singleton]; omega), List.filter_cons_of_pos hb, List.map_cons, List.append_assoc]
      rfl
    | false =>
      dsimp only
      rw [if_neg Bool.false_ne_true, ih _ hr (by omega), List.filter_cons_of_neg (by rw [hb]; exact Bool.false_ne_true)]
section
variable {t : Hc} {m : Int} {h : Hc}
theorem dr {i : Nat} {env : Vi.Env} {a : ME} {many : Int} (g : BG t m h) (hm : m < 2 ^ 60) (h0 : 1 ≤ many) (h1 : many < 2 ^ 140) (e0 : mVar i env h = .ok (.d (.ref 0)) h) (ea : a env h = .ok (.d (.int many)) h) :
    ∃ r h', mA1 (fCallN 2 F__law_draw []) (maCons (mVar i) (maCons a maNil)) env h = .ok (.d (.int r)) h' ∧ BG t (m + 1) h' ∧ 0 ≤ r ∧ r < many := by
  obtain ⟨r, h', e, g2, r0, r1⟩ := draw2 g hm h0 h1
  exact ⟨r, h', call2 (x := .ref 0) (y := .int many) (h1 := h) (h2 := h) e0 ea e, g2, r0, r1⟩
end
def NoR (d : D) : Prop := ∀ L, refsD L d = true
def Cl (h : Hc) : Prop := ∀ c ∈ h, ∀ L, cellRefs L c = true
section
variable {m : Int} {h : Hc}
theorem BG.ext {t : Hc} (g : BG t m h) (c : Cell) : BG (t ++ [c]) m (h ++ [c]) := by
  obtain ⟨ns, p, v, sd, l, k, rfl, q⟩ := g
  exact ⟨ns, p, v, sd, l, k, rfl, q⟩
theorem BG.len {t : Hc} (g : BG t m h) : h.length = t.length + 1 := by
  obtain ⟨ns, p, v, sd, l, k, rfl, q⟩ := g
  rfl
end
section
variable {h : Hc}
end
end G38
namespace G38
open PySem L2 Vi
abbrev Bt (k : Nat) (i : Int) : Prop := i.natAbs < 2 ^ k
structure Okd (d : PyData) (w k : Nat) : Prop where
  s : d.showable = true
  l : d.leavesShort 902 = true
  w : d.weight ≤ w
  k : d.depth ≤ k
theorem Okd.int {i : Int} (h : Bt 900 i) : Okd (.int i) 900 0 := by
  have h1 := log2_lt h (by omega)
  refine ⟨?_, ?_, ?_, by simp [PyData.depth]⟩
  · simp only [PyData.showable]
    exact decide_eq_true (by omega)
  · simp only [PyData.leavesShort, PyData.shown]
    have := int_text_length_le (k := 900) (by omega) h1
    refine decide_eq_true ?_
    show (Str.ofString (toString i)).length ≤ 902
    rw [PySem.ofString_length]
    omega
  · simp only [PyData.weight]
    split <;> omega
theorem Okd.bool (b : Bool) : Okd (.bool b) 0 0 := ⟨rfl, rfl, by simp [PyData.weight], by simp [PyData.depth]⟩
theorem Okd.str {x : PySem.Str} {n : Nat} (h1 : x.cps.size ≤ n) (h2 : ∀ c ∈ x.cps.toList, c < 16 ^ 8) : Okd (.str x) n 0 := by
  refine ⟨rfl, ?_, by simpa [PyData.weight] using h1, by simp [PyData.depth]⟩
  simp only [PyData.leavesShort]
  exact List.all_eq_true.mpr fun c hc => decide_eq_true (h2 c hc)
structure Okds (ds : List PyData) (w k : Nat) : Prop where
  s : PyData.showableAll ds = true
  l : PyData.leavesShortAll 902 ds = true
  w : PyData.weightAll ds ≤ w
  k : PyData.depthAll ds ≤ k
theorem Okds.nil {k : Nat} : Okds [] 0 k := ⟨rfl, rfl, by simp [PyData.weightAll], by simp [PyData.depthAll]⟩
theorem Okds.cons {d : PyData} {ds : List PyData} {v w j k : Nat} (a : Okd d v j) (b : Okds ds w k) (hj : j ≤ k) : Okds (d :: ds) (v + 1 + w) k := by
  refine ⟨?_, ?_, ?_, ?_⟩
  · simp [PyData.showableAll, a.s, b.s]
  · simp [PyData.leavesShortAll, a.l, b.l]
  · have := a.w
    have := b.w
    simp only [PyData.weightAll]
    omega
  · have := a.k
    have := b.k
    simp only [PyData.depthAll]
    omega
theorem Okds.tup {ds : List PyData} {w k : Nat} (b : Okds ds w k) : Okd (.tuple ds) w (k + 1) := ⟨by simpa [PyData.showable] using b.s, by simpa [PyData.leavesShort] using b.l, by simpa [PyData.weight] using b.w, by simpa [PyData.depth] using b.k⟩
theorem Okds.lst {ds : List PyData} {w k : Nat} (b : Okds ds w k) : Okd (.list ds) w (k + 1) := ⟨by simpa [PyData.showable] using b.s, by simpa [PyData.leavesShort] using b.l, by simpa [PyData.weight] using b.w, by simpa [PyData.depth] using b.k⟩
theorem Okd.shw {d : PyData} {w k : Nat} (o : Okd d w k) (hw : w ≤ 18000) (hk : k ≤ 60) : shwB d = true := by
  have e := PyData.shown_le 902 (by omega) d o.l
  have : d.shown.length ≤ sizeLine := by
    rw [sizeLine_eq]
    have : (902 + 2) * d.weight ≤ 904 * 18000 := Nat.mul_le_mul_left _ (Nat.le_trans o.w hw)
    omega
  unfold shwB
  rw [o.s, decide_eq_true (Nat.le_trans o.k hk), decide_eq_true this]
  rfl
theorem Okds.all {α : Type} (f : α → D) {w k : Nat} : ∀ xs : List α, (∀ x ∈ xs, Okd (toP (f x)) w k) → Okds (toPs (xs.map f)) ((w + 1) * xs.length) k
  | [], _ => ⟨rfl, rfl, by simp [toPs, PyData.weightAll], by simp [toPs, PyData.depthAll]⟩
  | x :: r, h => by
    have z := Okds.cons (h x (List.mem_cons_self ..)) (Okds.all f r fun y hy => h y (List.mem_cons_of_mem _ hy)) (Nat.le_refl k)
    rw [List.length_cons, Nat.mul_succ, Nat.add_comm]
    exact z
theorem sgn_small : ∀ c ∈ sgnL, c < 16 ^ 8 := by decide +kernel
structure Gd (d : D) (w k : Nat) : Prop where
  t : dat d = true
  y : PyData.canLay0 (toP d) = true
  s : (toP d).showable = true
  l : (toP d).leavesShort 902 = true
  w : (toP d).bulk ≤ w
  k : (toP d).depth ≤ k
  r : refsD 0 d = true
structure Gds (xs : List D) (w k : Nat) : Prop where
  t : dats xs = true
  y : PyData.canLayAll0 (toPs xs) = true
  s : PyData.showableAll (toPs xs) = true
  l : PyData.leavesShortAll 902 (toPs xs) = true
  w : PyData.bulkAll (toPs xs) ≤ w
  k : PyData.depthAll (toPs xs) ≤ k
  r : refsDs 0 xs = true
theorem Gd.int {i : Int} (h : Bt 900 i) : Gd (.int i) 0 0 := by
  have o := Okd.int h
  exact ⟨rfl, by show PyData.canLay0 (.int i) = true; simp only [PyData.canLay0], o.s, o.l, by show PyData.bulk (.int i) ≤ 0; simp only [PyData.bulk]; exact Nat.le_refl _, o.k, rfl⟩
theorem Gd.bl (b : Bool) : Gd (.bl b) 0 0 := by
  have o := Okd.bool b
  exact ⟨rfl, by show PyData.canLay0 (.bool b) = true; simp only [PyData.canLay0], o.s, o.l, by show PyData.bulk (.bool b) ≤ 0; simp only [PyData.bulk]; exact Nat.le_refl _, o.k, rfl⟩
theorem Gd.non : Gd .non 0 0 := ⟨rfl, by show PyData.canLay0 .none = true; simp only [PyData.canLay0], by show PyData.showable .none = true; simp only [PyData.showable], by show PyData.leavesShort 902 .none = true; simp only [PyData.leavesShort], by show PyData.bulk .none ≤ 0; simp only [PyData.bulk]; exact Nat.le_refl _, by show PyData.depth .none ≤ 0; simp only [PyData.depth]; exact Nat.le_refl _, rfl⟩
theorem Gd.word {x : PySem.Str} {n : Nat} (h1 : x.cps.size ≤ n) (h2 : ∀ c ∈ x.cps.toList, c ∈ sgnL) : Gd (.str x) n 0 := by
  have o := Okd.str (n := n) h1 fun c hc => sgn_small c (h2 c hc)
  refine ⟨rfl, ?_, o.s, o.l, ?_, o.k, rfl⟩
  · show PyData.canLay0 (.str x) = true
    simp only [PyData.canLay0]
    unfold PyData.strOk
    rw [← Array.all_toList]
    exact List.all_eq_true.mpr fun c hc => decide_eq_true (sgn_cp c (h2 c hc))
  · show PyData.bulk (.str x) ≤ n
    simp only [PyData.bulk]
    exact h1
theorem Gd.name {x : PySem.Str} (n : NameOk x) : Gd (.str x) 8 0 := Gd.word n.n8 n.all
theorem Gds.nil {k : Nat} : Gds [] 0 k := ⟨rfl, by show PyData.canLayAll0 [] = true; simp only [PyData.canLayAll0], by show PyData.showableAll [] = true; simp only [PyData.showableAll], by show PyData.leavesShortAll 902 [] = true; simp only [PyData.leavesShortAll], by show PyData.bulkAll [] ≤ 0; simp only [PyData.bulkAll]; exact Nat.le_refl _, by show PyData.depthAll [] ≤ k; simp only [PyData.depthAll]; omega, rfl⟩
theorem Gds.cons {d : D} {ds : List D} {v w j k : Nat} (a : Gd d v j) (b : Gds ds w k) (hj : j ≤ k) : Gds (d :: ds) (v + 1 + w) k := by
  have aw := a.w
  have bw := b.w
  have ak := a.k
  have bk := b.k
  refine ⟨?_, ?_, ?_, ?_, ?_, ?_, ?_⟩
  · show (dat d && dats ds) = true
    rw [a.t, b.t]
    rfl
  · show PyData.canLayAll0 (toP d :: toPs ds) = true
    simp only [PyData.canLayAll0]
    rw [a.y, b.y]
    rfl
  · show PyData.showableAll (toP d :: toPs ds) = true
    simp only [PyData.showableAll]
    rw [a.s, b.s]
    rfl
  · show PyData.leavesShortAll 902 (toP d :: toPs ds) = true
    simp only [PyData.leavesShortAll]
    rw [a.l, b.l]
    rfl
  · show PyData.bulkAll (toP d :: toPs ds) ≤ _
    simp only [PyData.bulkAll]
    omega
  · show PyData.depthAll (toP d :: toPs ds) ≤ k
    simp only [PyData.depthAll]
    omega
  · show (refsD 0 d && refsDs 0 ds) = true
    rw [a.r, b.r]
    rfl
theorem Gds.tup {ds : List D} {w k : Nat} (b : Gds ds w k) : Gd (.tup ds) w (k + 1) := ⟨b.t, by show PyData.canLay0 (.tuple (toPs ds)) = true; simpa only [PyData.canLay0] using b.y, by show PyData.showable (.tuple (toPs ds)) = true; simpa only [PyData.showable] using b.s, by show PyData.leavesShort 902 (.tuple (toPs ds)) = true; simpa only [PyData.leavesShort] using b.l, by show PyData.bulk (.tuple (toPs ds)) ≤ w; simpa only [PyData.bulk] using b.w, by show PyData.depth (.tuple (toPs ds)) ≤ k + 1; simpa only [PyData.depth, Nat.add_le_add_iff_right] using b.k, b.r⟩
theorem Gds.lst {ds : List D} {w k : Nat} (b : Gds ds w k) : Gd (.lst ds) w (k + 1) := ⟨b.t, by show PyData.canLay0 (.list (toPs ds)) = true; simpa only [PyData.canLay0] using b.y, by show PyData.showable (.list (toPs ds)) = true; simpa only [PyData.showable] using b.s, by show PyData.leavesShort 902 (.list (toPs ds)) = true; simpa only [PyData.leavesShort] using b.l, by show PyData.bulk (.list (toPs ds)) ≤ w; simpa only [PyData.bulk] using b.w, by show PyData.depth (.list (toPs ds)) ≤ k + 1; simpa only [PyData.depth, Nat.add_le_add_iff_right] using b.k, b.r⟩
theorem Gd.up {d : D} {w w' k k' : Nat} (a : Gd d w k) (h : w ≤ w') (hk : k ≤ k') : Gd d w' k' := ⟨a.t, a.y, a.s, a.l, Nat.le_trans a.w h, Nat.le_trans a.k hk, a.r⟩
theorem Gds.up {ds : List D} {w w' k k' : Nat} (a : Gds ds w k) (h : w ≤ w') (hk : k ≤ k') : Gds ds w' k' := ⟨a.t, a.y, a.s, a.l, Nat.le_trans a.w h, Nat.le_trans a.k hk, a.r⟩
theorem Gds.all {α : Type} (f : α → D) {w k n : Nat} : ∀ xs : List α, (∀ x ∈ xs, Gd (f x) w k) → Gds (xs.map f) ((w + 1) * xs.length) k
  | [], _ => Gds.nil.up (by omega) (Nat.le_refl k)
  | x :: r, h => by
    have z := Gds.cons (h x (List.mem_cons_self ..)) (Gds.all (n := n) f r fun y hy => h y (List.mem_cons_of_mem _ hy)) (Nat.le_refl k)
    rw [List.length_cons, Nat.mul_succ, Nat.add_comm]
    exact z
theorem Gds.row {α : Type} (f : α → D) {w k n : Nat} {xs : List α} (h : ∀ x ∈ xs, Gd (f x) w k) (hl : xs.length ≤ n) : Gds (xs.map f) ((w + 1) * n) k := (Gds.all (n := 0) f xs h).up (Nat.mul_le_mul_left _ hl) (Nat.le_refl k)
theorem Gd.shw {d : D} {w k : Nat} (o : Gd d w k) (hw : w ≤ 18000) (hk : k ≤ 60) : shwB (toP d) = true := by
  have e := PyData.shown_le_bulk 902 (by omega) (toP d) o.l
  have : (toP d).shown.length ≤ sizeLine := by
    rw [sizeLine_eq]
    have : (902 + 2) * (toP d).bulk ≤ 904 * 18000 := Nat.mul_le_mul_left _ (Nat.le_trans o.w hw)
    omega
  unfold shwB
  rw [o.s, decide_eq_true (Nat.le_trans o.k hk), decide_eq_true this]
  rfl
end G38
set_option maxHeartbeats 1000000
namespace G38
open PySem L2 Vi
abbrev gg (a b : Int) : Int := (Nat.gcd a.natAbs b.natAbs : Nat)
def lowA (a b : Int) : Int := if b < 0 then -(a / gg a b) else a / gg a b
def lowB (a b : Int) : Int := if b < 0 then -(b / gg a b) else b / gg a b
abbrev Sm (a : Int) : Prop := a.natAbs.log2 < 8000
theorem gg_pos {a b : Int} (hb : b ≠ 0) : 0 < gg a b := by
  have : 0 < Nat.gcd a.natAbs b.natAbs := Nat.gcd_pos_of_pos_right _ (Int.natAbs_pos.mpr hb)
  exact Int.natCast_pos.mpr this
theorem log2_mono {a b : Nat} (h : a ≤ b) : a.log2 ≤ b.log2 := by
  by_cases ha : a = 0
  · subst ha
    simp
  · exact (Nat.le_log2 (by omega)).mpr (Nat.le_trans (Nat.log2_self_le ha) h)
theorem gg_small {a b : Int} (hb : b ≠ 0) (s : Sm b) : (gg a b).natAbs.log2 < 8000 := by
  refine Nat.lt_of_le_of_lt (log2_mono ?_) s
  exact Nat.le_of_dvd (Int.natAbs_pos.mpr hb) (Nat.gcd_dvd_right _ _)
theorem fdiv_neg' {a g : Int} (hg : 0 < g) (hd : g ∣ a) : a.fdiv (-g) = -(a / g) := by
  obtain ⟨c, rfl⟩ := hd
  have e1 : g * c / g = c := Int.mul_ediv_cancel_left c (by omega)
  rw [e1]
  have e2 : g * c = (-g) * (-c) := by rw [Int.neg_mul_neg]
  rw [e2, Int.mul_fdiv_cancel_left _ (by omega)]
theorem gg_dvd_l {a b : Int} : gg a b ∣ a := Int.natAbs_dvd_natAbs.mp (by
  show (gg a b).natAbs ∣ a.natAbs
  exact Nat.gcd_dvd_left _ _)
theorem gg_dvd_r {a b : Int} : gg a b ∣ b := Int.natAbs_dvd_natAbs.mp (by
  show (gg a b).natAbs ∣ b.natAbs
  exact Nat.gcd_dvd_right _ _)
theorem v_lowest {a b : Int} {h : Hc} (hb : b ≠ 0) (s : Sm b) : F_lowest [.int a, .int b] h = .ok (.tup [.int (lowA a b), .int (lowB a b)]) h := by
  refine (fnOf_eq _ _ _ _ _ rfl).trans ?_
  unfold m_lowest lowA lowB
  have g0 := gg_pos (a := a) hb
  have gs := gg_small (a := a) hb s
  by_cases hn : b < 0
  · have c1 : cDiv a (-gg a b) = true := cDiv_of (by omega) (by rw [Int.natAbs_neg]; exact gs)
    have c2 : cDiv b (-gg a b) = true := cDiv_of (by omega) (by rw [Int.natAbs_neg]; exact gs)
    simp [hn, c1, c2, fdiv_neg' g0 gg_dvd_l, fdiv_neg' g0 gg_dvd_r]
  · have c1 : cDiv a (gg a b) = true := cDiv_of (by omega) gs
    have c2 : cDiv b (gg a b) = true := cDiv_of (by omega) gs
    simp [hn, c1, c2, fdiv_pos g0]
theorem euclid_half {x y : Nat} (hy : 0 < y) (hr : 0 < x % y) : y % (x % y) < (y + 1) / 2 := by
  have h1 : x % y < y := Nat.mod_lt _ hy
  have h2 : y % (x % y) < x % y := Nat.mod_lt _ hr
  have h3 := Nat.div_add_mod y (x % y)
  have h4 : 1 ≤ y / (x % y) := Nat.div_pos (by omega) hr
  have h5 : x % y * 1 ≤ x % y * (y / (x % y)) := Nat.mul_le_mul_left _ h4
  omega
theorem loop_div (h : Hc) (z : Option Sl) : ∀ (k n x y : Nat), y < 2 ^ k → 2 * k + 1 ≤ n → ∃ z', mWhile n (asB (m2 fGt (mVar 1) (mC (.int 0)))) (mSeq (mSet 2 (m2 fMod (mA1 fIntS (maCons (mVar 0) maNil)) (mVar 1))) (mSeq (mSet 0 (mVar 1)) (mSet 1 (mVar 2)))) [some (.d (.int x)), some (.d (.int y)), z] h = .nx [some (.d (.int (Nat.gcd x y : Nat))), some (.d (.int 0)), z'] h := by
  have stop : ∀ (n x : Nat) (z : Option Sl), 1 ≤ n → mWhile n (asB (m2 fGt (mVar 1) (mC (.int 0)))) (mSeq (mSet 2 (m2 fMod (mA1 fIntS (maCons (mVar 0) maNil)) (mVar 1))) (mSeq (mSet 0 (mVar 1)) (mSet 1 (mVar 2)))) [some (.d (.int x)), some (.d (.int (0 : Nat))), z] h = .nx [some (.d (.int x)), some (.d (.int 0)), z] h := fun n x z hn => by
    obtain ⟨m, rfl⟩ : ∃ m, n = m + 1 := ⟨n - 1, by omega⟩
    rw [mWhile_succ]
    simp
  have step : ∀ (n x y : Nat) (z : Option Sl), 0 < y → mWhile (n + 1) (asB (m2 fGt (mVar 1) (mC (.int 0)))) (mSeq (mSet 2 (m2 fMod (mA1 fIntS (maCons (mVar 0) maNil)) (mVar 1))) (mSeq (mSet 0 (mVar 1)) (mSet 1 (mVar 2)))) [some (.d (.int x)), some (.d (.int y)), z] h
      = mWhile n (asB (m2 fGt (mVar 1) (mC (.int 0)))) (mSeq (mSet 2 (m2 fMod (mA1 fIntS (maCons (mVar 0) maNil)) (mVar 1))) (mSeq (mSet 0 (mVar 1)) (mSet 1 (mVar 2)))) [some (.d (.int y)), some (.d (.int (x % y : Nat))), some (.d (.int (x % y : Nat)))] h := fun n x y z hy => by
    rw [mWhile_succ]
    simp [hy]
  intro k
  induction k generalizing z with
  | zero =>
    intro n x y hy hn
    obtain rfl : y = 0 := by simpa using hy
    exact ⟨z, by rw [stop n x z (by omega), Nat.gcd_zero_right]⟩
  | succ k ih =>
    intro n x y hy hn
    by_cases h0 : y = 0
    · subst h0
      exact ⟨z, by rw [stop n x z (by omega), Nat.gcd_zero_right]⟩
    · obtain ⟨m, rfl⟩ : ∃ m, n = m + 1 := ⟨n - 1, by omega⟩
      rw [step m x y z (by omega)]
      have e1 : Nat.gcd x y = Nat.gcd y (x % y) := by rw [Nat.gcd_comm x y, Nat.gcd_rec y x, Nat.gcd_comm]
      by_cases h1 : x % y = 0
      · rw [h1, stop m y _ (by omega), e1, h1, Nat.gcd_zero_right]
        exact ⟨_, rfl⟩
      · obtain ⟨m', rfl⟩ : ∃ m', m = m' + 1 := ⟨m - 1, by omega⟩
        rw [step m' y (x % y) _ (by omega)]
        have hh := euclid_half (x := x) (y := y) (by omega) (by omega)
        have hp : 2 ^ (k + 1) = 2 * 2 ^ k := by rw [Nat.pow_succ]; omega
        have e2 : Nat.gcd y (x % y) = Nat.gcd (x % y) (y % (x % y)) := by rw [Nat.gcd_comm y (x % y), Nat.gcd_rec (x % y) y, Nat.gcd_comm]
        rw [e1, e2]
        exact ih _ m' (x % y) (y % (x % y)) (by omega) (by omega)
theorem v_divisor {a b : Int} {k : Nat} {h : Hc} (hk : k ≤ 7000) (hb : b.natAbs < 2 ^ k) : F__law_divisor [.int a, .int b] h = .ok (.int (gg a b)) h := by
  refine (fnOf_eq _ _ _ _ _ rfl).trans ?_
  unfold m__law_divisor
  obtain ⟨z', e⟩ := loop_div h none k 20000 a.natAbs b.natAbs hb (by omega)
  simp [abs_if]
  rw [e]
  simp
theorem gg_neg (a b : Int) : gg (-a) (-b) = gg a b := by
  unfold gg
  rw [Int.natAbs_neg, Int.natAbs_neg]
theorem neg_div {a g : Int} (hd : g ∣ a) : -a / g = -(a / g) := Int.neg_ediv_of_dvd hd
theorem max_gg {g : Int} (h : 0 < g) : (if g > 1 then g else 1) = g := by split <;> omega
theorem v_low {a b : Int} {k : Nat} {h : Hc} (hk : k ≤ 7000) (hb : b ≠ 0) (s : b.natAbs < 2 ^ k) : F__law_low [.int a, .int b] h = .ok (.tup [.int (lowA a b), .int (lowB a b)]) h := by
  refine (fnOf_eq _ _ _ _ _ rfl).trans ?_
  have g0 := gg_pos (a := a) hb
  have gs := gg_small (a := a) hb (show b.natAbs.log2 < 8000 from Nat.lt_trans (log2_lt (Nat.lt_of_lt_of_le s (Nat.pow_le_pow_right (by omega) (Nat.le_succ k))) (Nat.succ_pos k)) (by omega))
  have c1 : ∀ i, cDiv i (gg a b) = true := fun i => cDiv_of (by omega) gs
  unfold m__law_low lowA lowB
  by_cases hn : b < 0
  · have e := v_divisor (a := -a) (b := -b) (h := h) hk (by rw [Int.natAbs_neg]; exact s)
    rw [gg_neg] at e
    simp [hn, e, max_gg g0, c1, fdiv_pos g0, neg_div gg_dvd_l, neg_div gg_dvd_r]
  · have e := v_divisor (a := a) (b := b) (h := h) hk s
    simp [hn, e, max_gg g0, c1, fdiv_pos g0]
section
variable {t : Hc} {m : Int} {h : Hc} {env : Vi.Env}
theorem pick_of {i : Nat} {e : ME} {xs : List D} {h1 : Hc} (e0 : mVar i env h = .ok (.d (.ref 0)) h) (ee : e env h = .ok (.d (.lst xs)) h1) (g : BG t m h1) (hm : m < 2 ^ 60) (h0 : 0 < xs.length) (hl : xs.length < 2 ^ 60) :
    ∃ x h', mA1 (fCallN 2 F__law_pick []) (maCons (mVar i) (maCons e maNil)) env h = .ok (.d x) h' ∧ BG t (m + 1) h' ∧ x ∈ xs := by
  obtain ⟨x, h', e1, g1, hx⟩ := v_pick g hm h0 hl
  exact ⟨x, h', call2 (x := .ref 0) (y := .lst xs) (h1 := h) e0 ee e1, g1, hx⟩
theorem lst_of {a : MA} {ds : List D} {h1 : Hc} (e : a env h = .ok (ds.map Vl.d) h1) (hl : ds.length ≤ 100000) : mA1 (fLst false) a env h = .ok (.d (.lst ds)) h1 := by
  rw [mA1_eq, e, R.bind_ok]
  unfold fLst
  have : datas (ds.map Vl.d) = some ds := by
    clear hl e
    induction ds with
    | nil => rfl
    | cons x r ih =>
      show (datas (r.map Vl.d)).map (x :: ·) = _
      rw [ih]
      rfl
  rw [this]
  dsimp only
  rw [if_pos hl]
  rfl
theorem c_lt {a : ME} {x k : Int} (e : a env h = .ok (.d (.int x)) h) : asB (m2 fLt a (mC (.int k))) env h = .ok (decide (x < k)) h := asB_of ((m2_of (y := .d (.int k)) (h2 := h) e rfl).trans rfl)
theorem c_gt {a : ME} {x k : Int} (e : a env h = .ok (.d (.int x)) h) : asB (m2 fGt a (mC (.int k))) env h = .ok (decide (x > k)) h := asB_of ((m2_of (y := .d (.int k)) (h2 := h) e rfl).trans rfl)
theorem c_eq {a : ME} {x k : Int} (e : a env h = .ok (.d (.int x)) h) : asB (m2 (fEq false) a (mC (.int k))) env h = .ok (decide (x = k)) h := asB_of ((m2_of (y := .d (.int k)) (h2 := h) e rfl).trans ((eqI false _ _ _).trans rfl))
end
theorem for_r {T : TgF} {a : ME} {b : MS} {env : Vi.Env} {h h1 : Hc} {j : Nat} (hj : j < 2 ^ 60) (e : a env h = .ok (.d (.int j)) h1) : mForR T (maCons a maNil) b env h = forL T b (rangeD 0 j) env h1 := by
  unfold mForR
  rw [ma_cons e ma_nil, R.thenS_ok]
  dsimp only
  have cd : -(2 ^ 62) ≤ (j : Int) ∧ (j : Int) < 2 ^ 62 := by omega
  rw [if_pos cd, Int.toNat_natCast]
end G38
set_option maxHeartbeats 4000000
namespace G38
open PySem L2 Vi
abbrev cS (l : List Nat) : PySem.Str := SX.S l
abbrev wD (w : List Nat) : D := .str (cS w)
abbrev wsD (W : List (List Nat)) : D := .lst (W.map wD)
theorem sub1 (j : PySem.Str) (c : Nat) : hasSub j (cS [c]) = decide (c ∈ j.cps.toList) := by
  unfold hasSub
  rw [show (cS [c] : PySem.Str) = ⟨#[c]⟩ from rfl, PyProof.Rows.empty_one, Bool.not_not]
theorem cS_inj {a b : List Nat} (h : cS a = cS b) : a = b := SX.S_inj h
theorem cS_dec (a b : List Nat) : decide (cS a = cS b) = decide (a = b) := by
  rw [Bool.eq_iff_iff, decide_eq_true_iff, decide_eq_true_iff]
  exact ⟨cS_inj, fun e => by rw [e]⟩
theorem cS_tl (x : PySem.Str) : cS x.cps.toList = x := SX.S_tl x
abbrev digL : List Nat := (Str.ofString "0123456789").cps.toList
theorem dig_rng : ∀ c ∈ digL, 48 ≤ c ∧ c ≤ 57 := by decide +kernel
structure WO (w : List Nat) : Prop where
  l : w.length ≤ 60
  s : 32 ∉ w
theorem ix0 (c : Nat) (r : List Nat) (h : Hc) (hl : r.length < 1000) : fIx (.d (wD (c :: r))) (.d (.int 0)) h = .ok (.d (wD [c])) h := by
  refine fIx_str (cS (c :: r)) 0 c h ?_ ?_
  · show atI (c :: r) 0 = some c
    unfold atI ixN
    rw [if_pos (by omega), if_pos (by rw [List.length_cons]; omega)]
    rfl
  · show (cS (c :: r)).length ≤ 100000
    rw [SX.S_len, List.length_cons]
    omega
theorem lenW (w : List Nat) (h : Hc) (hl : w.length < 1000) : fLen [.d (wD w)] h = .ok (.d (.int (w.length : Nat))) h := by
  show (if (cS w).length ≤ 100000 then R.ok (Vl.d (.int ((cS w).length : Nat))) h else .stuck) = _
  rw [SX.S_len, if_pos (by omega)]
theorem in_S (neg : Bool) (j : PySem.Str) (c : Nat) (h : Hc) : fIn neg (.d (wD [c])) (.d (.str j)) h = .ok (.d (nB neg (decide (c ∈ j.cps.toList)))) h := by
  show R.ok (Vl.d (nB neg (hasSub j (cS [c])))) h = _
  rw [sub1]
theorem chD_cS (w : List Nat) : chD (cS w) = w.map fun c => wD [c] := rfl
theorem chain_le {a b c : ME} {env : Vi.Env} {h : Hc} {x y z : Int} (ea : a env h = .ok (.d (.int x)) h) (eb : b env h = .ok (.d (.int y)) h) (ec : c env h = .ok (.d (.int z)) h) : asB (mChain fLe fLe a b c) env h = .ok (decide (x ≤ y) && decide (y ≤ z)) h := by
  refine asB_of ?_
  unfold mChain
  rw [ea, R.bind_ok, eb, R.bind_ok]
  show ((R.ok (Vl.d (.bl (decide (x ≤ y)))) h).bind _) = _
  rw [R.bind_ok]
  cases decide (x ≤ y) with
  | false => rfl
  | true =>
    dsimp only
    rw [ec, R.bind_ok]
    rfl
theorem chain_lt {a b c : ME} {env : Vi.Env} {h : Hc} {x y z : Int} (ea : a env h = .ok (.d (.int x)) h) (eb : b env h = .ok (.d (.int y)) h) (ec : c env h = .ok (.d (.int z)) h) : asB (mChain fLt fLt a b c) env h = .ok (decide (x < y) && decide (y < z)) h := by
  refine asB_of ?_
  unfold mChain
  rw [ea, R.bind_ok, eb, R.bind_ok]
  show ((R.ok (Vl.d (.bl (decide (x < y)))) h).bind _) = _
  rw [R.bind_ok]
  cases decide (x < y) with
  | false => rfl
  | true =>
    dsimp only
    rw [ec, R.bind_ok]
    rfl
theorem or_bb {a b : MB} {env : Vi.Env} {h : Hc} {x y : Bool} (ea : a env h = .ok x h) (eb : b env h = .ok y h) : tOrM a b env h = .ok (x || y) h := by
  cases x with
  | true => exact or_t ea
  | false => rw [or_f ea, eb]; rfl
theorem and_bb {a b : MB} {env : Vi.Env} {h : Hc} {x y : Bool} (ea : a env h = .ok x h) (eb : b env h = .ok y h) : tAndM a b env h = .ok (x && y) h := by
  cases x with
  | true => rw [and_tt ea, eb]; rfl
  | false => exact and_ff ea
def hdIn (L : List Nat) : List Nat → Bool
  | c :: _ => decide (c ∈ L)
  | [] => false
def nm (w : List Nat) : Bool := decide (1 ≤ w.length) && (decide (w.length ≤ 8) && (hdIn letL w && (!decide (cS w ∈ resL) && w.all fun c => decide (c ∈ sgnL))))
theorem all_in (S : PySem.Str) (w : List Nat) (h : Hc) (env : Vi.Env) (hl : w.length < 1000) (i j : Nat) (h0 : env[i]? = some (some (.d (wD w)))) (hj : j < env.length) : mA1 (fAll false) (maCons (mCompS false [j] (gtN j) mYes (m2 (fIn false) (mVar j) (mC (.str S))) (mVar i)) maNil) env h = .ok (.d (.bl (w.all fun c => decide (c ∈ S.cps.toList)))) h := by
  have e6 : mCompS false [j] (gtN j) mYes (m2 (fIn false) (mVar j) (mC (.str S))) (mVar i) env h = .ok (.d (.lst (w.map fun c => .bl (decide (c ∈ S.cps.toList))))) h := by
    unfold mCompS
    rw [mVar_d i env h _ h0, R.bind_ok]
    show compL false (gtN j) mYes (m2 (fIn false) (mVar j) (mC (.str S))) (chD (cS w)) [] (wipeE env [j]) h = _
    rw [chD_cS]
    refine (comp_gen (gtN j) _ (fun c => wD [c]) (fun c => .bl (decide (c ∈ S.cps.toList))) _ h w [] (fun c hc => ⟨(wipeE env [j]).set j (some (.d (wD [c]))), ?_, ?_⟩) (by rw [List.length_nil]; omega)).trans ?_
    · rfl
    · have hv : mVar j ((wipeE env [j]).set j (some (.d (wD [c])))) h = .ok (.d (wD [c])) h := mVar_d _ _ _ _ (List.getElem?_set_self (by show j < (wipeE env [j]).length; simp [wipeE]; exact hj))
      exact (m2_of (y := .d (.str S)) (h2 := h) hv rfl).trans (in_S false S c h)
    · rw [List.nil_append]
  refine (a1_of e6).trans ?_
  exact all_map (fun c => decide (c ∈ S.cps.toList)) w h
theorem not_in (S : PySem.Str) (w : List Nat) (h : Hc) (env : Vi.Env) (me : ME) (hl : w.length < 1000) (i j : Nat) (h0 : env[i]? = some (some (.d (wD w)))) (hj : j < env.length) (hm : ∀ c, me ((wipeE env [j]).set j (some (.d (wD [c])))) h = .ok (.d (.str S)) h) :
    asB (m2 fGt (mA1 fLen (maCons (mCompS false [j] (gtN j) (asB (m2 (fIn true) (mVar j) me)) (mVar j) (mVar i)) maNil)) (mC (.int 0))) env h = .ok (!(w.all fun c => decide (c ∈ S.cps.toList))) h := by
  have e6 : mCompS false [j] (gtN j) (asB (m2 (fIn true) (mVar j) me)) (mVar j) (mVar i) env h = .ok (.d (.lst ((w.filter fun c => !decide (c ∈ S.cps.toList)).map fun c => wD [c]))) h := by
    unfold mCompS
    rw [mVar_d i env h _ h0, R.bind_ok]
    show compL false (gtN j) (asB (m2 (fIn true) (mVar j) me)) (mVar j) (chD (cS w)) [] (wipeE env [j]) h = _
    rw [chD_cS]
    refine (comp_filt false (gtN j) _ _ (fun c => wD [c]) (fun c => wD [c]) (fun c => !decide (c ∈ S.cps.toList)) _ h w [] (fun c hc => ⟨(wipeE env [j]).set j (some (.d (wD [c]))), rfl, ?_, ?_⟩) (by rw [List.length_nil]; omega)).trans ?_
    · have hv : mVar j ((wipeE env [j]).set j (some (.d (wD [c])))) h = .ok (.d (wD [c])) h := mVar_d _ _ _ _ (List.getElem?_set_self (by show j < (wipeE env [j]).length; simp [wipeE]; exact hj))
      exact asB_of ((m2_of hv (hm c)).trans (in_S true S c h))
    · exact fun _ => mVar_d _ _ _ _ (List.getElem?_set_self (by show j < (wipeE env [j]).length; simp [wipeE]; exact hj))
    · rw [List.nil_append]
      rfl
  refine (asB_of ((m2_of (y := .d (.int 0)) (h2 := h) ((a1_of e6).trans (fLen_lst _ h)) rfl).trans rfl)).trans ?_
  rw [List.length_map]
  refine congrArg (fun b => R.ok b h) ?_
  rw [Bool.eq_iff_iff, decide_eq_true_iff, Bool.not_eq_true', ← Bool.not_eq_true, List.all_eq_true]
  constructor
  · intro hp ha
    have : (w.filter fun c => !decide (c ∈ S.cps.toList)) = [] := List.filter_eq_nil_iff.mpr fun c hc => by rw [ha c hc]; decide
    rw [this] at hp
    exact absurd hp (by decide)
  · intro hn
    apply Classical.byContradiction
    intro hp
    refine hn fun c hc => ?_
    have : (w.filter fun c => !decide (c ∈ S.cps.toList)) = [] := List.length_eq_zero_iff.mp (by omega)
    have := List.filter_eq_nil_iff.mp this c hc
    cases hd : decide (c ∈ S.cps.toList) with
    | true => rfl
    | false => rw [hd] at this; exact absurd rfl this
theorem v_isname {w : List Nat} (hl : w.length < 1000) (h : Hc) : F_is_name [wD w] h = .ok (.bl (nm w)) h := by
  refine (fnOf_eq 2 1 _ _ _ rfl).trans ?_
  have c1 : (tOrM (tNotM (asB (m1 (fIsi g0 (.bt "str")) (mVar 0)))) (tNotM (asB (mChain fLe fLe (mC (.int 1)) (mA1 fLen (maCons (mVar 0) maNil)) (mC d_LONGEST_NAME))))) (mkEnv 2 [wD w]) h = .ok (!(decide ((1 : Int) ≤ (w.length : Nat)) && decide (((w.length : Nat) : Int) ≤ 8))) h := by
    refine (or_f (h1 := h) (not_b (b := true) (asB_of rfl))).trans ?_
    exact not_b (chain_le (x := 1) (y := (w.length : Nat)) (z := 8) rfl ((a1_of (h1 := h) rfl).trans (lenW w h hl)) rfl)
  unfold m_is_name nm
  by_cases hb : 1 ≤ w.length ∧ w.length ≤ 8
  · rw [show (!(decide ((1 : Int) ≤ (w.length : Nat)) && decide (((w.length : Nat) : Int) ≤ 8))) = false from by rw [decide_eq_true (by omega), decide_eq_true (by omega)]; rfl] at c1
    rw [decide_eq_true hb.1, decide_eq_true hb.2, Bool.true_and, Bool.true_and]
    cases w with
    | nil => exact absurd hb.1 (by decide)
    | cons c r =>
      have hr : r.length < 1000 := by rw [List.length_cons] at hl; omega
      have c2 : (tOrM (asB (m2 (fIn true) (m2 fIx (mVar 0) (mC (.int 0))) (mC d_LETTERS))) (asB (m2 (fIn false) (mVar 0) (mC d_RESERVED)))) (mkEnv 2 [wD (c :: r)]) h = .ok (!decide (c ∈ letL) || decide (cS (c :: r) ∈ resL)) h := by
        refine or_bb (asB_of ?_) (asB_of ?_)
        · exact (m2_of (y := .d d_LETTERS) (h2 := h) ((m2_of (x := .d (wD (c :: r))) (y := .d (.int 0)) (h1 := h) (h2 := h) rfl rfl).trans (ix0 c r h hr)) rfl).trans (in_S true "abcdefghijklmnopqrstuvwxyz" c h)
        · refine (m2_of (x := .d (wD (c :: r))) (y := .d d_RESERVED) (h1 := h) (h2 := h) rfl rfl).trans ?_
          exact in_txt (cS (c :: r)) false h _ resL rfl (fun z e => by cases e)
      refine Eq.trans (congrArg RS.fin (seq_nx (env1 := mkEnv 2 [wD (c :: r)]) (h1 := h) (if_skip c1))) ?_
      show _ = R.ok (D.bl (decide (c ∈ letL) && (!decide (cS (c :: r) ∈ resL) && (c :: r).all fun c => decide (c ∈ sgnL)))) h
      by_cases hc : c ∈ letL
      · by_cases hq : cS (c :: r) ∈ resL
        · rw [decide_eq_true hc, decide_eq_true hq] at c2
          rw [decide_eq_true hc, decide_eq_true hq]
          exact congrArg RS.fin (seq_ret ((if_t c2).trans rfl))
        · rw [decide_eq_true hc, decide_eq_false hq] at c2
          rw [decide_eq_true hc, decide_eq_false hq]
          exact congrArg RS.fin ((seq_nx (if_skip c2)).trans (ret_of (all_in "abcdefghijklmnopqrstuvwxyz0123456789" (c :: r) h _ hl 0 1 rfl (by show 1 < 2; decide))))
      · rw [decide_eq_false hc] at c2 ⊢
        exact congrArg RS.fin (seq_ret ((if_t c2).trans rfl))
  · have hb' : (decide (1 ≤ w.length) && (decide (w.length ≤ 8) && (hdIn letL w && (!decide (cS w ∈ resL) && w.all fun c => decide (c ∈ sgnL))))) = false := by
      by_cases h1 : 1 ≤ w.length
      · rw [decide_eq_false (p := w.length ≤ 8) (by omega), Bool.false_and, Bool.and_false]
      · rw [decide_eq_false h1, Bool.false_and]
    rw [hb']
    have : (!(decide ((1 : Int) ≤ (w.length : Nat)) && decide (((w.length : Nat) : Int) ≤ 8))) = true := by
      by_cases h1 : 1 ≤ w.length
      · rw [decide_eq_false (p := ((w.length : Nat) : Int) ≤ 8) (by omega), Bool.and_false]; rfl
      · rw [decide_eq_false (p := (1 : Int) ≤ (w.length : Nat)) (by omega)]; rfl
    rw [this] at c1
    exact congrArg RS.fin (seq_ret ((if_t c1).trans rfl))
end G38
namespace G38
open PySem L2 Vi PySem.NumText PyProof.Rows
abbrev letS : PySem.Str := "abcdefghijklmnopqrstuvwxyz"
abbrev digS : PySem.Str := "0123456789"
abbrev sgnS1 : PySem.Str := "abcdefghijklmnopqrstuvwxyz0123456789"
theorem cat_sgn : letS ++ digS = sgnS1 := by decide +kernel
theorem cat_n : letS.cps.size + digS.cps.size ≤ 100000 := by decide +kernel
abbrev rs1 : PySem.Str := "and or not free untouched least most of since until single recipe take move drain wash pack repeat when"
abbrev rs2 : PySem.Str := " else end done yes no none"
abbrev rs3 : PySem.Str := "and or not free untouched least most of since until single recipe take move drain wash pack repeat when else end done yes no none"
theorem rs_eq : rs1 ++ rs2 = rs3 := by decide +kernel
theorem rs_n : rs1.cps.size + rs2.cps.size ≤ 100000 := by decide +kernel
theorem rs_split (h : Hc) : fSplit false rs3 (.d (.str " ")) h = .ok (.d (.lst (resL.map D.str))) h := by kernel_rfl
theorem v_lisname {w : List Nat} (hl : w.length < 1000) (h : Hc) : F__law_p5_is_name [wD w] h = .ok (.bl (nm w)) h := by
  refine (fnOf_eq 4 1 _ _ _ rfl).trans ?_
  let E (x : Option Sl) : Vi.Env := [some (.d (wD w)), some (.d (.str letS)), x, none]
  have c0 : tNotM (asB (mChain fLt fLt (mC (.int 0)) (mA1 fLen (maCons (mVar 0) maNil)) (mC (.int 9)))) (E none) h = .ok (!(decide ((0 : Int) < (w.length : Nat)) && decide (((w.length : Nat) : Int) < 9))) h :=
    not_b (chain_lt (x := 0) (y := (w.length : Nat)) (z := 9) rfl ((a1_of (h1 := h) rfl).trans (lenW w h hl)) rfl)
  unfold m__law_p5_is_name nm
  refine Eq.trans (congrArg RS.fin (seq_nx (env1 := E none) (h1 := h) rfl)) ?_
  by_cases hb : 1 ≤ w.length ∧ w.length ≤ 8
  · rw [decide_eq_true (p := (0 : Int) < (w.length : Nat)) (by omega), decide_eq_true (p := ((w.length : Nat) : Int) < 9) (by omega)] at c0
    rw [decide_eq_true hb.1, decide_eq_true hb.2, Bool.true_and, Bool.true_and]
    cases w with
    | nil => exact absurd hb.1 (by decide)
    | cons c r =>
      have hr : r.length < 1000 := by rw [List.length_cons] at hl; omega
      have c1 : (asB (m2 (fIn true) (m2 fIx (mVar 0) (mC (.int 0))) (mVar 1))) (E none) h = .ok (!decide (c ∈ letL)) h := asB_of ((m2_of (y := .d (.str letS)) (h2 := h) ((m2_of (x := .d (wD (c :: r))) (y := .d (.int 0)) (h1 := h) (h2 := h) rfl rfl).trans (ix0 c r h hr)) rfl).trans (in_S true letS c h))
      show _ = R.ok (D.bl (decide (c ∈ letL) && (!decide (cS (c :: r) ∈ resL) && (c :: r).all fun c => decide (c ∈ sgnL)))) h
      by_cases hc : c ∈ letL
      · rw [decide_eq_true hc] at c1 ⊢
        refine Eq.trans (congrArg RS.fin (seq_nx (env1 := E none) (h1 := h) (if_skip ((or_f c0).trans c1)))) ?_
        have c2 := not_in sgnS1 (c :: r) h (E none) (m2 (fAdd false) (mVar 1) (mC (.str "0123456789"))) hl 0 3 rfl (by show 3 < 4; decide) (fun d => by
          refine (m2_of (x := .d (.str letS)) (y := .d (.str digS)) (h1 := h) (h2 := h) rfl rfl).trans ?_
          rw [fAdd_str false letS digS h cat_n, cat_sgn])
        by_cases ha : ((c :: r).all fun c => decide (c ∈ sgnL)) = true
        · rw [show ((c :: r).all fun c => decide (c ∈ sgnS1.cps.toList)) = true from ha] at c2
          rw [ha]
          refine Eq.trans (congrArg RS.fin (seq_nx (if_skip c2))) ?_
          refine Eq.trans (congrArg RS.fin (seq_nx (env1 := E (some (.d (.str rs1)))) (h1 := h) rfl)) ?_
          have c3 : m2 (fIn true) (mVar 0) (mStr1 (fSplit false) (m2 (fAdd false) (mVar 2) (mC (.str " else end done yes no none"))) (mC (.str " "))) (E (some (.d (.str rs1)))) h = .ok (.d (.bl (!decide (cS (c :: r) ∈ resL)))) h := by
            have e1 : m2 (fAdd false) (mVar 2) (mC (.str " else end done yes no none")) (E (some (.d (.str rs1)))) h = .ok (.d (.str rs3)) h := by
              refine (m2_of (x := .d (.str rs1)) (y := .d (.str rs2)) (h1 := h) (h2 := h) rfl rfl).trans ?_
              rw [fAdd_str false rs1 rs2 h rs_n, rs_eq]
            have e2 : mStr1 (fSplit false) (m2 (fAdd false) (mVar 2) (mC (.str " else end done yes no none"))) (mC (.str " ")) (E (some (.d (.str rs1)))) h = .ok (.d (.lst (resL.map D.str))) h := by
              unfold mStr1
              rw [e1, R.bind_ok]
              exact rs_split h
            refine (m2_of (x := .d (wD (c :: r))) (h1 := h) rfl e2).trans ?_
            exact in_txt (cS (c :: r)) true h _ resL rfl (fun z e => by cases e)
          rw [Bool.true_and, Bool.and_true]
          exact congrArg RS.fin (ret_of c3)
        · have ha := Bool.eq_false_iff.mpr ha
          rw [show ((c :: r).all fun c => decide (c ∈ sgnS1.cps.toList)) = false from ha] at c2
          rw [ha, Bool.and_false, Bool.and_false]
          exact congrArg RS.fin (seq_ret ((if_t c2).trans rfl))
      · rw [decide_eq_false hc] at c1 ⊢
        exact congrArg RS.fin (seq_ret ((if_t ((or_f c0).trans c1)).trans rfl))
  · have hb' : (decide (1 ≤ w.length) && (decide (w.length ≤ 8) && (hdIn letL w && (!decide (cS w ∈ resL) && w.all fun c => decide (c ∈ sgnL))))) = false := by
      by_cases h1 : 1 ≤ w.length
      · rw [decide_eq_false (p := w.length ≤ 8) (by omega), Bool.false_and, Bool.and_false]
      · rw [decide_eq_false h1, Bool.false_and]
    rw [hb']
    have : (!(decide ((0 : Int) < (w.length : Nat)) && decide (((w.length : Nat) : Int) < 9))) = true := by
      by_cases h1 : 1 ≤ w.length
      · rw [decide_eq_false (p := ((w.length : Nat) : Int) < 9) (by omega), Bool.and_false]; rfl
      · rw [decide_eq_false (p := (0 : Int) < (w.length : Nat)) (by omega)]; rfl
    rw [this] at c0
    exact congrArg RS.fin (seq_ret ((if_t (or_t c0)).trans rfl))
def numB (w : List Nat) : Bool := decide (1 ≤ w.length) && (decide (w.length ≤ 9) && ((w.all fun c => decide (c ∈ digL)) && !(hdIn [48] w && !decide (w = [48]))))
def num (w : List Nat) : Option Nat := if numB w = true then some (digitsVal w) else none
def numD (w : List Nat) : D := match num w with
  | some n => .int (n : Nat)
  | none => .non
def numI (w : List Nat) : Int := match num w with
  | some n => n
  | none => -1
theorem s_0 : ("0" : PySem.Str) = cS [48] := by decide +kernel
theorem int_w {w : List Nat} (h1 : 1 ≤ w.length) (h9 : w.length ≤ 9) (hd : (w.all fun c => decide (c ∈ digL)) = true) (h : Hc) : fIntS [.d (wD w)] h = .ok (.d (.int (digitsVal w : Nat))) h := by
  have hall : ∀ c ∈ w, c ∈ digL := fun c hc => of_decide_eq_true (List.all_eq_true.mp hd c hc)
  have hl : (cS w).length = w.length := SX.S_len w
  have e : PySem.intText? (cS w) = some ((digitsVal w : Nat) : Int) := intText_digits (x := cS w) (fun c hc => dig_rng c (hall c hc)) (fun e => by
    have : w = [] := e
    rw [this] at h1
    exact absurd h1 (by decide)) (by rw [hl]; omega)
  show (match PySem.intText? (cS w) with
    | some n => if (cS w).length ≤ 640 then R.ok (Vl.d (.int n)) h else .stuck
    | none => .stuck) = _
  rw [e]
  dsimp only
  rw [if_pos (by rw [hl]; omega)]
theorem eq0 {w : List Nat} (c : Nat) (r : List Nat) (e : w = c :: r) (hl : w.length < 1000) {env : Vi.Env} {h : Hc} (h0 : env[0]? = some (some (.d (wD w)))) : asB (m2 (fEq false) (m2 fIx (mVar 0) (mC (.int 0))) (mC (.str "0"))) env h = .ok (hdIn [48] w) h := by
  subst e
  have hr : r.length < 1000 := by rw [List.length_cons] at hl; omega
  refine asB_of ((m2_of (y := .d (.str "0")) (h2 := h) ((m2_of (x := .d (wD (c :: r))) (y := .d (.int 0)) (h1 := h) (h2 := h) (mVar_d _ _ _ _ h0) rfl).trans (ix0 c r h hr)) rfl).trans ((eq_txt false _ _ h).trans ?_))
  rw [s_0, cS_dec]
  refine congrArg (fun b => R.ok (Vl.d (.bl b)) h) ?_
  show decide ([c] = [48]) = decide (c ∈ [48])
  rw [Bool.eq_iff_iff, decide_eq_true_iff, decide_eq_true_iff]
  simp
theorem len_neg {lo hi : Int} {w : List Nat} (hn : ¬ (lo ≤ (w.length : Nat) ∧ ((w.length : Nat) : Int) ≤ hi)) : (!(decide (lo ≤ ((w.length : Nat) : Int)) && decide (((w.length : Nat) : Int) ≤ hi))) = true := by
  by_cases h1 : lo ≤ ((w.length : Nat) : Int)
  · rw [decide_eq_false (p := ((w.length : Nat) : Int) ≤ hi) (fun z => hn ⟨h1, z⟩), Bool.and_false]; rfl
  · rw [decide_eq_false h1]; rfl
theorem v_numtold {w : List Nat} (hl : w.length < 1000) (h : Hc) : F_number_told [wD w] h = .ok (numD w) h := by
  refine (fnOf_eq 2 1 _ _ _ rfl).trans ?_
  have c1 := chain_le (env := mkEnv 2 [wD w]) (a := mC (.int 1)) (b := mA1 fLen (maCons (mVar 0) maNil)) (c := mC d_MOST_DIGITS) (h := h) (x := 1) (y := (w.length : Nat)) (z := 9) rfl ((a1_of (h1 := h) rfl).trans (lenW w h hl)) rfl
  have c2 := all_in "0123456789" w h (mkEnv 2 [wD w]) hl 0 1 rfl (by show 1 < 2; decide)
  have cc := or_bb (not_b c1) (not_b (asB_of c2))
  unfold m_number_told numD num numB
  by_cases hb : 1 ≤ w.length ∧ w.length ≤ 9
  · rw [decide_eq_true (p := (1 : Int) ≤ (w.length : Nat)) (by omega), decide_eq_true (p := ((w.length : Nat) : Int) ≤ 9) (by omega)] at cc
    rw [decide_eq_true hb.1, decide_eq_true hb.2, Bool.true_and, Bool.true_and]
    cases hd : (w.all fun c => decide (c ∈ digL)) with
    | false =>
      rw [show (w.all fun c => decide (c ∈ ("0123456789" : PySem.Str).cps.toList)) = false from hd] at cc
      exact congrArg RS.fin (seq_ret ((if_t cc).trans rfl))
    | true =>
      rw [show (w.all fun c => decide (c ∈ ("0123456789" : PySem.Str).cps.toList)) = true from hd] at cc
      refine Eq.trans (congrArg RS.fin (seq_nx (env1 := mkEnv 2 [wD w]) (h1 := h) (if_skip cc))) ?_
      obtain ⟨c, r, e⟩ : ∃ c r, w = c :: r := by
        cases w with
        | nil => exact absurd hb.1 (by decide)
        | cons c r => exact ⟨c, r, rfl⟩
      have c3 := and_bb (eq0 c r e hl (env := mkEnv 2 [wD w]) (h := h) rfl) (asB_of ((m2_of (x := .d (wD w)) (y := .d (.str "0")) (h1 := h) (h2 := h) (a := mVar 0) (b := mC (.str "0")) rfl rfl).trans (eq_txt true (cS w) "0" h)))
      rw [s_0, cS_dec] at c3
      rw [Bool.true_and]
      cases hq : (hdIn [48] w && !decide (w = [48])) with
      | true =>
        simp only [if_true] at c3
        rw [hq] at c3
        exact congrArg RS.fin (seq_ret ((if_t (by rw [s_0]; exact c3)).trans rfl))
      | false =>
        simp only [if_true] at c3
        rw [hq] at c3
        refine Eq.trans (congrArg RS.fin (seq_nx (if_skip (by rw [s_0]; exact c3)))) ?_
        exact congrArg RS.fin (ret_of ((a1_of (h1 := h) rfl).trans (int_w hb.1 hb.2 hd h)))
  · have hb' : (decide (1 ≤ w.length) && (decide (w.length ≤ 9) && ((w.all fun c => decide (c ∈ digL)) && !(hdIn [48] w && !decide (w = [48]))))) = false := by
      by_cases h1 : 1 ≤ w.length
      · rw [decide_eq_false (p := w.length ≤ 9) (by omega), Bool.false_and, Bool.and_false]
      · rw [decide_eq_false h1, Bool.false_and]
    rw [hb']
    rw [len_neg (lo := 1) (hi := 9) (by omega)] at cc
    exact congrArg RS.fin (seq_ret ((if_t cc).trans rfl))
theorem v_digits {w : List Nat} (hl : w.length < 1000) (h : Hc) : F__law_p5_digits [wD w] h = .ok (.int (numI w)) h := by
  refine (fnOf_eq 2 1 _ _ _ rfl).trans ?_
  have c1 := chain_lt (env := mkEnv 2 [wD w]) (a := mC (.int 0)) (b := mA1 fLen (maCons (mVar 0) maNil)) (c := mC (.int 10)) (h := h) (x := 0) (y := (w.length : Nat)) (z := 10) rfl ((a1_of (h1 := h) rfl).trans (lenW w h hl)) rfl
  have c2 := not_in "0123456789" w h (mkEnv 2 [wD w]) (mC (.str "0123456789")) hl 0 1 rfl (by show 1 < 2; decide) (fun _ => rfl)
  have cc := or_bb (not_b c1) c2
  unfold m__law_p5_digits numI num numB
  by_cases hb : 1 ≤ w.length ∧ w.length ≤ 9
  · rw [decide_eq_true (p := (0 : Int) < (w.length : Nat)) (by omega), decide_eq_true (p := ((w.length : Nat) : Int) < 10) (by omega)] at cc
    rw [decide_eq_true hb.1, decide_eq_true hb.2, Bool.true_and, Bool.true_and]
    cases hd : (w.all fun c => decide (c ∈ digL)) with
    | false =>
      rw [show (w.all fun c => decide (c ∈ ("0123456789" : PySem.Str).cps.toList)) = false from hd] at cc
      exact congrArg RS.fin (seq_ret ((if_t cc).trans rfl))
    | true =>
      rw [show (w.all fun c => decide (c ∈ ("0123456789" : PySem.Str).cps.toList)) = true from hd] at cc
      refine Eq.trans (congrArg RS.fin (seq_nx (env1 := mkEnv 2 [wD w]) (h1 := h) (if_skip cc))) ?_
      obtain ⟨c, r, e⟩ : ∃ c r, w = c :: r := by
        cases w with
        | nil => exact absurd hb.1 (by decide)
        | cons c r => exact ⟨c, r, rfl⟩
      have c4 : asB (m2 fGt (mA1 fLen (maCons (mVar 0) maNil)) (mC (.int 1))) (mkEnv 2 [wD w]) h = .ok (decide (((w.length : Nat) : Int) > 1)) h := c_gt ((a1_of (h1 := h) rfl).trans (lenW w h hl))
      have c3 := and_bb c4 (eq0 c r e hl (env := mkEnv 2 [wD w]) (h := h) rfl)
      have same : (decide (((w.length : Nat) : Int) > 1) && hdIn [48] w) = (hdIn [48] w && !decide (w = [48])) := by
        subst e
        rw [Bool.and_comm]
        cases hh : hdIn [48] (c :: r) with
        | false => rfl
        | true =>
          rw [Bool.true_and, Bool.true_and]
          have hc : c = 48 := by simpa using of_decide_eq_true (show decide (c ∈ [48]) = true from hh)
          subst hc
          rw [Bool.eq_iff_iff, decide_eq_true_iff, Bool.not_eq_true', decide_eq_false_iff_not, List.length_cons]
          constructor
          · intro hp e
            have := (List.cons.inj e).2
            rw [this, List.length_nil] at hp
            omega
          · intro hn
            cases r with
            | nil => exact absurd rfl hn
            | cons d s => rw [List.length_cons]; omega
      rw [same] at c3
      rw [Bool.true_and]
      cases hq : (hdIn [48] w && !decide (w = [48])) with
      | true =>
        rw [hq] at c3
        exact congrArg RS.fin (seq_ret ((if_t c3).trans rfl))
      | false =>
        rw [hq] at c3
        refine Eq.trans (congrArg RS.fin (seq_nx (if_skip c3))) ?_
        exact congrArg RS.fin (ret_of ((a1_of (h1 := h) rfl).trans (int_w hb.1 hb.2 hd h)))
  · have hb' : (decide (1 ≤ w.length) && (decide (w.length ≤ 9) && ((w.all fun c => decide (c ∈ digL)) && !(hdIn [48] w && !decide (w = [48]))))) = false := by
      by_cases h1 : 1 ≤ w.length
      · rw [decide_eq_false (p := w.length ≤ 9) (by omega), Bool.false_and, Bool.and_false]
      · rw [decide_eq_false h1, Bool.false_and]
    rw [hb']
    have : (!(decide ((0 : Int) < (w.length : Nat)) && decide (((w.length : Nat) : Int) < 10))) = true := by
      by_cases h1 : 1 ≤ w.length
      · rw [decide_eq_false (p := ((w.length : Nat) : Int) < 10) (by omega), Bool.and_false]; rfl
      · rw [decide_eq_false (p := (0 : Int) < (w.length : Nat)) (by omega)]; rfl
    rw [this] at cc
    exact congrArg RS.fin (seq_ret ((if_t cc).trans rfl))
end G38
namespace G38
open PySem L2 Vi PySem.NumText PyProof.Rows
theorem dv_lt : ∀ (l : List Nat) (a : Nat), (∀ c ∈ l, c ∈ digL) → l.foldl (fun acc c => acc * 10 + (c - 48)) a < (a + 1) * 10 ^ l.length
  | [], a, _ => by simp
  | c :: r, a, h => by
    have hc := dig_rng c (h c (List.mem_cons_self ..))
    have ih := dv_lt r (a * 10 + (c - 48)) fun x hx => h x (List.mem_cons_of_mem _ hx)
    show r.foldl _ (a * 10 + (c - 48)) < _
    refine Nat.lt_of_lt_of_le ih ?_
    rw [List.length_cons, Nat.pow_succ, Nat.mul_comm (10 ^ r.length) 10, ← Nat.mul_assoc]
    exact Nat.mul_le_mul_right _ (by omega)
theorem num_some {w : List Nat} {n : Nat} (h : num w = some n) : 1 ≤ w.length ∧ w.length ≤ 9 ∧ (∀ c ∈ w, c ∈ digL) ∧ n = digitsVal w ∧ n < 10 ^ 9 := by
  unfold num at h
  split at h
  · next hb =>
    cases h
    unfold numB at hb
    simp only [Bool.and_eq_true, decide_eq_true_eq] at hb
    obtain ⟨h1, h2, h3, _⟩ := hb
    have hd : ∀ c ∈ w, c ∈ digL := fun c hc => of_decide_eq_true (List.all_eq_true.mp h3 c hc)
    refine ⟨h1, h2, hd, rfl, ?_⟩
    have := dv_lt w 0 hd
    rw [Nat.zero_add, Nat.one_mul] at this
    exact Nat.lt_of_lt_of_le this (Nat.pow_le_pow_right (by decide) h2)
  · cases h
theorem num_none {w : List Nat} {c : Nat} (hc : c ∈ w) (hd : c ∉ digL) : num w = none := by
  cases h : num w with
  | none => rfl
  | some n => exact absurd ((num_some h).2.2.1 c hc) hd
def sl1 (w : List Nat) : List Nat := w.takeWhile (· != 47)
def sl2 (w : List Nat) : List Nat := (w.dropWhile (· != 47)).drop 1
theorem sl_no : ∀ w : List Nat, 47 ∉ sl1 w
  | [] => by intro h; cases h
  | c :: r => by
    unfold sl1
    rw [List.takeWhile_cons]
    by_cases e : c = 47
    · subst e
      intro h
      cases h
    · rw [if_pos (by simpa using e)]
      intro h
      rcases List.mem_cons.mp h with h | h
      · exact e h.symm
      · exact sl_no r h
theorem sl_dec : ∀ w : List Nat, 47 ∈ w → w = sl1 w ++ 47 :: sl2 w
  | [], h => by cases h
  | c :: r, h => by
    unfold sl1 sl2
    rw [List.takeWhile_cons, List.dropWhile_cons]
    by_cases e : c = 47
    · subst e
      rfl
    · rw [if_pos (by simpa using e), if_pos (by simpa using e)]
      rcases List.mem_cons.mp h with h | h
      · exact absurd h.symm e
      · exact congrArg (c :: ·) (sl_dec r h)
theorem sl_len (w : List Nat) : (sl1 w).length ≤ w.length ∧ (sl2 w).length ≤ w.length := by
  unfold sl1 sl2
  refine ⟨(List.takeWhile_sublist _).length_le, ?_⟩
  rw [List.length_drop]
  exact Nat.le_trans (Nat.sub_le ..) ((List.dropWhile_sublist _).length_le)
def shareV (w : List Nat) : Option (Int × Int) := if 47 ∈ w then (match num (sl1 w), num (sl2 w) with
  | some a, some b => if 1 ≤ b ∧ a ≤ b then some (lowA a b, lowB a b) else none
  | _, _ => none) else none
def shareD (w : List Nat) : D := match shareV w with
  | some (a, b) => .tup [.int a, .int b]
  | none => .non
theorem s_sl : ("/" : PySem.Str) = cS [47] := by decide +kernel
theorem sm9 {b : Nat} (h : b < 10 ^ 9) : (b : Int).natAbs < 2 ^ 40 := by
  rw [Int.natAbs_natCast]
  exact Nat.lt_of_lt_of_le h (by decide)
theorem v_sharetold {w : List Nat} (hl : w.length < 1000) (h : Hc) : F_share_told [wD w] h = .ok (shareD w) h := by
  refine (fnOf_eq 6 1 _ _ _ rfl).trans ?_
  have pt : ∃ p m q, Txt.partition (cS w) (cS [47]) = (cS p, m, cS q) ∧ p.length < 1000 ∧ q.length < 1000 ∧ ((47 ∈ w ∧ p = sl1 w ∧ q = sl2 w) ∨ (47 ∉ w ∧ q = [])) := by
    by_cases hm : 47 ∈ w
    · have e := TL.partition_app (y := cS [47]) (s := 47) (S := []) rfl (a := cS (sl1 w)) (b := cS (sl2 w)) (sl_no w)
      rw [SX.S_cat, SX.S_cat, List.append_assoc] at e
      rw [show sl1 w ++ ([47] ++ sl2 w) = w from (sl_dec w hm).symm] at e
      have := sl_len w
      exact ⟨_, _, _, e, by omega, by omega, .inl ⟨hm, rfl, rfl⟩⟩
    · exact ⟨w, _, [], TL.partition_none (y := cS [47]) (s := 47) (S := []) rfl (a := cS w) hm, hl, by decide, .inr ⟨hm, rfl⟩⟩
  obtain ⟨p, m, q, ep, hp, hq, hpq⟩ := pt
  have s1 : mUnp (gtT 3 (gtCons (gtN 1) (gtCons (gtN 2) (gtCons (gtN 3) gtNil)))) (mStr1 fPart (mVar 0) (mC (.str "/"))) (mkEnv 6 [wD w]) h = .nx [some (.d (wD w)), some (.d (wD p)), some (.d (.str m)), some (.d (wD q)), none, none] h := by
    have e1 : mStr1 fPart (mVar 0) (mC (.str "/")) (mkEnv 6 [wD w]) h = .ok (.d (.tup [wD p, .str m, wD q])) h := by
      show fPart (cS w) (.d (.str "/")) h = _
      rw [s_sl]
      show (if (cS [47]).length ≠ 0 ∧ (cS w).length ≤ 100000 then R.ok (Vl.d (.tup [.str (Txt.partition (cS w) (cS [47])).1, .str (Txt.partition (cS w) (cS [47])).2.1, .str (Txt.partition (cS w) (cS [47])).2.2])) h else .stuck) = _
      rw [if_pos ⟨by decide, by rw [SX.S_len]; omega⟩, ep]
    unfold mUnp
    rw [e1]
    rfl
  have n1 := v_numtold hp h
  have n3 := v_numtold hq h
  have s2 : mPar 4 5 (maCons (mA1 (fCallN 1 F_number_told []) (maCons (mVar 1) maNil)) (maCons (mA1 (fCallN 1 F_number_told []) (maCons (mVar 3) maNil)) maNil)) [some (.d (wD w)), some (.d (wD p)), some (.d (.str m)), some (.d (wD q)), none, none] h = .nx [some (.d (wD w)), some (.d (wD p)), some (.d (.str m)), some (.d (wD q)), some (.d (numD p)), some (.d (numD q))] h := by
    unfold mPar
    rw [ma_cons (call1 (h1 := h) rfl n1) (ma_cons (call1 (h1 := h) rfl n3) ma_nil)]
    rfl
  unfold m_share_told
  refine Eq.trans (congrArg RS.fin (seq_nx s1)) (Eq.trans (congrArg RS.fin (seq_nx s2)) ?_)
  have q0 : 47 ∉ w → shareD w = .non := fun hm => by
    unfold shareD shareV
    rw [if_neg hm]
  have fin : ∀ d : D, shareD w = d → ∀ out : RS, out.fin = .ok d h → out.fin = .ok (shareD w) h := fun d e out ho => by rw [ho, e]
  unfold numD
  cases h1 : num p with
  | none =>
    refine fin .non ?_ _ rfl
    rcases hpq with ⟨hm, rfl, rfl⟩ | ⟨hm, _⟩
    · unfold shareD shareV
      rw [if_pos hm, h1]
    · exact q0 hm
  | some a =>
    cases h2 : num q with
    | none =>
      refine fin .non ?_ _ rfl
      rcases hpq with ⟨hm, rfl, rfl⟩ | ⟨hm, _⟩
      · unfold shareD shareV
        rw [if_pos hm, h1, h2]
      · exact q0 hm
    | some b =>
      rcases hpq with ⟨hm, rfl, rfl⟩ | ⟨hm, rfl⟩
      · dsimp only
        have ct : (tOrM (asB (m2 (fIsN false) (mVar 4) (mC .non))) (tOrM (asB (m2 (fIsN false) (mVar 5) (mC .non))) (tOrM (asB (m2 fLt (mVar 5) (mC (.int 1)))) (asB (m2 fGt (mVar 4) (mVar 5)))))) [some (.d (wD w)), some (.d (wD (sl1 w))), some (.d (.str m)), some (.d (wD (sl2 w))), some (.d (.int (a : Nat))), some (.d (.int (b : Nat)))] h = .ok (decide ((b : Int) < 1) || decide ((b : Int) < (a : Int))) h := by
          refine (or_f (h1 := h) (asB_of (b := false) rfl)).trans ((or_f (h1 := h) (asB_of (b := false) rfl)).trans ?_)
          exact or_bb (c_lt rfl) (asB_of ((m2_of (F := fGt) (x := .d (.int (a : Nat))) (y := .d (.int (b : Nat))) (h1 := h) (h2 := h) rfl rfl).trans rfl))
        by_cases hc : 1 ≤ b ∧ a ≤ b
        · rw [decide_eq_false (p := (b : Int) < 1) (by omega), decide_eq_false (p := (b : Int) < (a : Int)) (by omega)] at ct
          refine fin (.tup [.int (lowA a b), .int (lowB a b)]) ?_ _ ?_
          · unfold shareD shareV
            rw [if_pos hm, h1, h2]
            dsimp only
            rw [if_pos hc]
          · refine Eq.trans (congrArg RS.fin (seq_nx (if_skip ct))) (congrArg RS.fin (a₂ := .ret (.tup [.int (lowA a b), .int (lowB a b)]) h) (ret_of (call2 (h1 := h) (h2 := h) rfl rfl (v_lowest (by omega) ?_))))
            exact Nat.lt_trans (log2_lt (sm9 (num_some h2).2.2.2.2) (by decide)) (by decide)
        · have : (decide ((b : Int) < 1) || decide ((b : Int) < (a : Int))) = true := by
            by_cases h1 : 1 ≤ b
            · rw [decide_eq_true (p := (b : Int) < (a : Int)) (by omega), Bool.or_true]
            · rw [decide_eq_true (p := (b : Int) < 1) (by omega), Bool.true_or]
          rw [this] at ct
          refine fin .non ?_ _ (congrArg RS.fin (a₂ := .ret .non h) (seq_ret ((if_t ct).trans rfl)))
          unfold shareD shareV
          rw [if_pos hm, h1, h2]
          dsimp only
          rw [if_neg hc]
      · exact absurd (num_some h2).1 (by decide)
end G38
namespace G38
open PySem L2 Vi PySem.NumText PyProof.Rows
theorem cnt_mem {l : List Nat} (h : 47 ∈ l) : 1 ≤ cnt 47 l := by
  have e := sl_dec l h
  have hc : cnt 47 l = cnt 47 (sl1 l) + ((if 47 = 47 then 1 else 0) + cnt 47 (sl2 l)) := by
    conv => lhs; rw [e]
    rw [cnt_append, cnt_cons]
  rw [cnt_none 47 _ (sl_no l)] at hc
  have nn : ∀ k : List Nat, 0 ≤ cnt 47 k := by
    intro k
    induction k with
    | nil => exact Int.le_refl _
    | cons c r ih =>
      rw [cnt_cons]
      split <;> omega
  have := nn (sl2 l)
  simp at hc
  omega
theorem find_sl {w : List Nat} (h : 47 ∈ w) : Txt.find (cS w) (cS [47]) = ((sl1 w).length : Int) := by
  have hy : TL.tl (cS [47]) ≠ [] := by decide
  have e := sl_dec w h
  have at1 : StrLaws.At (cS w) (cS [47]) (cS w).length (sl1 w).length := (TL.at_iff hy _).mpr (by
    show TL.pre [47] (w.drop (sl1 w).length) = true
    have ed : w.drop (sl1 w).length = 47 :: sl2 w := by
      generalize sl1 w = p at e
      generalize sl2 w = q at e
      rw [e, List.drop_left]
    rw [ed]
    rfl)
  have no : ∀ k, k < (sl1 w).length → ¬ StrLaws.At (cS w) (cS [47]) (cS w).length k := fun k hk ha => by
    have hp := (TL.at_iff hy k).mp ha
    have hp : TL.pre [47] (w.drop k) = true := hp
    have hd : w.drop k = (sl1 w).drop k ++ 47 :: sl2 w := by
      generalize sl1 w = p at e hk
      generalize sl2 w = q at e
      rw [e, List.drop_append_of_le_length (by omega)]
    rw [hd] at hp
    obtain ⟨c, hc⟩ := TL.getElem_drop_cons hk
    rw [hc] at hp
    have hne : c ≠ 47 := fun z => sl_no w (z ▸ List.mem_of_mem_drop (i := k) (by rw [hc]; exact List.mem_cons_self ..))
    rw [List.cons_append, TL.pre_of_head [] _ hne] at hp
    cases hp
  rcases find_whole (cS w) (cS [47]) with ⟨_, hn⟩ | ⟨i, ei, ha, hb⟩
  · exact absurd at1 (hn _)
  · rw [ei]
    have : i = (sl1 w).length := by
      rcases Nat.lt_trichotomy i (sl1 w).length with q | q | q
      · exact absurd ha (no i q)
      · exact q
      · exact absurd at1 (hb _ q)
    rw [this]
theorem v_shareof {w : List Nat} (hl : w.length < 1000) (h : Hc) : F__law_p5_share_of [wD w] h = .ok (shareD w) h := by
  refine (fnOf_eq 4 1 _ _ _ rfl).trans ?_
  have c1 : asB (m2 (fEq true) (mStr1 fCountT (mVar 0) (mC (.str "/"))) (mC (.int 1))) (mkEnv 4 [wD w]) h = .ok (!decide (cnt 47 w = 1)) h := by
    have e1 : mStr1 fCountT (mVar 0) (mC (.str "/")) (mkEnv 4 [wD w]) h = .ok (.d (.int (cnt 47 w))) h := by
      show fCountT (cS w) (.d (.str "/")) h = _
      rw [s_sl]
      show R.ok (Vl.d (.int (Txt.count (cS w) ⟨#[47]⟩))) h = _
      rw [count_cnt]
    exact asB_of ((m2_of (y := .d (.int 1)) (h2 := h) e1 rfl).trans ((eqI true _ _ h).trans rfl))
  have fin : ∀ d : D, shareD w = d → ∀ out : RS, out.fin = .ok d h → out.fin = .ok (shareD w) h := fun d e out ho => by rw [ho, e]
  unfold m__law_p5_share_of
  by_cases hm : 47 ∈ w
  · have e := sl_dec w hm
    have hc : cnt 47 w = 1 + cnt 47 (sl2 w) := by
      conv => lhs; rw [e]
      rw [cnt_append, cnt_cons, cnt_none 47 _ (sl_no w)]
      simp
    by_cases hm2 : 47 ∈ sl2 w
    · have := cnt_mem hm2
      rw [decide_eq_false (p := cnt 47 w = 1) (by omega)] at c1
      refine fin .non ?_ _ (congrArg RS.fin (a₂ := .ret .non h) (seq_ret ((if_t c1).trans rfl)))
      unfold shareD shareV
      rw [if_pos hm, num_none (w := sl2 w) hm2 (by decide +kernel)]
      cases num (sl1 w) <;> rfl
    · rw [cnt_none 47 _ hm2] at hc
      rw [decide_eq_true (p := cnt 47 w = 1) (by omega)] at c1
      have ll := sl_len w
      have d1 := v_digits (w := sl1 w) (by omega) h
      have d2 := v_digits (w := sl2 w) (by omega) h
      have zl : (cS w).length ≤ 100000 := by rw [SX.S_len]; omega
      have s1 : mSet 1 (mStr1 fFind (mVar 0) (mC (.str "/"))) (mkEnv 4 [wD w]) h = .nx [some (.d (wD w)), some (.d (.int ((sl1 w).length : Nat))), none, none] h := by
        refine set_d (d := .int ((sl1 w).length : Nat)) ?_
        show fFind (cS w) (.d (.str "/")) h = _
        rw [s_sl]
        show R.ok (Vl.d (.int (Txt.find (cS w) (cS [47])))) h = _
        rw [find_sl hm]
      have a1 : mSl false (mVar 0) moN (moS (mVar 1)) [some (.d (wD w)), some (.d (.int ((sl1 w).length : Nat))), none, none] h = .ok (.d (wD (sl1 w))) h := by
        show (if (cS w).length ≤ 100000 then R.ok (Vl.d (.str (Txt.slice (cS w) none (some ((sl1 w).length : Int))))) h else .stuck) = _
        rw [if_pos zl]
        have := SX.to_app (sl1 w) (47 :: sl2 w) (i := ((sl1 w).length : Int)) rfl
        rw [← e] at this
        rw [this]
      have a2 : ∀ z, mSl false (mVar 0) (moS (m2 (fAdd false) (mVar 1) (mC (.int 1)))) moN [some (.d (wD w)), some (.d (.int ((sl1 w).length : Nat))), z, none] h = .ok (.d (wD (sl2 w))) h := fun z => by
        show (if (cS w).length ≤ 100000 then R.ok (Vl.d (.str (Txt.slice (cS w) (some (((sl1 w).length : Int) + 1)) none))) h else .stuck) = _
        rw [if_pos zl]
        have := SX.from_app (sl1 w ++ [47]) (sl2 w) (i := ((sl1 w).length : Int) + 1) (by rw [List.length_append, List.length_singleton]; omega)
        rw [List.append_assoc, show sl1 w ++ ([47] ++ sl2 w) = w from e.symm] at this
        rw [this]
      refine Eq.trans (congrArg RS.fin (seq_nx (env1 := mkEnv 4 [wD w]) (h1 := h) (if_skip c1))) ?_
      refine Eq.trans (congrArg RS.fin (seq_nx s1)) ?_
      refine Eq.trans (congrArg RS.fin (seq_nx (set_d (call1 a1 d1)))) ?_
      refine Eq.trans (congrArg RS.fin (seq_nx (set_d (call1 (a2 _) d2)))) ?_
      have ct : (tOrM (asB (m2 fLt (mVar 2) (mC (.int 0)))) (tOrM (asB (m2 fLt (mVar 3) (mC (.int 1)))) (asB (m2 fGt (mVar 2) (mVar 3))))) [some (.d (wD w)), some (.d (.int ((sl1 w).length : Nat))), some (.d (.int (numI (sl1 w)))), some (.d (.int (numI (sl2 w))))] h = .ok (decide (numI (sl1 w) < 0) || (decide (numI (sl2 w) < 1) || decide (numI (sl2 w) < numI (sl1 w)))) h :=
        or_bb (c_lt rfl) (or_bb (c_lt rfl) (asB_of ((m2_of (F := fGt) (x := .d (.int (numI (sl1 w)))) (y := .d (.int (numI (sl2 w)))) (h1 := h) (h2 := h) rfl rfl).trans rfl)))
      by_cases ok : (decide (numI (sl1 w) < 0) || (decide (numI (sl2 w) < 1) || decide (numI (sl2 w) < numI (sl1 w)))) = true
      · rw [ok] at ct
        refine fin .non ?_ _ (congrArg RS.fin (a₂ := .ret .non h) (seq_ret ((if_t ct).trans rfl)))
        unfold shareD shareV
        rw [if_pos hm]
        unfold numI at ok
        cases h1 : num (sl1 w) with
        | none => rfl
        | some a =>
          cases h2 : num (sl2 w) with
          | none => rfl
          | some b =>
            rw [h1, h2] at ok
            simp only [Bool.or_eq_true, decide_eq_true_eq] at ok
            dsimp only
            rw [if_neg (by omega)]
      · have ok := Bool.eq_false_iff.mpr ok
        rw [ok] at ct
        unfold numI at ok
        cases h1 : num (sl1 w) with
        | none => rw [h1] at ok; simp at ok
        | some a =>
          cases h2 : num (sl2 w) with
          | none => rw [h1, h2] at ok; simp at ok
          | some b =>
            rw [h1, h2] at ok
            simp only [Bool.or_eq_false_iff, decide_eq_false_iff_not] at ok
            refine fin (.tup [.int (lowA a b), .int (lowB a b)]) ?_ _ (congrArg RS.fin (a₂ := .ret (.tup [.int (lowA a b), .int (lowB a b)]) h) ?_)
            · unfold shareD shareV
              rw [if_pos hm, h1, h2]
              dsimp only
              rw [if_pos (by omega)]
            · refine Eq.trans (seq_nx (if_skip ct)) (ret_of (call2 (x := .int (a : Nat)) (y := .int (b : Nat)) (h1 := h) (h2 := h) ?_ ?_ (v_low (k := 40) (by decide) (by omega) (sm9 (num_some h2).2.2.2.2))))
              · show R.ok (Vl.d (.int (numI (sl1 w)))) h = _
                unfold numI
                rw [h1]
              · show R.ok (Vl.d (.int (numI (sl2 w)))) h = _
                unfold numI
                rw [h2]
  · rw [cnt_none 47 _ hm] at c1
    refine fin .non ?_ _ (congrArg RS.fin (a₂ := .ret .non h) (seq_ret ((if_t c1).trans rfl)))
    unfold shareD shareV
    rw [if_neg hm]
def dayD (w : List Nat) : D := match num w with
  | some n => if n ≤ 99999 then .int (n : Nat) else .non
  | none => .non
theorem v_daytold {w : List Nat} (hl : w.length < 1000) (h : Hc) : F_day_told [wD w] h = .ok (dayD w) h := by
  refine (fnOf_eq 2 1 _ _ _ rfl).trans ?_
  have n1 := v_numtold hl h
  unfold m_day_told
  refine Eq.trans (congrArg RS.fin (seq_nx (set_d (call1 (h1 := h) rfl n1)))) ?_
  unfold numD dayD
  cases hn : num w with
  | none => rfl
  | some n =>
    refine congrArg RS.fin (a₂ := .ret (if n ≤ 99999 then .int (n : Nat) else .non) h) (ret_of ?_)
    have ct : (tOrM (asB (m2 (fIsN false) (mVar 1) (mC .non))) (asB (m2 fGt (mVar 1) (mC d_LAST_DAY)))) ((mkEnv 2 [wD w]).set 1 (some (.d (.int (n : Nat))))) h = .ok (decide ((n : Int) > 99999)) h := (or_f (h1 := h) (asB_of (b := false) rfl)).trans (c_gt rfl)
    unfold mIf
    dsimp only
    rw [ct, R.bind_ok]
    by_cases hc : n ≤ 99999
    · rw [if_pos hc, decide_eq_false (by omega)]
      rfl
    · rw [if_neg hc, decide_eq_true (by omega)]
      rfl
end G38
namespace G38
open PySem L2 Vi
inductive Sg where
  | factor | trait | day | share | of | farm | farms | joint
  deriving DecidableEq
def sgS : Sg → PySem.Str
  | .factor => "factor" | .trait => "trait" | .day => "day" | .share => "share" | .of => "of" | .farm => "farm" | .farms => "farms" | .joint => "joint"
abbrev cod (s : PySem.Str) : List Nat := s.cps.toList
abbrev kNot : List Nat := cod "not"
abbrev kOp : List Nat := cod "("
abbrev kCl : List Nat := cod ")"
abbrev kAnd : List Nat := cod "and"
abbrev kOr : List Nat := cod "or"
abbrev kOf : List Nat := cod "of"
theorem w_eq (w : List Nat) (s : PySem.Str) : decide (cS w = s) = decide (w = cod s) := by
  rw [show s = cS (cod s) from (cS_tl s).symm, cS_dec, show cod (cS (cod s)) = cod s from rfl]
def plainT (w : List Nat) : Option Sg := if w = cod "free" then some .trait else if w = cod "untouched" then some .trait else if w = cod "least" then some .share else if w = cod "most" then some .share else
  if w = cod "since" then some .day else if w = cod "until" then some .day else if w = cod "single" then some .joint else none
def jnt (w : List Nat) (d : Nat) : Option Sg := if w = kAnd ∨ w = kOr then some .factor else if w = kCl ∧ 0 < d then some .joint else none
def nx (s : Sg) (w : List Nat) (fa : List (List Nat)) (d : Nat) : Option Sg := match s with
  | .factor => if w = kNot ∨ w = kOp then some .factor else plainT w
  | .trait => if nm w = true then some .joint else none
  | .day => if 0 ≤ numI w ∧ numI w ≤ 99999 then some .joint else none
  | .share => if shareV w = none then none else some .of
  | .of => if w = kOf then some .farm else none
  | .farm => if nm w = true then (if w ∈ fa then none else some .farms) else none
  | .farms => if nm w = true then (if w ∈ fa then none else some .farms) else jnt w d
  | .joint => jnt w d
def sgD (o : Option Sg) : D := .str (match o with
  | some s => sgS s
  | none => "bad")
theorem in_lst (neg : Bool) (w : List Nat) (xs : List PySem.Str) (h : Hc) : fInD neg g0.kc (.d (wD w)) (.d (.lst (xs.map D.str))) h = .ok (.d (nB neg (decide (cS w ∈ xs)))) h := by
  show fIn neg (.d (wD w)) (.d (.lst (xs.map D.str))) h = _
  exact in_txt (cS w) neg h _ xs rfl (fun z e => by cases e)
theorem mem2 (w : List Nat) (a b : PySem.Str) : decide (cS w ∈ [a, b]) = decide (w = cod a ∨ w = cod b) := by
  have h1 := w_eq w a
  have h2 := w_eq w b
  rw [Bool.eq_iff_iff, decide_eq_true_iff, decide_eq_true_iff] at *
  simp only [List.mem_cons, List.not_mem_nil, or_false]
  rw [h1, h2]
theorem memW (w : List Nat) (fa : List (List Nat)) : decide (cS w ∈ fa.map cS) = decide (w ∈ fa) := by
  rw [Bool.eq_iff_iff, decide_eq_true_iff, decide_eq_true_iff]
  constructor
  · intro h
    obtain ⟨x, hx, e⟩ := List.mem_map.mp h
    rw [← cS_inj e]
    exact hx
  · exact fun h => List.mem_map_of_mem h
abbrev tb4 : List (Key × D) := [(.inr "free", .str "trait"), (.inr "untouched", .str "trait"), (.inr "least", .str "share"), (.inr "most", .str "share")]
abbrev tb7 : List (Key × D) := tb4 ++ [(.inr "since", .str "day"), (.inr "until", .str "day"), (.inr "single", .str "joint")]
theorem tb_get (w : List Nat) : (getD' tb7 (.inr (cS w))).getD (.str "bad") = sgD (plainT w) := by
  have ne : ∀ s : PySem.Str, w ≠ cod s → (Sum.inr s : Key) ≠ .inr (cS w) := fun s hn e => hn (by
    have := Sum.inr.inj e
    rw [this])
  unfold plainT
  show ((if (Sum.inr ("free" : PySem.Str) : Key) = .inr (cS w) then some (D.str "trait") else if (Sum.inr ("untouched" : PySem.Str) : Key) = .inr (cS w) then some (D.str "trait") else if (Sum.inr ("least" : PySem.Str) : Key) = .inr (cS w) then some (D.str "share") else if (Sum.inr ("most" : PySem.Str) : Key) = .inr (cS w) then some (D.str "share") else
    if (Sum.inr ("since" : PySem.Str) : Key) = .inr (cS w) then some (D.str "day") else if (Sum.inr ("until" : PySem.Str) : Key) = .inr (cS w) then some (D.str "day") else if (Sum.inr ("single" : PySem.Str) : Key) = .inr (cS w) then some (D.str "joint") else none).getD (.str "bad")) = _
  by_cases h1 : w = cod "free"
  · rw [if_pos h1, if_pos (by rw [h1, cS_tl])]; rfl
  rw [if_neg h1, if_neg (ne _ h1)]
  by_cases h2 : w = cod "untouched"
  · rw [if_pos h2, if_pos (by rw [h2, cS_tl])]; rfl
  rw [if_neg h2, if_neg (ne _ h2)]
  by_cases h3 : w = cod "least"
  · rw [if_pos h3, if_pos (by rw [h3, cS_tl])]; rfl
  rw [if_neg h3, if_neg (ne _ h3)]
  by_cases h4 : w = cod "most"
  · rw [if_pos h4, if_pos (by rw [h4, cS_tl])]; rfl
  rw [if_neg h4, if_neg (ne _ h4)]
  by_cases h5 : w = cod "since"
  · rw [if_pos h5, if_pos (by rw [h5, cS_tl])]; rfl
  rw [if_neg h5, if_neg (ne _ h5)]
  by_cases h6 : w = cod "until"
  · rw [if_pos h6, if_pos (by rw [h6, cS_tl])]; rfl
  rw [if_neg h6, if_neg (ne _ h6)]
  by_cases h7 : w = cod "single"
  · rw [if_pos h7, if_pos (by rw [h7, cS_tl])]; rfl
  rw [if_neg h7, if_neg (ne _ h7)]
  rfl
theorem put_at {n i : Nat} {kvs : List (Key × D)} {env : Vi.Env} {h : Hc} {d : D} {k : PySem.Str} (e1 : env[i]? = some (some (.d (.ref n)))) (e2 : h[n]? = some (.dK kvs)) (hl : kvs.length < 100000) :
    mDPut g0.kc (mC d) (mVar i) (mC (.str k)) env h = .nx env (h.set n (.dK (putD' kvs (.inr k) d))) := by
  unfold mDPut
  rw [show mC d env h = .ok (.d d) h from rfl, R.thenS_ok, mVar_d i env h _ e1, R.thenS_ok, show mC (.str k) env h = .ok (.d (.str k)) h from rfl, R.thenS_ok]
  show (match h[n]? with
    | some c => (match dPut g0.kc c (.str k) d with
      | some c' => RS.nx env (h.set n c')
      | none => .stuck)
    | none => .stuck) = _
  rw [e2]
  show (match (if kvs.length < 100000 then some (Cell.dK (putD' kvs (.inr k) d)) else none) with
      | some c' => RS.nx env (h.set n c')
      | none => .stuck) = _
  rw [if_pos hl]
theorem get_at {n i j : Nat} {kvs : List (Key × D)} {env : Vi.Env} {h : Hc} {d : D} {k : PySem.Str} (e1 : env[i]? = some (some (.d (.ref n)))) (e2 : h[n]? = some (.dK kvs)) (e3 : env[j]? = some (some (.d (.str k)))) :
    mDGet2 g0.kc (mVar i) (mVar j) (mC d) env h = .ok (.d ((getD' kvs (.inr k)).getD d)) h := by
  have ed : dv? (.d (.ref n)) h = some (.k kvs) := by
    show (match h[n]?.map Cell.bare with
      | some (.dK kvs) => some (DV.k kvs)
      | some (.dT kvs) => some (.t kvs)
      | some (.lk kvs) => some (.k kvs)
      | _ => none) = _
    rw [e2]
    rfl
  unfold mDGet2
  rw [mVar_d i env h _ e1, R.bind_ok, ed]
  show (mVar j env h).bind _ = _
  rw [mVar_d j env h _ e3, R.bind_ok]
  show fDGet g0.kc (.d (.ref n)) (.d (.str k)) d h = _
  unfold fDGet
  rw [ed]
  show (match (some (getD' kvs (.inr k)) : Option (Option D)) with
    | some (some d) => R.ok (Vl.d d) h
    | some none => .ok (.d d) h
    | none => .stuck) = _
  cases getD' kvs (.inr k) <;> rfl
theorem disp_at {env : Vi.Env} {h : Hc} : mDisp ["free", "untouched", "least", "most"] [(mC (.str "trait")), (mC (.str "trait")), (mC (.str "share")), (mC (.str "share"))] env h = .ok (.d (.ref h.length)) (h ++ [.dK tb4]) := by
  unfold mDisp
  rw [show maL [(mC (.str "trait")), (mC (.str "trait")), (mC (.str "share")), (mC (.str "share"))] env (h ++ [.dK []]) = .ok [.d (.str "trait"), .d (.str "trait"), .d (.str "share"), .d (.str "share")] (h ++ [.dK []]) from rfl, R.bind_ok]
  rw [show datas [Vl.d (D.str "trait"), .d (.str "trait"), .d (.str "share"), .d (.str "share")] = some [.str "trait", .str "trait", .str "share", .str "share"] from rfl, List.getElem?_append_right (Nat.le_refl _), Nat.sub_self]
  dsimp only [List.getElem?_cons_zero]
  rw [if_pos (by decide), List.set_append_right _ _ (Nat.le_refl _), Nat.sub_self]
  have : mergeD [] ((["free", "untouched", "least", "most"] : List PySem.Str).zip [D.str "trait", .str "trait", .str "share", .str "share"]) = tb4 := by rfl
  rw [this]
  rfl
end G38
namespace G38
open PySem L2 Vi
def nxF : MS := (mSeq (mIfS (asB (m2 (fInD false g0.kc) (mVar 1) (mA1 (fLst false) (maCons (mC (.str "not")) (maCons (mC (.str "(")) maNil))))) (mRet (mC (.str "factor"))) mSkip) (mSeq (mSet 4 (mDisp ["free", "untouched", "least", "most"] [(mC (.str "trait")), (mC (.str "trait")), (mC (.str "share")), (mC (.str "share"))])) (mSeq (mDPut g0.kc (mC (.str "day")) (mVar 4) (mC (.str "since"))) (mSeq (mDPut g0.kc (mC (.str "day")) (mVar 4) (mC (.str "until"))) (mSeq (mDPut g0.kc (mC (.str "joint")) (mVar 4) (mC (.str "single"))) (mRet (mDGet2 g0.kc (mVar 4) (mVar 1) (mC (.str "bad")))))))))
def nxT : MS := (mRet (mIf (asB (mA1 (fCallN 1 F__law_p5_is_name []) (maCons (mVar 1) maNil))) (mC (.str "joint")) (mC (.str "bad"))))
def nxY : MS := (mRet (mIf (asB (mChain fLe fLe (mC (.int 0)) (mA1 (fCallN 1 F__law_p5_digits []) (maCons (mVar 1) maNil)) (mC (.int 99999)))) (mC (.str "joint")) (mC (.str "bad"))))
def nxS : MS := (mRet (mIf (asB (m2 (fIsN false) (mA1 (fCallN 1 F__law_p5_share_of []) (maCons (mVar 1) maNil)) (mC .non))) (mC (.str "bad")) (mC (.str "of"))))
def nxO : MS := (mRet (mIf (asB (m2 (fEq false) (mVar 1) (mC (.str "of")))) (mC (.str "farm")) (mC (.str "bad"))))
def nxJ : MS := (mSeq (mIfS (asB (m2 (fInD false g0.kc) (mVar 1) (mA1 (fLst false) (maCons (mC (.str "and")) (maCons (mC (.str "or")) maNil))))) (mRet (mC (.str "factor"))) mSkip) (mRet (mIf (tAndM (asB (m2 (fEq false) (mVar 1) (mC (.str ")")))) (asB (m2 fGt (mVar 3) (mC (.int 0))))) (mC (.str "joint")) (mC (.str "bad")))))
def nxMT : MB := (tAndM (asB (m2 (fInD false g0.kc) (mVar 0) (mA1 (fLst false) (maCons (mC (.str "farm")) (maCons (mC (.str "farms")) maNil))))) (asB (mA1 (fCallN 1 F__law_p5_is_name []) (maCons (mVar 1) maNil))))
def nxM : MS := (mRet (mIf (asB (m2 (fInD false g0.kc) (mVar 1) (mVar 2))) (mC (.str "bad")) (mC (.str "farms"))))
def nxTail : MS := (mSeq (mIfS nxMT nxM mSkip) (mSeq (mIfS (asB (m2 (fEq false) (mVar 0) (mC (.str "farm")))) (mRet (mC (.str "bad"))) mSkip) nxJ))
theorem next_parts : m__law_p5_next = mSeq (mIfS (asB (m2 (fEq false) (mVar 0) (mC (.str "factor")))) nxF mSkip) (mSeq (mIfS (asB (m2 (fEq false) (mVar 0) (mC (.str "trait")))) nxT mSkip) (mSeq (mIfS (asB (m2 (fEq false) (mVar 0) (mC (.str "day")))) nxY mSkip) (mSeq (mIfS (asB (m2 (fEq false) (mVar 0) (mC (.str "share")))) nxS mSkip) (mSeq (mIfS (asB (m2 (fEq false) (mVar 0) (mC (.str "of")))) nxO mSkip) nxTail)))) := rfl
abbrev envN5 (s : Sg) (w : List Nat) (fa : List (List Nat)) (d : Nat) (z : Option Sl) : Vi.Env := [some (.d (.str (sgS s))), some (.d (wD w)), some (.d (wsD fa)), some (.d (.int (d : Nat))), z]
theorem sg_ne : ∀ s t : Sg, s ≠ t → sgS s ≠ sgS t := by
  intro s t
  cases s <;> cases t <;> first | (intro h; exact absurd rfl h) | (intro _; decide +kernel)
section
variable {s : Sg} {w : List Nat} {fa : List (List Nat)} {d : Nat} {z : Option Sl} {h : Hc}
theorem is_sg (t : Sg) : asB (m2 (fEq false) (mVar 0) (mC (.str (sgS t)))) (envN5 s w fa d z) h = .ok (decide (s = t)) h := by
  refine asB_of ((m2_of (x := .d (.str (sgS s))) (y := .d (.str (sgS t))) (h1 := h) (h2 := h) rfl rfl).trans ((eq_txt false _ _ h).trans ?_))
  refine congrArg (fun b => R.ok (Vl.d (.bl b)) h) ?_
  show decide (sgS s = sgS t) = decide (s = t)
  by_cases e : s = t
  · rw [decide_eq_true e, decide_eq_true (by rw [e])]
  · rw [decide_eq_false e, decide_eq_false (sg_ne s t e)]
theorem e_mem (a b : PySem.Str) : asB (m2 (fInD false g0.kc) (mVar 1) (mA1 (fLst false) (maCons (mC (.str a)) (maCons (mC (.str b)) maNil)))) (envN5 s w fa d z) h = .ok (decide (w = cod a ∨ w = cod b)) h := by
  refine asB_of ((m2_of (x := .d (wD w)) (y := .d (.lst ([a, b].map D.str))) (h1 := h) (h2 := h) rfl rfl).trans ((in_lst false w [a, b] h).trans ?_))
  rw [mem2]
  rfl
theorem v_nxF : ∃ h', (∃ x, h' = h ++ x) ∧ nxF (envN5 s w fa d none) h = .ret (sgD (if w = kNot ∨ w = kOp then some .factor else plainT w)) h' := by
  have c := e_mem (s := s) (w := w) (fa := fa) (d := d) (z := none) (h := h) "not" "("
  unfold nxF
  by_cases hw : w = kNot ∨ w = kOp
  · rw [decide_eq_true hw] at c
    rw [if_pos hw]
    exact ⟨h, ⟨[], (List.append_nil _).symm⟩, seq_ret ((if_t c).trans rfl)⟩
  · rw [decide_eq_false hw] at c
    rw [if_neg hw, ← tb_get]
    have g0' : (h ++ [Cell.dK tb4])[h.length]? = some (.dK tb4) := by rw [List.getElem?_append_right (Nat.le_refl _), Nat.sub_self]; rfl
    generalize hq : h ++ [Cell.dK tb4] = h1 at g0'
    have hn : h.length < h1.length := (List.getElem?_eq_some_iff.mp g0').1
    have s1 : mSet 4 (mDisp ["free", "untouched", "least", "most"] [(mC (.str "trait")), (mC (.str "trait")), (mC (.str "share")), (mC (.str "share"))]) (envN5 s w fa d none) h = .nx (envN5 s w fa d (some (.d (.ref h.length)))) h1 := by
      rw [set_d disp_at, hq]
      rfl
    have p1 := put_at (i := 4) (env := envN5 s w fa d (some (.d (.ref h.length)))) (d := .str "day") (k := "since") rfl g0' (by decide)
    have g1 : (h1.set h.length (.dK (putD' tb4 (.inr "since") (.str "day"))))[h.length]? = some (.dK (putD' tb4 (.inr "since") (.str "day"))) := List.getElem?_set_self hn
    have p2 := put_at (i := 4) (env := envN5 s w fa d (some (.d (.ref h.length)))) (d := .str "day") (k := "until") rfl g1 (by decide)
    rw [List.set_set] at p2
    have g2 : (h1.set h.length (.dK (putD' (putD' tb4 (.inr "since") (.str "day")) (.inr "until") (.str "day"))))[h.length]? = some (.dK (putD' (putD' tb4 (.inr "since") (.str "day")) (.inr "until") (.str "day"))) := List.getElem?_set_self hn
    have p3 := put_at (i := 4) (env := envN5 s w fa d (some (.d (.ref h.length)))) (d := .str "joint") (k := "single") rfl g2 (by decide)
    rw [List.set_set] at p3
    have g3 : (h1.set h.length (.dK (putD' (putD' (putD' tb4 (.inr "since") (.str "day")) (.inr "until") (.str "day")) (.inr "single") (.str "joint"))))[h.length]? = some (.dK tb7) := (List.getElem?_set_self hn).trans (congrArg (fun x => some (Cell.dK x)) (by rfl))
    have q := get_at (i := 4) (j := 1) (env := envN5 s w fa d (some (.d (.ref h.length)))) (d := .str "bad") (k := cS w) rfl g3 rfl
    exact ⟨_, ⟨[Cell.dK (putD' (putD' (putD' tb4 (.inr "since") (.str "day")) (.inr "until") (.str "day")) (.inr "single") (.str "joint"))], by rw [← hq, List.set_append_right _ _ (Nat.le_refl _), Nat.sub_self]; rfl⟩, (seq_nx (env1 := envN5 s w fa d none) (h1 := h) (if_skip c)).trans ((seq_nx s1).trans ((seq_nx p1).trans ((seq_nx p2).trans ((seq_nx p3).trans (ret_of q)))))⟩
theorem v_nxT (hl : w.length < 1000) : nxT (envN5 s w fa d z) h = .ret (sgD (if nm w = true then some .joint else none)) h := by
  have e := asB_of (call1 (a := mVar 1) (env := envN5 s w fa d z) (h1 := h) (h := h) rfl (v_lisname hl h))
  unfold nxT
  refine ret_of ?_
  unfold mIf
  rw [e, R.bind_ok]
  cases nm w <;> rfl
theorem v_nxY (hl : w.length < 1000) : nxY (envN5 s w fa d z) h = .ret (sgD (if 0 ≤ numI w ∧ numI w ≤ 99999 then some .joint else none)) h := by
  have e := chain_le (env := envN5 s w fa d z) (a := mC (.int 0)) (c := mC (.int 99999)) (h := h) (x := 0) (z := 99999) rfl (call1 (a := mVar 1) (env := envN5 s w fa d z) (h1 := h) (h := h) rfl (v_digits hl h)) rfl
  unfold nxY
  refine ret_of ?_
  unfold mIf
  rw [e, R.bind_ok]
  by_cases hc : 0 ≤ numI w ∧ numI w ≤ 99999
  · rw [if_pos hc, decide_eq_true hc.1, decide_eq_true hc.2]
    rfl
  · rw [if_neg hc]
    have : (decide (0 ≤ numI w) && decide (numI w ≤ 99999)) = false := by
      cases q : (decide (0 ≤ numI w) && decide (numI w ≤ 99999)) with
      | false => rfl
      | true =>
        simp only [Bool.and_eq_true, decide_eq_true_eq] at q
        exact absurd q hc
    rw [this]
    rfl
theorem v_nxS (hl : w.length < 1000) : nxS (envN5 s w fa d z) h = .ret (sgD (if shareV w = none then none else some .of)) h := by
  have e0 := call1 (a := mVar 1) (env := envN5 s w fa d z) (h1 := h) (h := h) rfl (v_shareof hl h)
  unfold nxS
  refine ret_of ?_
  have e : asB (m2 (fIsN false) (mA1 (fCallN 1 F__law_p5_share_of []) (maCons (mVar 1) maNil)) (mC .non)) (envN5 s w fa d z) h = .ok (decide (shareV w = none)) h := by
    refine asB_of ((m2_of (y := .d .non) (h2 := h) e0 rfl).trans ?_)
    unfold shareD
    cases shareV w <;> rfl
  unfold mIf
  rw [e, R.bind_ok]
  by_cases hc : shareV w = none
  · rw [if_pos hc, decide_eq_true hc]; rfl
  · rw [if_neg hc, decide_eq_false hc]; rfl
theorem e_is (t : PySem.Str) : asB (m2 (fEq false) (mVar 1) (mC (.str t))) (envN5 s w fa d z) h = .ok (decide (w = cod t)) h := by
  refine asB_of ((m2_of (x := .d (wD w)) (y := .d (.str t)) (h1 := h) (h2 := h) rfl rfl).trans ((eq_txt false _ _ h).trans ?_))
  exact congrArg (fun b => R.ok (Vl.d (.bl b)) h) (w_eq w t)
theorem v_nxO : nxO (envN5 s w fa d z) h = .ret (sgD (if w = kOf then some .farm else none)) h := by
  unfold nxO
  refine ret_of ?_
  unfold mIf
  rw [e_is "of", R.bind_ok]
  by_cases hc : w = kOf
  · rw [if_pos hc, decide_eq_true hc]; rfl
  · rw [if_neg hc, decide_eq_false hc]; rfl
theorem v_nxJ : nxJ (envN5 s w fa d z) h = .ret (sgD (jnt w d)) h := by
  have c := e_mem (s := s) (w := w) (fa := fa) (d := d) (z := z) (h := h) "and" "or"
  unfold nxJ jnt
  by_cases hw : w = kAnd ∨ w = kOr
  · rw [decide_eq_true hw] at c
    rw [if_pos hw]
    exact seq_ret ((if_t c).trans rfl)
  · rw [decide_eq_false hw] at c
    rw [if_neg hw]
    refine (seq_nx (if_skip c)).trans (ret_of ?_)
    have e := and_bb (e_is (s := s) (w := w) (fa := fa) (d := d) (z := z) (h := h) ")") (c_gt (a := mVar 3) (env := envN5 s w fa d z) (h := h) (x := (d : Nat)) (k := 0) rfl)
    unfold mIf
    rw [e, R.bind_ok]
    by_cases hc : w = kCl ∧ 0 < d
    · rw [if_pos hc, decide_eq_true hc.1, decide_eq_true (p := ((d : Nat) : Int) > 0) (by omega)]
      rfl
    · rw [if_neg hc]
      have : (decide (w = cod ")") && decide (((d : Nat) : Int) > 0)) = false := by
        cases q : (decide (w = cod ")") && decide (((d : Nat) : Int) > 0)) with
        | false => rfl
        | true =>
          simp only [Bool.and_eq_true, decide_eq_true_eq] at q
          exact absurd ⟨q.1, by omega⟩ hc
      rw [this]
      rfl
theorem v_nxM : nxM (envN5 s w fa d z) h = .ret (sgD (if w ∈ fa then none else some .farms)) h := by
  have e : asB (m2 (fInD false g0.kc) (mVar 1) (mVar 2)) (envN5 s w fa d z) h = .ok (decide (w ∈ fa)) h := by
    have q := in_lst false w (fa.map cS) h
    rw [List.map_map, memW] at q
    exact asB_of ((m2_of (x := .d (wD w)) (y := .d (wsD fa)) (h1 := h) (h2 := h) rfl rfl).trans q)
  unfold nxM
  refine ret_of ?_
  unfold mIf
  rw [e, R.bind_ok]
  by_cases hc : w ∈ fa
  · rw [if_pos hc, decide_eq_true hc]; rfl
  · rw [if_neg hc, decide_eq_false hc]; rfl
theorem e_nxMT (hl : w.length < 1000) : nxMT (envN5 s w fa d z) h = .ok (decide (s = .farm ∨ s = .farms) && nm w) h := by
  refine and_bb (asB_of ?_) (asB_of (call1 (a := mVar 1) (env := envN5 s w fa d z) (h1 := h) (h := h) rfl (v_lisname hl h)))
  refine (m2_of (x := .d (.str (sgS s))) (y := .d (.lst ((["farm", "farms"] : List PySem.Str).map D.str))) (h1 := h) (h2 := h) rfl rfl).trans ?_
  show fIn false (.d (.str (sgS s))) (.d (.lst ((["farm", "farms"] : List PySem.Str).map D.str))) h = _
  refine (in_txt (sgS s) false h (.d (.lst ((["farm", "farms"] : List PySem.Str).map D.str))) ["farm", "farms"] rfl (fun z e => by cases e)).trans ?_
  cases s <;> rfl
theorem v_next (s : Sg) {w : List Nat} (hl : w.length < 1000) (fa : List (List Nat)) (d : Nat) (h : Hc) : ∃ h', (∃ x, h' = h ++ x) ∧ F__law_p5_next [.str (sgS s), wD w, wsD fa, .int (d : Nat)] h = .ok (sgD (nx s w fa d)) h' := by
  have f := fun t => is_sg (s := s) (w := w) (fa := fa) (d := d) (z := none) (h := h) t
  have go : ∀ (o : D) (h' : Hc), m__law_p5_next (envN5 s w fa d none) h = .ret o h' → F__law_p5_next [.str (sgS s), wD w, wsD fa, .int (d : Nat)] h = .ok o h' := fun o h' e => (fnOf_eq 5 4 _ _ _ rfl).trans (congrArg RS.fin e)
  rw [next_parts] at go
  have k1 : s ≠ .factor → asB (m2 (fEq false) (mVar 0) (mC (.str "factor"))) (envN5 s w fa d none) h = .ok false h := fun e => (f .factor).trans (by rw [decide_eq_false e])
  have k2 : s ≠ .trait → asB (m2 (fEq false) (mVar 0) (mC (.str "trait"))) (envN5 s w fa d none) h = .ok false h := fun e => (f .trait).trans (by rw [decide_eq_false e])
  have k3 : s ≠ .day → asB (m2 (fEq false) (mVar 0) (mC (.str "day"))) (envN5 s w fa d none) h = .ok false h := fun e => (f .day).trans (by rw [decide_eq_false e])
  have k4 : s ≠ .share → asB (m2 (fEq false) (mVar 0) (mC (.str "share"))) (envN5 s w fa d none) h = .ok false h := fun e => (f .share).trans (by rw [decide_eq_false e])
  have k5 : s ≠ .of → asB (m2 (fEq false) (mVar 0) (mC (.str "of"))) (envN5 s w fa d none) h = .ok false h := fun e => (f .of).trans (by rw [decide_eq_false e])
  have k7 : s ≠ .farm → asB (m2 (fEq false) (mVar 0) (mC (.str "farm"))) (envN5 s w fa d none) h = .ok false h := fun e => (f .farm).trans (by rw [decide_eq_false e])
  have km := e_nxMT (s := s) (fa := fa) (d := d) (z := none) (h := h) hl
  have pre : s ≠ .factor → s ≠ .trait → s ≠ .day → s ≠ .share → s ≠ .of → ∀ (o : D) (h' : Hc), nxTail (envN5 s w fa d none) h = .ret o h' → F__law_p5_next [.str (sgS s), wD w, wsD fa, .int (d : Nat)] h = .ok o h' := fun a1 a2 a3 a4 a5 o h' e =>
    go o h' ((seq_nx (if_skip (k1 a1))).trans ((seq_nx (if_skip (k2 a2))).trans ((seq_nx (if_skip (k3 a3))).trans ((seq_nx (if_skip (k4 a4))).trans ((seq_nx (if_skip (k5 a5))).trans e)))))
  unfold nxTail at pre
  cases s with
  | factor =>
    obtain ⟨h', hx, e⟩ := v_nxF (s := .factor) (w := w) (fa := fa) (d := d) (h := h)
    exact ⟨h', hx, go _ _ (seq_ret ((if_t ((f .factor).trans rfl)).trans e))⟩
  | trait => exact ⟨h, ⟨[], (List.append_nil _).symm⟩, go _ _ ((seq_nx (if_skip (k1 nofun))).trans (seq_ret ((if_t ((f .trait).trans rfl)).trans (v_nxT hl))))⟩
  | day => exact ⟨h, ⟨[], (List.append_nil _).symm⟩, go _ _ ((seq_nx (if_skip (k1 nofun))).trans ((seq_nx (if_skip (k2 nofun))).trans (seq_ret ((if_t ((f .day).trans rfl)).trans (v_nxY hl)))))⟩
  | share => exact ⟨h, ⟨[], (List.append_nil _).symm⟩, go _ _ ((seq_nx (if_skip (k1 nofun))).trans ((seq_nx (if_skip (k2 nofun))).trans ((seq_nx (if_skip (k3 nofun))).trans (seq_ret ((if_t ((f .share).trans rfl)).trans (v_nxS hl))))))⟩
  | of => exact ⟨h, ⟨[], (List.append_nil _).symm⟩, go _ _ ((seq_nx (if_skip (k1 nofun))).trans ((seq_nx (if_skip (k2 nofun))).trans ((seq_nx (if_skip (k3 nofun))).trans ((seq_nx (if_skip (k4 nofun))).trans (seq_ret ((if_t ((f .of).trans rfl)).trans v_nxO))))))⟩
  | farm =>
    have pre := pre nofun nofun nofun nofun nofun
    cases hn : nm w with
    | true =>
      rw [hn] at km
      refine ⟨h, ⟨[], (List.append_nil _).symm⟩, pre _ _ (seq_ret ((if_t (km.trans rfl)).trans ?_))⟩
      rw [v_nxM, nx, hn, if_pos rfl]
    | false =>
      rw [hn] at km
      refine ⟨h, ⟨[], (List.append_nil _).symm⟩, pre _ _ ((seq_nx (if_skip (km.trans rfl))).trans (seq_ret ((if_t ((f .farm).trans rfl)).trans ?_)))⟩
      rw [nx, hn, if_neg Bool.false_ne_true]
      rfl
  | farms =>
    have pre := pre nofun nofun nofun nofun nofun
    cases hn : nm w with
    | true =>
      rw [hn] at km
      refine ⟨h, ⟨[], (List.append_nil _).symm⟩, pre _ _ (seq_ret ((if_t (km.trans rfl)).trans ?_))⟩
      rw [v_nxM, nx, hn, if_pos rfl]
    | false =>
      rw [hn] at km
      refine ⟨h, ⟨[], (List.append_nil _).symm⟩, pre _ _ ((seq_nx (if_skip (km.trans rfl))).trans ((seq_nx (if_skip (k7 nofun))).trans ?_))⟩
      rw [v_nxJ, nx, hn, if_neg Bool.false_ne_true]
  | joint =>
    have pre := pre nofun nofun nofun nofun nofun
    refine ⟨h, ⟨[], (List.append_nil _).symm⟩, pre _ _ ((seq_nx (if_skip (km.trans rfl))).trans ((seq_nx (if_skip (k7 nofun))).trans ?_))⟩
    rw [v_nxJ, nx]
end
end G38
namespace G38
open PySem L2 Vi
def dep (d : Nat) (w : List Nat) : Nat := d + (if w = kOp then 1 else 0) - (if w = kCl then 1 else 0)
def J (s : Sg) (fa : List (List Nat)) (d : Nat) : List (List Nat) → Nat → Nat
  | [], i => if (s = .joint ∨ s = .farms) ∧ d = 0 then 0 else i + 1
  | w :: ws, i => match nx s w fa d with
    | none => i + 1
    | some s' => J s' (if s' = .farms then fa ++ [w] else []) (dep d w) ws (i + 1)
theorem nm_cl : nm kCl = false := by decide +kernel
theorem nx_cl {s s' : Sg} {fa : List (List Nat)} {d : Nat} (h : nx s kCl fa d = some s') : 0 < d := by
  have jc : ∀ {o}, jnt kCl d = some o → 0 < d := fun {o} h => by
    unfold jnt at h
    rw [if_neg (by decide +kernel)] at h
    split at h
    · next c => exact c.2
    · cases h
  cases s with
  | factor =>
    rw [nx, if_neg (by decide +kernel), show plainT kCl = none from by decide +kernel] at h
    cases h
  | trait => rw [nx, nm_cl] at h; cases h
  | day => rw [nx, if_neg (by decide +kernel)] at h; cases h
  | share => rw [nx, if_pos (by decide +kernel)] at h; cases h
  | of => rw [nx, if_neg (by decide +kernel)] at h; cases h
  | farm => rw [nx, nm_cl] at h; cases h
  | farms => rw [nx, nm_cl] at h; exact jc h
  | joint => exact jc h
def rD (i n : Nat) : List D := (List.range' i n).map fun k => D.int (k : Nat)
theorem rD_0 (n : Nat) : rangeD 0 n = rD 0 n := by
  unfold rangeD rD
  rw [List.range_eq_range']
  exact List.map_congr_left fun k _ => congrArg D.int (Int.zero_add _)
theorem rD_s (i n : Nat) : rD i (n + 1) = .int (i : Nat) :: rD (i + 1) n := rfl
def jB : MS := (mSeq (mSet 5 (mA1 (fCallN 4 F__law_p5_next []) (maCons (mVar 1) (maCons (m2 fIx (mVar 0) (mVar 4)) (maCons (mVar 2) (maCons (mVar 3) maNil)))))) (mSeq (mIfS (asB (m2 (fEq false) (mVar 5) (mC (.str "bad")))) (mRet (m2 (fAdd false) (mVar 4) (mC (.int 1)))) mSkip) (mSeq (mSet 2 (mIf (asB (m2 (fEq false) (mVar 5) (mC (.str "farms")))) (m2 (fAdd false) (mVar 2) (mA1 (fLst false) (maCons (m2 fIx (mVar 0) (mVar 4)) maNil))) (mA1 (fLst false) maNil))) (mSeq (mSet 3 (m2 fSub (m2 (fAdd false) (mVar 3) (mA1 fIntS (maCons (m2 (fEq false) (m2 fIx (mVar 0) (mVar 4)) (mC (.str "("))) maNil))) (mA1 fIntS (maCons (m2 (fEq false) (m2 fIx (mVar 0) (mVar 4)) (mC (.str ")"))) maNil)))) (mSet 1 (mVar 5))))))
def jF : MS := (mRet (mIf (tAndM (asB (m2 (fIn false) (mVar 1) (mA1 (fLst false) (maCons (mC (.str "joint")) (maCons (mC (.str "farms")) maNil))))) (asB (m2 (fEq false) (mVar 3) (mC (.int 0))))) (mC (.int 0)) (m2 (fAdd false) (mA1 fLen (maCons (mVar 0) maNil)) (mC (.int 1)))))
theorem jd_parts : m__law_p5_judged = mSeq (mSet 1 (mC (.str "factor"))) (mSeq (mSet 2 (mA1 (fLst false) maNil)) (mSeq (mSet 3 (mC (.int 0))) (mSeq (mForR (gtN 4) (maCons (mA1 fLen (maCons (mVar 0) maNil)) maNil) jB) jF))) := rfl
abbrev envJ (W : List (List Nat)) (s : Sg) (fa : List (List Nat)) (d : Nat) (kv bv : Option Sl) : Vi.Env := [some (.d (wsD W)), some (.d (.str (sgS s))), some (.d (wsD fa)), some (.d (.int (d : Nat))), kv, bv]
theorem atI_w {pre ws : List (List Nat)} {w : List Nat} : atI ((pre ++ w :: ws).map wD) ((pre.length : Nat) : Int) = some (wD w) := by
  unfold atI ixN
  rw [if_pos (by omega), if_pos (by rw [List.length_map, List.length_append, List.length_cons]; omega)]
  show ((pre ++ w :: ws).map wD)[((pre.length : Nat) : Int).toNat]? = _
  rw [Int.toNat_natCast, List.getElem?_map, List.getElem?_append_right (Nat.le_refl _), Nat.sub_self]
  rfl
theorem jd_turn {W pre ws : List (List Nat)} {w : List Nat} {s : Sg} {fa : List (List Nat)} {d : Nat} {bv : Option Sl} {h : Hc} (eW : W = pre ++ w :: ws) (hw : w.length < 1000) (hfa : fa.length < 5000) :
    ∃ h', (∃ x, h' = h ++ x) ∧ ((nx s w fa d = none ∧ jB (envJ W s fa d (some (.d (.int (pre.length : Nat)))) bv) h = .ret (.int ((pre.length + 1 : Nat) : Int)) h') ∨
      (∃ s' bv', nx s w fa d = some s' ∧ jB (envJ W s fa d (some (.d (.int (pre.length : Nat)))) bv) h = .nx (envJ W s' (if s' = .farms then fa ++ [w] else []) (dep d w) (some (.d (.int (pre.length : Nat)))) bv') h')) := by
  subst eW
  generalize hW : pre ++ w :: ws = W
  have iw : ∀ (a1 a2 a3 a5 : Option Sl) (h : Hc), m2 fIx (mVar 0) (mVar 4) [some (.d (wsD W)), a1, a2, a3, some (.d (.int (pre.length : Nat))), a5] h = .ok (.d (wD w)) h := fun a1 a2 a3 a5 h => by
    refine (m2_of (x := .d (wsD W)) (y := .d (.int (pre.length : Nat))) (h1 := h) (h2 := h) rfl rfl).trans ((fIx_lst _ _ h).trans ?_)
    rw [← hW, atI_w]
  obtain ⟨h', hx, e⟩ := v_next s hw fa d h
  refine ⟨h', hx, ?_⟩
  have s1 : mSet 5 (mA1 (fCallN 4 F__law_p5_next []) (maCons (mVar 1) (maCons (m2 fIx (mVar 0) (mVar 4)) (maCons (mVar 2) (maCons (mVar 3) maNil))))) (envJ W s fa d (some (.d (.int (pre.length : Nat)))) bv) h = .nx (envJ W s fa d (some (.d (.int (pre.length : Nat)))) (some (.d (sgD (nx s w fa d))))) h' :=
    set_d (call4 (h1 := h) (h2 := h) (h3 := h) (h4 := h) rfl (iw _ _ _ _ h) rfl rfl e)
  have isb : ∀ t : PySem.Str, asB (m2 (fEq false) (mVar 5) (mC (.str t))) (envJ W s fa d (some (.d (.int (pre.length : Nat)))) (some (.d (sgD (nx s w fa d))))) h' = .ok (decide ((match nx s w fa d with | some s => sgS s | none => "bad") = t)) h' := fun t => by
    refine asB_of ((m2_of (x := .d (sgD (nx s w fa d))) (y := .d (.str t)) (h1 := h') (h2 := h') rfl rfl).trans ((eq_txt false _ _ h').trans ?_))
    rfl
  have ib := isb "bad"
  have if_ := isb "farms"
  unfold jB
  cases hn : nx s w fa d with
  | none =>
    rw [hn] at s1 ib
    exact .inl ⟨rfl, (seq_nx s1).trans (seq_ret ((if_t (ib.trans rfl)).trans rfl))⟩
  | some s' =>
    rw [hn] at s1 ib if_
    refine .inr ⟨s', some (.d (.str (sgS s'))), rfl, ?_⟩
    have nb : sgS s' ≠ "bad" := by cases s' <;> decide +kernel
    refine (seq_nx s1).trans ((seq_nx (if_skip (ib.trans (by rw [decide_eq_false nb])))).trans ?_)
    have c2 : mIf (asB (m2 (fEq false) (mVar 5) (mC (.str "farms")))) (m2 (fAdd false) (mVar 2) (mA1 (fLst false) (maCons (m2 fIx (mVar 0) (mVar 4)) maNil))) (mA1 (fLst false) maNil) (envJ W s fa d (some (.d (.int (pre.length : Nat)))) (some (.d (.str (sgS s'))))) h' = .ok (.d (wsD (if s' = .farms then fa ++ [w] else []))) h' := by
      have if2 : asB (m2 (fEq false) (mVar 5) (mC (.str "farms"))) (envJ W s fa d (some (.d (.int (pre.length : Nat)))) (some (.d (.str (sgS s'))))) h' = .ok (decide (s' = .farms)) h' := if_.trans (by
        show R.ok (decide (sgS s' = sgS .farms)) h' = _
        by_cases e : s' = .farms
        · rw [decide_eq_true e, decide_eq_true (by rw [e])]
        · rw [decide_eq_false e, decide_eq_false (sg_ne _ _ e)])
      unfold mIf
      rw [if2, R.bind_ok]
      by_cases e : s' = .farms
      · rw [decide_eq_true e, if_pos e]
        have q := lst_of (ds := [wD w]) (ma_cons (iw (some (.d (.str (sgS s)))) (some (.d (wsD fa))) (some (.d (.int (d : Nat)))) (some (.d (.str (sgS s')))) h') ma_nil) (by simp)
        refine (m2_of (x := .d (wsD fa)) (h1 := h') rfl q).trans ?_
        show (if (fa.map wD).length + [wD w].length ≤ 100000 then R.ok (Vl.ofL false (fa.map wD ++ [wD w])) h' else .stuck) = _
        rw [if_pos (by rw [List.length_map, List.length_singleton]; omega), wsD, List.map_append]
        rfl
      · rw [decide_eq_false e, if_neg e]
        rfl
    refine (seq_nx (set_d c2)).trans ?_
    have ei : ∀ (t : PySem.Str) (a2 : Option Sl), mA1 fIntS (maCons (m2 (fEq false) (m2 fIx (mVar 0) (mVar 4)) (mC (.str t))) maNil) [some (.d (wsD W)), some (.d (.str (sgS s))), a2, some (.d (.int (d : Nat))), some (.d (.int (pre.length : Nat))), some (.d (.str (sgS s')))] h' = .ok (.d (.int (if w = cod t then 1 else 0))) h' := fun t a2 => by
      refine (a1_of (x := .d (.bl (decide (w = cod t)))) (h1 := h') ((m2_of (y := .d (.str t)) (h2 := h') (iw _ _ _ _ h') rfl).trans ((eq_txt false _ _ h').trans ?_))).trans ?_
      · exact congrArg (fun b => R.ok (Vl.d (.bl b)) h') (w_eq w t)
      · by_cases e : w = cod t
        · rw [decide_eq_true e, if_pos e]; rfl
        · rw [decide_eq_false e, if_neg e]; rfl
    have e3 : m2 fSub (m2 (fAdd false) (mVar 3) (mA1 fIntS (maCons (m2 (fEq false) (m2 fIx (mVar 0) (mVar 4)) (mC (.str "("))) maNil))) (mA1 fIntS (maCons (m2 (fEq false) (m2 fIx (mVar 0) (mVar 4)) (mC (.str ")"))) maNil)) [some (.d (wsD W)), some (.d (.str (sgS s))), some (.d (wsD (if s' = .farms then fa ++ [w] else []))), some (.d (.int (d : Nat))), some (.d (.int (pre.length : Nat))), some (.d (.str (sgS s')))] h' = .ok (.d (.int (dep d w : Nat))) h' := by
      refine (m2_of ((m2_of (x := .d (.int (d : Nat))) (h1 := h') rfl (ei "(" _)).trans rfl) (ei ")" _)).trans ?_
      show R.ok (Vl.d (.int (((d : Nat) : Int) + (if w = kOp then 1 else 0) - (if w = kCl then 1 else 0)))) h' = _
      refine congrArg (fun z => R.ok (Vl.d (.int z)) h') ?_
      unfold dep
      by_cases e : w = kCl
      · have hd := nx_cl (e ▸ hn)
        rw [if_pos e, if_pos e]
        split <;> omega
      · rw [if_neg e, if_neg e]
        split <;> omega
    refine (seq_nx (set_d e3)).trans ?_
    rfl
theorem jd_loop {W : List (List Nat)} (hW : ∀ w ∈ W, w.length < 1000) : ∀ (ws pre : List (List Nat)) (s : Sg) (fa : List (List Nat)) (d : Nat) (kv bv : Option Sl) (h : Hc), W = pre ++ ws → fa.length + ws.length < 5000 →
    ∃ h', (∃ x, h' = h ++ x) ∧ ((∃ k : Nat, forL (gtN 4) jB (rD pre.length ws.length) (envJ W s fa d kv bv) h = .ret (.int (k : Nat)) h' ∧ J s fa d ws pre.length = k) ∨
      (∃ (s' : Sg) (fa' : List (List Nat)) (d' : Nat) (kv' bv' : Option Sl), forL (gtN 4) jB (rD pre.length ws.length) (envJ W s fa d kv bv) h = .nx (envJ W s' fa' d' kv' bv') h' ∧ J s fa d ws pre.length = J s' fa' d' [] W.length))
  | [], pre, s, fa, d, kv, bv, h, eW, hl => ⟨h, ⟨[], (List.append_nil _).symm⟩, .inr ⟨s, fa, d, kv, bv, rfl, by rw [eW, List.append_nil]⟩⟩
  | w :: ws, pre, s, fa, d, kv, bv, h, eW, hl => by
    rw [List.length_cons] at hl
    obtain ⟨h1, ⟨x1, hx1⟩, q⟩ := jd_turn (s := s) (fa := fa) (d := d) (bv := bv) (h := h) eW (hW w (by rw [eW]; simp)) (by omega)
    rw [show (w :: ws).length = ws.length + 1 from rfl, rD_s]
    rcases q with ⟨hn, e⟩ | ⟨s', bv', hn, e⟩
    · refine ⟨h1, ⟨x1, hx1⟩, .inl ⟨pre.length + 1, for_ret (env1 := envJ W s fa d (some (.d (.int (pre.length : Nat)))) bv) rfl e, ?_⟩⟩
      rw [J, hn]
    · have el : pre.length + 1 = (pre ++ [w]).length := by rw [List.length_append]; rfl
      obtain ⟨h2, ⟨x2, hx2⟩, r⟩ := jd_loop hW ws (pre ++ [w]) s' (if s' = .farms then fa ++ [w] else []) (dep d w) (some (.d (.int (pre.length : Nat)))) bv' h1 (by rw [eW, List.append_assoc]; rfl) (by split <;> simp <;> omega)
      have ej : J s fa d (w :: ws) pre.length = J s' (if s' = .farms then fa ++ [w] else []) (dep d w) ws (pre ++ [w]).length := by
        rw [J, hn, el]
      rw [ej, el, for_nx (env1 := envJ W s fa d (some (.d (.int (pre.length : Nat)))) bv) rfl e]
      exact ⟨h2, ⟨x1 ++ x2, by rw [hx2, hx1, List.append_assoc]⟩, r⟩
theorem v_judged {W : List (List Nat)} (hW : ∀ w ∈ W, w.length < 1000) (hl : W.length < 4000) (h : Hc) : ∃ h', (∃ x, h' = h ++ x) ∧ F__law_p5_judged [wsD W] h = .ok (.int (J .factor [] 0 W 0 : Nat)) h' := by
  obtain ⟨h', hx, q⟩ := jd_loop hW W [] .factor [] 0 none none h rfl (by simp; omega)
  have len : ∀ (env : Vi.Env) (h : Hc), env[0]? = some (some (.d (wsD W))) → mA1 fLen (maCons (mVar 0) maNil) env h = .ok (.d (.int (W.length : Nat))) h := fun env h e => by
    refine (a1_of (mVar_d 0 env h _ e)).trans ((fLen_lst _ h).trans ?_)
    rw [List.length_map]
  have fe : mForR (gtN 4) (maCons (mA1 fLen (maCons (mVar 0) maNil)) maNil) jB (envJ W .factor [] 0 none none) h = forL (gtN 4) jB (rD ([] : List (List Nat)).length W.length) (envJ W .factor [] 0 none none) h := by
    rw [for_r (j := W.length) (h1 := h) (by omega) (len _ h rfl), rD_0]
    rfl
  refine ⟨h', hx, (fnOf_eq 6 1 _ _ _ rfl).trans (congrArg RS.fin (a₂ := .ret (.int (J .factor [] 0 W 0 : Nat)) h') ?_)⟩
  rw [jd_parts]
  refine Eq.trans (seq_nx (env1 := [some (.d (wsD W)), some (.d (.str (sgS .factor))), none, none, none, none]) (h1 := h) rfl) ?_
  refine Eq.trans (seq_nx (env1 := [some (.d (wsD W)), some (.d (.str (sgS .factor))), some (.d (wsD [])), none, none, none]) (h1 := h) rfl) ?_
  refine Eq.trans (seq_nx (env1 := envJ W .factor [] 0 none none) (h1 := h) rfl) ?_
  rcases q with ⟨k, e, ek⟩ | ⟨s', fa', d', kv', bv', e, ek⟩
  · rw [show J .factor [] 0 W 0 = k from ek]
    exact seq_ret (fe.trans e)
  · refine (seq_nx (fe.trans e)).trans ?_
    rw [show J .factor [] 0 W 0 = J s' fa' d' [] W.length from ek, J]
    unfold jF
    refine ret_of ?_
    have ct : tAndM (asB (m2 (fIn false) (mVar 1) (mA1 (fLst false) (maCons (mC (.str "joint")) (maCons (mC (.str "farms")) maNil))))) (asB (m2 (fEq false) (mVar 3) (mC (.int 0)))) (envJ W s' fa' d' kv' bv') h' = .ok (decide (s' = .joint ∨ s' = .farms) && decide (((d' : Nat) : Int) = 0)) h' := by
      refine and_bb (asB_of ?_) (c_eq rfl)
      refine (m2_of (x := .d (.str (sgS s'))) (y := .d (.lst ((["joint", "farms"] : List PySem.Str).map D.str))) (h1 := h') (h2 := h') rfl rfl).trans ?_
      refine (in_txt (sgS s') false h' (.d (.lst ((["joint", "farms"] : List PySem.Str).map D.str))) ["joint", "farms"] rfl (fun z e => by cases e)).trans ?_
      cases s' <;> rfl
    unfold mIf
    rw [ct, R.bind_ok]
    by_cases c1 : s' = .joint ∨ s' = .farms
    · by_cases c2 : d' = 0
      · rw [decide_eq_true c1, decide_eq_true (p := ((d' : Nat) : Int) = 0) (by omega), show (if (s' = Sg.joint ∨ s' = Sg.farms) ∧ d' = 0 then 0 else W.length + 1) = 0 from if_pos ⟨c1, c2⟩]
        rfl
      · rw [decide_eq_true c1, decide_eq_false (p := ((d' : Nat) : Int) = 0) (by omega), show (if (s' = Sg.joint ∨ s' = Sg.farms) ∧ d' = 0 then 0 else W.length + 1) = W.length + 1 from if_neg (fun z => c2 z.2)]
        exact (m2_of (y := .d (.int 1)) (h2 := h') (len _ h' rfl) rfl).trans rfl
    · rw [decide_eq_false c1, show (if (s' = Sg.joint ∨ s' = Sg.farms) ∧ d' = 0 then 0 else W.length + 1) = W.length + 1 from if_neg (fun z => c1 z.1)]
      exact (m2_of (y := .d (.int 1)) (h2 := h') (len _ h' rfl) rfl).trans rfl
end G38
namespace G38
open PySem L2 Vi
def dI (w : List Nat) : Int := (if w = kOp then 1 else 0) - (if w = kCl then 1 else 0)
def sc (j : List Nat) : List (List Nat) → Int → Nat → Int → Int × Int
  | [], d, _, f => (d, f)
  | w :: ws, d, i, f => sc j ws (d + dI w) (i + 1) (if d + dI w = 0 ∧ w = j then (i : Int) else f)
theorem sc_app (j : List Nat) : ∀ (a b : List (List Nat)) (d : Int) (i : Nat) (f : Int), sc j (a ++ b) d i f = sc j b (sc j a d i f).1 (i + a.length) (sc j a d i f).2
  | [], b, d, i, f => rfl
  | w :: a, b, d, i, f => by
    show sc j (a ++ b) (d + dI w) (i + 1) _ = _
    rw [sc_app j a b, show i + (w :: a).length = i + 1 + a.length by rw [List.length_cons]; omega]
    rfl
def lsB : MS := (mSeq (mSet 3 (m2 fSub (m2 (fAdd false) (mVar 3) (mA1 fIntS (maCons (m2 (fEq false) (m2 fIx (mVar 0) (mVar 4)) (mC (.str "("))) maNil))) (mA1 fIntS (maCons (m2 (fEq false) (m2 fIx (mVar 0) (mVar 4)) (mC (.str ")"))) maNil)))) (mIfS (tAndM (asB (m2 (fEq false) (mVar 3) (mC (.int 0)))) (asB (m2 (fEq false) (m2 fIx (mVar 0) (mVar 4)) (mVar 1)))) (mSet 2 (mVar 4)) mSkip))
theorem ls_parts : m__law_p5_last = mSeq (mSet 2 (m1 fNeg (mC (.int 1)))) (mSeq (mSet 3 (mC (.int 0))) (mSeq (mForR (gtN 4) (maCons (mA1 fLen (maCons (mVar 0) maNil)) maNil) lsB) (mRet (mVar 2)))) := rfl
abbrev envZ (W : List (List Nat)) (j : List Nat) (f d : Int) (kv : Option Sl) : Vi.Env := [some (.d (wsD W)), some (.d (wD j)), some (.d (.int f)), some (.d (.int d)), kv]
theorem ls_loop {W : List (List Nat)} {j : List Nat} {h : Hc} : ∀ (ws pre : List (List Nat)) (d f : Int) (kv : Option Sl), W = pre ++ ws →
    ∃ kv', forL (gtN 4) lsB (rD pre.length ws.length) (envZ W j f d kv) h = .nx (envZ W j (sc j ws d pre.length f).2 (sc j ws d pre.length f).1 kv') h
  | [], pre, d, f, kv, _ => ⟨kv, rfl⟩
  | w :: ws, pre, d, f, kv, eW => by
    have iw : ∀ (a1 a2 a3 : Option Sl), m2 fIx (mVar 0) (mVar 4) [some (.d (wsD W)), a1, a2, a3, some (.d (.int (pre.length : Nat)))] h = .ok (.d (wD w)) h := fun a1 a2 a3 => by
      refine (m2_of (x := .d (wsD W)) (y := .d (.int (pre.length : Nat))) (h1 := h) (h2 := h) rfl rfl).trans ((fIx_lst _ _ h).trans ?_)
      rw [eW, atI_w]
    have ei : ∀ (t : PySem.Str), mA1 fIntS (maCons (m2 (fEq false) (m2 fIx (mVar 0) (mVar 4)) (mC (.str t))) maNil) (envZ W j f d (some (.d (.int (pre.length : Nat))))) h = .ok (.d (.int (if w = cod t then 1 else 0))) h := fun t => by
      refine (a1_of (x := .d (.bl (decide (w = cod t)))) (h1 := h) ((m2_of (y := .d (.str t)) (h2 := h) (iw _ _ _) rfl).trans ((eq_txt false _ _ h).trans ?_))).trans ?_
      · exact congrArg (fun b => R.ok (Vl.d (.bl b)) h) (w_eq w t)
      · by_cases e : w = cod t
        · rw [decide_eq_true e, if_pos e]; rfl
        · rw [decide_eq_false e, if_neg e]; rfl
    have e3 : m2 fSub (m2 (fAdd false) (mVar 3) (mA1 fIntS (maCons (m2 (fEq false) (m2 fIx (mVar 0) (mVar 4)) (mC (.str "("))) maNil))) (mA1 fIntS (maCons (m2 (fEq false) (m2 fIx (mVar 0) (mVar 4)) (mC (.str ")"))) maNil)) (envZ W j f d (some (.d (.int (pre.length : Nat))))) h = .ok (.d (.int (d + dI w))) h := by
      refine (m2_of ((m2_of (x := .d (.int d)) (h1 := h) rfl (ei "(")).trans rfl) (ei ")")).trans ?_
      show R.ok (Vl.d (.int (d + (if w = kOp then 1 else 0) - (if w = kCl then 1 else 0)))) h = _
      refine congrArg (fun z => R.ok (Vl.d (.int z)) h) ?_
      unfold dI
      omega
    have ct : tAndM (asB (m2 (fEq false) (mVar 3) (mC (.int 0)))) (asB (m2 (fEq false) (m2 fIx (mVar 0) (mVar 4)) (mVar 1))) (envZ W j f (d + dI w) (some (.d (.int (pre.length : Nat))))) h = .ok (decide (d + dI w = 0) && decide (w = j)) h := by
      refine and_bb (c_eq rfl) (asB_of ((m2_of (y := .d (wD j)) (h2 := h) (iw _ _ _) rfl).trans ((eq_txt false _ _ h).trans ?_)))
      exact congrArg (fun b => R.ok (Vl.d (.bl b)) h) (cS_dec w j)
    obtain ⟨kv', q⟩ := ls_loop (W := W) (j := j) (h := h) ws (pre ++ [w]) (d + dI w) (if d + dI w = 0 ∧ w = j then (pre.length : Int) else f) (some (.d (.int (pre.length : Nat)))) (by rw [eW, List.append_assoc]; rfl)
    refine ⟨kv', ?_⟩
    rw [show (w :: ws).length = ws.length + 1 from rfl, rD_s]
    have el : pre.length + 1 = (pre ++ [w]).length := by rw [List.length_append]; rfl
    have turn : lsB (envZ W j f d (some (.d (.int (pre.length : Nat))))) h = .nx (envZ W j (if d + dI w = 0 ∧ w = j then (pre.length : Int) else f) (d + dI w) (some (.d (.int (pre.length : Nat))))) h := by
      unfold lsB
      refine (seq_nx (set_d e3)).trans ?_
      by_cases c : d + dI w = 0 ∧ w = j
      · rw [decide_eq_true c.1, decide_eq_true c.2] at ct
        rw [show (if d + dI w = 0 ∧ w = j then (pre.length : Int) else f) = pre.length from if_pos c]
        exact (if_t ct).trans rfl
      · have : (decide (d + dI w = 0) && decide (w = j)) = false := by
          cases q : (decide (d + dI w = 0) && decide (w = j)) with
          | false => rfl
          | true =>
            simp only [Bool.and_eq_true, decide_eq_true_eq] at q
            exact absurd q c
        rw [this] at ct
        rw [show (if d + dI w = 0 ∧ w = j then (pre.length : Int) else f) = f from if_neg c]
        exact if_skip ct
    rw [el, for_nx (env1 := envZ W j f d (some (.d (.int (pre.length : Nat))))) rfl turn, q]
    rw [← el]
    rfl
theorem v_last {W : List (List Nat)} {j : List Nat} (hl : W.length < 4000) (h : Hc) : F__law_p5_last [wsD W, wD j] h = .ok (.int (sc j W 0 0 (-1)).2) h := by
  obtain ⟨kv, q⟩ := ls_loop (j := j) (h := h) W [] 0 (-1) none rfl
  refine (fnOf_eq 5 2 _ _ _ rfl).trans (congrArg RS.fin (a₂ := .ret (.int (sc j W 0 0 (-1)).2) h) ?_)
  rw [ls_parts]
  refine (seq_nx (env1 := [some (.d (wsD W)), some (.d (wD j)), some (.d (.int (-1))), none, none]) (h1 := h) rfl).trans ?_
  refine (seq_nx (env1 := envZ W j (-1) 0 none) (h1 := h) rfl).trans ?_
  have fe : mForR (gtN 4) (maCons (mA1 fLen (maCons (mVar 0) maNil)) maNil) lsB (envZ W j (-1) 0 none) h = forL (gtN 4) lsB (rD ([] : List (List Nat)).length W.length) (envZ W j (-1) 0 none) h := by
    rw [for_r (j := W.length) (h1 := h) (by omega) ?_, rD_0]
    · rfl
    · refine (a1_of (x := .d (wsD W)) (h1 := h) rfl).trans ((fLen_lst _ h).trans ?_)
      rw [List.length_map]
  exact (seq_nx (fe.trans q)).trans rfl
def srtK (F : List (List Nat)) : List D := (sortL kLt (F.map fun x => (.inr (cS x) : Key))).map dKey
def srtL (F : List (List Nat)) : D := .tup (srtK F)
theorem keys_w : ∀ F : List (List Nat), keys? (F.map wD) = some (F.map fun x => (.inr (cS x) : Key))
  | [] => rfl
  | x :: r => by
    show (match key? (wD x), keys? (r.map wD) with
      | some k, some ks => some (k :: ks)
      | _, _ => none) = _
    rw [keys_w r]
    rfl
theorem same_w (F : List (List Nat)) : sameKinds (F.map fun x => (.inr (cS x) : Key)) = true := by
  cases F with
  | nil => rfl
  | cons x r =>
    show ((r.map fun x => (.inr (cS x) : Key)).all fun j => kKind j == kKind (.inr (cS x))) = true
    rw [List.all_map]
    exact List.all_eq_true.mpr fun _ _ => rfl
theorem v_sorted {F : List (List Nat)} {x : Vl} {h : Hc} (e : seq? h x = some (F.map wD)) : fSorted g0.kc false [x] h = .ok (.d (.lst (srtK F))) h := by
  unfold fSorted
  dsimp only
  rw [e]
  dsimp only
  unfold sortD?
  rw [keys_w]
  dsimp only
  rw [same_w, if_pos rfl]
  rfl
inductive At : List (List Nat) → D → Prop
  | name (q n : List Nat) : q = cod "free" ∨ q = cod "untouched" → nm n = true → At [q, n] (.tup [wD q, wD n])
  | share (q s : List Nat) (F : List (List Nat)) : q = cod "least" ∨ q = cod "most" → shareV s ≠ none → F ≠ [] → (∀ x ∈ F, nm x = true) → F.length < 60 → At (q :: s :: kOf :: F) (.tup [wD q, shareD s, srtL F])
  | day (q n : List Nat) (k : Nat) : q = cod "since" ∨ q = cod "until" → num n = some k → k ≤ 99999 → At [q, n] (.tup [wD q, .int (k : Nat)])
  | single : At [cod "single"] (.tup [wD (cod "single")])
inductive P : Nat → List (List Nat) → D → Prop
  | at {w : List (List Nat)} {t : D} : At w t → P 0 w t
  | not {w : List (List Nat)} {t : D} : P 0 w t → P 0 (kNot :: w) (.tup [wD kNot, t])
  | par {w : List (List Nat)} {t : D} : P 2 w t → P 0 (kOp :: (w ++ [kCl])) t
  | tm {w : List (List Nat)} {t : D} : P 0 w t → P 1 w t
  | and {w1 w2 : List (List Nat)} {t1 t2 : D} : P 1 w1 t1 → P 0 w2 t2 → P 1 (w1 ++ kAnd :: w2) (.tup [wD kAnd, t1, t2])
  | ex {w : List (List Nat)} {t : D} : P 1 w t → P 2 w t
  | or {w1 w2 : List (List Nat)} {t1 t2 : D} : P 2 w1 t1 → P 1 w2 t2 → P 2 (w1 ++ kOr :: w2) (.tup [wD kOr, t1, t2])
def Dull (w : List Nat) : Prop := w ≠ kOp ∧ w ≠ kCl ∧ w ≠ kAnd ∧ w ≠ kOr
theorem nm_dull {w : List Nat} (h : nm w = true) : Dull w := ⟨fun e => by rw [e] at h; exact absurd h (by decide +kernel), fun e => by rw [e] at h; exact absurd h (by decide +kernel), fun e => by rw [e] at h; exact absurd h (by decide +kernel), fun e => by rw [e] at h; exact absurd h (by decide +kernel)⟩
theorem share_dull {w : List Nat} (h : shareV w ≠ none) : Dull w := ⟨fun e => by rw [e] at h; exact absurd (by decide +kernel) h, fun e => by rw [e] at h; exact absurd (by decide +kernel) h, fun e => by rw [e] at h; exact absurd (by decide +kernel) h, fun e => by rw [e] at h; exact absurd (by decide +kernel) h⟩
theorem num_dull {w : List Nat} {k : Nat} (h : num w = some k) : Dull w := by
  have n1 : num kOp = none := by decide +kernel
  have n2 : num kCl = none := by decide +kernel
  have n3 : num kAnd = none := by decide +kernel
  have n4 : num kOr = none := by decide +kernel
  refine ⟨fun e => ?_, fun e => ?_, fun e => ?_, fun e => ?_⟩
  · rw [e, n1] at h; cases h
  · rw [e, n2] at h; cases h
  · rw [e, n3] at h; cases h
  · rw [e, n4] at h; cases h
theorem At.dull {w : List (List Nat)} {t : D} (h : At w t) : ∀ x ∈ w, Dull x := by
  have c : ∀ x ∈ [cod "free", cod "untouched", cod "least", cod "most", cod "since", cod "until", cod "single", kOf], Dull x := by unfold Dull; decide +kernel
  cases h with
  | name q n hq hn =>
    intro x hx
    simp only [List.mem_cons, List.not_mem_nil, or_false] at hx
    rcases hx with rfl | rfl
    · rcases hq with rfl | rfl <;> exact c _ (by simp)
    · exact nm_dull hn
  | share q s F hq hs _ hF _ =>
    intro x hx
    simp only [List.mem_cons] at hx
    rcases hx with rfl | rfl | rfl | hx
    · rcases hq with rfl | rfl <;> exact c _ (by simp)
    · exact share_dull hs
    · exact c _ (by simp)
    · exact nm_dull (hF x hx)
  | day q n k hq hn _ =>
    intro x hx
    simp only [List.mem_cons, List.not_mem_nil, or_false] at hx
    rcases hx with rfl | rfl
    · rcases hq with rfl | rfl <;> exact c _ (by simp)
    · exact num_dull hn
  | single =>
    intro x hx
    rw [List.mem_singleton.mp hx]
    exact c _ (by simp)
theorem sc_dull {j : List Nat} (hj : j = kAnd ∨ j = kOr) : ∀ (ws : List (List Nat)), (∀ x ∈ ws, Dull x) → ∀ (d : Int) (i : Nat) (f : Int), sc j ws d i f = (d, f)
  | [], _, d, i, f => rfl
  | w :: ws, hw, d, i, f => by
    obtain ⟨h1, h2, h3, h4⟩ := hw w (List.mem_cons_self ..)
    have e : dI w = 0 := by unfold dI; rw [if_neg h1, if_neg h2]; rfl
    show sc j ws (d + dI w) (i + 1) (if d + dI w = 0 ∧ w = j then (i : Int) else f) = _
    rw [e, Int.add_zero, if_neg (fun z => by rcases hj with rfl | rfl; exact h3 z.2; exact h4 z.2)]
    exact sc_dull hj ws (fun x hx => hw x (List.mem_cons_of_mem _ hx)) d (i + 1) f
theorem sc_P {j : List Nat} (hj : j = kAnd ∨ j = kOr) {lv : Nat} {w : List (List Nat)} {t : D} (p : P lv w t) : ∀ (d : Int) (i : Nat) (f : Int), 0 ≤ d → (sc j w d i f).1 = d ∧ (1 ≤ d ∨ lv = 0 ∨ (lv = 1 ∧ j = kOr) → (sc j w d i f).2 = f) := by
  have dno : dI kNot = 0 := by decide +kernel
  have dan : dI kAnd = 0 := by decide +kernel
  have dor : dI kOr = 0 := by decide +kernel
  have dop : dI kOp = 1 := by decide +kernel
  have dcl : dI kCl = -1 := by decide +kernel
  have ne : kNot ≠ j ∧ kOp ≠ j ∧ kCl ≠ j := by rcases hj with rfl | rfl <;> decide +kernel
  induction p with
  | «at» h => intro d i f _; rw [sc_dull hj _ h.dull]; exact ⟨rfl, fun _ => rfl⟩
  | not p ih =>
    intro d i f hd
    show (sc j _ (d + dI kNot) (i + 1) (if d + dI kNot = 0 ∧ kNot = j then (i : Int) else f)).1 = d ∧ (_ → (sc j _ (d + dI kNot) (i + 1) (if d + dI kNot = 0 ∧ kNot = j then (i : Int) else f)).2 = f)
    rw [if_neg (fun z => ne.1 z.2), dno, Int.add_zero]
    exact ih d (i + 1) f hd
  | par p ih =>
    intro d i f hd
    show (sc j (_ ++ [kCl]) (d + dI kOp) (i + 1) (if d + dI kOp = 0 ∧ kOp = j then (i : Int) else f)).1 = d ∧ (_ → (sc j (_ ++ [kCl]) (d + dI kOp) (i + 1) (if d + dI kOp = 0 ∧ kOp = j then (i : Int) else f)).2 = f)
    rw [if_neg (fun z => ne.2.1 z.2), dop, sc_app]
    obtain ⟨a, b⟩ := ih (d + 1) (i + 1) f (by omega)
    have b := b (.inl (by omega))
    rw [a, b]
    show (d + 1 + dI kCl) = d ∧ (_ → (if d + 1 + dI kCl = 0 ∧ kCl = j then _ else f) = f)
    rw [dcl]
    exact ⟨by omega, fun _ => if_neg fun z => ne.2.2 z.2⟩
  | tm p ih =>
    intro d i f hd
    obtain ⟨a, b⟩ := ih d i f hd
    exact ⟨a, fun _ => b (.inr (.inl rfl))⟩
  | and p q ih1 ih2 =>
    intro d i f hd
    rw [sc_app]
    obtain ⟨a1, b1⟩ := ih1 d i f hd
    rw [a1]
    show (sc j _ (d + dI kAnd) (i + _ + 1) (if d + dI kAnd = 0 ∧ kAnd = j then _ else _)).1 = d ∧ (_ → (sc j _ (d + dI kAnd) (i + _ + 1) (if d + dI kAnd = 0 ∧ kAnd = j then _ else _)).2 = f)
    rw [dan, Int.add_zero]
    refine ⟨(ih2 d _ _ hd).1, fun hc => ?_⟩
    rw [(ih2 d _ _ hd).2 (.inr (.inl rfl))]
    rcases hc with hc | hc | hc
    · rw [if_neg (fun z => by omega)]; exact b1 (.inl hc)
    · cases hc
    · rw [if_neg (fun z => by rw [hc.2] at z; exact absurd z.2 (by decide +kernel))]
      exact b1 (.inr (.inr ⟨rfl, hc.2⟩))
  | ex p ih =>
    intro d i f hd
    obtain ⟨a, b⟩ := ih d i f hd
    refine ⟨a, fun hc => ?_⟩
    rcases hc with hc | hc | hc
    · exact b (.inl hc)
    · cases hc
    · cases hc.1
  | or p q ih1 ih2 =>
    intro d i f hd
    rw [sc_app]
    obtain ⟨a1, b1⟩ := ih1 d i f hd
    rw [a1]
    show (sc j _ (d + dI kOr) (i + _ + 1) (if d + dI kOr = 0 ∧ kOr = j then _ else _)).1 = d ∧ (_ → (sc j _ (d + dI kOr) (i + _ + 1) (if d + dI kOr = 0 ∧ kOr = j then _ else _)).2 = f)
    rw [dor, Int.add_zero]
    refine ⟨(ih2 d _ _ hd).1, fun hc => ?_⟩
    rcases hc with hc | hc | hc
    · rw [(ih2 d _ _ hd).2 (.inl hc), if_neg (fun z => by omega)]
      exact b1 (.inl hc)
    · cases hc
    · cases hc.1
end G38
namespace G38
open PySem L2 Vi
theorem cut_mid {α : Type} (xs : List α) {a b : Nat} (h1 : a ≤ b) (h2 : b ≤ xs.length) : cutL xs (some (a : Int)) (some (b : Int)) = (xs.drop a).take (b - a) := by
  unfold cutL
  rw [HT.sIx_nat, HT.sIx_nat, show min a xs.length = a by omega, show min b xs.length = b by omega]
theorem cut_to {α : Type} (xs : List α) {b : Nat} (h2 : b ≤ xs.length) : cutL xs none (some (b : Int)) = xs.take b := by
  unfold cutL
  rw [HT.sIx_nat, HT.sIx_none, Nat.min_eq_left h2]
  rfl
theorem cut_from {α : Type} (xs : List α) {a : Nat} (h2 : a ≤ xs.length) : cutL xs (some (a : Int)) none = xs.drop a := by
  unfold cutL
  rw [HT.sIx_nat, HT.sIx_none, Nat.min_eq_left h2]
  exact List.take_of_length_le (by rw [List.length_drop]; exact Nat.le_refl _)
def rdB (G : Fn) : MS := (mSeq (mSet 2 (mA1 (fCallN 2 F__law_p5_last []) (maCons (mVar 0) (maCons (mVar 1) maNil)))) (mIfS (asB (m2 fGt (mVar 2) (mC (.int 0)))) (mRet (mA1 fTup (maCons (mVar 1) (maCons (mA1 (fCallN 1 G []) (maCons (mSl false (mVar 0) moN (moS (mVar 2))) maNil)) (maCons (mA1 (fCallN 1 G []) (maCons (mSl false (mVar 0) (moS (m2 (fAdd false) (mVar 2) (mC (.int 1)))) moN) maNil)) maNil))))) mSkip))
def rdN (G : Fn) : MS := (mRet (mA1 fTup (maCons (mC (.str "not")) (maCons (mA1 (fCallN 1 G []) (maCons (mSl false (mVar 0) (moS (mC (.int 1))) moN) maNil)) maNil))))
def rdP (G : Fn) : MS := (mRet (mA1 (fCallN 1 G []) (maCons (mSl false (mVar 0) (moS (mC (.int 1))) (moS (m2 fSub (mA1 fLen (maCons (mVar 0) maNil)) (mC (.int 1))))) maNil)))
def rdL : MS := (mRet (mA1 fTup (maCons (m2 fIx (mVar 0) (mC (.int 0))) (maCons (mA1 (fCallN 1 F__law_p5_share_of []) (maCons (m2 fIx (mVar 0) (mC (.int 1))) maNil)) (maCons (mA1 fTuple (maCons (mA1 (fSorted g0.kc false) (maCons (mSl false (mVar 0) (moS (mC (.int 3))) moN) maNil)) maNil)) maNil)))))
def rdS : MS := (mRet (mA1 fTup (maCons (m2 fIx (mVar 0) (mC (.int 0))) (maCons (mA1 fIntS (maCons (m2 fIx (mVar 0) (mC (.int 1))) maNil)) maNil))))
def rdT (G : Fn) : MS := (mSeq (mIfS (asB (m2 (fEq false) (m2 fIx (mVar 0) (mC (.int 0))) (mC (.str "not")))) (rdN G) mSkip) (mSeq (mIfS (asB (m2 (fEq false) (m2 fIx (mVar 0) (mC (.int 0))) (mC (.str "(")))) (rdP G) mSkip) (mSeq (mIfS (asB (m2 (fIn false) (m2 fIx (mVar 0) (mC (.int 0))) (mA1 (fLst false) (maCons (mC (.str "least")) (maCons (mC (.str "most")) maNil))))) rdL mSkip) (mSeq (mIfS (asB (m2 (fIn false) (m2 fIx (mVar 0) (mC (.int 0))) (mA1 (fLst false) (maCons (mC (.str "since")) (maCons (mC (.str "until")) maNil))))) rdS mSkip) (mRet (mA1 fTuple (maCons (mVar 0) maNil)))))))
theorem rd_parts (G : Fn) : m__law_p5_read G = mSeq (mFor (gtN 1) (mA1 (fLst false) (maCons (mC (.str "or")) (maCons (mC (.str "and")) maNil))) (rdB G)) (rdT G) := rfl
abbrev envR (W : List (List Nat)) (a b : Option Sl) : Vi.Env := [some (.d (wsD W)), a, b]
section
variable {G : Fn} {W : List (List Nat)} {h : Hc}
theorem c_or : wD kOr = .str "or" := congrArg D.str (cS_tl "or")
theorem c_and : wD kAnd = .str "and" := congrArg D.str (cS_tl "and")
theorem rd_skip {j : List Nat} {b : Option Sl} (hl : W.length < 4000) (e : (sc j W 0 0 (-1)).2 = -1) : rdB G (envR W (some (.d (wD j))) b) h = .nx (envR W (some (.d (wD j))) (some (.d (.int (-1))))) h := by
  have q := v_last (j := j) hl h
  rw [e] at q
  unfold rdB
  exact (seq_nx (set_d (call2 (h1 := h) (h2 := h) rfl rfl q))).trans (if_skip ((c_gt rfl).trans (by rw [decide_eq_false (by omega)])))
theorem rd_joint {j : List Nat} {b : Option Sl} {w1 w2 : List (List Nat)} {t1 t2 : D} (hl : W.length < 4000) (eW : W = w1 ++ j :: w2) (hp : 0 < w1.length) (e : (sc j W 0 0 (-1)).2 = (w1.length : Int)) (g1 : G [wsD w1] h = .ok t1 h) (g2 : G [wsD w2] h = .ok t2 h) : rdB G (envR W (some (.d (wD j))) b) h = .ret (.tup [wD j, t1, t2]) h := by
  have q := v_last (j := j) hl h
  rw [e] at q
  have lw : W.length = w1.length + (w2.length + 1) := by rw [eW, List.length_append, List.length_cons]
  unfold rdB
  refine (seq_nx (set_d (call2 (h1 := h) (h2 := h) rfl rfl q))).trans ?_
  refine (if_t ((c_gt rfl).trans (by rw [decide_eq_true (by omega)]))).trans (ret_of ?_)
  have s1 : mSl false (mVar 0) moN (moS (mVar 2)) (envR W (some (.d (wD j))) (some (.d (.int (w1.length : Nat))))) h = .ok (.d (wsD w1)) h := by
    show R.ok (Vl.ofL false (cutL (W.map wD) none (some (w1.length : Int)))) h = _
    rw [cut_to _ (by rw [List.length_map]; omega), ← List.map_take, eW, List.take_left]
    rfl
  have s2 : mSl false (mVar 0) (moS (m2 (fAdd false) (mVar 2) (mC (.int 1)))) moN (envR W (some (.d (wD j))) (some (.d (.int (w1.length : Nat))))) h = .ok (.d (wsD w2)) h := by
    show R.ok (Vl.ofL false (cutL (W.map wD) (some (((w1.length + 1 : Nat) : Int))) none)) h = _
    rw [cut_from _ (by rw [List.length_map]; omega), ← List.map_drop, eW, show w1 ++ j :: w2 = (w1 ++ [j]) ++ w2 by simp, show w1.length + 1 = (w1 ++ [j]).length by simp, List.drop_left]
    rfl
  show mA1 fTup _ (envR W (some (.d (wD j))) (some (.d (.int (w1.length : Nat))))) h = _
  rw [mA1_eq, ma_cons (a := mVar 1) (d := .d (wD j)) (h1 := h) rfl (ma_cons (call1 s1 g1) (ma_cons (call1 s2 g2) ma_nil))]
  rfl
theorem first_is {w : List Nat} {ws : List (List Nat)} (a b : Option Sl) : m2 fIx (mVar 0) (mC (.int 0)) (envR (w :: ws) a b) h = .ok (.d (wD w)) h := by
  refine (m2_of (x := .d (wsD (w :: ws))) (y := .d (.int 0)) (h1 := h) (h2 := h) rfl rfl).trans ((fIx_lst _ _ h).trans ?_)
  have := atI_w (pre := []) (ws := ws) (w := w)
  rw [show atI ((w :: ws).map wD) 0 = some (wD w) from this]
theorem second_is {v w : List Nat} {ws : List (List Nat)} (a b : Option Sl) : m2 fIx (mVar 0) (mC (.int 1)) (envR (v :: w :: ws) a b) h = .ok (.d (wD w)) h := by
  refine (m2_of (x := .d (wsD (v :: w :: ws))) (y := .d (.int 1)) (h1 := h) (h2 := h) rfl rfl).trans ((fIx_lst _ _ h).trans ?_)
  have := atI_w (pre := [v]) (ws := ws) (w := w)
  rw [show atI ((v :: w :: ws).map wD) 1 = some (wD w) from this]
theorem first_eq {w : List Nat} {ws : List (List Nat)} (a b : Option Sl) (t : PySem.Str) : asB (m2 (fEq false) (m2 fIx (mVar 0) (mC (.int 0))) (mC (.str t))) (envR (w :: ws) a b) h = .ok (decide (w = cod t)) h := by
  refine asB_of ((m2_of (y := .d (.str t)) (h2 := h) (first_is a b) rfl).trans ((eq_txt false _ _ h).trans ?_))
  exact congrArg (fun b => R.ok (Vl.d (.bl b)) h) (w_eq w t)
theorem first_in {w : List Nat} {ws : List (List Nat)} (a b : Option Sl) (s t : PySem.Str) : asB (m2 (fIn false) (m2 fIx (mVar 0) (mC (.int 0))) (mA1 (fLst false) (maCons (mC (.str s)) (maCons (mC (.str t)) maNil)))) (envR (w :: ws) a b) h = .ok (decide (w = cod s ∨ w = cod t)) h := by
  refine asB_of ((m2_of (y := .d (.lst ([s, t].map D.str))) (h2 := h) (first_is a b) rfl).trans ?_)
  refine (in_txt (cS w) false h (.d (.lst ([s, t].map D.str))) [s, t] rfl (fun z e => by cases e)).trans ?_
  rw [mem2]
  rfl
theorem rd_at {t : D} (p : At W t) (hl : W.length < 4000) (hw : ∀ x ∈ W, x.length < 1000) (a b : Option Sl) : rdT G (envR W a b) h = .ret t h := by
  have sk1 : ∀ {w : List Nat} {ws : List (List Nat)}, Dull w → w ≠ kNot → ∀ {o : RS}, (mSeq (mIfS (asB (m2 (fIn false) (m2 fIx (mVar 0) (mC (.int 0))) (mA1 (fLst false) (maCons (mC (.str "least")) (maCons (mC (.str "most")) maNil))))) rdL mSkip) (mSeq (mIfS (asB (m2 (fIn false) (m2 fIx (mVar 0) (mC (.int 0))) (mA1 (fLst false) (maCons (mC (.str "since")) (maCons (mC (.str "until")) maNil))))) rdS mSkip) (mRet (mA1 fTuple (maCons (mVar 0) maNil))))) (envR (w :: ws) a b) h = o → rdT G (envR (w :: ws) a b) h = o := fun {w ws} hd hn {o} e =>
    (seq_nx (if_skip ((first_eq a b "not").trans (by rw [decide_eq_false hn])))).trans ((seq_nx (if_skip ((first_eq a b "(").trans (by rw [decide_eq_false hd.1])))).trans e)
  have hd := p.dull
  cases p with
  | name q n hq hn =>
    refine sk1 (hd q (by simp)) (by rcases hq with rfl | rfl <;> decide +kernel) ?_
    refine (seq_nx (if_skip ((first_in a b "least" "most").trans (by rw [decide_eq_false (by rcases hq with rfl | rfl <;> decide +kernel)])))).trans ?_
    refine (seq_nx (if_skip ((first_in a b "since" "until").trans (by rw [decide_eq_false (by rcases hq with rfl | rfl <;> decide +kernel)])))).trans ?_
    rfl
  | share q s F hq hs hF hn _ =>
    refine sk1 (hd q (by simp)) (by rcases hq with rfl | rfl <;> decide +kernel) ?_
    refine seq_ret ((if_t ((first_in a b "least" "most").trans (by rw [decide_eq_true hq]))).trans ?_)
    unfold rdL
    refine ret_of ?_
    have s1 : mSl false (mVar 0) (moS (mC (.int 3))) moN (envR (q :: s :: kOf :: F) a b) h = .ok (.d (wsD F)) h := by
      show R.ok (Vl.ofL false (cutL ((q :: s :: kOf :: F).map wD) (some ((3 : Nat) : Int)) none)) h = _
      rw [cut_from _ (by simp)]
      rfl
    have s2 : mA1 fTuple (maCons (mA1 (fSorted g0.kc false) (maCons (mSl false (mVar 0) (moS (mC (.int 3))) moN) maNil)) maNil) (envR (q :: s :: kOf :: F) a b) h = .ok (.d (srtL F)) h :=
      (a1_of ((a1_of s1).trans (v_sorted rfl))).trans rfl
    rw [mA1_eq, ma_cons (first_is a b) (ma_cons (call1 (second_is a b) (v_shareof (hw s (by simp)) h)) (ma_cons s2 ma_nil))]
    rfl
  | day q n k hq hn hk =>
    refine sk1 (hd q (by simp)) (by rcases hq with rfl | rfl <;> decide +kernel) ?_
    refine (seq_nx (if_skip ((first_in a b "least" "most").trans (by rw [decide_eq_false (by rcases hq with rfl | rfl <;> decide +kernel)])))).trans ?_
    refine seq_ret ((if_t ((first_in a b "since" "until").trans (by rw [decide_eq_true hq]))).trans ?_)
    unfold rdS
    refine ret_of ?_
    obtain ⟨n1, n9, nd, ne, _⟩ := num_some hn
    have s1 : mA1 fIntS (maCons (m2 fIx (mVar 0) (mC (.int 1))) maNil) (envR [q, n] a b) h = .ok (.d (.int (k : Nat))) h := by
      refine (a1_of (second_is a b)).trans ?_
      rw [int_w n1 n9 (List.all_eq_true.mpr fun c hc => decide_eq_true (nd c hc)) h, ne]
    rw [mA1_eq, ma_cons (first_is a b) (ma_cons s1 ma_nil)]
    rfl
  | single =>
    refine sk1 (hd _ (by simp)) (by decide +kernel) ?_
    refine (seq_nx (if_skip ((first_in a b "least" "most").trans (by rw [decide_eq_false (by decide +kernel)])))).trans ?_
    refine (seq_nx (if_skip ((first_in a b "since" "until").trans (by rw [decide_eq_false (by decide +kernel)])))).trans ?_
    rfl
end
theorem P.pos {lv : Nat} {w : List (List Nat)} {t : D} (p : P lv w t) : 0 < w.length := by
  induction p with
  | «at» h => cases h <;> simp
  | not p ih => simp
  | par p ih => simp
  | tm p ih => exact ih
  | and p q ih1 ih2 => rw [List.length_append]; omega
  | ex p ih => exact ih
  | or p q ih1 ih2 => rw [List.length_append]; omega
theorem v_read {lv : Nat} {w : List (List Nat)} {t : D} (p : P lv w t) : w.length < 4000 → (∀ x ∈ w, x.length < 1000) → ∀ (f : Nat) (h : Hc), w.length < f → R__law_p5_read f [wsD w] h = .ok t h := by
  have tail0 : ∀ {f : Nat} {w : List (List Nat)} {t t' : D} {h : Hc}, P 0 w t' → w.length < 4000 → (∀ a b, rdT (R__law_p5_read f) (envR w a b) h = .ret t h) → R__law_p5_read (f + 1) [wsD w] h = .ok t h := fun {f w t t' h} p hl e => by
    rw [R__law_p5_read_s]
    refine (fnOf_eq 3 1 _ _ _ rfl).trans (congrArg RS.fin (a₂ := .ret t h) ?_)
    rw [rd_parts]
    have f1 := rd_skip (G := R__law_p5_read f) (h := h) (j := kOr) (b := none) hl ((sc_P (.inr rfl) p 0 0 (-1) (by omega)).2 (.inr (.inl rfl)))
    have f2 := rd_skip (G := R__law_p5_read f) (h := h) (j := kAnd) (b := some (.d (.int (-1)))) hl ((sc_P (.inl rfl) p 0 0 (-1) (by omega)).2 (.inr (.inl rfl)))
    have fl : mFor (gtN 1) (mA1 (fLst false) (maCons (mC (.str "or")) (maCons (mC (.str "and")) maNil))) (rdB (R__law_p5_read f)) (envR w none none) h = .nx (envR w (some (.d (wD kAnd))) (some (.d (.int (-1))))) h := by
      refine (for_eq (h1 := h) (x := .d (.lst [.str "or", .str "and"])) (bb := true) rfl rfl).trans ?_
      rw [← c_or, ← c_and]
      exact (for_nx (env1 := envR w (some (.d (wD kOr))) none) rfl f1).trans (for_nx (env1 := envR w (some (.d (wD kAnd))) (some (.d (.int (-1))))) rfl f2)
    exact (seq_nx fl).trans (e _ _)
  induction p with
  | «at» q =>
    intro hl hw f h hf
    cases f with
    | zero => omega
    | succ f => exact tail0 (.at q) hl fun a b => rd_at q hl hw a b
  | @not w t p ih =>
    intro hl hw f h hf
    rw [List.length_cons] at hl hf
    cases f with
    | zero => omega
    | succ f =>
      refine tail0 (.not p) (by rw [List.length_cons]; omega) fun a b => ?_
      refine seq_ret ((if_t ((first_eq a b "not").trans (by rw [decide_eq_true rfl]))).trans ?_)
      unfold rdN
      have s1 : mSl false (mVar 0) (moS (mC (.int 1))) moN (envR (kNot :: w) a b) h = .ok (.d (wsD w)) h := by
        show R.ok (Vl.ofL false (cutL ((kNot :: w).map wD) (some ((1 : Nat) : Int)) none)) h = _
        rw [cut_from _ (by simp)]
        rfl
      refine ret_of ?_
      rw [mA1_eq, ma_cons (a := mC (.str "not")) (d := .d (.str "not")) (h1 := h) rfl (ma_cons (call1 s1 (ih (by omega) (fun x hx => hw x (List.mem_cons_of_mem _ hx)) f h (by omega))) ma_nil), show wD kNot = D.str "not" from congrArg D.str (cS_tl "not")]
      rfl
  | @par w t p ih =>
    intro hl hw f h hf
    rw [List.length_cons, List.length_append, List.length_singleton] at hl hf
    cases f with
    | zero => omega
    | succ f =>
      refine tail0 (.par p) (by rw [List.length_cons, List.length_append, List.length_singleton]; omega) fun a b => ?_
      refine (seq_nx (if_skip ((first_eq a b "not").trans (by rw [decide_eq_false (by decide +kernel)])))).trans ?_
      refine seq_ret ((if_t ((first_eq a b "(").trans (by rw [decide_eq_true rfl]))).trans ?_)
      unfold rdP
      have s1 : mSl false (mVar 0) (moS (mC (.int 1))) (moS (m2 fSub (mA1 fLen (maCons (mVar 0) maNil)) (mC (.int 1)))) (envR (kOp :: (w ++ [kCl])) a b) h = .ok (.d (wsD w)) h := by
        show R.ok (Vl.ofL false (cutL ((kOp :: (w ++ [kCl])).map wD) (some ((1 : Nat) : Int)) (some ((((kOp :: (w ++ [kCl])).map wD).length : Int) - 1)))) h = _
        rw [show ((((kOp :: (w ++ [kCl])).map wD).length : Int) - 1) = ((w.length + 1 : Nat) : Int) by rw [List.length_map, List.length_cons, List.length_append, List.length_singleton]; omega]
        rw [cut_mid _ (by omega) (by rw [List.length_map, List.length_cons, List.length_append, List.length_singleton]; omega)]
        show R.ok (Vl.d (.lst (((w ++ [kCl]).map wD).take (w.length + 1 - 1)))) h = _
        rw [← List.map_take, show w.length + 1 - 1 = w.length by omega, List.take_left]
      exact ret_of (call1 s1 (ih (by omega) (fun x hx => hw x (List.mem_cons_of_mem _ (List.mem_append_left _ hx))) f h (by omega)))
  | tm p ih => exact ih
  | @and w1 w2 t1 t2 p q ih1 ih2 =>
    intro hl hw f h hf
    have hp := p.pos
    have hl' := hl
    rw [List.length_append, List.length_cons] at hl hf
    cases f with
    | zero => omega
    | succ f =>
      rw [R__law_p5_read_s]
      refine (fnOf_eq 3 1 _ _ _ rfl).trans (congrArg RS.fin (a₂ := .ret (.tup [wD kAnd, t1, t2]) h) ?_)
      rw [rd_parts]
      have g1 := ih1 (by omega) (fun x hx => hw x (List.mem_append_left _ hx)) f h (by omega)
      have g2 := ih2 (by omega) (fun x hx => hw x (List.mem_append_right _ (List.mem_cons_of_mem _ hx))) f h (by omega)
      have f1 := rd_skip (G := R__law_p5_read f) (h := h) (j := kOr) (b := none) hl' ((sc_P (.inr rfl) (P.and p q) 0 0 (-1) (by omega)).2 (.inr (.inr ⟨rfl, rfl⟩)))
      have la : (sc kAnd (w1 ++ kAnd :: w2) 0 0 (-1)).2 = (w1.length : Int) := by
        rw [sc_app, (sc_P (.inl rfl) p 0 0 (-1) (by omega)).1]
        show (sc kAnd w2 (0 + dI kAnd) (0 + w1.length + 1) (if 0 + dI kAnd = 0 ∧ kAnd = kAnd then ((0 + w1.length : Nat) : Int) else _)).2 = _
        rw [show dI kAnd = 0 from by decide +kernel, if_pos ⟨by omega, rfl⟩]
        rw [(sc_P (.inl rfl) q _ _ _ (by omega)).2 (.inr (.inl rfl)), Nat.zero_add]
      have f2 := rd_joint (G := R__law_p5_read f) (h := h) (j := kAnd) (b := some (.d (.int (-1)))) hl' rfl hp la g1 g2
      refine seq_ret ?_
      refine (for_eq (h1 := h) (x := .d (.lst [.str "or", .str "and"])) (bb := true) rfl rfl).trans ?_
      rw [← c_or, ← c_and]
      exact (for_nx (env1 := envR (w1 ++ kAnd :: w2) (some (.d (wD kOr))) none) rfl f1).trans (for_ret (env1 := envR (w1 ++ kAnd :: w2) (some (.d (wD kAnd))) (some (.d (.int (-1))))) rfl f2)
  | ex p ih => exact ih
  | @or w1 w2 t1 t2 p q ih1 ih2 =>
    intro hl hw f h hf
    have hp := p.pos
    have hl' := hl
    rw [List.length_append, List.length_cons] at hl hf
    cases f with
    | zero => omega
    | succ f =>
      rw [R__law_p5_read_s]
      refine (fnOf_eq 3 1 _ _ _ rfl).trans (congrArg RS.fin (a₂ := .ret (.tup [wD kOr, t1, t2]) h) ?_)
      rw [rd_parts]
      have g1 := ih1 (by omega) (fun x hx => hw x (List.mem_append_left _ hx)) f h (by omega)
      have g2 := ih2 (by omega) (fun x hx => hw x (List.mem_append_right _ (List.mem_cons_of_mem _ hx))) f h (by omega)
      have la : (sc kOr (w1 ++ kOr :: w2) 0 0 (-1)).2 = (w1.length : Int) := by
        rw [sc_app, (sc_P (.inr rfl) p 0 0 (-1) (by omega)).1]
        show (sc kOr w2 (0 + dI kOr) (0 + w1.length + 1) (if 0 + dI kOr = 0 ∧ kOr = kOr then ((0 + w1.length : Nat) : Int) else _)).2 = _
        rw [show dI kOr = 0 from by decide +kernel, if_pos ⟨by omega, rfl⟩]
        rw [(sc_P (.inr rfl) q _ _ _ (by omega)).2 (.inr (.inr ⟨rfl, rfl⟩)), Nat.zero_add]
      have f2 := rd_joint (G := R__law_p5_read f) (h := h) (j := kOr) (b := none) hl' rfl hp la g1 g2
      refine seq_ret ?_
      refine (for_eq (h1 := h) (x := .d (.lst [.str "or", .str "and"])) (bb := true) rfl rfl).trans ?_
      rw [← c_or, ← c_and]
      exact for_ret (env1 := envR (w1 ++ kOr :: w2) (some (.d (wD kOr))) none) rfl f2
end G38
namespace G38
open PySem L2 Vi
section
variable {env : Vi.Env} {h h1 h2 : Hc} {c k n : Nat} {fs : List (PySem.Str × D)} {m f : PySem.Str} {F : Fn} {mo me : ME} {x : MA} {d dx y : D} {ds : List D}
theorem datas_map (ds : List D) : datas (ds.map Vl.d) = some ds := by
  induction ds with
  | nil => rfl
  | cons x r ih =>
    show (datas (r.map Vl.d)).map (x :: ·) = _
    rw [ih]
    rfl
theorem met (hc : h[c]? = some (.ins k fs)) (hm : fs.lookup m = none) (eo : mo env h = .ok (.d (.ref c)) h) (ex : x env h = .ok (ds.map Vl.d) h1) (hn : ds.length = n) : mMeth k m n F [] mo x env h = (F (.ref c :: ds) h1).bind fun d h' => .ok (.d d) h' := by
  unfold mMeth
  rw [eo, R.bind_ok]
  have e1 : ins? k (.d (.ref c)) h = some fs := by
    show (match h[c]? with
      | some (.ins c' fs) => if c' = k then some fs else none
      | _ => none) = _
    rw [hc]
    exact if_pos rfl
  rw [e1]
  dsimp only
  rw [hm, if_pos (show (none : Option D).isNone = true from rfl), ex, R.bind_ok]
  unfold fMeth
  dsimp only
  rw [if_pos (by rw [List.length_map]; exact hn), datas_map]
  dsimp only
  rw [List.append_nil]
theorem metX (hc : h[c]? = some (.ins k fs)) (hm : fs.lookup m = none) (eo : mo env h = .ok (.d (.ref c)) h) (ex : x env h = .exc y h1) : mMeth k m n F [] mo x env h = .exc y h1 := by
  unfold mMeth
  rw [eo, R.bind_ok]
  have e1 : ins? k (.d (.ref c)) h = some fs := by
    show (match h[c]? with
      | some (.ins c' fs) => if c' = k then some fs else none
      | _ => none) = _
    rw [hc]
    exact if_pos rfl
  rw [e1]
  dsimp only
  rw [hm, if_pos (show (none : Option D).isNone = true from rfl), ex]
  rfl
theorem met0 (hc : h[c]? = some (.ins k fs)) (hm : fs.lookup m = none) (eo : mo env h = .ok (.d (.ref c)) h) (ef : F [.ref c] h = .ok d h1) : mMeth k m 0 F [] mo maNil env h = .ok (.d d) h1 := by
  rw [met (n := 0) (ds := []) (h1 := h) hc hm eo rfl rfl, ef]
  rfl
theorem met0X (hc : h[c]? = some (.ins k fs)) (hm : fs.lookup m = none) (eo : mo env h = .ok (.d (.ref c)) h) (ef : F [.ref c] h = .exc y h1) : mMeth k m 0 F [] mo maNil env h = .exc y h1 := by
  rw [met (n := 0) (ds := []) (h1 := h) hc hm eo rfl rfl, ef]
  rfl
theorem met1 (hc : h[c]? = some (.ins k fs)) (hm : fs.lookup m = none) (eo : mo env h = .ok (.d (.ref c)) h) (ex : me env h = .ok (.d dx) h1) (ef : F [.ref c, dx] h1 = .ok d h2) : mMeth k m 1 F [] mo (maCons me maNil) env h = .ok (.d d) h2 := by
  rw [met (n := 1) (ds := [dx]) (h1 := h1) hc hm eo (ma_cons ex ma_nil) rfl, ef]
  rfl
theorem met1X (hc : h[c]? = some (.ins k fs)) (hm : fs.lookup m = none) (eo : mo env h = .ok (.d (.ref c)) h) (ex : me env h = .ok (.d dx) h1) (ef : F [.ref c, dx] h1 = .exc y h2) : mMeth k m 1 F [] mo (maCons me maNil) env h = .exc y h2 := by
  rw [met (n := 1) (ds := [dx]) (h1 := h1) hc hm eo (ma_cons ex ma_nil) rfl, ef]
  rfl
theorem met1A (hc : h[c]? = some (.ins k fs)) (hm : fs.lookup m = none) (eo : mo env h = .ok (.d (.ref c)) h) (ex : me env h = .exc y h1) : mMeth k m 1 F [] mo (maCons me maNil) env h = .exc y h1 := by
  refine metX hc hm eo ?_
  rw [maCons_eq, ex]
  rfl
theorem fld_at (hc : h[c]? = some (.ins k fs)) (hf : g0.fld k f = true) (eo : mo env h = .ok (.d (.ref c)) h) (hl : fs.lookup f = some d) : m1 (fFld g0 f) mo env h = .ok (.d d) h := by
  refine (m1_of eo).trans ?_
  show (match h[c]? with
    | some (.ins c fs) => if g0.fld c f then (match fs.lookup f with
      | some d => R.ok (Vl.d d) h
      | none => .stuck) else .stuck
    | _ => .stuck) = _
  rw [hc]
  dsimp only
  rw [hf, if_pos rfl, hl]
theorem setf_at {i : Nat} (e0 : env[i]? = some (some (.d (.ref c)))) (ee : me env h = .ok (.d d) h1) (hc : h1[c]? = some (.ins k fs)) (hf : g0.fld k f = true) (hl : fs.length < 1000) : mSetFldC g0 i f me env h = .nx env (h1.set c (.ins k (putD f d fs))) := by
  unfold mSetFldC
  rw [ee, R.thenS_ok]
  try dsimp only
  rw [e0]
  dsimp only
  rw [hc]
  dsimp only
  rw [hf, decide_eq_true hl]
  rfl
theorem augE_at {v : Int} (eo : mo env h = .ok (.d (.ref c)) h) (hc : h[c]? = some (.ins k fs)) (hf : g0.fld k f = true) (hv : fs.lookup f = some (.int v)) (hl : fs.length < 1000) : mAugFldE g0 mo f (mC (.int 1)) env h = .nx env (h.set c (.ins k (putD f (.int (v + 1)) fs))) := by
  unfold mAugFldE
  rw [eo, R.thenS_ok]
  dsimp only
  rw [hc]
  dsimp only
  rw [hf, hv]
  dsimp only
  rw [show mC (.int 1) env h = .ok (.d (.int 1)) h from rfl, R.thenS_ok]
  try dsimp only
  rw [hc]
  dsimp only
  rw [if_pos ⟨rfl, hl⟩]
theorem augC_at {v : Int} {i : Nat} (e0 : env[i]? = some (some (.d (.ref c)))) (hc : h[c]? = some (.ins k fs)) (hf : g0.fld k f = true) (hv : fs.lookup f = some (.int v)) (hl : fs.length < 1000) : mAugFldC g0 i f (mC (.int 1)) env h = .nx env (h.set c (.ins k (putD f (.int (v + 1)) fs))) := by
  unfold mAugFldC
  rw [e0]
  dsimp only
  rw [hc]
  dsimp only
  rw [hf, hv]
  dsimp only
  rw [show mC (.int 1) env h = .ok (.d (.int 1)) h from rfl, R.thenS_ok]
  try dsimp only
  rw [hc]
  dsimp only
  rw [if_pos ⟨rfl, hl⟩]
theorem drop_of {m : ME} {x : Vl} (e : m env h = .ok x h1) : mDrop m env h = .nx env h1 := by
  unfold mDrop
  rw [e]
  rfl
theorem drop_ex {m : ME} (e : m env h = .exc y h1) : mDrop m env h = .exc env y h1 := by
  unfold mDrop
  rw [e]
  rfl
theorem set_ex {i : Nat} {m : ME} (e : m env h = .exc y h1) : mSet i m env h = .exc env y h1 := by
  unfold mSet
  rw [e]
  rfl
theorem ret_ex {m : ME} (e : m env h = .exc y h1) : mRet m env h = .exc env y h1 := by
  unfold mRet
  rw [e]
  rfl
end
structure Br where
  t : D
  f : D
  n : Nat
abbrev fsB (b : Br) : List (PySem.Str × D) := [("terms", b.t), ("factors", b.f), ("nots", .int (b.n : Nat))]
abbrev insB (b : Br) : Cell := .ins 6 (fsB b)
def NT (d : D) : Prop := d = .non ∨ ∃ ds, d = .tup ds
def whD (b : Br) : D := match b.t with
  | .non => b.f
  | t => .tup [wD kOr, t, b.f]
def notN : Nat → D → D
  | 0, d => d
  | n + 1, d => notN n (.tup [wD kNot, d])
def addF (f q : D) : D := match f with
  | .non => q
  | f => .tup [wD kAnd, f, q]
theorem c_not : wD kNot = .str "not" := congrArg D.str (cS_tl "not")
theorem v_whole {c : Nat} {b : Br} {h : Hc} (hc : h[c]? = some (insB b)) (ht : NT b.t) : F_Bracket_whole [.ref c] h = .ok (whD b) h := by
  have e0 : mVar 0 (mkEnv 1 [.ref c]) h = .ok (.d (.ref c)) h := rfl
  have et := fld_at (f := "terms") hc (by decide +kernel) e0 (d := b.t) rfl
  have ef := fld_at (f := "factors") hc (by decide +kernel) e0 (d := b.f) rfl
  refine (fnOf_eq 1 1 _ _ _ rfl).trans (congrArg RS.fin (a₂ := .ret (whD b) h) (ret_of ?_))
  have q : asB (m2 (fIsN false) (m1 (fFld g0 "terms") (mVar 0)) (mC .non)) (mkEnv 1 [.ref c]) h = .ok (match b.t with | .non => true | _ => false) h := by
    refine asB_of ((m2_of (y := .d .non) (h2 := h) et rfl).trans ?_)
    rcases ht with e | ⟨ds, e⟩ <;> rw [e] <;> rfl
  unfold mIf
  rw [q, R.bind_ok]
  rcases ht with e | ⟨ds, e⟩
  · rw [e]
    dsimp only
    rw [if_pos rfl, ef]
    unfold whD
    rw [e]
  · rw [e]
    dsimp only
    rw [if_neg Bool.false_ne_true, mA1_eq, ma_cons (a := mC (.str "or")) (d := .d (.str "or")) (h1 := h) rfl (ma_cons et (ma_cons ef ma_nil))]
    unfold whD
    rw [e, c_or]
    rfl
theorem add_loop {c : Nat} {h : Hc} : ∀ (xs : List D) (q : D) (kv : Option Sl), ∃ kv', forL (gtN 2) (mSet 1 (mA1 fTup (maCons (mC (.str "not")) (maCons (mVar 1) maNil)))) xs [some (.d (.ref c)), some (.d q), kv] h = .nx [some (.d (.ref c)), some (.d (notN xs.length q)), kv'] h
  | [], q, kv => ⟨kv, rfl⟩
  | x :: xs, q, kv => by
    obtain ⟨kv', e⟩ := add_loop (c := c) (h := h) xs (.tup [wD kNot, q]) (some (.d x))
    refine ⟨kv', ?_⟩
    refine Eq.trans (for_nx (env1 := [some (.d (.ref c)), some (.d q), some (.d x)]) (env2 := [some (.d (.ref c)), some (.d (.tup [wD kNot, q])), some (.d x)]) (h2 := h) rfl ?_) e
    rw [c_not]
    rfl
theorem v_addf {c : Nat} {b : Br} {q : D} {h : Hc} (hc : h[c]? = some (insB b)) (hf : NT b.f) (hn : b.n < 5000) : F_Bracket_add_factor [.ref c, q] h = .ok .non (h.set c (insB ⟨b.t, addF b.f (notN b.n q), 0⟩)) := by
  have hlt : c < h.length := (List.getElem?_eq_some_iff.mp hc).1
  obtain ⟨kv, el⟩ := add_loop (c := c) (h := h) (rangeD 0 b.n) q none
  rw [rangeD_len] at el
  refine (fnOf_eq 3 2 _ _ _ rfl).trans (congrArg RS.fin (a₂ := .nx [some (.d (.ref c)), some (.d (notN b.n q)), kv] (h.set c (insB ⟨b.t, addF b.f (notN b.n q), 0⟩))) ?_)
  unfold m_Bracket_add_factor
  have e0 : mVar 0 (mkEnv 3 [.ref c, q]) h = .ok (.d (.ref c)) h := rfl
  refine (seq_nx ((for_r (j := b.n) (h1 := h) (by omega) (fld_at (f := "nots") hc (by decide +kernel) e0 (d := .int (b.n : Nat)) rfl)).trans el)).trans ?_
  refine (seq_nx (setf_at (f := "nots") (d := .int 0) (h1 := h) rfl rfl hc (by decide +kernel) (by show 3 < 1000; decide))).trans ?_
  have hc2 : (h.set c (.ins 6 (putD "nots" (.int 0) (fsB b))))[c]? = some (insB ⟨b.t, b.f, 0⟩) := List.getElem?_set_self hlt
  generalize hg : h.set c (.ins 6 (putD "nots" (.int 0) (fsB b))) = h2 at hc2
  have e02 : mVar 0 [some (.d (.ref c)), some (.d (notN b.n q)), kv] h2 = .ok (.d (.ref c)) h2 := rfl
  have ef := fld_at (f := "factors") hc2 (by decide +kernel) e02 (d := b.f) rfl
  have qq : asB (m2 (fIsN false) (m1 (fFld g0 "factors") (mVar 0)) (mC .non)) [some (.d (.ref c)), some (.d (notN b.n q)), kv] h2 = .ok (match b.f with | .non => true | _ => false) h2 := by
    refine asB_of ((m2_of (y := .d .non) (h2 := h2) ef rfl).trans ?_)
    rcases hf with e | ⟨ds, e⟩ <;> rw [e] <;> rfl
  have ev : mIf (asB (m2 (fIsN false) (m1 (fFld g0 "factors") (mVar 0)) (mC .non))) (mVar 1) (mA1 fTup (maCons (mC (.str "and")) (maCons (m1 (fFld g0 "factors") (mVar 0)) (maCons (mVar 1) maNil)))) [some (.d (.ref c)), some (.d (notN b.n q)), kv] h2 = .ok (.d (addF b.f (notN b.n q))) h2 := by
    unfold mIf
    rw [qq, R.bind_ok]
    rcases hf with e | ⟨ds, e⟩
    · rw [e]
      rfl
    · rw [e] at ef ⊢
      dsimp only
      rw [if_neg Bool.false_ne_true, mA1_eq, ma_cons (a := mC (.str "and")) (d := .d (.str "and")) (h1 := h2) rfl (ma_cons ef (ma_cons (a := mVar 1) (d := .d (notN b.n q)) (h1 := h2) rfl ma_nil)), ← c_and]
      rfl
  refine (setf_at (f := "factors") rfl ev hc2 (by decide +kernel) (by show 3 < 1000; decide)).trans ?_
  rw [← hg, List.set_set]
  rfl
theorem v_endterm {c : Nat} {b : Br} {h : Hc} (hc : h[c]? = some (insB b)) (ht : NT b.t) : F_Bracket_end_term [.ref c] h = .ok .non (h.set c (insB ⟨whD b, .non, b.n⟩)) := by
  have hlt : c < h.length := (List.getElem?_eq_some_iff.mp hc).1
  have e0 : mVar 0 (mkEnv 1 [.ref c]) h = .ok (.d (.ref c)) h := rfl
  refine (fnOf_eq 1 1 _ _ _ rfl).trans (congrArg RS.fin (a₂ := .nx (mkEnv 1 [.ref c]) (h.set c (insB ⟨whD b, .non, b.n⟩))) ?_)
  unfold m_Bracket_end_term
  have ew := met0 (m := "whole") hc rfl e0 (v_whole hc ht)
  refine (seq_nx (setf_at (f := "terms") rfl ew hc (by decide +kernel) (by show 3 < 1000; decide))).trans ?_
  have hc2 : (h.set c (.ins 6 (putD "terms" (whD b) (fsB b))))[c]? = some (insB ⟨whD b, b.f, b.n⟩) := List.getElem?_set_self hlt
  refine (setf_at (f := "factors") (d := .non) (h1 := h.set c (.ins 6 (putD "terms" (whD b) (fsB b)))) rfl rfl hc2 (by decide +kernel) (by show 3 < 1000; decide)).trans ?_
  rw [List.set_set]
  rfl
end G38
namespace G38
open PySem L2 Vi
abbrev fsR (W : List (List Nat)) (p b : Nat) : List (PySem.Str × D) := [("words", wsD W), ("place", .int (p : Nat)), ("brackets", .ref b)]
abbrev insR (W : List (List Nat)) (p b : Nat) : Cell := .ins 7 (fsR W p b)
def Frs (h : Hc) : List Nat → List Br → Prop
  | [], [] => True
  | c :: cs, x :: xs => h[c]? = some (insB x) ∧ Frs h cs xs
  | _, _ => False
structure St (H : Hc) (a b : Nat) (W : List (List Nat)) (p : Nat) (cs : List Nat) (bs : List Br) (h : Hc) : Prop where
  ins : h[a]? = some (insR W p b)
  out : h[b]? = some (.lst (cs.reverse.map D.ref))
  frs : Frs h cs bs
  nd : (a :: b :: cs).Nodup
  base : ∃ x, h = H ++ x
  ge : ∀ c ∈ a :: b :: cs, H.length ≤ c
theorem base_set {H h : Hc} {c : Nat} {v : Cell} (e : ∃ x, h = H ++ x) (g : H.length ≤ c) : ∃ x, h.set c v = H ++ x := by
  obtain ⟨x, rfl⟩ := e
  exact ⟨_, List.set_append_right _ _ g⟩
theorem base_app {H h t : Hc} (e : ∃ x, h = H ++ x) : ∃ x, h ++ t = H ++ x := by
  obtain ⟨x, rfl⟩ := e
  exact ⟨_, List.append_assoc ..⟩
theorem base_len {H h : Hc} (e : ∃ x, h = H ++ x) : H.length ≤ h.length := by
  obtain ⟨x, rfl⟩ := e
  rw [List.length_append]
  omega
theorem get_lt {h : Hc} {c : Nat} {x : Cell} (e : h[c]? = some x) : c < h.length := (List.getElem?_eq_some_iff.mp e).1
theorem Frs.set {h : Hc} {c : Nat} {x : Cell} : ∀ {cs : List Nat} {st : List Br}, Frs h cs st → c ∉ cs → Frs (h.set c x) cs st
  | [], [], _, _ => trivial
  | d :: cs, y :: st, ⟨h1, h2⟩, hn => ⟨by rw [List.getElem?_set_ne (fun e : c = d => hn (e ▸ List.mem_cons_self ..))]; exact h1, Frs.set h2 fun m => hn (List.mem_cons_of_mem _ m)⟩
theorem Frs.app {h t : Hc} : ∀ {cs : List Nat} {st : List Br}, Frs h cs st → Frs (h ++ t) cs st
  | [], [], _ => trivial
  | d :: cs, y :: st, ⟨h1, h2⟩ => ⟨by rw [List.getElem?_append_left (get_lt h1)]; exact h1, Frs.app h2⟩
theorem Frs.lt {h : Hc} : ∀ {cs : List Nat} {st : List Br}, Frs h cs st → ∀ c ∈ cs, c < h.length
  | [], [], _, c, hc => by cases hc
  | d :: cs, y :: st, ⟨h1, h2⟩, c, hc => by
    rcases List.mem_cons.mp hc with rfl | hc
    · exact get_lt h1
    · exact Frs.lt h2 c hc
theorem Frs.len {h : Hc} : ∀ {cs : List Nat} {st : List Br}, Frs h cs st → cs.length = st.length
  | [], [], _ => rfl
  | d :: cs, y :: st, ⟨h1, h2⟩ => by rw [List.length_cons, List.length_cons, Frs.len h2]
def bad (k : Nat) : D := .obj 2 [("class_name", .str "BadClaim"), ("word", .int (k : Nat))]
section
variable {H : Hc} {a b : Nat} {W : List (List Nat)} {p : Nat} {cs : List Nat} {bs : List Br} {h : Hc} {env : Vi.Env} {i : Nat}
theorem St.nab (s : St H a b W p cs bs h) : a ≠ b := fun e => by
  have := s.nd
  rw [e] at this
  exact (List.nodup_cons.mp this).1 (List.mem_cons_self ..)
theorem St.na (s : St H a b W p cs bs h) : a ∉ cs := fun m => (List.nodup_cons.mp s.nd).1 (List.mem_cons_of_mem _ m)
theorem St.nb (s : St H a b W p cs bs h) : b ∉ cs := (List.nodup_cons.mp (List.nodup_cons.mp s.nd).2).1
theorem St.go (s : St H a b W p cs bs h) (q : Nat) : St H a b W q cs bs (h.set a (insR W q b)) := ⟨by
  rw [List.getElem?_set_self (get_lt s.ins)], by rw [List.getElem?_set_ne s.nab]; exact s.out, s.frs.set s.na, s.nd, base_set s.base (s.ge a (List.mem_cons_self ..)), s.ge⟩
theorem St.push (s : St H a b W p cs bs h) : St H a b W p (h.length :: cs) (⟨.non, .non, 0⟩ :: bs) ((h ++ [insB ⟨.non, .non, 0⟩]).set b (Cell.lst (cs.reverse.map D.ref ++ [D.ref h.length]))) := by
  have ha := get_lt s.ins
  have hb := get_lt s.out
  refine ⟨?_, ?_, ?_, ?_, base_set (base_app s.base) (s.ge b (by simp)), ?_⟩
  · rw [List.getElem?_set_ne (Ne.symm s.nab), List.getElem?_append_left ha]
    exact s.ins
  · rw [List.getElem?_set_self (by rw [List.length_append]; omega), List.reverse_cons, List.map_append]
    rfl
  · refine ⟨?_, Frs.set s.frs.app s.nb⟩
    rw [List.getElem?_set_ne (by omega), List.getElem?_append_right (Nat.le_refl _), Nat.sub_self]
    rfl
  · have hc := s.frs.lt
    have nd := s.nd
    simp only [List.nodup_cons, List.mem_cons, not_or] at nd ⊢
    exact ⟨⟨nd.1.1, by omega, nd.1.2⟩, ⟨by omega, nd.2.1⟩, fun m => by have := hc _ m; omega, nd.2.2⟩
  · intro c m
    simp only [List.mem_cons] at m
    rcases m with rfl | rfl | rfl | m
    · exact s.ge _ (by simp)
    · exact s.ge _ (by simp)
    · exact base_len s.base
    · exact s.ge _ (by simp [m])
theorem St.top {c : Nat} {x : Br} (s : St H a b W p (c :: cs) (x :: bs) h) (y : Br) : St H a b W p (c :: cs) (y :: bs) (h.set c (insB y)) := by
  have nd := s.nd
  simp only [List.nodup_cons, List.mem_cons, not_or] at nd
  refine ⟨?_, ?_, ⟨?_, ?_⟩, s.nd, base_set s.base (s.ge c (by simp)), s.ge⟩
  · rw [List.getElem?_set_ne (fun e => nd.1.2.1 e.symm)]; exact s.ins
  · rw [List.getElem?_set_ne (fun e => nd.2.1.1 e.symm)]; exact s.out
  · rw [List.getElem?_set_self (get_lt s.frs.1)]
  · exact s.frs.2.set nd.2.2.1
theorem St.drop {c : Nat} {x : Br} (s : St H a b W p (c :: cs) (x :: bs) h) : St H a b W p cs bs (h.set b (Cell.lst (cs.reverse.map D.ref))) := by
  have nd := s.nd
  simp only [List.nodup_cons, List.mem_cons, not_or] at nd
  refine ⟨?_, ?_, ?_, ?_, base_set s.base (s.ge b (by simp)), fun d m => s.ge d (by
    simp only [List.mem_cons] at m ⊢
    rcases m with m | m | m
    · exact .inl m
    · exact .inr (.inl m)
    · exact .inr (.inr (.inr m)))⟩
  · rw [List.getElem?_set_ne (Ne.symm s.nab)]; exact s.ins
  · rw [List.getElem?_set_self (get_lt s.out)]
  · exact s.frs.2.set nd.2.1.2
  · simp only [List.nodup_cons, List.mem_cons, not_or]
    exact ⟨⟨nd.1.1, nd.1.2.2⟩, nd.2.1.2, nd.2.2.2⟩
theorem St.wrd (s : St H a b W p cs bs h) (e : mVar i env h = .ok (.d (.ref a)) h) : m1 (fFld g0 "words") (mVar i) env h = .ok (.d (wsD W)) h := fld_at (f := "words") s.ins (by decide +kernel) e rfl
theorem St.plc (s : St H a b W p cs bs h) (e : mVar i env h = .ok (.d (.ref a)) h) : m1 (fFld g0 "place") (mVar i) env h = .ok (.d (.int (p : Nat))) h := fld_at (f := "place") s.ins (by decide +kernel) e rfl
theorem St.bra (s : St H a b W p cs bs h) (e : mVar i env h = .ok (.d (.ref a)) h) : m1 (fFld g0 "brackets") (mVar i) env h = .ok (.d (.ref b)) h := fld_at (f := "brackets") s.ins (by decide +kernel) e rfl
theorem St.inc (s : St H a b W p cs bs h) (e : env[i]? = some (some (.d (.ref a)))) : mAugFldC g0 i "place" (mC (.int 1)) env h = .nx env (h.set a (insR W (p + 1) b)) := augC_at (f := "place") e s.ins (by decide +kernel) rfl (by show 3 < 1000; decide)
theorem v_end (s : St H a b W p cs bs h) : F_Reader_is_at_end [.ref a] h = .ok (.bl (decide (p = W.length))) h := by
  have e0 : mVar 0 (mkEnv 1 [.ref a]) h = .ok (.d (.ref a)) h := rfl
  refine (fnOf_eq 1 1 _ _ _ rfl).trans (congrArg RS.fin (a₂ := .ret (.bl (decide (p = W.length))) h) (ret_of ?_))
  refine (m2_of (s.plc e0) ((a1_of (s.wrd e0)).trans (fLen_lst _ h))).trans ((eqI false _ _ h).trans ?_)
  refine congrArg (fun b => R.ok (Vl.d (.bl b)) h) ?_
  rw [List.length_map]
  show decide (((p : Nat) : Int) = (W.length : Nat)) = _
  rw [Bool.eq_iff_iff, decide_eq_true_iff, decide_eq_true_iff]
  omega
theorem raise_at (s : St H a b W p cs bs h) (e : mVar i env h = .ok (.d (.ref a)) h) : mRaise 2 1 (mkE "word" "class_name" "BadClaim") (maCons (m2 (fAdd false) (m1 (fFld g0 "place") (mVar i)) (mC (.int 1))) maNil) env h = .exc env (bad (p + 1)) h := by
  unfold mRaise
  rw [ma_cons ((m2_of (s.plc e) (b := mC (.int 1)) (y := .d (.int 1)) (h2 := h) rfl).trans rfl) ma_nil]
  rfl
theorem v_nowX (s : St H a b W p cs bs h) (hp : p = W.length) : F_Reader_now [.ref a] h = .exc (bad (p + 1)) h := by
  have e0 : mVar 0 (mkEnv 1 [.ref a]) h = .ok (.d (.ref a)) h := rfl
  refine (fnOf_eq 1 1 _ _ _ rfl).trans (congrArg RS.fin (a₂ := .exc (mkEnv 1 [.ref a]) (bad (p + 1)) h) ?_)
  have c := asB_of (met0 (m := "is_at_end") s.ins rfl e0 (v_end s))
  rw [decide_eq_true hp] at c
  exact seq_exc ((if_t c).trans (raise_at s e0))
theorem v_now (s : St H a b W p cs bs h) {w : List Nat} {ws : List (List Nat)} (hw : W.drop p = w :: ws) : F_Reader_now [.ref a] h = .ok (wD w) h := by
  have e0 : mVar 0 (mkEnv 1 [.ref a]) h = .ok (.d (.ref a)) h := rfl
  have hlt : p < W.length := by
    apply Classical.byContradiction
    intro hn
    rw [List.drop_eq_nil_of_le (by omega)] at hw
    cases hw
  refine (fnOf_eq 1 1 _ _ _ rfl).trans (congrArg RS.fin (a₂ := .ret (wD w) h) ?_)
  have c := asB_of (met0 (m := "is_at_end") s.ins rfl e0 (v_end s))
  rw [decide_eq_false (by omega)] at c
  refine (seq_nx (env1 := mkEnv 1 [.ref a]) (h1 := h) (if_skip c)).trans (ret_of ?_)
  refine (m2_of (s.wrd e0) (s.plc e0)).trans ((fIx_lst _ _ h).trans ?_)
  have ha : atI (W.map wD) ((p : Nat) : Int) = some (wD w) := by
    unfold atI ixN
    rw [if_pos (by omega), if_pos (by rw [List.length_map]; omega)]
    show (W.map wD)[((p : Nat) : Int).toNat]? = _
    have e1 : W[p]? = some w := by
      have : (W.drop p)[0]? = some w := by rw [hw]; rfl
      rw [List.getElem?_drop] at this
      exact this
    rw [Int.toNat_natCast, List.getElem?_map, e1]
    rfl
  rw [ha]
theorem v_expF (s : St H a b W p cs bs h) : F_Reader_expect [.ref a, .bl false] h = .exc (bad (p + 1)) h := by
  have e0 : mVar 0 (mkEnv 2 [.ref a, .bl false]) h = .ok (.d (.ref a)) h := rfl
  refine (fnOf_eq 2 2 _ _ _ rfl).trans (congrArg RS.fin (a₂ := .exc (mkEnv 2 [.ref a, .bl false]) (bad (p + 1)) h) ?_)
  exact seq_exc ((if_t (not_b (b := false) (asB_of rfl))).trans (raise_at s e0))
theorem v_expT (s : St H a b W p cs bs h) : F_Reader_expect [.ref a, .bl true] h = .ok .non (h.set a (insR W (p + 1) b)) := by
  refine (fnOf_eq 2 2 _ _ _ rfl).trans (congrArg RS.fin (a₂ := .nx (mkEnv 2 [.ref a, .bl true]) (h.set a (insR W (p + 1) b))) ?_)
  exact (seq_nx (env1 := mkEnv 2 [.ref a, .bl true]) (h1 := h) (if_skip (not_b (b := true) (asB_of rfl)))).trans (s.inc rfl)
theorem drop_s {w : List Nat} {ws : List (List Nat)} (hw : W.drop p = w :: ws) : W.drop (p + 1) = ws := by
  rw [← List.drop_drop, hw]
  rfl
theorem drop_nil (hw : W.drop p = []) (hp : p ≤ W.length) : p = W.length := by
  have := List.drop_eq_nil_iff.mp hw
  omega
theorem drop_lt {w : List Nat} {ws : List (List Nat)} (hw : W.drop p = w :: ws) : p < W.length := by
  apply Classical.byContradiction
  intro hn
  rw [List.drop_eq_nil_of_le (by omega)] at hw
  cases hw
theorem v_rname (s : St H a b W p cs bs h) (hW : ∀ x ∈ W, x.length < 1000) {w : List Nat} {ws : List (List Nat)} (hw : W.drop p = w :: ws) :
    (nm w = false → F_Reader_read_name [.ref a] h = .exc (bad (p + 1)) h) ∧ (nm w = true → F_Reader_read_name [.ref a] h = .ok (wD w) (h.set a (insR W (p + 1) b))) := by
  have e0 : mVar 0 (mkEnv 2 [.ref a]) h = .ok (.d (.ref a)) h := rfl
  have e1 : mVar 0 [some (.d (.ref a)), some (.d (wD w))] h = .ok (.d (.ref a)) h := rfl
  have hl : w.length < 1000 := hW w (List.mem_of_mem_drop (i := p) (by rw [hw]; exact List.mem_cons_self ..))
  have s1 : mSet 1 (mMeth 7 "now" 0 F_Reader_now [] (mVar 0) maNil) (mkEnv 2 [.ref a]) h = .nx [some (.d (.ref a)), some (.d (wD w))] h := set_d (met0 (m := "now") s.ins rfl e0 (v_now s hw))
  have en := call1 (a := mVar 1) (env := [some (.d (.ref a)), some (.d (wD w))]) (h1 := h) (h := h) rfl (v_isname hl h)
  constructor
  · intro hn
    rw [hn] at en
    refine (fnOf_eq 2 1 _ _ _ rfl).trans (congrArg RS.fin (a₂ := .exc [some (.d (.ref a)), some (.d (wD w))] (bad (p + 1)) h) ?_)
    exact (seq_nx s1).trans (seq_exc (drop_ex (met1X (m := "expect") s.ins rfl e1 en (v_expF s))))
  · intro hn
    rw [hn] at en
    refine (fnOf_eq 2 1 _ _ _ rfl).trans (congrArg RS.fin (a₂ := .ret (wD w) (h.set a (insR W (p + 1) b))) ?_)
    exact (seq_nx s1).trans ((seq_nx (drop_of (met1 (m := "expect") s.ins rfl e1 en (v_expT s)))).trans rfl)
theorem v_rnameX (s : St H a b W p cs bs h) (hp : p = W.length) : F_Reader_read_name [.ref a] h = .exc (bad (p + 1)) h := by
  have e0 : mVar 0 (mkEnv 2 [.ref a]) h = .ok (.d (.ref a)) h := rfl
  refine (fnOf_eq 2 1 _ _ _ rfl).trans (congrArg RS.fin (a₂ := .exc (mkEnv 2 [.ref a]) (bad (p + 1)) h) ?_)
  exact seq_exc (set_ex (met0X (m := "now") s.ins rfl e0 (v_nowX s hp)))
theorem v_past (s : St H a b W p cs bs h) (d : D) (hd : NT d ∨ ∃ k : Int, d = .int k) : (d = .non → F_Reader_past [.ref a, d] h = .exc (bad (p + 1)) h) ∧ (d ≠ .non → F_Reader_past [.ref a, d] h = .ok d (h.set a (insR W (p + 1) b))) := by
  have e0 : mVar 0 (mkEnv 2 [.ref a, d]) h = .ok (.d (.ref a)) h := rfl
  constructor
  · rintro rfl
    refine (fnOf_eq 2 2 _ _ _ rfl).trans (congrArg RS.fin (a₂ := .exc (mkEnv 2 [.ref a, .non]) (bad (p + 1)) h) ?_)
    exact seq_exc (drop_ex (met1X (m := "expect") s.ins rfl e0 (dx := .bl false) (h1 := h) rfl (v_expF s)))
  · intro hn
    have en : m2 (fIsN true) (mVar 1) (mC .non) (mkEnv 2 [.ref a, d]) h = .ok (.d (.bl true)) h := by
      rcases hd with (rfl | ⟨ds, rfl⟩) | ⟨k, rfl⟩
      · exact absurd rfl hn
      · rfl
      · rfl
    refine (fnOf_eq 2 2 _ _ _ rfl).trans (congrArg RS.fin (a₂ := .ret d (h.set a (insR W (p + 1) b))) ?_)
    exact (seq_nx (drop_of (met1 (m := "expect") s.ins rfl e0 en (v_expT s)))).trans rfl
end
end G38
namespace G38
open PySem L2 Vi
theorem dep_dull {w : List Nat} (h : Dull w) (d : Nat) : dep d w = d := by
  unfold dep
  rw [if_neg h.1, if_neg h.2.1]
  omega
theorem J_joint (fa fb : List (List Nat)) (d : Nat) (ws : List (List Nat)) (i : Nat) : J .joint fa d ws i = J .joint fb d ws i := by
  cases ws with
  | nil => rfl
  | cons w r =>
    rw [J, J, nx, nx]
    cases h : jnt w d with
    | none => rfl
    | some s =>
      have : s ≠ .farms := by
        unfold jnt at h
        split at h
        · cases h; decide
        · split at h
          · cases h; decide
          · cases h
      dsimp only
      rw [if_neg this, if_neg this]
def Stop (ws fa : List (List Nat)) : Prop := ∀ w r, ws = w :: r → nm w = true → w ∈ fa
theorem J_stop {fa : List (List Nat)} {d : Nat} {ws : List (List Nat)} {i : Nat} (h : Stop ws fa) : J .farms fa d ws i = J .joint [] d ws i := by
  cases ws with
  | nil =>
    rw [J, J]
    by_cases e : d = 0
    · rw [if_pos ⟨.inr rfl, e⟩, if_pos ⟨.inl rfl, e⟩]
    · rw [if_neg (fun z => e z.2), if_neg (fun z => e z.2)]
  | cons w r =>
    cases hn : nm w with
    | true =>
      have hm := h w r rfl hn
      rw [J, nx, hn, if_pos rfl, if_pos hm, J, nx]
      have hd := nm_dull hn
      unfold jnt
      rw [if_neg (fun z => z.elim hd.2.2.1 hd.2.2.2), if_neg (fun z => hd.2.1 z.1)]
    | false =>
      rw [← J_joint fa [] d (w :: r) i, J, nx, hn, if_neg Bool.false_ne_true, J, nx]
def rfC : MB := (tAndM (tNotM (asB (mMeth 7 "is_at_end" 0 F_Reader_is_at_end [] (mVar 0) maNil))) (tAndM (asB (mA1 (fCallN 1 F_is_name []) (maCons (mMeth 7 "now" 0 F_Reader_now [] (mVar 0) maNil) maNil))) (asB (m2 (fIn true) (mMeth 7 "now" 0 F_Reader_now [] (mVar 0) maNil) (mVar 1)))))
def rfB : MS := mAppend 1 (mMeth 7 "read_name" 0 F_Reader_read_name [] (mVar 0) maNil)
theorem rf_parts : m_Reader_read_farms = mSeq (mSet 1 (mA1 (fLst true) (maCons (mMeth 7 "read_name" 0 F_Reader_read_name [] (mVar 0) maNil) maNil))) (mSeq (mWhile 20000 rfC rfB) (mFrz 1 (mRet (mA1 fTuple (maCons (mA1 (fSorted g0.kc false) (maCons (mVar 1) maNil)) maNil))))) := rfl
section
variable {H : Hc} {a b : Nat} {W : List (List Nat)} {cs : List Nat} {bs : List Br}
abbrev envF (a : Nat) (fa : List (List Nat)) : Vi.Env := [some (.d (.ref a)), some (.ol (fa.map wD))]
theorem rf_cond {p : Nat} {h : Hc} {fa : List (List Nat)} (s : St H a b W p cs bs h) (hW : ∀ x ∈ W, x.length < 1000) (hp : p ≤ W.length) :
    rfC (envF a fa) h = .ok (match W.drop p with | [] => false | w :: _ => nm w && !decide (w ∈ fa)) h := by
  have e0 : mVar 0 (envF a fa) h = .ok (.d (.ref a)) h := rfl
  have c1 := not_b (asB_of (met0 (m := "is_at_end") s.ins rfl e0 (v_end s)))
  unfold rfC
  cases hw : W.drop p with
  | nil =>
    rw [decide_eq_true (drop_nil hw hp)] at c1
    exact and_ff c1
  | cons w ws =>
    rw [decide_eq_false (by have := drop_lt hw; omega)] at c1
    have hl : w.length < 1000 := hW w (List.mem_of_mem_drop (i := p) (by rw [hw]; exact List.mem_cons_self ..))
    have en := met0 (m := "now") s.ins rfl e0 (v_now s hw)
    refine (and_tt c1).trans (and_bb (asB_of (call1 en (v_isname hl h))) (asB_of ?_))
    refine (m2_of en (b := mVar 1) (y := .bl (fa.map wD)) (h2 := h) rfl).trans ?_
    refine (in_txt (cS w) true h (.bl (fa.map wD)) (fa.map cS) (by show some _ = some _; rw [List.map_map]; rfl) (fun z e => by cases e)).trans ?_
    rw [memW]
    rfl
theorem rf_loop (hW : ∀ x ∈ W, x.length < 1000) : ∀ (ws fa : List (List Nat)) (p N : Nat) (h : Hc), St H a b W p cs bs h → W.drop p = ws → p ≤ W.length → (∀ x ∈ fa, nm x = true) → fa.length + ws.length < 5000 → ws.length < N →
    ∃ (fs ws' : List (List Nat)) (h' : Hc), ws = fs ++ ws' ∧ mWhile N rfC rfB (envF a fa) h = .nx (envF a (fa ++ fs)) h' ∧ St H a b W (p + fs.length) cs bs h' ∧ (∀ x ∈ fa ++ fs, nm x = true) ∧ Stop ws' (fa ++ fs) ∧ ∀ d, J .farms fa d ws p = J .farms (fa ++ fs) d ws' (p + fs.length)
  | [], fa, p, N + 1, h, s, e, hp, hf, hl, hN => by
    refine ⟨[], [], h, rfl, ?_, s, by rw [List.append_nil]; exact hf, (fun w r z _ => by cases z), fun d => by rw [List.append_nil]; rfl⟩
    rw [mWhile_succ, rf_cond s hW hp, e, List.append_nil]
    rfl
  | w :: ws, fa, p, N + 1, h, s, e, hp, hf, hl, hN => by
    rw [List.length_cons] at hl hN
    by_cases hc : nm w = true ∧ w ∉ fa
    · have rn := (v_rname s hW e).2 hc.1
      have s1 := s.go (p + 1)
      obtain ⟨fs, ws', h', q1, q2, q3, q4, q5, q6⟩ := rf_loop hW ws (fa ++ [w]) (p + 1) N _ s1 (drop_s e) (by have := drop_lt e; omega) (fun x hx => by
        rcases List.mem_append.mp hx with hx | hx
        · exact hf x hx
        · rw [List.mem_singleton.mp hx]; exact hc.1) (by rw [List.length_append, List.length_singleton]; omega) (by omega)
      rw [List.append_assoc] at q2 q4 q5 q6
      refine ⟨w :: fs, ws', h', by rw [q1]; rfl, ?_, by rw [List.length_cons, show p + (fs.length + 1) = p + 1 + fs.length by omega]; exact q3, q4, q5, fun d => ?_⟩
      · rw [mWhile_succ, rf_cond s hW hp, e]
        show ((R.ok (nm w && !decide (w ∈ fa)) h).thenS _ _) = _
        rw [hc.1, decide_eq_false hc.2]
        show ((rfB (envF a fa) h).again (mWhile N rfC rfB)) = _
        have eb : rfB (envF a fa) h = .nx (envF a (fa ++ [w])) (h.set a (insR W (p + 1) b)) := by
          refine (app_eq (xs := fa.map wD) (d := wD w) rfl (met0 (m := "read_name") s.ins rfl rfl rn) (by rw [List.length_map]; omega)).trans ?_
          show RS.nx [some (.d (.ref a)), some (.ol (fa.map wD ++ [wD w]))] _ = _
          rw [envF, List.map_append]
          rfl
        rw [eb]
        exact q2
      · rw [J, nx, hc.1, if_pos rfl, if_neg hc.2]
        dsimp only
        rw [if_pos rfl, dep_dull (nm_dull hc.1), q6 d, List.length_cons, show p + (fs.length + 1) = p + 1 + fs.length by omega]
        rfl
    · refine ⟨[], w :: ws, h, rfl, ?_, s, by rw [List.append_nil]; exact hf, fun x r z hx => ?_, fun d => by rw [List.append_nil]; rfl⟩
      · rw [mWhile_succ, rf_cond s hW hp, e, List.append_nil]
        show ((R.ok (nm w && !decide (w ∈ fa)) h).thenS _ _) = _
        have : (nm w && !decide (w ∈ fa)) = false := by
          cases q : (nm w && !decide (w ∈ fa)) with
          | false => rfl
          | true =>
            simp only [Bool.and_eq_true, Bool.not_eq_true', decide_eq_false_iff_not] at q
            exact absurd q hc
        rw [this]
        rfl
      · cases z
        rw [List.append_nil]
        exact Classical.byContradiction fun z => hc ⟨hx, z⟩
theorem v_farms {p : Nat} {h : Hc} (s : St H a b W p cs bs h) (hW : ∀ x ∈ W, x.length < 1000) (hl : W.length < 4000) (hp : p ≤ W.length) :
    (F_Reader_read_farms [.ref a] h = .exc (bad (p + 1)) h ∧ ∀ d, J .farm [] d (W.drop p) p = p + 1) ∨
    ∃ (F ws' : List (List Nat)) (h' : Hc), W.drop p = F ++ ws' ∧ F ≠ [] ∧ (∀ x ∈ F, nm x = true) ∧ F_Reader_read_farms [.ref a] h = .ok (srtL F) h' ∧ St H a b W (p + F.length) cs bs h' ∧ ∀ d, J .farm [] d (W.drop p) p = J .joint [] d ws' (p + F.length) := by
  have e0 : mVar 0 (mkEnv 2 [.ref a]) h = .ok (.d (.ref a)) h := rfl
  have exc : F_Reader_read_name [.ref a] h = .exc (bad (p + 1)) h → F_Reader_read_farms [.ref a] h = .exc (bad (p + 1)) h := fun e => by
    refine (fnOf_eq 2 1 _ _ _ rfl).trans (congrArg RS.fin (a₂ := .exc (mkEnv 2 [.ref a]) (bad (p + 1)) h) ?_)
    rw [rf_parts]
    refine seq_exc (set_ex ?_)
    rw [mA1_eq, maCons_eq, met0X (m := "read_name") s.ins rfl e0 e]
    rfl
  cases hw : W.drop p with
  | nil => exact .inl ⟨exc (v_rnameX s (drop_nil hw hp)), fun d => rfl⟩
  | cons w ws =>
    cases hn : nm w with
    | false => exact .inl ⟨exc ((v_rname s hW hw).1 hn), fun d => by rw [J, nx, hn, if_neg Bool.false_ne_true]⟩
    | true =>
      right
      have rn := (v_rname s hW hw).2 hn
      have lw := drop_lt hw
      have lws : ws.length + p + 1 = W.length := by
        have := congrArg List.length hw
        rw [List.length_drop, List.length_cons] at this
        omega
      obtain ⟨fs, ws', h', q1, q2, q3, q4, q5, q6⟩ := rf_loop (cs := cs) (bs := bs) hW ws [w] (p + 1) 20000 _ (s.go (p + 1)) (drop_s hw) (by omega) (fun x hx => by rw [List.mem_singleton.mp hx]; exact hn) (by rw [List.length_singleton]; omega) (by omega)
      refine ⟨w :: fs, ws', h', by rw [q1]; rfl, by simp, q4, ?_, by rw [List.length_cons, show p + (fs.length + 1) = p + 1 + fs.length by omega]; exact q3, fun d => ?_⟩
      · refine (fnOf_eq 2 1 _ _ _ rfl).trans (congrArg RS.fin (a₂ := .ret (srtL (w :: fs)) h') ?_)
        rw [rf_parts]
        have s1 : mSet 1 (mA1 (fLst true) (maCons (mMeth 7 "read_name" 0 F_Reader_read_name [] (mVar 0) maNil) maNil)) (mkEnv 2 [.ref a]) h = .nx (envF a [w]) (h.set a (insR W (p + 1) b)) := by
          unfold mSet
          rw [mA1_eq, ma_cons (met0 (m := "read_name") s.ins rfl e0 rn) ma_nil]
          rfl
        refine (seq_nx s1).trans ((seq_nx q2).trans ?_)
        show (mRet (mA1 fTuple (maCons (mA1 (fSorted g0.kc false) (maCons (mVar 1) maNil)) maNil))) [some (.d (.ref a)), some (.d (wsD (w :: fs)))] h' = _
        exact ret_of ((a1_of ((a1_of (x := .d (wsD (w :: fs))) (h1 := h') rfl).trans (v_sorted rfl))).trans rfl)
      · rw [J, nx, hn, if_pos rfl, if_neg (by simp)]
        dsimp only
        rw [if_pos rfl, dep_dull (nm_dull hn)]
        show J .farms [w] d ws (p + 1) = _
        rw [q6 d, J_stop q5, List.length_cons, show p + (fs.length + 1) = p + 1 + fs.length by omega]
end
end G38
namespace G38
open PySem L2 Vi
theorem w_iff (w : List Nat) (s : PySem.Str) : cS w = s ↔ w = cod s := by
  have := w_eq w s
  rw [Bool.eq_iff_iff, decide_eq_true_iff, decide_eq_true_iff] at this
  exact this
def seven : List PySem.Str := ["free", "untouched", "least", "most", "since", "until", "single"]
theorem plainT_is {w : List Nat} {s : Sg} (e : plainT w = some s) : ((w = cod "free" ∨ w = cod "untouched") ∧ s = .trait) ∨ ((w = cod "least" ∨ w = cod "most") ∧ s = .share) ∨ ((w = cod "since" ∨ w = cod "until") ∧ s = .day) ∨ (w = cod "single" ∧ s = .joint) := by
  unfold plainT at e
  by_cases h1 : w = cod "free"
  · rw [if_pos h1] at e; cases e; exact .inl ⟨.inl h1, rfl⟩
  rw [if_neg h1] at e
  by_cases h2 : w = cod "untouched"
  · rw [if_pos h2] at e; cases e; exact .inl ⟨.inr h2, rfl⟩
  rw [if_neg h2] at e
  by_cases h3 : w = cod "least"
  · rw [if_pos h3] at e; cases e; exact .inr (.inl ⟨.inl h3, rfl⟩)
  rw [if_neg h3] at e
  by_cases h4 : w = cod "most"
  · rw [if_pos h4] at e; cases e; exact .inr (.inl ⟨.inr h4, rfl⟩)
  rw [if_neg h4] at e
  by_cases h5 : w = cod "since"
  · rw [if_pos h5] at e; cases e; exact .inr (.inr (.inl ⟨.inl h5, rfl⟩))
  rw [if_neg h5] at e
  by_cases h6 : w = cod "until"
  · rw [if_pos h6] at e; cases e; exact .inr (.inr (.inl ⟨.inr h6, rfl⟩))
  rw [if_neg h6] at e
  by_cases h7 : w = cod "single"
  · rw [if_pos h7] at e; cases e; exact .inr (.inr (.inr ⟨h7, rfl⟩))
  rw [if_neg h7] at e
  cases e
theorem mem7 (w : List Nat) : decide (cS w ∈ seven) = (plainT w).isSome := by
  cases e : plainT w with
  | some s =>
    have c : w ∈ [cod "free", cod "untouched", cod "least", cod "most", cod "since", cod "until", cod "single"] := by
      rcases plainT_is e with ⟨h | h, _⟩ | ⟨h | h, _⟩ | ⟨h | h, _⟩ | ⟨h, _⟩ <;> rw [h] <;> simp
    have q : ∀ x ∈ [cod "free", cod "untouched", cod "least", cod "most", cod "since", cod "until", cod "single"], decide (cS x ∈ seven) = true := by decide +kernel
    exact q w c
  | none =>
    refine decide_eq_false fun m => ?_
    unfold seven at m
    simp only [List.mem_cons, List.not_mem_nil, or_false, w_iff] at m
    rcases m with h | h | h | h | h | h | h <;> rw [h] at e <;> revert e <;> decide +kernel
theorem plain_dull {w : List Nat} {s : Sg} (e : plainT w = some s) : Dull w := by
  have c : ∀ x ∈ [cod "free", cod "untouched", cod "least", cod "most", cod "since", cod "until", cod "single"], Dull x := by unfold Dull; decide +kernel
  refine c w ?_
  rcases plainT_is e with ⟨h | h, _⟩ | ⟨h | h, _⟩ | ⟨h | h, _⟩ | ⟨h, _⟩ <;> rw [h] <;> simp
theorem J_fac {w : List Nat} {ws : List (List Nat)} {d i : Nat} {s : Sg} (h1 : w ≠ kNot) (h2 : w ≠ kOp) (e : plainT w = some s) : J .factor [] d (w :: ws) i = J s [] d ws (i + 1) := by
  have hs : s ≠ .farms := by rcases plainT_is e with ⟨_, h⟩ | ⟨_, h⟩ | ⟨_, h⟩ | ⟨_, h⟩ <;> rw [h] <;> decide
  rw [J, nx, if_neg (fun z => z.elim h1 h2), e]
  dsimp only
  rw [if_neg hs, dep_dull (plain_dull e)]
theorem J_facX {w : List Nat} {ws : List (List Nat)} {d i : Nat} (h1 : w ≠ kNot) (h2 : w ≠ kOp) (e : plainT w = none) : J .factor [] d (w :: ws) i = i + 1 := by
  rw [J, nx, if_neg (fun z => z.elim h1 h2), e]
theorem J_step {s t : Sg} {w : List Nat} {ws : List (List Nat)} {d i : Nat} (e : nx s w [] d = some t) (ht : t ≠ .farms) (hd : Dull w) : J s [] d (w :: ws) i = J t [] d ws (i + 1) := by
  rw [J, e]
  dsimp only
  rw [if_neg ht, dep_dull hd]
theorem J_no {s : Sg} {w : List Nat} {ws : List (List Nat)} {d i : Nat} (e : nx s w [] d = none) : J s [] d (w :: ws) i = i + 1 := by rw [J, e]
theorem J_nil {s : Sg} {d i : Nat} (h1 : s ≠ .joint) (h2 : s ≠ .farms) : J s [] d [] i = i + 1 := by
  rw [J, if_neg (fun z => z.1.elim h1 h2)]
section
variable {env : Vi.Env} {h h1 h2 : Hc} {y : D} {a : ME} {b m : MA} {d : Vl}
theorem ma_consX (e : a env h = .exc y h1) : maCons a b env h = .exc y h1 := by
  rw [maCons_eq, e]
  rfl
theorem ma_cons2X (e1 : a env h = .ok d h1) (e2 : b env h1 = .exc y h2) : maCons a b env h = .exc y h2 := by
  rw [maCons_eq, e1, R.bind_ok, e2]
  rfl
theorem a1X {F : List Vl → Hc → R Vl} (e : m env h = .exc y h1) : mA1 F m env h = .exc y h1 := by
  rw [mA1_eq, e]
  rfl
end
theorem in_tup {w : List Nat} {xs : List PySem.Str} {i : Nat} {env : Vi.Env} {h : Hc} {m : ME} (e : mVar i env h = .ok (.d (wD w)) h) (em : m env h = .ok (.d (.tup (xs.map D.str))) h) : m2 (fIn false) (mVar i) m env h = .ok (.d (.bl (decide (cS w ∈ xs)))) h :=
  (m2_of e em).trans (in_txt (cS w) false h _ xs rfl (fun z e => by cases e))
theorem c_two {w : List Nat} {i : Nat} {env : Vi.Env} {h : Hc} (s t : PySem.Str) (e : mVar i env h = .ok (.d (wD w)) h) : asB (m2 (fIn false) (mVar i) (mA1 fTup (maCons (mC (.str s)) (maCons (mC (.str t)) maNil)))) env h = .ok (decide (w = cod s ∨ w = cod t)) h := by
  refine asB_of ((in_tup (xs := [s, t]) e rfl).trans ?_)
  rw [mem2]
section
variable {H : Hc} {a b : Nat} {W : List (List Nat)} {p : Nat} {cs : List Nat} {bs : List Br} {h : Hc}
inductive PlainO (H : Hc) (a b : Nat) (W : List (List Nat)) (cs : List Nat) (bs : List Br) (p : Nat) (U : List (List Nat)) : R D → Prop
  | bad (k : Nat) (h' : Hc) : (∃ x, h' = H ++ x) → (∀ d, J .factor [] d U p = k) → PlainO H a b W cs bs p U (.exc (bad k) h')
  | good (wa ws' : List (List Nat)) (t : D) (h' : Hc) : U = wa ++ ws' → At wa t → St H a b W (p + wa.length) cs bs h' → (∀ d, J .factor [] d U p = J .joint [] d ws' (p + wa.length)) → PlainO H a b W cs bs p U (.ok t h')
theorem PlainO.of {r r' : R D} {U : List (List Nat)} (e : r = r') (q : PlainO H a b W cs bs p U r') : PlainO H a b W cs bs p U r := e ▸ q
theorem v_plain (s : St H a b W p cs bs h) (hW : ∀ x ∈ W, x.length < 1000) (hl : W.length < 60) {w : List Nat} {ws : List (List Nat)} (hw : W.drop p = w :: ws) (h1 : w ≠ kNot) (h2 : w ≠ kOp) : PlainO H a b W cs bs p (w :: ws) (F_Reader_read_plain [.ref a] h) := by
  have en := v_now s hw
  have lw := drop_lt hw
  have s1 : mSet 1 (mMeth 7 "now" 0 F_Reader_now [] (mVar 0) maNil) (mkEnv 3 [.ref a]) h = .nx [some (.d (.ref a)), some (.d (wD w)), none] h := set_d (met0 (m := "now") s.ins rfl rfl en)
  have c7 : ∀ h, m2 (fIn false) (mVar 1) (mA1 fTup (maCons (mC (.str "free")) (maCons (mC (.str "untouched")) (maCons (mC (.str "least")) (maCons (mC (.str "most")) (maCons (mC (.str "since")) (maCons (mC (.str "until")) (maCons (mC (.str "single")) maNil)))))))) [some (.d (.ref a)), some (.d (wD w)), none] h = .ok (.d (.bl (plainT w).isSome)) h := fun h => (in_tup (xs := seven) rfl rfl).trans (by rw [mem7])
  have fin : ∀ {r : RS}, m_Reader_read_plain (mkEnv 3 [.ref a]) h = r → F_Reader_read_plain [.ref a] h = r.fin := fun e => (fnOf_eq 3 1 _ _ _ rfl).trans (congrArg RS.fin e)
  cases e : plainT w with
  | none =>
    have c := c7 h
    rw [e] at c
    refine PlainO.of (fin ((seq_nx s1).trans (seq_exc (drop_ex (met1X (m := "expect") s.ins rfl rfl c (v_expF s)))))) (.bad _ _ s.base fun d => J_facX h1 h2 e)
  | some sg =>
    have c := c7 h
    rw [e] at c
    have s2 := drop_of (met1 (m := "expect") (mo := mVar 0) s.ins rfl (env := [some (.d (.ref a)), some (.d (wD w)), none]) rfl c (v_expT s))
    have st := s.go (p + 1)
    generalize h.set a (insR W (p + 1) b) = g at s2 st
    have hw1 := drop_s hw
    have jf : ∀ d, J .factor [] d (w :: ws) p = J sg [] d ws (p + 1) := fun d => J_fac h1 h2 e
    have e0 : ∀ (x : Option Sl) (h : Hc), mVar 0 [some (.d (.ref a)), some (.d (wD w)), x] h = .ok (.d (.ref a)) h := fun _ _ => rfl
    have e1 : ∀ (x : Option Sl) (h : Hc), mVar 1 [some (.d (.ref a)), some (.d (wD w)), x] h = .ok (.d (wD w)) h := fun _ _ => rfl
    have fin2 : ∀ {r : RS}, _ = r → F_Reader_read_plain [.ref a] h = r.fin := fun e => fin ((seq_nx s1).trans ((seq_nx s2).trans e))
    rcases plainT_is e with ⟨hq, rfl⟩ | ⟨hq, rfl⟩ | ⟨hq, rfl⟩ | ⟨hq, rfl⟩
    · have c1 := c_two (h := g) "free" "untouched" (e1 none g)
      rw [decide_eq_true hq] at c1
      have rx : ∀ {k h'}, F_Reader_read_name [.ref a] g = .exc (bad k) h' → F_Reader_read_plain [.ref a] h = .exc (bad k) h' := fun {k h'} ex => fin2 (r := .exc [some (.d (.ref a)), some (.d (wD w)), none] (bad k) h') (seq_exc ((if_t c1).trans (ret_ex (a1X (ma_cons2X (e1 none g) (ma_consX (met0X (m := "read_name") st.ins rfl (e0 none g) ex)))))))
      cases hv : ws with
      | nil =>
        rw [hv] at jf hw1
        refine PlainO.of (rx (v_rnameX st (drop_nil hw1 (by omega)))) (.bad _ _ st.base fun d => (jf d).trans (J_nil (by decide) (by decide)))
      | cons v vs =>
        rw [hv] at jf hw1
        cases hn : nm v with
        | false => exact PlainO.of (rx ((v_rname st hW hw1).1 hn)) (.bad _ _ st.base fun d => (jf d).trans (J_no (by rw [nx, hn, if_neg Bool.false_ne_true])))
        | true =>
          have rn := (v_rname st hW hw1).2 hn
          refine PlainO.of (fin2 (r := .ret (.tup [wD w, wD v]) _) (seq_ret ((if_t c1).trans (ret_of ?_)))) (.good [w, v] vs _ _ rfl (.name w v hq hn) (st.go (p + 1 + 1)) fun d => (jf d).trans (J_step (by rw [nx, hn, if_pos rfl]) (by decide) (nm_dull hn)))
          rw [mA1_eq, ma_cons (e1 none g) (ma_cons (met0 (m := "read_name") st.ins rfl (e0 none g) rn) ma_nil)]
          rfl
    · have n1 : ¬ (w = cod "free" ∨ w = cod "untouched") := by rcases hq with rfl | rfl <;> decide +kernel
      have c1 := c_two (h := g) "free" "untouched" (e1 none g)
      rw [decide_eq_false n1] at c1
      have c2 := c_two (h := g) "least" "most" (e1 none g)
      rw [decide_eq_true hq] at c2
      have fin3 : ∀ {d : D} {h' : Hc} {v}, _ = RS.exc v d h' → F_Reader_read_plain [.ref a] h = .exc d h' := fun {d h' v} e => fin2 (r := .exc v d h') ((seq_nx (if_skip c1)).trans (seq_exc ((if_t c2).trans e)))
      have fin4 : ∀ {d : D} {h' : Hc}, _ = RS.ret d h' → F_Reader_read_plain [.ref a] h = .ok d h' := fun {d h'} e => fin2 (r := .ret d h') ((seq_nx (if_skip c1)).trans (seq_ret ((if_t c2).trans e)))
      cases hv : ws with
      | nil =>
        rw [hv] at jf hw1
        refine PlainO.of (fin3 (seq_exc (set_ex (met1A (m := "past") st.ins rfl (e0 none g) (a1X (ma_consX (met0X (m := "now") st.ins rfl (e0 none g) (v_nowX st (drop_nil hw1 (by omega)))))))))) (.bad _ _ st.base fun d => (jf d).trans (J_nil (by decide) (by decide)))
      | cons v vs =>
        rw [hv] at jf hw1
        have lv : v.length < 1000 := hW v (List.mem_of_mem_drop (i := p + 1) (by rw [hw1]; exact List.mem_cons_self ..))
        have av := call1 (met0 (m := "now") st.ins rfl (e0 none g) (v_now st hw1)) (v_sharetold lv g)
        have lw1 := drop_lt hw1
        cases hs : shareV v with
        | none =>
          have hd : shareD v = .non := by unfold shareD; rw [hs]
          rw [hd] at av
          refine PlainO.of (fin3 (seq_exc (set_ex (met1X (m := "past") st.ins rfl (e0 none g) av ((v_past st .non (.inl (.inl rfl))).1 rfl))))) (.bad _ _ st.base fun d => (jf d).trans (J_no (by rw [nx, if_pos hs])))
        | some z =>
          have hn : shareV v ≠ none := by rw [hs]; exact fun z => by cases z
          have hd : ∃ ds, shareD v = .tup ds := ⟨[.int z.1, .int z.2], by unfold shareD; rw [hs]⟩
          have hp := (v_past st (shareD v) (.inl (.inr hd))).2 (by obtain ⟨ds, q⟩ := hd; rw [q]; exact fun z => by cases z)
          have s3 : mSet 2 (mMeth 7 "past" 1 F_Reader_past [] (mVar 0) (maCons (mA1 (fCallN 1 F_share_told []) (maCons (mMeth 7 "now" 0 F_Reader_now [] (mVar 0) maNil) maNil)) maNil)) [some (.d (.ref a)), some (.d (wD w)), none] g = .nx [some (.d (.ref a)), some (.d (wD w)), some (.d (shareD v))] (g.set a (insR W (p + 1 + 1) b)) := set_d (met1 (m := "past") st.ins rfl (e0 none g) av hp)
          have st2 := st.go (p + 1 + 1)
          generalize g.set a (insR W (p + 1 + 1) b) = g2 at s3 st2
          have hw2 := drop_s hw1
          have jf2 : ∀ d, J .factor [] d (w :: v :: vs) p = J .of [] d vs (p + 1 + 1) := fun d => (jf d).trans (J_step (by rw [nx, if_neg hn]) (by decide) (share_dull hn))
          cases hu : vs with
          | nil =>
            rw [hu] at jf2 hw2
            refine PlainO.of (fin3 ((seq_nx s3).trans (seq_exc (drop_ex (met1A (m := "expect") st2.ins rfl (e0 _ g2) ?_))))) (.bad _ _ st2.base fun d => (jf2 d).trans (J_nil (by decide) (by decide)))
            · rw [m2, met0X (m := "now") st2.ins rfl (e0 _ g2) (v_nowX st2 (drop_nil hw2 (by omega)))]
              rfl
          | cons u us =>
            rw [hu] at jf2 hw2
            have lw2 := drop_lt hw2
            have ce : m2 (fEq false) (mMeth 7 "now" 0 F_Reader_now [] (mVar 0) maNil) (mC (.str "of")) [some (.d (.ref a)), some (.d (wD w)), some (.d (shareD v))] g2 = .ok (.d (.bl (decide (u = kOf)))) g2 := (m2_of (y := .d (.str "of")) (h2 := g2) (met0 (m := "now") st2.ins rfl (e0 _ g2) (v_now st2 hw2)) rfl).trans ((eq_txt false _ _ g2).trans (congrArg (fun b => R.ok (Vl.d (.bl b)) g2) (w_eq u "of")))
            by_cases ho : u = kOf
            · rw [decide_eq_true ho] at ce
              have s4 := drop_of (met1 (m := "expect") (mo := mVar 0) st2.ins rfl (e0 _ g2) ce (v_expT st2))
              have st3 := st2.go (p + 1 + 1 + 1)
              generalize g2.set a (insR W (p + 1 + 1 + 1) b) = g3 at s4 st3
              have hw3 := drop_s hw2
              have jf3 : ∀ d, J .factor [] d (w :: v :: u :: us) p = J .farm [] d us (p + 1 + 1 + 1) := fun d => (jf2 d).trans (J_step (by rw [nx, if_pos ho]) (by decide) (by rw [ho]; unfold Dull; decide +kernel))
              rcases v_farms st3 hW (by omega) (by omega) with ⟨x1, x2⟩ | ⟨F, ws', h', q1, q2, q3, q4, q5, q6⟩
              · rw [hw3] at x2
                exact PlainO.of (fin3 ((seq_nx s3).trans ((seq_nx s4).trans (ret_ex (a1X (ma_cons2X (e1 _ g3) (ma_cons2X (a := mVar 2) (d := .d (shareD v)) (h1 := g3) rfl (ma_consX (met0X (m := "read_farms") st3.ins rfl (e0 _ g3) x1))))))))) (.bad _ _ st3.base fun d => (jf3 d).trans (x2 d))
              · rw [hw3] at q1 q6
                have lF : F.length < 60 := by
                  have := congrArg List.length hw3
                  rw [List.length_drop, q1, List.length_append] at this
                  omega
                refine PlainO.of (fin4 ((seq_nx s3).trans ((seq_nx s4).trans (ret_of (d := .tup [wD w, shareD v, srtL F]) (h' := h') ?_)))) (.good (w :: v :: u :: F) ws' _ _ (by rw [q1]; rfl) (by rw [ho]; exact .share w v F hq hn q2 q3 lF) ?_ fun d => ?_)
                · rw [mA1_eq, ma_cons (e1 _ g3) (ma_cons (a := mVar 2) (d := .d (shareD v)) (h1 := g3) rfl (ma_cons (met0 (m := "read_farms") st3.ins rfl (e0 _ g3) q4) ma_nil))]
                  rfl
                · rw [show p + (w :: v :: u :: F).length = p + 1 + 1 + 1 + F.length by simp only [List.length_cons]; omega]
                  exact q5
                · rw [show p + (w :: v :: u :: F).length = p + 1 + 1 + 1 + F.length by simp only [List.length_cons]; omega]
                  exact (jf3 d).trans (q6 d)
            · rw [decide_eq_false ho] at ce
              exact PlainO.of (fin3 ((seq_nx s3).trans (seq_exc (drop_ex (met1X (m := "expect") st2.ins rfl (e0 _ g2) ce (v_expF st2)))))) (.bad _ _ st2.base fun d => (jf2 d).trans (J_no (by rw [nx, if_neg ho])))
    · have n1 : ¬ (w = cod "free" ∨ w = cod "untouched") := by rcases hq with rfl | rfl <;> decide +kernel
      have n2 : ¬ (w = cod "least" ∨ w = cod "most") := by rcases hq with rfl | rfl <;> decide +kernel
      have c1 := c_two (h := g) "free" "untouched" (e1 none g)
      rw [decide_eq_false n1] at c1
      have c2 := c_two (h := g) "least" "most" (e1 none g)
      rw [decide_eq_false n2] at c2
      have c3 := c_two (h := g) "since" "until" (e1 none g)
      rw [decide_eq_true hq] at c3
      have fin3 : ∀ {d : D} {h' : Hc} {v}, _ = RS.exc v d h' → F_Reader_read_plain [.ref a] h = .exc d h' := fun {d h' v} e => fin2 (r := .exc v d h') ((seq_nx (if_skip c1)).trans ((seq_nx (if_skip c2)).trans (seq_exc ((if_t c3).trans e))))
      have fin4 : ∀ {d : D} {h' : Hc}, _ = RS.ret d h' → F_Reader_read_plain [.ref a] h = .ok d h' := fun {d h'} e => fin2 (r := .ret d h') ((seq_nx (if_skip c1)).trans ((seq_nx (if_skip c2)).trans (seq_ret ((if_t c3).trans e))))
      cases hv : ws with
      | nil =>
        rw [hv] at jf hw1
        refine PlainO.of (fin3 (ret_ex (a1X (ma_cons2X (e1 none g) (ma_consX (met1A (m := "past") st.ins rfl (e0 none g) (a1X (ma_consX (met0X (m := "now") st.ins rfl (e0 none g) (v_nowX st (drop_nil hw1 (by omega)))))))))))) (.bad _ _ st.base fun d => (jf d).trans (J_nil (by decide) (by decide)))
      | cons v vs =>
        rw [hv] at jf hw1
        have lv : v.length < 1000 := hW v (List.mem_of_mem_drop (i := p + 1) (by rw [hw1]; exact List.mem_cons_self ..))
        have av := call1 (met0 (m := "now") st.ins rfl (e0 none g) (v_now st hw1)) (v_daytold lv g)
        have no : dayD v = .non → ¬ (0 ≤ numI v ∧ numI v ≤ 99999) → PlainO H a b W cs bs p (w :: v :: vs) (F_Reader_read_plain [.ref a] h) := fun hd hn => by
          rw [hd] at av
          exact PlainO.of (fin3 (ret_ex (a1X (ma_cons2X (e1 none g) (ma_consX (met1X (m := "past") st.ins rfl (e0 none g) av ((v_past st .non (.inl (.inl rfl))).1 rfl))))))) (.bad _ _ st.base fun d => (jf d).trans (J_no (by rw [nx, if_neg hn])))
        cases hn : num v with
        | none => exact no (by unfold dayD; rw [hn]) (by unfold numI; rw [hn]; dsimp only; omega)
        | some k =>
          by_cases hk : k ≤ 99999
          · have hd : dayD v = .int (k : Nat) := by unfold dayD; rw [hn]; exact if_pos hk
            rw [hd] at av
            have hp := (v_past st (.int (k : Nat)) (.inr ⟨_, rfl⟩)).2 (fun z => by cases z)
            refine PlainO.of (fin4 (ret_of (d := .tup [wD w, .int (k : Nat)]) (h' := g.set a (insR W (p + 1 + 1) b)) ?_)) (.good [w, v] vs _ _ rfl (.day w v k hq hn hk) (st.go (p + 1 + 1)) fun d => (jf d).trans (J_step (by rw [nx, if_pos (by unfold numI; rw [hn]; dsimp only; omega)]) (by decide) (num_dull hn)))
            rw [mA1_eq, ma_cons (e1 none g) (ma_cons (met1 (m := "past") st.ins rfl (e0 none g) av hp) ma_nil)]
            rfl
          · exact no (by unfold dayD; rw [hn]; exact if_neg hk) (by unfold numI; rw [hn]; dsimp only; omega)
    · have n1 : ¬ (w = cod "free" ∨ w = cod "untouched") := by rw [hq]; decide +kernel
      have n2 : ¬ (w = cod "least" ∨ w = cod "most") := by rw [hq]; decide +kernel
      have n3 : ¬ (w = cod "since" ∨ w = cod "until") := by rw [hq]; decide +kernel
      have c1 := c_two (h := g) "free" "untouched" (e1 none g)
      rw [decide_eq_false n1] at c1
      have c2 := c_two (h := g) "least" "most" (e1 none g)
      rw [decide_eq_false n2] at c2
      have c3 := c_two (h := g) "since" "until" (e1 none g)
      rw [decide_eq_false n3] at c3
      refine PlainO.of (fin2 (r := .ret (.tup [wD w]) g) ((seq_nx (if_skip c1)).trans ((seq_nx (if_skip c2)).trans ((seq_nx (if_skip c3)).trans (ret_of ?_))))) (.good [w] ws _ _ rfl (by rw [hq]; exact .single) st jf)
      rfl
end
end G38
namespace G38
open PySem L2 Vi
theorem P.tup {lv : Nat} {w : List (List Nat)} {t : D} (p : P lv w t) : ∃ ds, t = .tup ds := by
  induction p with
  | «at» h => cases h <;> exact ⟨_, rfl⟩
  | not p ih => exact ⟨_, rfl⟩
  | par p ih => exact ih
  | tm p ih => exact ih
  | and p q ih1 ih2 => exact ⟨_, rfl⟩
  | ex p ih => exact ih
  | or p q ih1 ih2 => exact ⟨_, rfl⟩
def Tt (t : D) (tw : List (List Nat)) : Prop := (t = .non ∧ tw = []) ∨ ∃ w, tw = w ++ [kOr] ∧ P 2 w t
def Ff (f : D) (fw : List (List Nat)) : Prop := (f = .non ∧ fw = []) ∨ ∃ w, fw = w ++ [kAnd] ∧ P 1 w f
def BrO (x : Br) (S : List (List Nat)) : Prop := ∃ tw fw, S = tw ++ fw ++ List.replicate x.n kNot ∧ Tt x.t tw ∧ Ff x.f fw
def BrC (x : Br) (S : List (List Nat)) : Prop := x.n = 0 ∧ ∃ tw fw, S = tw ++ fw ∧ Tt x.t tw ∧ P 1 fw x.f
inductive Out : List Br → List (List Nat) → Prop
  | nil : Out [] []
  | cons {x : Br} {xs : List Br} {Y S : List (List Nat)} : Out xs Y → BrO x S → Out (x :: xs) (Y ++ S ++ [kOp])
theorem Tt.nt {t : D} {tw : List (List Nat)} (h : Tt t tw) : NT t := by
  rcases h with ⟨rfl, _⟩ | ⟨w, _, p⟩
  · exact .inl rfl
  · exact .inr p.tup
theorem Ff.nt {t : D} {tw : List (List Nat)} (h : Ff t tw) : NT t := by
  rcases h with ⟨rfl, _⟩ | ⟨w, _, p⟩
  · exact .inl rfl
  · exact .inr p.tup
theorem BrO.new : BrO ⟨.non, .non, 0⟩ [] := ⟨[], [], rfl, .inl ⟨rfl, rfl⟩, .inl ⟨rfl, rfl⟩⟩
theorem BrO.n_le {x : Br} {S : List (List Nat)} (h : BrO x S) : x.n ≤ S.length := by
  obtain ⟨tw, fw, rfl, _, _⟩ := h
  rw [List.length_append, List.length_replicate]
  omega
theorem BrO.not {x : Br} {S : List (List Nat)} (h : BrO x S) : BrO ⟨x.t, x.f, x.n + 1⟩ (S ++ [kNot]) := by
  obtain ⟨tw, fw, rfl, h1, h2⟩ := h
  refine ⟨tw, fw, ?_, h1, h2⟩
  rw [List.replicate_succ', ← List.append_assoc]
theorem notN_P : ∀ (n : Nat) {w : List (List Nat)} {q : D}, P 0 w q → P 0 (List.replicate n kNot ++ w) (notN n q)
  | 0, w, q, h => h
  | n + 1, w, q, h => by
    have := notN_P n (P.not h)
    rw [List.replicate_succ', List.append_assoc]
    exact this
theorem BrO.add {x : Br} {S w : List (List Nat)} {q : D} (h : BrO x S) (p : P 0 w q) : BrC ⟨x.t, addF x.f (notN x.n q), 0⟩ (S ++ w) := by
  obtain ⟨tw, fw, rfl, h1, h2⟩ := h
  have pn := notN_P x.n p
  rcases h2 with ⟨e, rfl⟩ | ⟨v, rfl, pv⟩
  · refine ⟨rfl, tw, List.replicate x.n kNot ++ w, by rw [List.append_nil, List.append_assoc], h1, ?_⟩
    rw [e]
    exact .tm pn
  · refine ⟨rfl, tw, v ++ kAnd :: (List.replicate x.n kNot ++ w), by simp only [List.append_assoc, List.singleton_append, List.cons_append, List.nil_append], h1, ?_⟩
    obtain ⟨ds, e⟩ := pv.tup
    have : addF x.f (notN x.n q) = .tup [wD kAnd, x.f, notN x.n q] := by rw [e]; rfl
    rw [this]
    exact .and pv pn
theorem BrC.whole {x : Br} {S : List (List Nat)} (h : BrC x S) : P 2 S (whD x) := by
  obtain ⟨_, tw, fw, rfl, h1, h2⟩ := h
  rcases h1 with ⟨e, rfl⟩ | ⟨v, rfl, pv⟩
  · have : whD x = x.f := by unfold whD; rw [e]
    rw [this]
    exact .ex h2
  · obtain ⟨ds, e⟩ := pv.tup
    have : whD x = .tup [wD kOr, x.t, x.f] := by unfold whD; rw [e]
    rw [this, List.append_assoc]
    exact .or pv h2
theorem BrC.or {x : Br} {S : List (List Nat)} (h : BrC x S) : BrO ⟨whD x, .non, x.n⟩ (S ++ [kOr]) := by
  refine ⟨S ++ [kOr], [], ?_, .inr ⟨S, rfl, h.whole⟩, .inl ⟨rfl, rfl⟩⟩
  rw [h.1, List.append_nil]
  exact (List.append_nil _).symm
theorem BrC.and {x : Br} {S : List (List Nat)} (h : BrC x S) : BrO x (S ++ [kAnd]) := by
  obtain ⟨h0, tw, fw, rfl, h1, h2⟩ := h
  refine ⟨tw, fw ++ [kAnd], ?_, h1, .inr ⟨fw, rfl, h2⟩⟩
  rw [h0, List.append_assoc]
  exact (List.append_nil _).symm
theorem BrC.nt {x : Br} {S : List (List Nat)} (h : BrC x S) : NT x.t := by
  obtain ⟨_, tw, fw, _, h1, _⟩ := h
  exact h1.nt
theorem Out.len {xs : List Br} {Y : List (List Nat)} (h : Out xs Y) : xs.length ≤ Y.length := by
  induction h with
  | nil => exact Nat.le_refl _
  | cons h b ih => rw [List.length_append, List.length_append, List.length_singleton, List.length_cons]; omega
theorem take_n {W wa ws : List (List Nat)} {p : Nat} (h : W.drop p = wa ++ ws) : W.take (p + wa.length) = W.take p ++ wa := by
  rw [List.take_add, h, List.take_left]
theorem take_s {W ws : List (List Nat)} {w : List Nat} {p : Nat} (h : W.drop p = w :: ws) : W.take (p + 1) = W.take p ++ [w] := take_n (wa := [w]) h
theorem drop_n {W wa ws : List (List Nat)} {p : Nat} (h : W.drop p = wa ++ ws) : W.drop (p + wa.length) = ws := by
  rw [← List.drop_drop, h, List.drop_left]
theorem J_not {ws : List (List Nat)} {d i : Nat} : J .factor [] d (kNot :: ws) i = J .factor [] d ws (i + 1) := by
  rw [J, nx, if_pos (.inl rfl)]
  rfl
theorem J_op {ws : List (List Nat)} {d i : Nat} : J .factor [] d (kOp :: ws) i = J .factor [] (d + 1) ws (i + 1) := by
  rw [J, nx, if_pos (.inr rfl)]
  rfl
theorem atI_last {α : Type} (xs : List α) (x : α) : atI (xs ++ [x]) (-1) = some x := by
  unfold atI ixN
  have hl : (xs ++ [x]).length = xs.length + 1 := by rw [List.length_append, List.length_singleton]
  rw [if_neg (by omega), if_pos (by rw [hl]; omega)]
  show (xs ++ [x])[(((xs ++ [x]).length : Int) + -1).toNat]? = _
  rw [hl, show (((xs.length + 1 : Nat) : Int) + -1).toNat = xs.length by omega, List.getElem?_append_right (Nat.le_refl _), Nat.sub_self]
  rfl
section
variable {H : Hc} {a b c : Nat} {W : List (List Nat)} {p : Nat} {cs : List Nat} {bs : List Br} {x : Br} {h : Hc} {env : Vi.Env} {i : Nat}
theorem lst_ref {h : Hc} {n : Nat} {xs : List D} (e : h[n]? = some (.lst xs)) : lst? h (.d (.ref n)) = some xs := by
  show (match h[n]?.map Cell.bare with
    | some (.lst xs) => some xs
    | _ => none) = _
  rw [e]
  rfl
theorem ix_ref {n : Nat} {i : Int} {h : Hc} {xs : List D} {d : D} (e : h[n]? = some (.lst xs)) (e2 : atI xs i = some d) : fIx (.d (.ref n)) (.d (.int i)) h = .ok (.d d) h := by
  unfold fIx
  dsimp only
  rw [lst_ref e]
  dsimp only
  rw [e2]
theorem St.last (s : St H a b W p (c :: cs) bs h) (e0 : mVar i env h = .ok (.d (.ref a)) h) : m2 fIx (m1 (fFld g0 "brackets") (mVar i)) (m1 fNeg (mC (.int 1))) env h = .ok (.d (.ref c)) h := by
  refine (m2_of (y := .d (.int (-1))) (h2 := h) (s.bra e0) rfl).trans ?_
  have e := s.out
  rw [List.reverse_cons, List.map_append] at e
  exact ix_ref e (atI_last _ _)
theorem St.first (s : St H a b W p [c] bs h) (e0 : mVar i env h = .ok (.d (.ref a)) h) : m2 fIx (m1 (fFld g0 "brackets") (mVar i)) (mC (.int 0)) env h = .ok (.d (.ref c)) h :=
  (m2_of (y := .d (.int 0)) (h2 := h) (s.bra e0) rfl).trans (ix_ref s.out rfl)
theorem St.many (s : St H a b W p cs bs h) (e0 : mVar i env h = .ok (.d (.ref a)) h) : asB (m2 fGt (mA1 fLen (maCons (m1 (fFld g0 "brackets") (mVar i)) maNil)) (mC (.int 1))) env h = .ok (decide (1 < bs.length)) h := by
  have e : fLen [.d (.ref b)] h = .ok (.d (.int ((cs.reverse.map D.ref).length : Nat))) h := by
    unfold fLen
    dsimp only
    rw [lst_ref s.out]
  refine (c_gt ((a1_of (s.bra e0)).trans e)).trans ?_
  rw [List.length_map, List.length_reverse, s.frs.len]
  refine congrArg (R.ok · h) ?_
  rw [Bool.eq_iff_iff, decide_eq_true_iff, decide_eq_true_iff]
  omega
theorem isLc_at {n : Nat} {xs : List D} (hc : h[n]? = some (.lst xs)) : isLc h (.d (.ref n)) = some n := by
  show (match h[n]? with
    | some (.lst _) => some n
    | _ => none) = _
  rw [hc]
theorem St.pushM (s : St H a b W p cs bs h) (e0 : mVar i env h = .ok (.d (.ref a)) h) (hl : bs.length < 100000) :
    mDrop (mMetM lmAppend (m1 (fFld g0 "brackets") (mVar i)) (maCons (mA1 (fMakeC 6 0 FI_Bracket_xinitx []) maNil) maNil)) env h = .nx env ((h ++ [insB ⟨.non, .non, 0⟩]).set b (Cell.lst (cs.reverse.map D.ref ++ [D.ref h.length]))) := by
  unfold mDrop mMetM
  rw [s.bra e0, R.bind_ok, isLc_at s.out]
  dsimp only
  rw [ma_cons (d := .d (.ref h.length)) (h1 := h ++ [insB ⟨.non, .non, 0⟩]) rfl ma_nil, R.bind_ok]
  have e3 : fMet lmAppend b [.d (.ref h.length)] (h ++ [insB ⟨.non, .non, 0⟩]) = .ok (.d .non) ((h ++ [insB ⟨.non, .non, 0⟩]).set b (Cell.lst (cs.reverse.map D.ref ++ [D.ref h.length]))) := by
    unfold fMet
    rw [show datas [Vl.d (D.ref h.length)] = some [D.ref h.length] from rfl, List.getElem?_append_left (get_lt s.out), s.out]
    dsimp only
    rw [show lmAppend (cs.reverse.map D.ref) [D.ref h.length] = some (cs.reverse.map D.ref ++ [D.ref h.length], D.non) from if_pos (by rw [List.length_map, List.length_reverse, s.frs.len]; exact hl)]
  rw [e3]
  rfl
theorem St.popM (s : St H a b W p (c :: cs) bs h) (e0 : mVar i env h = .ok (.d (.ref a)) h) : mMetM lmPop (m1 (fFld g0 "brackets") (mVar i)) maNil env h = .ok (.d (.ref c)) (h.set b (Cell.lst (cs.reverse.map D.ref))) := by
  unfold mMetM
  rw [s.bra e0, R.bind_ok, isLc_at s.out]
  dsimp only
  rw [ma_nil, R.bind_ok]
  unfold fMet
  rw [show datas [] = some [] from rfl, s.out]
  have e3 : lmPop ((c :: cs).reverse.map D.ref) [] = some (cs.reverse.map D.ref, D.ref c) := by
    rw [List.reverse_cons, List.map_append]
    show (((cs.reverse.map D.ref ++ [D.ref c])[(cs.reverse.map D.ref ++ [D.ref c]).length - 1]?).map fun d => ((cs.reverse.map D.ref ++ [D.ref c]).dropLast, d)) = _
    rw [List.length_append, List.length_singleton, Nat.add_sub_cancel, List.getElem?_append_right (Nat.le_refl _), Nat.sub_self, List.dropLast_concat]
    rfl
  dsimp only
  rw [e3]
end
def Opn (H : Hc) (a b : Nat) (W : List (List Nat)) (p : Nat) (bs : List Br) (h : Hc) : Prop := p ≤ W.length ∧ ∃ c cs x xs Y S, bs = x :: xs ∧ St H a b W p (c :: cs) bs h ∧ Out xs Y ∧ BrO x S ∧ W.take p = Y ++ S
def Cls (H : Hc) (a b : Nat) (W : List (List Nat)) (p : Nat) (bs : List Br) (h : Hc) : Prop := p ≤ W.length ∧ ∃ c cs x xs Y S, bs = x :: xs ∧ St H a b W p (c :: cs) bs h ∧ Out xs Y ∧ BrC x S ∧ W.take p = Y ++ S
section
variable {H : Hc} {a b : Nat} {W : List (List Nat)}
def rfcC : MB := asB (m2 (fIn false) (mMeth 7 "now" 0 F_Reader_now [] (mVar 0) maNil) (mA1 fTup (maCons (mC (.str "not")) (maCons (mC (.str "(")) maNil))))
def rfcB : MS := mSeq (mIfS (asB (m2 (fEq false) (mMeth 7 "now" 0 F_Reader_now [] (mVar 0) maNil) (mC (.str "not")))) (mAugFldE g0 (m2 fIx (m1 (fFld g0 "brackets") (mVar 0)) (m1 fNeg (mC (.int 1)))) "nots" (mC (.int 1))) (mDrop (mMetM lmAppend (m1 (fFld g0 "brackets") (mVar 0)) (maCons (mA1 (fMakeC 6 0 FI_Bracket_xinitx []) maNil) maNil)))) (mAugFldC g0 0 "place" (mC (.int 1)))
theorem rfc_parts : m_Reader_read_factor = mSeq (mWhile 20000 rfcC rfcB) (mDrop (mMeth 6 "add_factor" 1 F_Bracket_add_factor [] (m2 fIx (m1 (fFld g0 "brackets") (mVar 0)) (m1 fNeg (mC (.int 1)))) (maCons (mMeth 7 "read_plain" 0 F_Reader_read_plain [] (mVar 0) maNil) maNil))) := rfl
abbrev env1 (a : Nat) : Vi.Env := [some (.d (.ref a))]
theorem rfc_while (hl : W.length < 60) : ∀ (ws : List (List Nat)) (p : Nat) (bs : List Br) (N : Nat) (h : Hc), Opn H a b W p bs h → W.drop p = ws → ws.length < N →
    (∃ k h', mWhile N rfcC rfcB (env1 a) h = .exc (env1 a) (bad k) h' ∧ (∃ x, h' = H ++ x) ∧ J .factor [] (bs.length - 1) ws p = k) ∨
    ∃ p' bs' h' w' ws', mWhile N rfcC rfcB (env1 a) h = .nx (env1 a) h' ∧ Opn H a b W p' bs' h' ∧ W.drop p' = w' :: ws' ∧ w' ≠ kNot ∧ w' ≠ kOp ∧ p ≤ p' ∧ J .factor [] (bs.length - 1) ws p = J .factor [] (bs'.length - 1) (w' :: ws') p'
  | ws, p, bs, 0, h, s, e, hN => by omega
  | [], p, bs, N + 1, h, s, e, hN => by
    obtain ⟨hp, c, cs, x, xs, Y, S, _, s, _⟩ := s
    left
    refine ⟨p + 1, h, ?_, s.base, J_nil (by decide) (by decide)⟩
    rw [mWhile_succ]
    have : rfcC (env1 a) h = .exc (bad (p + 1)) h := by
      unfold rfcC asB
      rw [m2, met0X (m := "now") s.ins rfl rfl (v_nowX s (drop_nil e hp))]
      rfl
    rw [this]
    rfl
  | w :: ws, p, bs, N + 1, h, s0, e, hN => by
    obtain ⟨hp, c, cs, x, xs, Y, S, rfl, s, ho, hb, ht⟩ := id s0
    rw [List.length_cons] at hN
    have lw := drop_lt e
    have en := met0 (m := "now") (mo := mVar 0) (env := env1 a) s.ins rfl rfl (v_now s e)
    have cc : rfcC (env1 a) h = .ok (decide (w = kNot ∨ w = kOp)) h := by
      refine asB_of ((m2_of (y := .d (.tup ((["not", "("] : List PySem.Str).map D.str))) (h2 := h) en rfl).trans ((in_txt (cS w) false h _ ["not", "("] rfl (fun z e => by cases e)).trans ?_))
      rw [mem2]
      rfl
    have c1 : asB (m2 (fEq false) (mMeth 7 "now" 0 F_Reader_now [] (mVar 0) maNil) (mC (.str "not"))) (env1 a) h = .ok (decide (w = kNot)) h := by
      refine asB_of ((m2_of (y := .d (.str "not")) (h2 := h) en rfl).trans ((eq_txt false _ _ h).trans ?_))
      exact congrArg (fun b => R.ok (Vl.d (.bl b)) h) (w_eq w "not")
    have go : ∀ {h2 bs2}, rfcB (env1 a) h = .nx (env1 a) h2 → Opn H a b W (p + 1) bs2 h2 → (w = kNot ∨ w = kOp) → J .factor [] ((x :: xs).length - 1) (w :: ws) p = J .factor [] (bs2.length - 1) ws (p + 1) →
        (∃ k h', mWhile (N + 1) rfcC rfcB (env1 a) h = .exc (env1 a) (bad k) h' ∧ (∃ x, h' = H ++ x) ∧ J .factor [] ((x :: xs).length - 1) (w :: ws) p = k) ∨
        ∃ p' bs' h' w' ws', mWhile (N + 1) rfcC rfcB (env1 a) h = .nx (env1 a) h' ∧ Opn H a b W p' bs' h' ∧ W.drop p' = w' :: ws' ∧ w' ≠ kNot ∧ w' ≠ kOp ∧ p ≤ p' ∧ J .factor [] ((x :: xs).length - 1) (w :: ws) p = J .factor [] (bs'.length - 1) (w' :: ws') p' := fun {h2 bs2} eb s2 hw ej => by
      have st : mWhile (N + 1) rfcC rfcB (env1 a) h = mWhile N rfcC rfcB (env1 a) h2 := by
        rw [mWhile_succ, cc, decide_eq_true hw]
        show ((rfcB (env1 a) h).again (mWhile N rfcC rfcB)) = _
        rw [eb]
        rfl
      rw [st, ej]
      rcases rfc_while hl ws (p + 1) bs2 N h2 s2 (drop_s e) (by omega) with q | ⟨p', bs', h', w', ws', q1, q2, q3, q4, q5, q6, q7⟩
      · exact .inl q
      · exact .inr ⟨p', bs', h', w', ws', q1, q2, q3, q4, q5, by omega, q7⟩
    by_cases h1 : w = kNot
    · rw [decide_eq_true h1] at c1
      have s2 := (s.top ⟨x.t, x.f, x.n + 1⟩)
      have a1 : mAugFldE g0 (m2 fIx (m1 (fFld g0 "brackets") (mVar 0)) (m1 fNeg (mC (.int 1)))) "nots" (mC (.int 1)) (env1 a) h = .nx (env1 a) (h.set c (insB ⟨x.t, x.f, x.n + 1⟩)) :=
        augE_at (f := "nots") (v := (x.n : Nat)) (s.last rfl) s.frs.1 (by decide +kernel) rfl (by show 3 < 1000; decide)
      refine go (bs2 := ⟨x.t, x.f, x.n + 1⟩ :: xs) ((seq_nx ((if_t c1).trans a1)).trans (s2.inc rfl)) ⟨by omega, c, cs, _, xs, Y, S ++ [kNot], rfl, s2.go (p + 1), ho, hb.not, by rw [take_s e, ht, h1, List.append_assoc]⟩ (.inl h1) (by rw [h1]; exact J_not)
    · by_cases h2 : w = kOp
      · rw [decide_eq_false h1] at c1
        have lb : (x :: xs).length < 100000 := by
          have := ho.len
          have q := congrArg List.length ht
          rw [List.length_take, List.length_append] at q
          rw [List.length_cons]
          omega
        have s2 := s.push
        refine go (bs2 := ⟨.non, .non, 0⟩ :: x :: xs) ((seq_nx ((if_f c1).trans (s.pushM rfl lb))).trans (s2.inc rfl)) ⟨by omega, _, c :: cs, _, x :: xs, Y ++ S ++ [kOp], [], rfl, s2.go (p + 1), .cons ho hb, .new, by rw [take_s e, ht, h2, List.append_nil]⟩ (.inr h2) (by rw [h2]; exact J_op)
      · right
        refine ⟨p, x :: xs, h, w, ws, ?_, s0, e, h1, h2, Nat.le_refl _, rfl⟩
        rw [mWhile_succ, cc, decide_eq_false (fun z => z.elim h1 h2)]
        rfl
inductive FacO (H : Hc) (a b : Nat) (W : List (List Nat)) (d : Nat) (p : Nat) : R D → Prop
  | bad (k : Nat) (h' : Hc) : (∃ x, h' = H ++ x) → J .factor [] d (W.drop p) p = k → FacO H a b W d p (.exc (bad k) h')
  | good (p' : Nat) (bs' : List Br) (h' : Hc) : Cls H a b W p' bs' h' → p < p' → J .factor [] d (W.drop p) p = J .joint [] (bs'.length - 1) (W.drop p') p' → FacO H a b W d p (.ok .non h')
theorem FacO.of {d p : Nat} {r r' : R D} (e : r = r') (q : FacO H a b W d p r') : FacO H a b W d p r := e ▸ q
theorem v_factor (hW : ∀ x ∈ W, x.length < 1000) (hl : W.length < 60) {p : Nat} {bs : List Br} {h : Hc} (s : Opn H a b W p bs h) : FacO H a b W (bs.length - 1) p (F_Reader_read_factor [.ref a] h) := by
  have fin : ∀ {r : RS}, m_Reader_read_factor (env1 a) h = r → F_Reader_read_factor [.ref a] h = r.fin := fun e => (fnOf_eq 1 1 _ _ _ rfl).trans (congrArg RS.fin e)
  rw [rfc_parts] at fin
  have ln : (W.drop p).length < 20000 := by rw [List.length_drop]; omega
  rcases rfc_while hl (W.drop p) p bs 20000 h s rfl ln with ⟨k, h', q1, q2, q3⟩ | ⟨p', bs', h', w', ws', q1, q2, q3, q4, q5, q6, q7⟩
  · exact FacO.of (fin (seq_exc q1)) (.bad k h' q2 q3)
  · obtain ⟨hp, c, cs, x, xs, Y, S, rfl, st, ho, hb, ht⟩ := q2
    have pl := v_plain st hW hl q3 q4 q5
    generalize hr : F_Reader_read_plain [.ref a] h' = r at pl
    cases pl with
    | bad k g g1 g2 =>
      refine FacO.of (fin ((seq_nx q1).trans (drop_ex (metX (m := "add_factor") st.frs.1 rfl (st.last rfl) (ma_consX (met0X (m := "read_plain") st.ins rfl rfl hr)))))) (.bad k g g1 (q7.trans (g2 _)))
    | good wa ws2 t g g1 g2 g3 g4 =>
      have lS : S.length < 60 := by
        have q := congrArg List.length ht
        rw [List.length_take, List.length_append] at q
        omega
      have ad := v_addf (q := t) g3.frs.1 (by obtain ⟨tw, fw, _, _, z⟩ := hb; exact z.nt) (by have := hb.n_le; omega)
      have st2 := g3.top ⟨x.t, addF x.f (notN x.n t), 0⟩
      have hlen : 0 < wa.length := (P.at g2).pos
      rw [g1] at q3
      have lw : p' + wa.length ≤ W.length := by
        have := congrArg List.length q3
        rw [List.length_drop, List.length_append] at this
        omega
      refine FacO.of (fin ((seq_nx q1).trans (drop_of (met1 (m := "add_factor") (mo := m2 fIx (m1 (fFld g0 "brackets") (mVar 0)) (m1 fNeg (mC (.int 1)))) (env := env1 a) st.frs.1 rfl (st.last rfl) (met0 (m := "read_plain") st.ins rfl rfl hr) ad)))) (.good (p' + wa.length) (⟨x.t, addF x.f (notN x.n t), 0⟩ :: xs) _ ⟨lw, c, cs, _, xs, Y, S ++ wa, rfl, st2, ho, hb.add (.at g2), by rw [take_n q3, ht, List.append_assoc]⟩ (by omega) ?_)
      rw [drop_n q3]
      exact q7.trans (g4 _)
end
end G38
namespace G38
open PySem L2 Vi
theorem metB0 {env : Vi.Env} {h h1 h2 : Hc} {c k : Nat} {fs : List (PySem.Str × D)} {m : PySem.Str} {F : Fn} {mo : ME} {d : D} (hc : h1[c]? = some (.ins k fs)) (hm : fs.lookup m = none) (eo : mo env h = .ok (.d (.ref c)) h1) (ef : F [.ref c] h1 = .ok d h2) : mMeth k m 0 F [] mo maNil env h = .ok (.d d) h2 := by
  unfold mMeth
  rw [eo, R.bind_ok]
  have e1 : ins? k (.d (.ref c)) h1 = some fs := by
    show (match h1[c]? with
      | some (.ins c' fs) => if c' = k then some fs else none
      | _ => none) = _
    rw [hc]
    exact if_pos rfl
  rw [e1]
  dsimp only
  rw [hm, if_pos (show (none : Option D).isNone = true from rfl), ma_nil, R.bind_ok]
  show ((F [.ref c] h1).bind fun d h' => R.ok (Vl.d d) h') = _
  rw [ef]
  rfl
theorem J_close {ws : List (List Nat)} {d i : Nat} : J .joint [] (d + 1) (kCl :: ws) i = J .joint [] d ws (i + 1) := by
  have : jnt kCl (d + 1) = some .joint := by
    unfold jnt
    rw [if_neg (by decide +kernel), if_pos ⟨rfl, by omega⟩]
  rw [J, nx, this]
  rfl
theorem J_more {w : List Nat} {ws : List (List Nat)} {d i : Nat} (hw : w = kAnd ∨ w = kOr) : J .joint [] d (w :: ws) i = J .factor [] d ws (i + 1) := by
  have : jnt w d = some .factor := by
    unfold jnt
    rw [if_pos hw]
  have e : dep d w = d := by
    rcases hw with rfl | rfl
    · unfold dep
      rw [if_neg (by decide +kernel), if_neg (by decide +kernel)]
      omega
    · unfold dep
      rw [if_neg (by decide +kernel), if_neg (by decide +kernel)]
      omega
  rw [J, nx, this]
  dsimp only
  rw [e]
  rfl
theorem J_less {w : List Nat} {ws : List (List Nat)} {d i : Nat} (hw : ¬ (w = kAnd ∨ w = kOr)) (hc : w = kCl → d = 0) : J .joint [] d (w :: ws) i = i + 1 := by
  have : jnt w d = none := by
    unfold jnt
    rw [if_neg hw, if_neg (fun z => by have := hc z.1; omega)]
  rw [J, nx, this]
section
variable {H : Hc} {a b : Nat} {W : List (List Nat)}
abbrev env2 (a : Nat) (z : Option Sl) : Vi.Env := [some (.d (.ref a)), z]
def rclC : MB := (tAndM (tNotM (asB (mMeth 7 "is_at_end" 0 F_Reader_is_at_end [] (mVar 0) maNil))) (tAndM (asB (m2 (fEq false) (mMeth 7 "now" 0 F_Reader_now [] (mVar 0) maNil) (mC (.str ")")))) (asB (m2 fGt (mA1 fLen (maCons (m1 (fFld g0 "brackets") (mVar 0)) maNil)) (mC (.int 1))))))
def rclB : MS := (mSeq (mSet 1 (mMeth 6 "whole" 0 F_Bracket_whole [] (mMetM lmPop (m1 (fFld g0 "brackets") (mVar 0)) maNil) maNil)) (mSeq (mDrop (mMeth 6 "add_factor" 1 F_Bracket_add_factor [] (m2 fIx (m1 (fFld g0 "brackets") (mVar 0)) (m1 fNeg (mC (.int 1)))) (maCons (mVar 1) maNil))) (mAugFldC g0 0 "place" (mC (.int 1)))))
theorem rcl_parts : m_Reader_read_closing = mWhile 20000 rclC rclB := rfl
def Done (W : List (List Nat)) (p : Nat) (bs : List Br) : Prop := ∀ w r, W.drop p = w :: r → w = kCl → bs.length = 1
theorem rcl_while (hl : W.length < 60) : ∀ (ws : List (List Nat)) (p : Nat) (bs : List Br) (N : Nat) (h : Hc) (z : Option Sl), Cls H a b W p bs h → W.drop p = ws → ws.length < N →
    ∃ p' bs' h' z', mWhile N rclC rclB (env2 a z) h = .nx (env2 a z') h' ∧ Cls H a b W p' bs' h' ∧ p ≤ p' ∧ Done W p' bs' ∧ J .joint [] (bs.length - 1) ws p = J .joint [] (bs'.length - 1) (W.drop p') p'
  | ws, p, bs, 0, h, z, s, e, hN => by omega
  | ws, p, bs, N + 1, h, z, s0, e, hN => by
    obtain ⟨hp, c, cs, x, xs, Y, S, rfl, s, ho, hb, ht⟩ := id s0
    have stop : rclC (env2 a z) h = .ok false h → Done W p (x :: xs) → ∃ p' bs' h' z', mWhile (N + 1) rclC rclB (env2 a z) h = .nx (env2 a z') h' ∧ Cls H a b W p' bs' h' ∧ p ≤ p' ∧ Done W p' bs' ∧ J .joint [] ((x :: xs).length - 1) ws p = J .joint [] (bs'.length - 1) (W.drop p') p' := fun ec hd => by
      refine ⟨p, x :: xs, h, z, ?_, s0, Nat.le_refl _, hd, by rw [e]⟩
      rw [mWhile_succ, ec]
      rfl
    have c1 := not_b (asB_of (met0 (m := "is_at_end") (mo := mVar 0) (env := env2 a z) s.ins rfl rfl (v_end s)))
    cases ws with
    | nil =>
      rw [decide_eq_true (drop_nil e hp)] at c1
      exact stop (and_ff c1) (fun w r q => by rw [e] at q; cases q)
    | cons w rs =>
      rw [List.length_cons] at hN
      have lw := drop_lt e
      rw [decide_eq_false (by omega)] at c1
      have c2 : asB (m2 (fEq false) (mMeth 7 "now" 0 F_Reader_now [] (mVar 0) maNil) (mC (.str ")"))) (env2 a z) h = .ok (decide (w = kCl)) h := by
        refine asB_of ((m2_of (y := .d (.str ")")) (h2 := h) (met0 (m := "now") s.ins rfl rfl (v_now s e)) rfl).trans ((eq_txt false _ _ h).trans ?_))
        exact congrArg (fun b => R.ok (Vl.d (.bl b)) h) (w_eq w ")")
      have c3 := s.many (env := env2 a z) (i := 0) rfl
      by_cases hc : w = kCl
      · rw [decide_eq_true hc] at c2
        cases xs with
        | nil =>
          exact stop ((and_tt c1).trans ((and_tt c2).trans c3)) (fun _ _ _ _ => rfl)
        | cons y ys =>
          cases cs with
          | nil => exact s.frs.2.elim
          | cons c2' cs =>
            cases ho with
            | @cons _ _ Y' S' ho hy =>
              rw [decide_eq_true (by simp only [List.length_cons]; omega)] at c3
              have d1 := s.drop
              have hcc : (h.set b (Cell.lst ((c2' :: cs).reverse.map D.ref)))[c]? = some (insB x) := by
                rw [List.getElem?_set_ne (fun e : b = c => s.nb (e ▸ List.mem_cons_self ..))]
                exact s.frs.1
              have s1 : mSet 1 (mMeth 6 "whole" 0 F_Bracket_whole [] (mMetM lmPop (m1 (fFld g0 "brackets") (mVar 0)) maNil) maNil) (env2 a z) h = .nx (env2 a (some (.d (whD x)))) (h.set b (Cell.lst ((c2' :: cs).reverse.map D.ref))) := set_d (metB0 (m := "whole") hcc rfl (s.popM rfl) (v_whole hcc hb.nt))
              generalize h.set b (Cell.lst ((c2' :: cs).reverse.map D.ref)) = g at s1 d1
              have lS : S'.length < 60 := by
                have q := congrArg List.length ht
                rw [List.length_take, List.length_append, List.length_append, List.length_append] at q
                omega
              have ad := v_addf (q := whD x) d1.frs.1 (by obtain ⟨tw, fw, _, _, z⟩ := hy; exact z.nt) (by have := hy.n_le; omega)
              have s2 := drop_of (met1 (m := "add_factor") (mo := m2 fIx (m1 (fFld g0 "brackets") (mVar 0)) (m1 fNeg (mC (.int 1)))) (me := mVar 1) (env := env2 a (some (.d (whD x)))) d1.frs.1 rfl (d1.last rfl) rfl ad)
              have d2 := d1.top ⟨y.t, addF y.f (notN y.n (whD x)), 0⟩
              generalize g.set c2' (insB ⟨y.t, addF y.f (notN y.n (whD x)), 0⟩) = g2 at s2 d2
              have d3 := d2.go (p + 1)
              have eb : rclB (env2 a z) h = .nx (env2 a (some (.d (whD x)))) (g2.set a (insR W (p + 1) b)) := (seq_nx s1).trans ((seq_nx s2).trans (d2.inc rfl))
              have cl : Cls H a b W (p + 1) (⟨y.t, addF y.f (notN y.n (whD x)), 0⟩ :: ys) (g2.set a (insR W (p + 1) b)) := ⟨by omega, c2', cs, _, ys, Y', S' ++ (kOp :: (S ++ [kCl])), rfl, d3, ho, hy.add (.par hb.whole), by rw [take_s e, ht, hc]; simp only [List.append_assoc, List.singleton_append, List.cons_append, List.nil_append]⟩
              obtain ⟨p', bs', h', z', q1, q2, q3, q4, q5⟩ := rcl_while hl rs (p + 1) _ N _ (some (.d (whD x))) cl (drop_s e) (by omega)
              refine ⟨p', bs', h', z', ?_, q2, by omega, q4, ?_⟩
              · rw [mWhile_succ, show rclC (env2 a z) h = .ok true h from (and_tt c1).trans ((and_tt c2).trans c3)]
                show ((rclB (env2 a z) h).again (mWhile N rclC rclB)) = _
                rw [eb]
                exact q1
              · rw [hc]
                exact J_close.trans q5
      · rw [decide_eq_false hc] at c2
        exact stop ((and_tt c1).trans (and_ff c2)) (fun w' r q hk => by rw [e] at q; cases q; exact absurd hk hc)
theorem v_closing (hl : W.length < 60) {p : Nat} {bs : List Br} {h : Hc} (s : Cls H a b W p bs h) :
    ∃ p' bs' h', F_Reader_read_closing [.ref a] h = .ok .non h' ∧ Cls H a b W p' bs' h' ∧ p ≤ p' ∧ Done W p' bs' ∧ J .joint [] (bs.length - 1) (W.drop p) p = J .joint [] (bs'.length - 1) (W.drop p') p' := by
  obtain ⟨p', bs', h', z', q1, q2⟩ := rcl_while hl (W.drop p) p bs 20000 h none s rfl (by rw [List.length_drop]; omega)
  exact ⟨p', bs', h', (fnOf_eq 2 1 _ _ _ rfl).trans (congrArg RS.fin (rcl_parts ▸ q1)), q2⟩
def raC : MB := (tNotM (asB (mMeth 7 "is_at_end" 0 F_Reader_is_at_end [] (mVar 0) maNil)))
def raB1 : MS := (mSeq (mDrop (mMeth 7 "read_factor" 0 F_Reader_read_factor [] (mVar 0) maNil)) (mDrop (mMeth 7 "read_closing" 0 F_Reader_read_closing [] (mVar 0) maNil)))
def raB : MS := (mSeq (mSet 1 (mMeth 7 "now" 0 F_Reader_now [] (mVar 0) maNil)) (mSeq (mDrop (mMeth 7 "expect" 1 F_Reader_expect [] (mVar 0) (maCons (m2 (fIn false) (mVar 1) (mA1 fTup (maCons (mC (.str "and")) (maCons (mC (.str "or")) maNil)))) maNil))) (mSeq (mIfS (asB (m2 (fEq false) (mVar 1) (mC (.str "or")))) (mDrop (mMeth 6 "end_term" 0 F_Bracket_end_term [] (m2 fIx (m1 (fFld g0 "brackets") (mVar 0)) (m1 fNeg (mC (.int 1)))) maNil)) mSkip) raB1)))
def raT : MS := (mSeq (mIfS (asB (m2 fGt (mA1 fLen (maCons (m1 (fFld g0 "brackets") (mVar 0)) maNil)) (mC (.int 1)))) (mRaise 2 1 (mkE "word" "class_name" "BadClaim") (maCons (m2 (fAdd false) (m1 (fFld g0 "place") (mVar 0)) (mC (.int 1))) maNil)) mSkip) (mRet (mMeth 6 "whole" 0 F_Bracket_whole [] (m2 fIx (m1 (fFld g0 "brackets") (mVar 0)) (mC (.int 0))) maNil)))
theorem ra_parts : m_Reader_read_all = mSeq (mDrop (mMeth 7 "read_factor" 0 F_Reader_read_factor [] (mVar 0) maNil)) (mSeq (mDrop (mMeth 7 "read_closing" 0 F_Reader_read_closing [] (mVar 0) maNil)) (mSeq (mWhile 20000 raC raB) raT)) := rfl
theorem ra_one (hW : ∀ x ∈ W, x.length < 1000) (hl : W.length < 60) {p : Nat} {bs : List Br} {h : Hc} {z : Option Sl} (s : Opn H a b W p bs h) :
    (∃ k h', F_Reader_read_factor [.ref a] h = .exc (bad k) h' ∧ (∃ x, h' = H ++ x) ∧ J .factor [] (bs.length - 1) (W.drop p) p = k) ∨
    ∃ p' bs' h1 h', F_Reader_read_factor [.ref a] h = .ok .non h1 ∧ F_Reader_read_closing [.ref a] h1 = .ok .non h' ∧ (∃ p1 bs1, Cls H a b W p1 bs1 h1) ∧ Cls H a b W p' bs' h' ∧ p < p' ∧ Done W p' bs' ∧ J .factor [] (bs.length - 1) (W.drop p) p = J .joint [] (bs'.length - 1) (W.drop p') p' := by
  have f := v_factor hW hl s
  generalize hr : F_Reader_read_factor [.ref a] h = r at f
  cases f with
  | bad k h' g1 g2 => exact .inl ⟨k, h', rfl, g1, g2⟩
  | good p1 bs1 h1 g1 g2 g3 =>
    obtain ⟨p', bs', h', q1, q2, q3, q4, q5⟩ := v_closing hl g1
    exact .inr ⟨p', bs', h1, h', rfl, q1, ⟨p1, bs1, g1⟩, q2, by omega, q4, g3.trans q5⟩
theorem ra_while (hW : ∀ x ∈ W, x.length < 1000) (hl : W.length < 60) : ∀ (N p : Nat) (bs : List Br) (h : Hc) (z : Option Sl), Cls H a b W p bs h → Done W p bs → W.length - p < N →
    (∃ k h' e', mWhile N raC raB (env2 a z) h = .exc e' (bad k) h' ∧ (∃ x, h' = H ++ x) ∧ J .joint [] (bs.length - 1) (W.drop p) p = k) ∨
    ∃ bs' h' z', mWhile N raC raB (env2 a z) h = .nx (env2 a z') h' ∧ Cls H a b W W.length bs' h' ∧ J .joint [] (bs.length - 1) (W.drop p) p = J .joint [] (bs'.length - 1) [] W.length
  | 0, p, bs, h, z, s, hd, hN => by omega
  | N + 1, p, bs, h, z, s0, hd, hN => by
    obtain ⟨hp, c, cs, x, xs, Y, S, rfl, s, ho, hb, ht⟩ := id s0
    have c1 := not_b (asB_of (met0 (m := "is_at_end") (mo := mVar 0) (env := env2 a z) s.ins rfl rfl (v_end s)))
    cases e : W.drop p with
    | nil =>
      have ep := drop_nil e hp
      subst ep
      rw [decide_eq_true rfl] at c1
      refine .inr ⟨x :: xs, h, z, ?_, s0, rfl⟩
      rw [mWhile_succ, show raC (env2 a z) h = .ok false h from c1]
      rfl
    | cons w ws =>
      have lw := drop_lt e
      rw [decide_eq_false (by omega)] at c1
      have st : ∀ {r}, (raB (env2 a z) h).again (mWhile N raC raB) = r → mWhile (N + 1) raC raB (env2 a z) h = r := fun {r} er => by
        rw [mWhile_succ, show raC (env2 a z) h = .ok true h from c1]
        exact er
      have s1 : mSet 1 (mMeth 7 "now" 0 F_Reader_now [] (mVar 0) maNil) (env2 a z) h = .nx (env2 a (some (.d (wD w)))) h := set_d (met0 (m := "now") s.ins rfl rfl (v_now s e))
      have c2 : m2 (fIn false) (mVar 1) (mA1 fTup (maCons (mC (.str "and")) (maCons (mC (.str "or")) maNil))) (env2 a (some (.d (wD w)))) h = .ok (.d (.bl (decide (w = kAnd ∨ w = kOr)))) h := (in_tup (xs := ["and", "or"]) rfl rfl).trans (by rw [mem2])
      by_cases hj : w = kAnd ∨ w = kOr
      · rw [decide_eq_true hj] at c2
        have s2 := drop_of (met1 (m := "expect") (mo := mVar 0) (env := env2 a (some (.d (wD w)))) s.ins rfl rfl c2 (v_expT s))
        have d1 := s.go (p + 1)
        generalize h.set a (insR W (p + 1) b) = g at s2 d1
        have c3 : ∀ g, asB (m2 (fEq false) (mVar 1) (mC (.str "or"))) (env2 a (some (.d (wD w)))) g = .ok (decide (w = kOr)) g := fun g => by
          refine asB_of ((m2_of (x := .d (wD w)) (y := .d (.str "or")) (h1 := g) (h2 := g) rfl rfl).trans ((eq_txt false _ _ g).trans ?_))
          exact congrArg (fun b => R.ok (Vl.d (.bl b)) g) (w_eq w "or")
        have s3 : ∃ x' g2, mIfS (asB (m2 (fEq false) (mVar 1) (mC (.str "or")))) (mDrop (mMeth 6 "end_term" 0 F_Bracket_end_term [] (m2 fIx (m1 (fFld g0 "brackets") (mVar 0)) (m1 fNeg (mC (.int 1)))) maNil)) mSkip (env2 a (some (.d (wD w)))) g = .nx (env2 a (some (.d (wD w)))) g2 ∧ Opn H a b W (p + 1) (x' :: xs) g2 := by
          by_cases hr : w = kOr
          · have c3 := c3 g
            rw [decide_eq_true hr] at c3
            refine ⟨⟨whD x, .non, x.n⟩, _, (if_t c3).trans (drop_of (met0 (m := "end_term") d1.frs.1 rfl (d1.last rfl) (v_endterm d1.frs.1 hb.nt))), by omega, c, cs, _, xs, Y, S ++ [kOr], rfl, d1.top _, ho, hb.or, by rw [take_s e, ht, hr, List.append_assoc]⟩
          · have c3 := c3 g
            rw [decide_eq_false hr] at c3
            have hA : w = kAnd := hj.resolve_right hr
            exact ⟨x, g, if_skip c3, by omega, c, cs, _, xs, Y, S ++ [kAnd], rfl, d1, ho, hb.and, by rw [take_s e, ht, hA, List.append_assoc]⟩
        obtain ⟨x', g2, s3, op⟩ := s3
        have jm : J .joint [] ((x :: xs).length - 1) (w :: ws) p = J .factor [] ((x' :: xs).length - 1) (W.drop (p + 1)) (p + 1) := by rw [drop_s e]; exact J_more hj
        obtain ⟨_, _, _, _, _, _, _, _, so, _⟩ := id op
        rcases ra_one (z := none) hW hl op with ⟨k, h', q1, q2, q3⟩ | ⟨p', bs', h1, h', q1, q2, ⟨p1, bs1, k1⟩, q3, q4, q5, q6⟩
        · refine .inl ⟨k, h', env2 a (some (.d (wD w))), st ?_, q2, jm.trans q3⟩
          rw [show raB (env2 a z) h = .exc (env2 a (some (.d (wD w)))) (bad k) h' from (seq_nx s1).trans ((seq_nx s2).trans ((seq_nx s3).trans (seq_exc (drop_ex (met0X (m := "read_factor") so.ins rfl rfl q1)))))]
          rfl
        · obtain ⟨_, _, _, _, _, _, _, _, so1, _⟩ := k1
          have eb : raB (env2 a z) h = .nx (env2 a (some (.d (wD w)))) h' := (seq_nx s1).trans ((seq_nx s2).trans ((seq_nx s3).trans ((seq_nx (drop_of (met0 (m := "read_factor") so.ins rfl rfl q1))).trans (drop_of (met0 (m := "read_closing") so1.ins rfl rfl q2)))))
          rcases ra_while hW hl N p' bs' h' (some (.d (wD w))) q3 q5 (by omega) with ⟨k, h'', e', r1, r2, r3⟩ | ⟨bs'', h'', z'', r1, r2, r3⟩
          · exact .inl ⟨k, h'', e', st (by rw [eb]; exact r1), r2, (jm.trans q6).trans r3⟩
          · exact .inr ⟨bs'', h'', z'', st (by rw [eb]; exact r1), r2, (jm.trans q6).trans r3⟩
      · rw [decide_eq_false hj] at c2
        refine .inl ⟨p + 1, h, env2 a (some (.d (wD w))), st ?_, s.base, J_less hj fun hk => by have := hd w ws e hk; rw [this]⟩
        rw [show raB (env2 a z) h = .exc (env2 a (some (.d (wD w)))) (bad (p + 1)) h from (seq_nx s1).trans (seq_exc (drop_ex (met1X (m := "expect") s.ins rfl rfl c2 (v_expF s))))]
        rfl
inductive AllO (H : Hc) (W : List (List Nat)) (j : Nat) : R D → Prop
  | bad (k : Nat) (h' : Hc) : (∃ x, h' = H ++ x) → j = k → AllO H W j (.exc (bad k) h')
  | good (t : D) (h' : Hc) : (∃ x, h' = H ++ x) → P 2 W t → j = 0 → AllO H W j (.ok t h')
theorem AllO.of {j : Nat} {r r' : R D} (e : r = r') (q : AllO H W j r') : AllO H W j r := e ▸ q
theorem v_all (hW : ∀ x ∈ W, x.length < 1000) (hl : W.length < 60) {x0 : Br} {h : Hc} (op : Opn H a b W 0 [x0] h) : AllO H W (J .factor [] 0 W 0) (F_Reader_read_all [.ref a] h) := by
  have fin : ∀ {r : RS}, m_Reader_read_all (env2 a none) h = r → F_Reader_read_all [.ref a] h = r.fin := fun e => (fnOf_eq 2 1 _ _ _ rfl).trans (congrArg RS.fin e)
  rw [ra_parts] at fin
  obtain ⟨_, _, _, _, _, _, _, _, so, _⟩ := id op
  rcases ra_one (z := none) hW hl op with ⟨k, h', q1, q2, q3⟩ | ⟨p', bs', h1, h', q1, q2, ⟨p1, bs1, k1⟩, q3, q4, q5, q6⟩
  · exact AllO.of (fin (seq_exc (drop_ex (met0X (m := "read_factor") so.ins rfl rfl q1)))) (.bad k h' q2 q3)
  · obtain ⟨_, _, _, _, _, _, _, _, so1, _⟩ := k1
    have fin2 : ∀ {r : RS}, _ = r → F_Reader_read_all [.ref a] h = r.fin := fun e => fin ((seq_nx (drop_of (met0 (m := "read_factor") so.ins rfl rfl q1))).trans ((seq_nx (drop_of (met0 (m := "read_closing") so1.ins rfl rfl q2))).trans e))
    rcases ra_while hW hl 20000 p' bs' h' none q3 q5 (by omega) with ⟨k, h'', e', r1, r2, r3⟩ | ⟨bs'', h'', z'', r1, r2, r3⟩
    · exact AllO.of (fin2 (seq_exc r1)) (.bad k h'' r2 (q6.trans r3))
    · obtain ⟨hp, c, cs, x, xs, Y, S, rfl, s, ho, hb, ht⟩ := r2
      have cm := s.many (env := env2 a z'') (i := 0) rfl
      cases xs with
      | cons y ys =>
        rw [decide_eq_true (by simp only [List.length_cons]; omega)] at cm
        refine AllO.of (fin2 ((seq_nx r1).trans (seq_exc ((if_t cm).trans (raise_at s rfl))))) (.bad (W.length + 1) h'' s.base ((q6.trans r3).trans ?_))
        rw [J, if_neg (fun z => by have := z.2; simp only [List.length_cons] at this; omega)]
      | nil =>
        cases cs with
        | cons c2 cs => exact s.frs.2.elim
        | nil =>
          cases ho
          rw [List.take_length, List.nil_append] at ht
          rw [show decide (1 < [x].length) = false from rfl] at cm
          refine AllO.of (fin2 ((seq_nx r1).trans ((seq_nx (if_skip cm)).trans (ret_of (met0 (m := "whole") s.frs.1 rfl (s.first rfl) (v_whole s.frs.1 hb.nt)))))) (.good _ h'' s.base (ht ▸ hb.whole) ((q6.trans r3).trans ?_))
          rw [J, if_pos ⟨.inl rfl, rfl⟩]
end
end G38
namespace G38
open PySem L2 Vi
theorem nm_len {w : List Nat} (h : nm w = true) : w.length ≤ 8 ∧ ∀ c ∈ w, c ∈ sgnL := by
  unfold nm at h
  simp only [Bool.and_eq_true, decide_eq_true_eq, List.all_eq_true] at h
  exact ⟨h.2.1, h.2.2.2.2⟩
theorem gd_nm {w : List Nat} (h : nm w = true) : Gd (wD w) 8 0 := Gd.word (by show (w.toArray).size ≤ 8; rw [List.size_toArray]; exact (nm_len h).1) (fun c hc => (nm_len h).2 c hc)
theorem gd_const : ∀ q ∈ [cod "free", cod "untouched", cod "least", cod "most", cod "since", cod "until", cod "single", kNot, kAnd, kOr], q.length ≤ 9 ∧ ∀ c ∈ q, c ∈ sgnL := by decide +kernel
theorem gd_q {q : List Nat} (h : q ∈ [cod "free", cod "untouched", cod "least", cod "most", cod "since", cod "until", cod "single", kNot, kAnd, kOr]) : Gd (wD q) 9 0 :=
  Gd.word (by show (q.toArray).size ≤ 9; rw [List.size_toArray]; exact (gd_const q h).1) (fun c hc => (gd_const q h).2 c hc)
theorem bt_low {a b : Nat} (ha : a < 10 ^ 9) (hb : b < 10 ^ 9) : Bt 900 (lowA a b) ∧ Bt 900 (lowB a b) := by
  have h1 : ((a : Int) / gg a b).natAbs ≤ (a : Int).natAbs := Int.natAbs_ediv_le_natAbs _ _
  have h2 : ((b : Int) / gg a b).natAbs ≤ (b : Int).natAbs := Int.natAbs_ediv_le_natAbs _ _
  have p : (10 : Nat) ^ 9 < 2 ^ 900 := by decide +kernel
  have i1 : (a : Int).natAbs = a := rfl
  have i2 : (b : Int).natAbs = b := rfl
  unfold Bt lowA lowB
  constructor
  · split
    · rw [Int.natAbs_neg]; omega
    · omega
  · split
    · rw [Int.natAbs_neg]; omega
    · omega
theorem gd_share {s : List Nat} (h : shareV s ≠ none) : Gd (shareD s) 2 1 := by
  unfold shareV at h
  unfold shareD shareV
  split at h
  · next h47 =>
    rw [if_pos h47]
    cases e1 : num (sl1 s) with
    | none => rw [e1] at h; exact absurd rfl h
    | some a =>
      cases e2 : num (sl2 s) with
      | none => rw [e1, e2] at h; exact absurd rfl h
      | some b =>
        rw [e1, e2] at h
        dsimp only at h ⊢
        split at h
        · next hc =>
          rw [if_pos hc]
          have l := bt_low (num_some e1).2.2.2.2 (num_some e2).2.2.2.2
          exact (Gds.tup (Gds.cons (Gd.int l.1) (Gds.cons (Gd.int l.2) Gds.nil (Nat.le_refl 0)) (Nat.le_refl 0)))
        · exact absurd rfl h
  · exact absurd rfl h
theorem gd_srt {F : List (List Nat)} (h : ∀ x ∈ F, nm x = true) : Gd (srtL F) (9 * F.length) 1 := by
  have p := sortL_perm (lt := kLt) (F.map fun x => (.inr (cS x) : Key))
  have l : (sortL kLt (F.map fun x => (.inr (cS x) : Key))).length = F.length := by rw [p.length_eq, List.length_map]
  refine Gds.tup ?_
  unfold srtK
  have := Gds.all (n := 0) dKey (w := 8) (k := 0) (sortL kLt (F.map fun x => (.inr (cS x) : Key))) fun k hk => by
    obtain ⟨x, hx, rfl⟩ := List.mem_map.mp (p.subset hk)
    exact gd_nm (h x hx)
  rw [l] at this
  exact this
theorem gd_at {w : List (List Nat)} {t : D} (h : At w t) : Gd t (20 * w.length) w.length := by
  cases h with
  | name q n hq hn =>
    have g1 := gd_q (q := q) (by rcases hq with rfl | rfl <;> simp)
    exact (Gds.tup (Gds.cons g1 (Gds.cons (gd_nm hn) Gds.nil (Nat.le_refl 0)) (Nat.le_refl 0))).up (by simp only [List.length_cons, List.length_nil]; omega) (by simp only [List.length_cons, List.length_nil]; omega)
  | share q s F hq hs hF hn hl =>
    have g1 := gd_q (q := q) (by rcases hq with rfl | rfl <;> simp)
    exact (Gds.tup (Gds.cons g1 (Gds.cons (gd_share hs) (Gds.cons (gd_srt hn) Gds.nil (Nat.le_refl 1)) (Nat.le_refl 1)) (by omega : 0 ≤ 1))).up (by simp only [List.length_cons]; omega) (by simp only [List.length_cons]; omega)
  | day q n k hq hn hk =>
    have g1 := gd_q (q := q) (by rcases hq with rfl | rfl <;> simp)
    have p : (10 : Nat) ^ 9 < 2 ^ 900 := by decide +kernel
    have g2 : Gd (.int (k : Nat)) 0 0 := Gd.int (by show ((k : Nat) : Int).natAbs < 2 ^ 900; have : ((k : Nat) : Int).natAbs = k := rfl; omega)
    exact (Gds.tup (Gds.cons g1 (Gds.cons g2 Gds.nil (Nat.le_refl 0)) (Nat.le_refl 0))).up (by simp only [List.length_cons, List.length_nil]; omega) (by simp only [List.length_cons, List.length_nil]; omega)
  | single =>
    exact (Gds.tup (Gds.cons (gd_q (q := cod "single") (by simp)) Gds.nil (Nat.le_refl 0))).up (by simp only [List.length_cons, List.length_nil]; omega) (by simp only [List.length_cons, List.length_nil]; omega)
theorem gd_P {lv : Nat} {w : List (List Nat)} {t : D} (p : P lv w t) : Gd t (20 * w.length) w.length := by
  induction p with
  | «at» h => exact gd_at h
  | @not w t p ih =>
    have := p.pos
    exact (Gds.tup (Gds.cons (gd_q (q := kNot) (by simp)) (Gds.cons ih Gds.nil (Nat.le_refl _)) (by omega))).up (by rw [List.length_cons]; omega) (by rw [List.length_cons]; omega)
  | par p ih => exact ih.up (by rw [List.length_cons, List.length_append]; omega) (by rw [List.length_cons, List.length_append]; omega)
  | tm p ih => exact ih
  | @and w1 w2 t1 t2 p q ih1 ih2 =>
    exact (Gds.tup (k := w1.length + w2.length) (Gds.cons (gd_q (q := kAnd) (by simp)) (Gds.cons ih1 (Gds.cons ih2 Gds.nil (by omega)) (by omega)) (by omega))).up (by rw [List.length_append, List.length_cons]; omega) (by rw [List.length_append, List.length_cons]; omega)
  | ex p ih => exact ih
  | @or w1 w2 t1 t2 p q ih1 ih2 =>
    exact (Gds.tup (k := w1.length + w2.length) (Gds.cons (gd_q (q := kOr) (by simp)) (Gds.cons ih1 (Gds.cons ih2 Gds.nil (by omega)) (by omega)) (by omega))).up (by rw [List.length_append, List.length_cons]; omega) (by rw [List.length_append, List.length_cons]; omega)
theorem txts_map : ∀ W : List (List Nat), txts? (W.map wD) = some (W.map cS)
  | [] => rfl
  | x :: r => by
    show (txts? (r.map wD)).map (cS x :: ·) = _
    rw [txts_map r]
    rfl
theorem len_cS (w : List Nat) : (cS w : PySem.Str).length = w.length := by
  show (w.toArray).size = _
  rw [List.size_toArray]
theorem sum_len {n : Nat} : ∀ W : List (List Nat), (∀ x ∈ W, x.length ≤ n) → ((W.map cS).map (·.length)).sum ≤ W.length * n
  | [], _ => by simp
  | x :: r, h => by
    have := sum_len (n := n) r fun y hy => h y (List.mem_cons_of_mem _ hy)
    have hx := h x (List.mem_cons_self ..)
    rw [List.map_cons, List.map_cons, List.sum_cons, len_cS, List.length_cons, Nat.succ_mul]
    omega
theorem joinL_len {n : Nat} (S : List Nat) : ∀ L : List (List Nat), (∀ x ∈ L, x.length ≤ n) → (TL.joinL S L).length ≤ L.length * (n + S.length)
  | [], _ => by simp [TL.joinL]
  | [p], h => by
    have := h p (List.mem_cons_self ..)
    show p.length ≤ _
    rw [List.length_singleton, Nat.one_mul]
    omega
  | p :: q :: r, h => by
    have h1 := h p (List.mem_cons_self ..)
    have h2 := joinL_len (n := n) S (q :: r) fun y hy => h y (List.mem_cons_of_mem _ hy)
    show (p ++ (S ++ TL.joinL S (q :: r))).length ≤ _
    rw [List.length_append, List.length_append, List.length_cons, Nat.succ_mul]
    omega
abbrev joinW (W : List (List Nat)) : PySem.Str := Txt.join " " (W.map cS)
theorem join_at {W : List (List Nat)} (hW : ∀ x ∈ W, x.length ≤ 60) (hl : W.length < 60) (h : Hc) : fJoin " " (.d (wsD W)) h = .ok (.d (.str (joinW W))) h := by
  have e : (seq? h (.d (wsD W))).bind txts? = some (W.map cS) := txts_map W
  have s := sum_len W hW
  have m : W.length * 60 ≤ 60 * 60 := Nat.mul_le_mul_right _ (by omega)
  unfold fJoin
  rw [e]
  dsimp only
  rw [if_pos (by
    rw [List.length_map, show (" " : PySem.Str).length = 1 from rfl]
    omega)]
def W1 (W : List (List Nat)) : List (List Nat) := if W = [] then [[]] else W
theorem split_at {W : List (List Nat)} (hW : ∀ x ∈ W, WO x) (hl : W.length < 60) (h : Hc) : fSplit false (joinW W) (.d (.str " ")) h = .ok (.d (wsD (W1 W))) h := by
  have el : (joinW W).length ≤ 60 * 61 := by
    have e := TL.join_eq " " (W.map cS)
    rw [joinW, e, TL.len_tl, TL.tl_join, List.map_map]
    have := joinL_len (n := 60) (TL.tl " ") (W.map (TL.tl ∘ cS)) (fun x hx => by
      obtain ⟨y, hy, rfl⟩ := List.mem_map.mp hx
      exact (hW y hy).l)
    rw [List.length_map, show (TL.tl " ").length = 1 from rfl] at this
    exact Nat.le_trans this (Nat.mul_le_mul_right _ (by omega))
  show (if (" " : PySem.Str).length ≠ 0 ∧ (joinW W).length + 2 ≤ sizeLine then R.ok (Vl.ofL false ((Txt.split (joinW W) " ").map D.str)) h else .stuck) = _
  rw [if_pos ⟨by decide +kernel, by rw [sizeLine_eq]; omega⟩]
  have es : Txt.split (joinW W) " " = (W1 W).map cS := by
    unfold W1
    by_cases hw : W = []
    · rw [if_pos hw, hw]
      decide +kernel
    · rw [if_neg hw]
      refine TL.split_join (s := 32) (S := []) (by decide +kernel) (by decide +kernel) (fun e => hw (List.map_eq_nil_iff.mp e)) fun x hx => ?_
      obtain ⟨y, hy, rfl⟩ := List.mem_map.mp hx
      exact (hW y hy).s
  rw [es, List.map_map]
  rfl
theorem J_W1 (W : List (List Nat)) : J .factor [] 0 (W1 W) 0 = J .factor [] 0 W 0 := by
  unfold W1
  by_cases hw : W = []
  · rw [if_pos hw, hw]
    decide +kernel
  · rw [if_neg hw]
theorem metB {env : Vi.Env} {h h1 : Hc} {c k : Nat} {fs : List (PySem.Str × D)} {m : PySem.Str} {F : Fn} {mo : ME} (hc : h1[c]? = some (.ins k fs)) (hm : fs.lookup m = none) (eo : mo env h = .ok (.d (.ref c)) h1) : mMeth k m 0 F [] mo maNil env h = (F [.ref c] h1).bind fun d h' => R.ok (Vl.d d) h' := by
  unfold mMeth
  rw [eo, R.bind_ok]
  have e1 : ins? k (.d (.ref c)) h1 = some fs := by
    show (match h1[c]? with
      | some (.ins c' fs) => if c' = k then some fs else none
      | _ => none) = _
    rw [hc]
    exact if_pos rfl
  rw [e1]
  dsimp only
  rw [hm, if_pos (show (none : Option D).isNone = true from rfl), ma_nil, R.bind_ok]
  rfl
abbrev br0 : Br := ⟨.non, .non, 0⟩
abbrev hpR (W : List (List Nat)) (h : Hc) : Hc := h ++ [insB br0] ++ [Cell.lst [.ref h.length]] ++ [insR W 0 (h ++ [insB br0]).length]
theorem v_make {W : List (List Nat)} {me : ME} {env : Vi.Env} {h : Hc} (e : me env h = .ok (.d (wsD W)) h) : mA1 (fMakeC 7 1 FI_Reader_xinitx []) (maCons me maNil) env h = .ok (.d (.ref (h ++ [insB br0] ++ [Cell.lst [.ref h.length]]).length)) (hpR W h) := by
  rw [mA1_eq, ma_cons e ma_nil]
  rfl
theorem st_made (W : List (List Nat)) (h : Hc) : St h (h ++ [insB br0] ++ [Cell.lst [.ref h.length]]).length (h ++ [insB br0]).length W 0 [h.length] [br0] (hpR W h) := by
  refine ⟨?_, ?_, ⟨?_, trivial⟩, ?_, ⟨[insB br0] ++ [Cell.lst [.ref h.length]] ++ [insR W 0 (h ++ [insB br0]).length], by simp only [List.append_assoc]⟩, ?_⟩
  · rw [List.getElem?_append_right (Nat.le_refl _), Nat.sub_self]
    rfl
  · rw [List.getElem?_append_left (by simp), List.getElem?_append_right (Nat.le_refl _), Nat.sub_self]
    rfl
  · rw [List.getElem?_append_left (by simp), List.getElem?_append_left (by simp), List.getElem?_append_right (Nat.le_refl _), Nat.sub_self]
    rfl
  · simp
  · intro c hc
    simp only [List.mem_cons, List.not_mem_nil, or_false] at hc
    rcases hc with rfl | rfl | rfl <;> simp
theorem v_claim {W : List (List Nat)} (hW : ∀ x ∈ W, WO x) (hl : W.length < 60) (h : Hc) : AllO h W (J .factor [] 0 W 0) (F_read_claim [.str (joinW W)] h) := by
  have h1 : ∀ x ∈ W1 W, x.length < 1000 := by
    intro x hx
    unfold W1 at hx
    split at hx
    · rw [List.mem_singleton.mp hx]
      decide
    · have := (hW x hx).l
      omega
  have h2 : (W1 W).length < 60 := by
    unfold W1
    split
    · decide
    · exact hl
  have op : Opn h (h ++ [insB br0] ++ [Cell.lst [.ref h.length]]).length (h ++ [insB br0]).length (W1 W) 0 [br0] (hpR (W1 W) h) := ⟨Nat.zero_le _, h.length, [], br0, [], [], [], rfl, st_made (W1 W) h, .nil, .new, rfl⟩
  have q := v_all h1 h2 op
  rw [J_W1] at q
  have ec : mStr1 (fSplit false) (mVar 0) (mC (.str " ")) (mkEnv 1 [.str (joinW W)]) h = .ok (.d (wsD (W1 W))) h := split_at hW hl h
  have em := metB (m := "read_all") (F := F_Reader_read_all) (st_made (W1 W) h).ins rfl (v_make ec)
  generalize hr : F_Reader_read_all [.ref (h ++ [insB br0] ++ [Cell.lst [.ref h.length]]).length] (hpR (W1 W) h) = r at q em
  cases q with
  | bad k h' g1 g2 =>
    have ef : F_read_claim [.str (joinW W)] h = .exc (bad k) h' := (fnOf_eq 1 1 _ _ _ rfl).trans (congrArg RS.fin (a₂ := .exc (mkEnv 1 [.str (joinW W)]) (bad k) h') (ret_ex em))
    exact AllO.of ef (.bad k h' g1 g2)
  | good t h' g1 g2 g3 =>
    have ef : F_read_claim [.str (joinW W)] h = .ok t h' := (fnOf_eq 1 1 _ _ _ rfl).trans (congrArg RS.fin (a₂ := .ret t h') (ret_of em))
    refine AllO.of ef (.good t h' g1 ?_ g3)
    by_cases hw : W = []
    · rw [hw] at g3
      exact absurd g3 (by decide +kernel)
    · unfold W1 at g2
      rw [if_neg hw] at g2
      exact g2
end G38
namespace G38
open PySem L2 Vi
def awB : MS := mSet 3 (mA1 (fCallN 1 F_read_claim []) (maCons (mStr1 fJoin (mC (.str " ")) (mVar 0)) maNil))
def awH : MS := (mSeq (mIfS (tOrM (tNotM (asB (mIsX g0 xsB (.own 0) 4))) (tOrM (tNotM (asB (mIsX g0 xsB (.bt "ValueError") 4))) (tNotM (asB (mA1 (fCallN 1 F__law_is_int []) (maCons (mXf xsB xnB "word" 4) maNil)))))) (mRet (mC (.bl false))) mSkip) (mRet (mAnd (m2 (fEq false) (mXf xsB xnB "word" 4) (mVar 1)) (mNot (mIsXs g0 xsB [(.own 4), (.own 5), (.own 1), (.own 3)] 4)))))
def awT : MS := (mSeq (mIfS (tOrM (asB (m2 (fEq true) (mVar 1) (mC (.int 0)))) (tNotM (asB (m1 (fIsi g0 (.bt "tuple")) (mVar 3))))) (mRet (mC (.bl false))) mSkip) (mSeq (mSet 2 (mA1 (fCallN 1 F__law_p5_read []) (maCons (mVar 0) maNil))) (mRet (mAnd (m2 (fEq false) (mVar 3) (mVar 2)) (m2 (fEq false) (mA1 fRepr (maCons (mVar 3) maNil)) (mA1 fRepr (maCons (mVar 2) maNil)))))))
theorem aw_parts : m__law_p5_answered = mSeq (mSet 1 (mA1 (fCallN 1 F__law_p5_judged []) (maCons (mVar 0) maNil))) (mSeq (mTry 4 cat_BadClaim awB awH) awT) := rfl
abbrev envW (W : List (List Nat)) (j : Nat) (a b c : Option Sl) : Vi.Env := [some (.d (wsD W)), some (.d (.int (j : Nat))), a, b, c]
theorem and_v {a b : ME} {env : Vi.Env} {h h1 : Hc} (ea : a env h = .ok (.d (.bl true)) h1) : mAnd a b env h = b env h1 := by
  unfold mAnd
  rw [ea]
  rfl
theorem aw_handler {W : List (List Nat)} {j : Nat} {h : Hc} : awH (envW W j none none (some (.xc 2 [("class_name", .str "BadClaim"), ("word", .int (j : Nat))]))) h = .ret (.bl true) h := by
  generalize he : envW W j none none (some (.xc 2 [("class_name", .str "BadClaim"), ("word", .int (j : Nat))])) = env
  have x1 : asB (mIsX g0 xsB (.own 0) 4) env h = .ok true h := by rw [← he]; rfl
  have x2 : asB (mIsX g0 xsB (.bt "ValueError") 4) env h = .ok true h := by rw [← he]; rfl
  have x3 : mXf xsB xnB "word" 4 env h = .ok (.d (.int (j : Nat))) h := by rw [← he]; rfl
  have x4 : F__law_is_int [.int (j : Nat)] h = .ok (.bl true) h := rfl
  have x5 : mNot (mIsXs g0 xsB [(.own 4), (.own 5), (.own 1), (.own 3)] 4) env h = .ok (.d (.bl true)) h := by rw [← he]; rfl
  have x6 : mVar 1 env h = .ok (.d (.int (j : Nat))) h := by rw [← he]; rfl
  unfold awH
  refine (seq_nx (if_skip (or_bb (not_b x1) (or_bb (not_b x2) (not_b (asB_of (call1 x3 x4))))))).trans (ret_of ?_)
  refine (and_v ((m2_of x3 x6).trans ((eqI false _ _ h).trans ?_))).trans x5
  rw [decide_eq_true rfl]
  rfl
theorem v_answered {W : List (List Nat)} (hW : ∀ x ∈ W, WO x) (hl : W.length ≤ 50) (h : Hc) : ∃ h', (∃ x, h' = h ++ x) ∧ F__law_p5_answered [wsD W] h = .ok (.bl true) h' := by
  have hk : ∀ x ∈ W, x.length < 1000 := fun x hx => by have := (hW x hx).l; omega
  obtain ⟨h1, ⟨x1, rfl⟩, ej⟩ := v_judged hk (by omega) h
  have q := v_claim hW (by omega) (h ++ x1)
  have fin : ∀ {r : RS}, m__law_p5_answered (mkEnv 5 [wsD W]) h = r → F__law_p5_answered [wsD W] h = r.fin := fun e => (fnOf_eq 5 1 _ _ _ rfl).trans (congrArg RS.fin e)
  rw [aw_parts] at fin
  have s1 : mSet 1 (mA1 (fCallN 1 F__law_p5_judged []) (maCons (mVar 0) maNil)) (mkEnv 5 [wsD W]) h = .nx (envW W (J .factor [] 0 W 0) none none none) (h ++ x1) := set_d (call1 (h1 := h) rfl ej)
  have ejn : mStr1 fJoin (mC (.str " ")) (mVar 0) (envW W (J .factor [] 0 W 0) none none none) (h ++ x1) = .ok (.d (.str (joinW W))) (h ++ x1) := join_at (fun x hx => (hW x hx).l) (by omega) (h ++ x1)
  generalize hr : F_read_claim [.str (joinW W)] (h ++ x1) = r at q
  generalize J .factor [] 0 W 0 = j at q s1 ejn
  cases q with
  | bad k h' g1 g2 =>
    subst g2
    obtain ⟨x2, rfl⟩ := g1
    have e3 : mA1 (fCallN 1 F_read_claim []) (maCons (mStr1 fJoin (mC (.str " ")) (mVar 0)) maNil) (envW W j none none none) (h ++ x1) = .exc (bad j) (h ++ x1 ++ x2) := by
      rw [mA1_eq, ma_cons ejn ma_nil]
      show (F_read_claim [.str (joinW W)] (h ++ x1)).bind _ = _
      rw [hr]
      rfl
    have e4 : mTry 4 cat_BadClaim awB awH (envW W j none none none) (h ++ x1) = .ret (.bl true) (h ++ x1 ++ x2) := by
      unfold mTry
      rw [show awB (envW W j none none none) (h ++ x1) = .exc (envW W j none none none) (bad j) (h ++ x1 ++ x2) from set_ex e3]
      show (if noX _ && decide (4 < _) then unX 4 (awH (envW W j none none (some (.xc 2 [("class_name", .str "BadClaim"), ("word", .int (j : Nat))]))) (h ++ x1 ++ x2)) else .stuck) = _
      rw [aw_handler]
      rfl
    exact ⟨h ++ x1 ++ x2, ⟨x1 ++ x2, by rw [List.append_assoc]⟩, fin ((seq_nx s1).trans (seq_ret e4))⟩
  | good t h' g1 g2 g3 =>
    subst g3
    obtain ⟨x2, rfl⟩ := g1
    have e4 : mTry 4 cat_BadClaim awB awH (envW W 0 none none none) (h ++ x1) = .nx (envW W 0 none (some (.d t)) none) (h ++ x1 ++ x2) := by
      unfold mTry
      rw [show awB (envW W 0 none none none) (h ++ x1) = .nx (envW W 0 none (some (.d t)) none) (h ++ x1 ++ x2) from set_d (call1 ejn hr)]
    have gd := gd_P g2
    obtain ⟨ds, ht⟩ := g2.tup
    have sh : Sh t 60 := ⟨gd.t, gd.y, by have := gd.k; omega⟩
    have c1 : tOrM (asB (m2 (fEq true) (mVar 1) (mC (.int 0)))) (tNotM (asB (m1 (fIsi g0 (.bt "tuple")) (mVar 3)))) (envW W 0 none (some (.d t)) none) (h ++ x1 ++ x2) = .ok false (h ++ x1 ++ x2) := by
      rw [ht]
      rfl
    have e5 : mSet 2 (mA1 (fCallN 1 F__law_p5_read []) (maCons (mVar 0) maNil)) (envW W 0 none (some (.d t)) none) (h ++ x1 ++ x2) = .nx (envW W 0 (some (.d t)) (some (.d t)) none) (h ++ x1 ++ x2) := set_d (call1 (h1 := h ++ x1 ++ x2) rfl (v_read g2 (by omega) hk 64 _ (by omega)))
    have r3 : mA1 fRepr (maCons (mVar 3) maNil) (envW W 0 (some (.d t)) (some (.d t)) none) (h ++ x1 ++ x2) = .ok (.d (.str (toP t).shown)) (h ++ x1 ++ x2) := (a1_of (x := .d t) (h1 := h ++ x1 ++ x2) rfl).trans (repr_of gd.t (gd.shw (by omega) (by omega)) _)
    have r2 : mA1 fRepr (maCons (mVar 2) maNil) (envW W 0 (some (.d t)) (some (.d t)) none) (h ++ x1 ++ x2) = .ok (.d (.str (toP t).shown)) (h ++ x1 ++ x2) := (a1_of (x := .d t) (h1 := h ++ x1 ++ x2) rfl).trans (repr_of gd.t (gd.shw (by omega) (by omega)) _)
    have q1 : m2 (fEq false) (mVar 3) (mVar 2) (envW W 0 (some (.d t)) (some (.d t)) none) (h ++ x1 ++ x2) = .ok (.d (.bl true)) (h ++ x1 ++ x2) := by
      refine (m2_of (x := .d t) (y := .d t) (h1 := h ++ x1 ++ x2) (h2 := h ++ x1 ++ x2) rfl rfl).trans ((eq_gen false sh sh (by omega) (by omega) (fun s z => by rw [ht] at z; cases z) _).trans ?_)
      rw [eqD_self sh]
      rfl
    refine ⟨h ++ x1 ++ x2, ⟨x1 ++ x2, by rw [List.append_assoc]⟩, fin (r := .ret (.bl true) (h ++ x1 ++ x2)) ((seq_nx s1).trans ((seq_nx e4).trans ((seq_nx (if_skip c1)).trans ((seq_nx e5).trans (ret_of ?_)))))⟩
    refine (and_v q1).trans ((m2_of r3 r2).trans ((eq_txt false _ _ _).trans ?_))
    rw [decide_eq_true rfl]
    rfl
end G38
namespace G38
open PySem L2 Vi
def WL (k : Nat) (x : List Nat) : Prop := x.length ≤ k ∧ 32 ∉ x
def Wds (n k : Nat) (W : List (List Nat)) : Prop := W.length ≤ n ∧ ∀ x ∈ W, WL k x
theorem Wds.up {n n' k : Nat} {W : List (List Nat)} (h : Wds n k W) (hn : n ≤ n') : Wds n' k W := ⟨Nat.le_trans h.1 hn, h.2⟩
theorem Wds.app {n n' k : Nat} {V W : List (List Nat)} (h : Wds n k V) (g : Wds n' k W) : Wds (n + n') k (V ++ W) := ⟨by rw [List.length_append]; have := h.1; have := g.1; omega, fun x hx => (List.mem_append.mp hx).elim (h.2 x) (g.2 x)⟩
theorem Wds.cons {n k : Nat} {x : List Nat} {W : List (List Nat)} (h : WL k x) (g : Wds n k W) : Wds (n + 1) k (x :: W) := ⟨by rw [List.length_cons]; have := g.1; omega, fun y hy => by
  rcases List.mem_cons.mp hy with rfl | hy
  · exact h
  · exact g.2 y hy⟩
theorem Wds.nil {k : Nat} : Wds 0 k [] := ⟨Nat.le_refl _, fun x hx => by cases hx⟩
theorem wl_c (s : PySem.Str) (h : decide ((cod s).length ≤ 21 ∧ 32 ∉ cod s) = true) : WL 21 (cod s) := of_decide_eq_true (p := (cod s).length ≤ 21 ∧ 32 ∉ cod s) h
abbrev stl (ss : List PySem.Str) : List D := ss.map D.str
theorem stl_ws (ss : List PySem.Str) : stl ss = (ss.map cod).map wD := by
  rw [List.map_map]
  refine List.map_congr_left fun s _ => ?_
  exact (congrArg D.str (cS_tl s)).symm
theorem str_w (s : PySem.Str) : D.str s = wD (cod s) := (congrArg D.str (cS_tl s)).symm
theorem mem_ws {W : List (List Nat)} {d : D} {k n : Nat} (h : d ∈ W.map wD) (g : Wds n k W) : ∃ w, d = wD w ∧ WL k w ∧ w ∈ W := by
  obtain ⟨w, hw, rfl⟩ := List.mem_map.mp h
  exact ⟨w, rfl, g.2 w hw, hw⟩
theorem mem_stl {ss : List PySem.Str} {d : D} (h : d ∈ stl ss) (g : ∀ s ∈ ss, (cod s).length ≤ 21 ∧ 32 ∉ cod s) : ∃ w, d = wD w ∧ WL 21 w := by
  obtain ⟨s, hs, rfl⟩ := List.mem_map.mp h
  exact ⟨cod s, str_w s, g s hs⟩
theorem addW {A B : List (List Nat)} (h : Hc) (hl : A.length + B.length ≤ 1000) : fAdd false (.d (wsD A)) (.d (wsD B)) h = .ok (.d (wsD (A ++ B))) h := by
  show (if (A.map wD).length + (B.map wD).length ≤ 100000 then R.ok (Vl.ofL false (A.map wD ++ B.map wD)) h else .stuck) = _
  rw [if_pos (by rw [List.length_map, List.length_map]; omega), wsD, List.map_append]
  rfl
section
variable {env : Vi.Env} {h h1 h2 : Hc}
theorem addW_of {a b : ME} {A B : List (List Nat)} (ea : a env h = .ok (.d (wsD A)) h1) (eb : b env h1 = .ok (.d (wsD B)) h2) (hl : A.length + B.length ≤ 1000) : m2 (fAdd false) a b env h = .ok (.d (wsD (A ++ B))) h2 :=
  (m2_of ea eb).trans (addW h2 hl)
theorem one_of {a : ME} {w : List Nat} (e : a env h = .ok (.d (wD w)) h1) : mA1 (fLst false) (maCons a maNil) env h = .ok (.d (wsD [w])) h1 := lst_of (ds := [wD w]) (ma_cons e ma_nil) (by simp)
theorem two_of {a b : ME} {v w : List Nat} (e : a env h = .ok (.d (wD v)) h1) (e2 : b env h1 = .ok (.d (wD w)) h2) : mA1 (fLst false) (maCons a (maCons b maNil)) env h = .ok (.d (wsD [v, w])) h2 := lst_of (ds := [wD v, wD w]) (ma_cons e (ma_cons e2 ma_nil)) (by simp)
theorem c_w (s : PySem.Str) : mC (.str s) env h = .ok (.d (wD (cod s))) h := by
  rw [← str_w]
  rfl
end
abbrev smT : MB := asB (m2 (fEq false) (mA1 (fCallN 2 F__law_draw []) (maCons (mVar 0) (maCons (mC (.int 2)) maNil))) (mC (.int 1)))
abbrev envM (r3 : D) (a b : Option Sl) : Vi.Env := [some (.d (.ref 0)), some (.d r3), some (.d (.int 1)), a, b]
theorem some_comp {t : Hc} (r3 : D) : ∀ (xs : List (List Nat)) (acc : List D) (m : Int) (h : Hc), BG t m h → m + xs.length < 2 ^ 50 → acc.length + xs.length < 1000 →
    ∃ (ys : List (List Nat)) (h' : Hc), compL true (gtN 4) smT (mVar 4) (xs.map wD) acc (envM r3 none none) h = .ok (.tl (acc ++ ys.map wD)) h' ∧ BG t (m + xs.length) h' ∧ ys.Sublist xs
  | [], acc, m, h, g, _, _ => ⟨[], h, by show R.ok (Vl.tl acc) h = R.ok (Vl.tl (acc ++ [])) h; rw [List.append_nil], by simpa using g, List.Sublist.refl _⟩
  | x :: xs, acc, m, h, g, hm, hl => by
    simp only [List.length_cons] at hm hl ⊢
    obtain ⟨r, h1, e1, g1, _, _⟩ := draw2 (many := 2) g (by omega) (by omega) (by omega)
    have c : smT (envM r3 none (some (.d (wD x)))) h = .ok (decide (r = 1)) h1 := asB_of ((m2_of (y := .d (.int 1)) (call2 rfl rfl e1) rfl).trans (eqI false _ _ h1))
    have st : compL true (gtN 4) smT (mVar 4) ((x :: xs).map wD) acc (envM r3 none none) h = (match smT (envM r3 none (some (.d (wD x)))) h with
      | .ok b h1 => if b then (match mVar 4 (envM r3 none (some (.d (wD x)))) h1 with
        | .ok (.d y) h2 => if acc.length < 16000000 then compL true (gtN 4) smT (mVar 4) (xs.map wD) (acc ++ [y]) (envM r3 none none) h2 else .stuck
        | _ => .stuck) else compL true (gtN 4) smT (mVar 4) (xs.map wD) acc (envM r3 none none) h1
      | _ => .stuck) := rfl
    by_cases hr : r = 1
    · obtain ⟨ys, h', e, g2, s⟩ := some_comp r3 xs (acc ++ [wD x]) (m + 1) h1 g1 (by omega) (by rw [List.length_append, List.length_singleton]; omega)
      refine ⟨x :: ys, h', ?_, g2.up (by omega), s.cons_cons x⟩
      rw [st, c, decide_eq_true hr]
      show (if acc.length < 16000000 then compL true (gtN 4) smT (mVar 4) (xs.map wD) (acc ++ [wD x]) (envM r3 none none) h1 else .stuck) = _
      rw [if_pos (by omega), e, List.append_assoc]
      rfl
    · obtain ⟨ys, h', e, g2, s⟩ := some_comp r3 xs acc (m + 1) h1 g1 (by omega) (by omega)
      refine ⟨ys, h', ?_, g2.up (by omega), s.cons x⟩
      rw [st, c, decide_eq_false hr]
      exact e
abbrev smB : MS := mIfS (tAndM (asB (m2 fLt (mA1 fLen (maCons (mVar 3) maNil)) (mVar 2))) (asB (m2 (fIn true) (mVar 4) (mVar 3)))) (mAppend 3 (mVar 4)) mSkip
theorem some_for (r3 : D) {k : Nat} {h : Hc} : ∀ (zs ys : List (List Nat)) (n : Nat) (a : Option Sl), Wds n k ys → 1 ≤ n → n ≤ 100 → (∀ x ∈ zs, WL k x) → ∃ ys' a', forL (gtN 4) smB (zs.map wD) (envM r3 (some (.ol (ys.map wD))) a) h = .nx (envM r3 (some (.ol (ys'.map wD))) a') h ∧ Wds n k ys'
  | [], ys, n, a, w, _, _, _ => ⟨ys, a, rfl, w⟩
  | z :: zs, ys, n, a, w, h1, h2, hz => by
    have c1 : asB (m2 fLt (mA1 fLen (maCons (mVar 3) maNil)) (mVar 2)) (envM r3 (some (.ol (ys.map wD))) (some (.d (wD z)))) h = .ok (decide (ys.length < 1)) h := by
      refine asB_of ?_
      show R.ok (Vl.d (.bl (decide (((ys.map wD).length : Int) < 1)))) h = _
      rw [List.length_map]
      refine congrArg (fun b => R.ok (Vl.d (.bl b)) h) ?_
      rw [Bool.eq_iff_iff, decide_eq_true_iff, decide_eq_true_iff]
      omega
    have c2 : asB (m2 (fIn true) (mVar 4) (mVar 3)) (envM r3 (some (.ol (ys.map wD))) (some (.d (wD z)))) h = .ok (!decide (z ∈ ys)) h := by
      refine asB_of ((m2_of (x := .d (wD z)) (y := .bl (ys.map wD)) (h1 := h) (h2 := h) rfl rfl).trans ?_)
      refine (in_txt (cS z) true h (.bl (ys.map wD)) (ys.map cS) (by show some _ = some _; rw [List.map_map]; rfl) (fun z e => by cases e)).trans ?_
      rw [memW]
      rfl
    have cc := and_bb c1 c2
    cases q : (decide (ys.length < 1) && !decide (z ∈ ys)) with
    | false =>
      rw [q] at cc
      obtain ⟨ys', a', e, w'⟩ := some_for r3 (h := h) zs ys n (some (.d (wD z))) w h1 h2 fun x hx => hz x (List.mem_cons_of_mem _ hx)
      exact ⟨ys', a', (for_nx (env1 := envM r3 (some (.ol (ys.map wD))) (some (.d (wD z)))) rfl (if_skip cc)).trans e, w'⟩
    | true =>
      rw [q] at cc
      simp only [Bool.and_eq_true, decide_eq_true_eq] at q
      have w2 : Wds n k (ys ++ [z]) := ⟨by rw [List.length_append, List.length_singleton]; omega, fun x hx => by
        rcases List.mem_append.mp hx with hx | hx
        · exact w.2 x hx
        · rw [List.mem_singleton.mp hx]; exact hz z (List.mem_cons_self ..)⟩
      obtain ⟨ys', a', e, w'⟩ := some_for r3 (h := h) zs (ys ++ [z]) n (some (.d (wD z))) w2 h1 h2 fun x hx => hz x (List.mem_cons_of_mem _ hx)
      have ap : mAppend 3 (mVar 4) (envM r3 (some (.ol (ys.map wD))) (some (.d (wD z)))) h = .nx (envM r3 (some (.ol ((ys ++ [z]).map wD))) (some (.d (wD z)))) h := by
        refine (app_eq (xs := ys.map wD) (d := wD z) rfl rfl (by rw [List.length_map]; omega)).trans ?_
        rw [List.map_append]
        rfl
      exact ⟨ys', a', (for_nx (env1 := envM r3 (some (.ol (ys.map wD))) (some (.d (wD z)))) rfl ((if_t cc).trans ap)).trans e, w'⟩
theorem keys_back {Q : List Nat → Prop} : ∀ L : List Key, (∀ k ∈ L, ∃ x, k = .inr (cS x) ∧ Q x) → ∃ W' : List (List Nat), L.map dKey = W'.map wD ∧ W'.length = L.length ∧ ∀ x ∈ W', Q x
  | [], _ => ⟨[], rfl, rfl, fun x hx => by cases hx⟩
  | k :: L, h => by
    obtain ⟨x, rfl, hx⟩ := h k (List.mem_cons_self ..)
    obtain ⟨W', e, el, hq⟩ := keys_back L fun k hk => h k (List.mem_cons_of_mem _ hk)
    refine ⟨x :: W', by rw [List.map_cons, e]; rfl, by rw [List.length_cons, List.length_cons, el], fun y hy => ?_⟩
    rcases List.mem_cons.mp hy with rfl | hy
    · exact hx
    · exact hq y hy
theorem srt_ws {n k : Nat} {F : List (List Nat)} (w : Wds n k F) : ∃ W', srtK F = W'.map wD ∧ Wds n k W' := by
  have p := sortL_perm (lt := kLt) (F.map fun x => (.inr (cS x) : Key))
  obtain ⟨W', e, el, hq⟩ := keys_back (Q := WL k) (sortL kLt (F.map fun x => (.inr (cS x) : Key))) fun q hq => by
    obtain ⟨x, hx, rfl⟩ := List.mem_map.mp (p.subset hq)
    exact ⟨x, rfl, w.2 x hx⟩
  refine ⟨W', e, ?_, hq⟩
  rw [el, p.length_eq, List.length_map]
  exact w.1
theorem v_some {t : Hc} {m : Int} {h : Hc} {W : List (List Nat)} {k : Nat} (g : BG t m h) (hm : m < 2 ^ 49) (w : Wds 5 k W) : ∃ W' h', F__law_some [.ref 0, wsD W, .int 1] h = .ok (wsD W') h' ∧ BG t (m + 5) h' ∧ Wds 5 k W' := by
  have wl := w.1
  obtain ⟨ys, h1, e1, g1, s⟩ := some_comp (wsD W) W [] m h g (by omega) (by simp only [List.length_nil]; omega)
  obtain ⟨zs, a', e2, wz⟩ := some_for (wsD W) (h := h1) W ys 5 none ⟨by have := s.length_le; omega, fun x hx => w.2 x (s.subset hx)⟩ (by omega) (by omega) w.2
  obtain ⟨W', e3, w3⟩ := srt_ws wz
  refine ⟨W', h1, ?_, g1.up (by omega), w3⟩
  refine (fnOf_eq 5 3 m__law_some _ h rfl).trans ?_
  have c : mComp true [4] (gtN 4) smT (mVar 4) (mVar 1) (envM (wsD W) none none) h = .ok (.tl (ys.map wD)) h1 := e1
  have p : m__law_some (mkEnv 5 [.ref 0, wsD W, .int 1]) h = .ret (wsD W') h1 := by
    refine Eq.trans (seq_nx (env1 := envM (wsD W) (some (.ol (ys.map wD))) none) (h1 := h1) ?_) ?_
    · show (mComp true [4] (gtN 4) smT (mVar 4) (mVar 1) (envM (wsD W) none none) h).thenS _ _ = _
      rw [c]
      rfl
    · refine Eq.trans (seq_nx (env1 := envM (wsD W) (some (.ol (zs.map wD))) a') (h1 := h1) ?_) ?_
      · exact (for_eq (a := mVar 1) (x := .d (wsD W)) (h1 := h1) rfl rfl).trans e2
      · show mRet (mA1 (fSorted g0.kc false) (maCons (mVar 3) maNil)) (envM (wsD W) (some (.d (wsD zs))) a') h1 = _
        refine ret_of ((a1_of (x := .d (wsD zs)) (h1 := h1) rfl).trans ((v_sorted (F := zs) rfl).trans ?_))
        rw [e3]
  rw [p]
  rfl
abbrev shS : List PySem.Str := ["1/2", "0/1", "3/3", "2/4", "0/7", "1/999999999", "999999999/999999999"]
theorem pick_s {t : Hc} {m : Int} {h : Hc} {env : Vi.Env} {i : Nat} {e : ME} {ss : List PySem.Str} (e0 : mVar i env h = .ok (.d (.ref 0)) h) (ee : e env h = .ok (.d (.lst (stl ss))) h) (g : BG t m h) (hm : m < 2 ^ 60) (h0 : 0 < ss.length) (h1 : ss.length < 1000) (hs : ∀ s ∈ ss, (cod s).length ≤ 21 ∧ 32 ∉ cod s) :
    ∃ w h', mA1 (fCallN 2 F__law_pick []) (maCons (mVar i) (maCons e maNil)) env h = .ok (.d (wD w)) h' ∧ BG t (m + 1) h' ∧ WL 21 w := by
  obtain ⟨x, h', q1, q2, q3⟩ := pick_of e0 ee g hm (by rw [List.length_map]; exact h0) (by rw [List.length_map]; omega)
  obtain ⟨w, rfl, hw⟩ := mem_stl q3 hs
  exact ⟨w, h', q1, q2, hw⟩
theorem pick_w {t : Hc} {m : Int} {h : Hc} {env : Vi.Env} {i n k : Nat} {e : ME} {W : List (List Nat)} (e0 : mVar i env h = .ok (.d (.ref 0)) h) (ee : e env h = .ok (.d (wsD W)) h) (g : BG t m h) (hm : m < 2 ^ 60) (h0 : W ≠ []) (w : Wds n k W) (hn : n < 1000) :
    ∃ w h', mA1 (fCallN 2 F__law_pick []) (maCons (mVar i) (maCons e maNil)) env h = .ok (.d (wD w)) h' ∧ BG t (m + 1) h' ∧ WL k w ∧ w ∈ W := by
  have := w.1
  obtain ⟨x, h', q1, q2, q3⟩ := pick_of e0 ee g hm (by rw [List.length_map]; exact List.length_pos_iff.mpr h0) (by rw [List.length_map]; omega)
  obtain ⟨v, rfl, hw, hm⟩ := mem_ws q3 w
  exact ⟨v, h', q1, q2, hw, hm⟩
theorem ix_stl {env : Vi.Env} {h h1 h2 : Hc} {a b : ME} {ss : List PySem.Str} {r : Int} (ea : a env h = .ok (.d (.lst (stl ss))) h1) (eb : b env h1 = .ok (.d (.int r)) h2) (h0 : 0 ≤ r) (hr : r < ss.length) (hs : ∀ s ∈ ss, (cod s).length ≤ 21 ∧ 32 ∉ cod s) : ∃ w, m2 fIx a b env h = .ok (.d (wD w)) h2 ∧ WL 21 w := by
  obtain ⟨x, e, hx⟩ := atI_get (xs := stl ss) h0 (by rw [List.length_map]; exact hr)
  obtain ⟨w, rfl, hw⟩ := mem_stl hx hs
  refine ⟨w, (m2_of ea eb).trans ?_, hw⟩
  rw [fIx_lst, e]
theorem v_atom {t : Hc} {m : Int} {h : Hc} {W : List (List Nat)} (g : BG t m h) (hm : m < 2 ^ 48) (w : Wds 5 21 W) (hne : W ≠ []) : ∃ W' h', F__law_p5_atom_words [.ref 0, wsD W] h = .ok (wsD W') h' ∧ BG t (m + 60) h' ∧ Wds 8 21 W' := by
  have fin : ∀ {r : RS}, m__law_p5_atom_words (mkEnv 4 [.ref 0, wsD W]) h = r → F__law_p5_atom_words [.ref 0, wsD W] h = r.fin := fun e => (fnOf_eq 4 2 _ _ _ rfl).trans (congrArg RS.fin e)
  obtain ⟨r, h1, e1, g1, r0, r1⟩ := draw2 (many := 6) g (by omega) (by omega) (by omega)
  have s1 : mSet 2 (mA1 (fCallN 2 F__law_draw []) (maCons (mVar 0) (maCons (mC (.int 6)) maNil))) (mkEnv 4 [.ref 0, wsD W]) h = .nx [some (.d (.ref 0)), some (.d (wsD W)), some (.d (.int r)), none] h1 := set_d (call2 (h1 := h) (h2 := h) rfl rfl e1)
  obtain ⟨v, h2, e2, g2, hv⟩ := pick_s (i := 0) (env := [some (.d (.ref 0)), some (.d (wsD W)), some (.d (.int r)), none]) (h := h1) (e := mA1 (fLst false) (maCons (mC (.str "1/2")) (maCons (mC (.str "0/1")) (maCons (mC (.str "3/3")) (maCons (mC (.str "2/4")) (maCons (mC (.str "0/7")) (maCons (mC (.str "1/999999999")) (maCons (mC (.str "999999999/999999999")) maNil)))))))) (ss := shS) rfl rfl g1 (by omega) (by decide) (by decide) (by decide +kernel)
  have s2 := set_d (i := 3) e2
  have c2 : asB (m2 fLt (mVar 2) (mC (.int 2))) [some (.d (.ref 0)), some (.d (wsD W)), some (.d (.int r)), some (.d (wD v))] h2 = .ok (decide (r < 2)) h2 := c_lt rfl
  have c4 : asB (m2 fLt (mVar 2) (mC (.int 4))) [some (.d (.ref 0)), some (.d (wsD W)), some (.d (.int r)), some (.d (wD v))] h2 = .ok (decide (r < 4)) h2 := c_lt rfl
  have c5 : asB (m2 (fEq false) (mVar 2) (mC (.int 4))) [some (.d (.ref 0)), some (.d (wsD W)), some (.d (.int r)), some (.d (wD v))] h2 = .ok (decide (r = 4)) h2 := c_eq rfl
  by_cases h2' : r < 2
  · rw [decide_eq_true h2'] at c2
    obtain ⟨q, eq, hq⟩ := ix_stl (ss := ["least", "most"]) (a := mA1 (fLst false) (maCons (mC (.str "least")) (maCons (mC (.str "most")) maNil))) (b := mVar 2) (env := [some (.d (.ref 0)), some (.d (wsD W)), some (.d (.int r)), some (.d (wD v))]) (h := h2) (h1 := h2) (h2 := h2) rfl rfl r0 (by show r < (2 : Nat); omega) (by decide +kernel)
    obtain ⟨W', h3, e3, g3, w3⟩ := v_some g2 (by omega) w
    have l3 : mA1 (fLst false) (maCons (m2 fIx (mA1 (fLst false) (maCons (mC (.str "least")) (maCons (mC (.str "most")) maNil))) (mVar 2)) (maCons (mVar 3) (maCons (mC (.str "of")) maNil))) [some (.d (.ref 0)), some (.d (wsD W)), some (.d (.int r)), some (.d (wD v))] h2 = .ok (.d (wsD [q, v, kOf])) h2 := lst_of (ds := [wD q, wD v, wD kOf]) (ma_cons eq (ma_cons (d := .d (wD v)) (h1 := h2) rfl (ma_cons (c_w "of") ma_nil))) (by simp)
    refine ⟨[q, v, kOf] ++ W', h3, fin (r := .ret (wsD ([q, v, kOf] ++ W')) h3) ((seq_nx s1).trans ((seq_nx s2).trans (seq_ret ((if_t c2).trans (ret_of (addW_of l3 (call3 (h1 := h2) (h2 := h2) (h3 := h2) rfl rfl rfl e3) (by have := w3.1; simp only [List.length_cons, List.length_nil]; omega))))))), g3.up (by omega), ((Wds.cons hq (.cons hv (.cons (wl_c "of" (by decide +kernel)) .nil))).app w3).up (by omega)⟩
  · rw [decide_eq_false h2'] at c2
    by_cases h4' : r < 4
    · rw [decide_eq_true h4'] at c4
      obtain ⟨q, eq, hq⟩ := ix_stl (ss := ["free", "untouched"]) (a := mA1 (fLst false) (maCons (mC (.str "free")) (maCons (mC (.str "untouched")) maNil))) (b := m2 fSub (mVar 2) (mC (.int 2))) (env := [some (.d (.ref 0)), some (.d (wsD W)), some (.d (.int r)), some (.d (wD v))]) (h := h2) (h1 := h2) (h2 := h2) (r := r - 2) rfl rfl (by omega) (by show r - 2 < (2 : Nat); omega) (by decide +kernel)
      obtain ⟨n, h3, e3, g3, hn, _⟩ := pick_w (i := 0) (e := mVar 1) (env := [some (.d (.ref 0)), some (.d (wsD W)), some (.d (.int r)), some (.d (wD v))]) (h := h2) (W := W) rfl rfl g2 (by omega) hne w (by omega)
      exact ⟨[q, n], h3, fin (r := .ret (wsD [q, n]) h3) ((seq_nx s1).trans ((seq_nx s2).trans ((seq_nx (if_skip c2)).trans (seq_ret ((if_t c4).trans (ret_of (two_of eq e3))))))), g3.up (by omega), (Wds.cons hq (.cons hn .nil)).up (by omega)⟩
    · rw [decide_eq_false h4'] at c4
      by_cases h5' : r = 4
      · rw [decide_eq_true h5'] at c5
        obtain ⟨q, h3, e3, g3, hq⟩ := pick_s (i := 0) (env := [some (.d (.ref 0)), some (.d (wsD W)), some (.d (.int r)), some (.d (wD v))]) (h := h2) (e := mA1 (fLst false) (maCons (mC (.str "since")) (maCons (mC (.str "until")) maNil))) (ss := ["since", "until"]) rfl rfl g2 (by omega) (by decide) (by decide) (by decide +kernel)
        obtain ⟨n, h4, e4, g4, hn⟩ := pick_s (i := 0) (env := [some (.d (.ref 0)), some (.d (wsD W)), some (.d (.int r)), some (.d (wD v))]) (h := h3) (e := mA1 (fLst false) (maCons (mC (.str "0")) (maCons (mC (.str "9")) (maCons (mC (.str "10")) (maCons (mC (.str "99999")) maNil))))) (ss := ["0", "9", "10", "99999"]) rfl rfl g3 (by omega) (by decide) (by decide) (by decide +kernel)
        exact ⟨[q, n], h4, fin (r := .ret (wsD [q, n]) h4) ((seq_nx s1).trans ((seq_nx s2).trans ((seq_nx (if_skip c2)).trans ((seq_nx (if_skip c4)).trans (seq_ret ((if_t c5).trans (ret_of (two_of e3 e4)))))))), g4.up (by omega), (Wds.cons hq (.cons hn .nil)).up (by omega)⟩
      · rw [decide_eq_false h5'] at c5
        exact ⟨[cod "single"], h2, fin (r := .ret (wsD [cod "single"]) h2) ((seq_nx s1).trans ((seq_nx s2).trans ((seq_nx (if_skip c2)).trans ((seq_nx (if_skip c4)).trans ((seq_nx (if_skip c5)).trans (ret_of (one_of (c_w "single")))))))), g2.up (by omega), (Wds.cons (wl_c "single" (by decide +kernel)) .nil).up (by omega)⟩
end G38
namespace G38
open PySem L2 Vi
def cst : Nat → Nat
  | 0 => 62
  | n + 1 => 62 + 2 * cst n
def siz : Nat → Nat
  | 0 => 8
  | n + 1 => 2 * siz n + 3
theorem siz_ge : ∀ L, 8 ≤ siz L
  | 0 => Nat.le_refl _
  | n + 1 => by
    have := siz_ge n
    simp only [siz]
    omega
theorem v_words {t : Hc} {W : List (List Nat)} (w : Wds 5 21 W) (hne : W ≠ []) : ∀ (L k : Nat) (m : Int) (h : Hc), L < k → BG t m h → m + cst L < 2 ^ 47 → siz L ≤ 50 → ∃ W' h', R__law_p5_claim_words k [.ref 0, wsD W, .int (L : Nat)] h = .ok (wsD W') h' ∧ BG t (m + cst L) h' ∧ Wds (siz L) 21 W'
  | L, 0, m, h, hk, g, hm, hz => by omega
  | L, k + 1, m, h, hk, g, hm, hz => by
    have hcL : 62 ≤ cst L := by cases L <;> simp only [cst] <;> omega
    have fin : ∀ {r : RS}, m__law_p5_claim_words (R__law_p5_claim_words k) (mkEnv 6 [.ref 0, wsD W, .int (L : Nat)]) h = r → R__law_p5_claim_words (k + 1) [.ref 0, wsD W, .int (L : Nat)] h = r.fin := fun e => by
      rw [R__law_p5_claim_words_s]
      exact (fnOf_eq 6 3 _ _ _ rfl).trans (congrArg RS.fin e)
    obtain ⟨r, h1, e1, g1, r0, r1⟩ := draw2 (many := 6) g (by omega) (by omega) (by omega)
    have s1 : mSet 3 (mA1 (fCallN 2 F__law_draw []) (maCons (mVar 0) (maCons (mC (.int 6)) maNil))) (mkEnv 6 [.ref 0, wsD W, .int (L : Nat)]) h = .nx [some (.d (.ref 0)), some (.d (wsD W)), some (.d (.int (L : Nat))), some (.d (.int r)), none, none] h1 := set_d (call2 (h1 := h) (h2 := h) rfl rfl e1)
    have c1 : tOrM (asB (m2 (fEq false) (mVar 2) (mC (.int 0)))) (asB (m2 fGt (mVar 3) (mC (.int 4)))) [some (.d (.ref 0)), some (.d (wsD W)), some (.d (.int (L : Nat))), some (.d (.int r)), none, none] h1 = .ok (decide (((L : Nat) : Int) = 0) || decide (r > 4)) h1 := or_bb (c_eq rfl) (c_gt rfl)
    cases q : (decide (((L : Nat) : Int) = 0) || decide (r > 4)) with
    | true =>
      rw [q] at c1
      obtain ⟨W', h2, e2, g2, w2⟩ := v_atom g1 (by omega) w hne
      have hs : 8 ≤ siz L := siz_ge L
      exact ⟨W', h2, fin (r := .ret (wsD W') h2) ((seq_nx s1).trans (seq_ret ((if_t c1).trans (ret_of (call2 (h1 := h1) (h2 := h1) rfl rfl e2))))), g2.up (by omega), w2.up hs⟩
    | false =>
      rw [q] at c1
      simp only [Bool.or_eq_false_iff, decide_eq_false_iff_not] at q
      cases L with
      | zero => exact absurd rfl q.1
      | succ L =>
        simp only [cst] at hm hcL ⊢
        simp only [siz] at hz ⊢
        have sub : ∀ (a b : Option Sl) (h : Hc), m2 fSub (mVar 2) (mC (.int 1)) [some (.d (.ref 0)), some (.d (wsD W)), some (.d (.int ((L + 1 : Nat)))), some (.d (.int r)), a, b] h = .ok (.d (.int (L : Nat))) h := fun a b h => by
          refine (m2_of (x := .d (.int ((L + 1 : Nat)))) (y := .d (.int 1)) (h1 := h) (h2 := h) rfl rfl).trans ?_
          show R.ok (Vl.d (.int (((L + 1 : Nat) : Int) - 1))) h = _
          rw [show (((L + 1 : Nat) : Int) - 1) = ((L : Nat) : Int) by omega]
        obtain ⟨A, h2, e2, g2, wA⟩ := v_words w hne L k (m + 1) h1 (by omega) g1 (by omega) (by omega)
        have s2 : mSet 4 (mA1 (fCallN 3 (R__law_p5_claim_words k) []) (maCons (mVar 0) (maCons (mVar 1) (maCons (m2 fSub (mVar 2) (mC (.int 1))) maNil)))) [some (.d (.ref 0)), some (.d (wsD W)), some (.d (.int ((L + 1 : Nat)))), some (.d (.int r)), none, none] h1 = .nx [some (.d (.ref 0)), some (.d (wsD W)), some (.d (.int ((L + 1 : Nat)))), some (.d (.int r)), some (.d (wsD A)), none] h2 := set_d (call3 (h1 := h1) (h2 := h1) (h3 := h1) rfl rfl (sub none none h1) e2)
        have lA := wA.1
        have c4 : asB (m2 (fEq false) (mVar 3) (mC (.int 4))) [some (.d (.ref 0)), some (.d (wsD W)), some (.d (.int ((L + 1 : Nat)))), some (.d (.int r)), some (.d (wsD A)), none] h2 = .ok (decide (r = 4)) h2 := c_eq rfl
        have c3 : asB (m2 (fEq false) (mVar 3) (mC (.int 3))) [some (.d (.ref 0)), some (.d (wsD W)), some (.d (.int ((L + 1 : Nat)))), some (.d (.int r)), some (.d (wsD A)), none] h2 = .ok (decide (r = 3)) h2 := c_eq rfl
        have cl := Wds.cons (W := []) (wl_c ")" (by decide +kernel)) .nil
        by_cases h4 : r = 4
        · rw [decide_eq_true h4] at c4
          have wW := ((Wds.cons (wl_c "not" (by decide +kernel)) (.cons (wl_c "(" (by decide +kernel)) .nil)).app wA).app cl
          refine ⟨_, h2, fin (r := .ret (wsD (([kNot, kOp] ++ A) ++ [kCl])) h2) ((seq_nx s1).trans ((seq_nx (if_skip c1)).trans ((seq_nx s2).trans (seq_ret ((if_t c4).trans (ret_of (addW_of (addW_of (two_of (c_w "not") (c_w "(")) (B := A) (h2 := h2) rfl ?_) (one_of (c_w ")")) ?_))))))), g2.up (by omega), wW.up (by omega)⟩
          · simp only [List.length_cons, List.length_nil]; omega
          · simp only [List.length_append, List.length_cons, List.length_nil]; omega
        · rw [decide_eq_false h4] at c4
          by_cases h3 : r = 3
          · rw [decide_eq_true h3] at c3
            have wW := ((Wds.cons (wl_c "(" (by decide +kernel)) .nil).app wA).app cl
            refine ⟨_, h2, fin (r := .ret (wsD (([kOp] ++ A) ++ [kCl])) h2) ((seq_nx s1).trans ((seq_nx (if_skip c1)).trans ((seq_nx s2).trans ((seq_nx (if_skip c4)).trans (seq_ret ((if_t c3).trans (ret_of (addW_of (addW_of (one_of (c_w "(")) (B := A) (h2 := h2) rfl ?_) (one_of (c_w ")")) ?_)))))))), g2.up (by omega), wW.up (by omega)⟩
            · simp only [List.length_cons, List.length_nil]; omega
            · simp only [List.length_append, List.length_cons, List.length_nil]; omega
          · rw [decide_eq_false h3] at c3
            obtain ⟨B, h3', e3, g3, wB⟩ := v_words w hne L k (m + 1 + cst L) h2 (by omega) g2 (by omega) (by omega)
            have lB := wB.1
            have s3 : mSet 5 (mA1 (fCallN 3 (R__law_p5_claim_words k) []) (maCons (mVar 0) (maCons (mVar 1) (maCons (m2 fSub (mVar 2) (mC (.int 1))) maNil)))) [some (.d (.ref 0)), some (.d (wsD W)), some (.d (.int ((L + 1 : Nat)))), some (.d (.int r)), some (.d (wsD A)), none] h2 = .nx [some (.d (.ref 0)), some (.d (wsD W)), some (.d (.int ((L + 1 : Nat)))), some (.d (.int r)), some (.d (wsD A)), some (.d (wsD B))] h3' := set_d (call3 (h1 := h2) (h2 := h2) (h3 := h2) rfl rfl (sub _ _ h2) e3)
            obtain ⟨j, ej, hj⟩ := ix_stl (ss := ["and", "or", "and"]) (a := mA1 (fLst false) (maCons (mC (.str "and")) (maCons (mC (.str "or")) (maCons (mC (.str "and")) maNil)))) (b := mVar 3) (env := [some (.d (.ref 0)), some (.d (wsD W)), some (.d (.int ((L + 1 : Nat)))), some (.d (.int r)), some (.d (wsD A)), some (.d (wsD B))]) (h := h3') (h1 := h3') (h2 := h3') rfl rfl r0 (by have := q.2; show r < (3 : Nat); omega) (by decide +kernel)
            have wW := (wA.app (.cons hj .nil)).app wB
            refine ⟨_, h3', fin (r := .ret (wsD ((A ++ [j]) ++ B)) h3') ((seq_nx s1).trans ((seq_nx (if_skip c1)).trans ((seq_nx s2).trans ((seq_nx (if_skip c4)).trans ((seq_nx (if_skip c3)).trans ((seq_nx s3).trans (ret_of (addW_of (addW_of (A := A) (h1 := h3') rfl (one_of ej) ?_) (B := B) (h2 := h3') rfl ?_)))))))), g3.up (by omega), wW.up (by omega)⟩
            · simp only [List.length_cons, List.length_nil]; omega
            · simp only [List.length_append, List.length_cons, List.length_nil]; omega
theorem split_c (S : PySem.Str) (hS : S.length + 2 ≤ 1000) (h : Hc) : fSplit false S (.d (.str " ")) h = .ok (.d (.lst (stl (Txt.split S " ")))) h := by
  show (if (" " : PySem.Str).length ≠ 0 ∧ S.length + 2 ≤ sizeLine then R.ok (Vl.ofL false ((Txt.split S " ").map D.str)) h else .stuck) = _
  rw [if_pos ⟨by decide +kernel, by rw [sizeLine_eq]; omega⟩]
  rfl
abbrev nuA : PySem.Str := "0 1 00 07 99999 100000 099999 -3 +3 3a 999999999 1234567890 0 7 1/2 0/1 1/1 3/2 1/0 0/0"
abbrev nuB : PySem.Str := "01/2 1/02 -1/2 1/-2 1/2/3 /2 1/ / 1//2 1/1234567890 1234567890/1234567890 2/2 00/1"
def nuS : List PySem.Str := Txt.split nuA " " ++ Txt.split nuB " "
theorem nuS_ok : 0 < nuS.length ∧ nuS.length < 1000 ∧ ∀ s ∈ nuS, (cod s).length ≤ 21 ∧ 32 ∉ cod s := by decide +kernel
theorem v_number {t : Hc} {m : Int} {h : Hc} (g : BG t m h) (hm : m < 2 ^ 50) : ∃ w h', F__law_p5_number [.ref 0] h = .ok (wD w) h' ∧ BG t (m + 1) h' ∧ WL 21 w := by
  have fin : ∀ {r : RS}, m__law_p5_number (mkEnv 2 [.ref 0]) h = r → F__law_p5_number [.ref 0] h = r.fin := fun e => (fnOf_eq 2 1 _ _ _ rfl).trans (congrArg RS.fin e)
  have s1 : mSet 1 (mStr1 (fSplit false) (mC (.str nuA)) (mC (.str " "))) (mkEnv 2 [.ref 0]) h = .nx [some (.d (.ref 0)), some (.d (.lst (stl (Txt.split nuA " "))))] h := set_d (split_c nuA (by decide +kernel) h)
  have e2 : m2 (fAdd false) (mVar 1) (mStr1 (fSplit false) (mC (.str nuB)) (mC (.str " "))) [some (.d (.ref 0)), some (.d (.lst (stl (Txt.split nuA " "))))] h = .ok (.d (.lst (stl nuS))) h := by
    refine (m2_of (x := .d (.lst (stl (Txt.split nuA " ")))) (y := .d (.lst (stl (Txt.split nuB " ")))) (h1 := h) (h2 := h) rfl (split_c nuB (by decide +kernel) h)).trans ?_
    show (if (stl (Txt.split nuA " ")).length + (stl (Txt.split nuB " ")).length ≤ 100000 then R.ok (Vl.ofL false (stl (Txt.split nuA " ") ++ stl (Txt.split nuB " "))) h else .stuck) = _
    rw [if_pos (by rw [← List.length_append, ← List.map_append, List.length_map]; have := nuS_ok.2.1; unfold nuS at this; omega), ← List.map_append]
    rfl
  obtain ⟨w, h2, e3, g2, hw⟩ := pick_s (i := 0) (e := mVar 1) (env := [some (.d (.ref 0)), some (.d (.lst (stl nuS)))]) (ss := nuS) (h := h) rfl rfl g (by omega) nuS_ok.1 nuS_ok.2.1 nuS_ok.2.2
  exact ⟨w, h2, fin (r := .ret (wD w) h2) ((seq_nx s1).trans ((seq_nx (set_d e2)).trans (ret_of e3))), g2, hw⟩
end G38
namespace G38
open PySem L2 Vi
abbrev dgT (e : ME) : MB := asB (m2 (fIn false) (mSl false e moN (moS (mC (.int 1)))) (mA1 (fLst false) (maCons (mC (.str "0")) (maCons (mC (.str "1")) (maCons (mC (.str "2")) (maCons (mC (.str "3")) (maCons (mC (.str "9")) maNil)))))))
theorem dg_of {e : ME} {env : Vi.Env} {h : Hc} {w : List Nat} (ee : e env h = .ok (.d (wD w)) h) (hl : w.length < 1000) : ∃ b, dgT e env h = .ok b h := by
  have s : mSl false e moN (moS (mC (.int 1))) env h = .ok (.d (.str (Txt.slice (cS w) none (some 1)))) h := by
    show (e env h).bind _ = _
    rw [ee, R.bind_ok]
    show (if (cS w : PySem.Str).length ≤ 100000 then R.ok (Vl.d (.str (Txt.slice (cS w) none (some 1)))) h else .stuck) = _
    rw [if_pos (by rw [len_cS]; omega)]
  refine ⟨decide (Txt.slice (cS w) none (some 1) ∈ (["0", "1", "2", "3", "9"] : List PySem.Str)), asB_of ((m2_of (y := .d (.lst (stl ["0", "1", "2", "3", "9"]))) (h2 := h) s rfl).trans ?_)⟩
  exact in_txt _ false h (.d (.lst (stl ["0", "1", "2", "3", "9"]))) ["0", "1", "2", "3", "9"] rfl (fun z e => by cases e)
theorem in_ws {i j : Nat} {env : Vi.Env} {h : Hc} {w : List Nat} {N : List (List Nat)} (e1 : mVar i env h = .ok (.d (wD w)) h) (e2 : mVar j env h = .ok (.d (wsD N)) h) : asB (m2 (fIn false) (mVar i) (mVar j)) env h = .ok (decide (w ∈ N)) h := by
  refine asB_of ((m2_of e1 e2).trans ((in_txt (cS w) false h (.d (wsD N)) (N.map cS) (by show some _ = some _; rw [List.map_map]; rfl) (fun z e => by cases e)).trans ?_))
  rw [memW]
  rfl
abbrev odA : List PySem.Str := ["", "", "And", "OR", "(single", "single)", "free,", "a_b", "9a", "abcdefgh", "abcdefghi", "Nuts", "is"]
abbrev odB : List PySem.Str := ["recipe", "take", "yes", "none", "end", "of:", "((", "()", "least-1/2"]
abbrev kwS : PySem.Str := "and or not free untouched least most of since until single ( )"
theorem kw_ok : 0 < (Txt.split kwS " ").length ∧ (Txt.split kwS " ").length < 1000 ∧ ∀ s ∈ Txt.split kwS " ", (cod s).length ≤ 21 ∧ 32 ∉ cod s := by decide +kernel
theorem v_word {t : Hc} {m : Int} {h : Hc} {N : List (List Nat)} {x : List Nat} (g : BG t m h) (hm : m < 2 ^ 48) (w : Wds 6 21 N) (hne : N ≠ []) (hx : x.length < 1000) : ∃ v h', F__law_p5_word [.ref 0, wsD N, wD x] h = .ok (wD v) h' ∧ BG t (m + 2) h' ∧ WL 21 v := by
  have fin : ∀ {r : RS}, m__law_p5_word (mkEnv 5 [.ref 0, wsD N, wD x]) h = r → F__law_p5_word [.ref 0, wsD N, wD x] h = r.fin := fun e => (fnOf_eq 5 3 _ _ _ rfl).trans (congrArg RS.fin e)
  obtain ⟨r, h1, e1, g1, r0, r1⟩ := draw2 (many := 4) g (by omega) (by omega) (by omega)
  have s1 : mSet 3 (mA1 (fCallN 2 F__law_draw []) (maCons (mVar 0) (maCons (mC (.int 4)) maNil))) (mkEnv 5 [.ref 0, wsD N, wD x]) h = .nx [some (.d (.ref 0)), some (.d (wsD N)), some (.d (wD x)), some (.d (.int r)), none] h1 := set_d (call2 (h1 := h) (h2 := h) rfl rfl e1)
  have c1 : tOrM (asB (m2 (fEq false) (mVar 3) (mC (.int 0)))) (tAndM (asB (m2 fLt (mVar 3) (mC (.int 3)))) (asB (m2 (fIn false) (mVar 2) (mVar 1)))) [some (.d (.ref 0)), some (.d (wsD N)), some (.d (wD x)), some (.d (.int r)), none] h1 = .ok (decide (r = 0) || (decide (r < 3) && decide (x ∈ N))) h1 := or_bb (c_eq rfl) (and_bb (c_lt rfl) (in_ws rfl rfl))
  generalize (decide (r = 0) || (decide (r < 3) && decide (x ∈ N))) = b1 at c1
  cases b1 with
  | true =>
    obtain ⟨v, h2, e2, g2, hv, _⟩ := pick_w (i := 0) (e := mVar 1) (env := [some (.d (.ref 0)), some (.d (wsD N)), some (.d (wD x)), some (.d (.int r)), none]) (h := h1) (W := N) rfl rfl g1 (by omega) hne w (by omega)
    exact ⟨v, h2, fin (r := .ret (wD v) h2) ((seq_nx s1).trans (seq_ret ((if_t c1).trans (ret_of e2)))), g2.up (by omega), hv⟩
  | false =>
    have c2 : ∃ b, tOrM (asB (m2 (fEq false) (mVar 3) (mC (.int 1)))) (tAndM (asB (m2 (fEq false) (mVar 3) (mC (.int 2)))) (asB (m2 (fIn false) (mVar 2) (mA1 (fLst false) (maCons (mC (.str "and")) (maCons (mC (.str "or")) (maCons (mC (.str "of")) (maCons (mC (.str "(")) (maCons (mC (.str ")")) (maCons (mC (.str "not")) maNil)))))))))) [some (.d (.ref 0)), some (.d (wsD N)), some (.d (wD x)), some (.d (.int r)), none] h1 = .ok b h1 := by
      have ci : asB (m2 (fIn false) (mVar 2) (mA1 (fLst false) (maCons (mC (.str "and")) (maCons (mC (.str "or")) (maCons (mC (.str "of")) (maCons (mC (.str "(")) (maCons (mC (.str ")")) (maCons (mC (.str "not")) maNil)))))))) [some (.d (.ref 0)), some (.d (wsD N)), some (.d (wD x)), some (.d (.int r)), none] h1 = .ok (decide (cS x ∈ (["and", "or", "of", "(", ")", "not"] : List PySem.Str))) h1 :=
        asB_of ((m2_of (x := .d (wD x)) (y := .d (.lst (stl ["and", "or", "of", "(", ")", "not"]))) (h1 := h1) (h2 := h1) rfl rfl).trans (in_txt _ false h1 (.d (.lst (stl ["and", "or", "of", "(", ")", "not"]))) ["and", "or", "of", "(", ")", "not"] rfl (fun z e => by cases e)))
      exact ⟨_, or_bb (c_eq rfl) (and_bb (c_eq rfl) ci)⟩
    obtain ⟨b2, c2⟩ := c2
    cases b2 with
    | true =>
      have s2 : mSet 4 (mStr1 (fSplit false) (mC (.str kwS)) (mC (.str " "))) [some (.d (.ref 0)), some (.d (wsD N)), some (.d (wD x)), some (.d (.int r)), none] h1 = .nx [some (.d (.ref 0)), some (.d (wsD N)), some (.d (wD x)), some (.d (.int r)), some (.d (.lst (stl (Txt.split kwS " "))))] h1 := set_d (split_c kwS (by decide +kernel) h1)
      obtain ⟨v, h2, e2, g2, hv⟩ := pick_s (i := 0) (e := mVar 4) (env := [some (.d (.ref 0)), some (.d (wsD N)), some (.d (wD x)), some (.d (.int r)), some (.d (.lst (stl (Txt.split kwS " "))))]) (h := h1) (ss := Txt.split kwS " ") rfl rfl g1 (by omega) kw_ok.1 kw_ok.2.1 kw_ok.2.2
      exact ⟨v, h2, fin (r := .ret (wD v) h2) ((seq_nx s1).trans ((seq_nx (if_skip c1)).trans (seq_ret ((if_t c2).trans ((seq_nx s2).trans (ret_of e2)))))), g2.up (by omega), hv⟩
    | false =>
      have c3 : asB (m2 (fEq false) (mVar 3) (mC (.int 2))) [some (.d (.ref 0)), some (.d (wsD N)), some (.d (wD x)), some (.d (.int r)), none] h1 = .ok (decide (r = 2)) h1 := c_eq rfl
      by_cases h2 : r = 2
      · rw [decide_eq_true h2] at c3
        obtain ⟨v, h2, e2, g2, hv⟩ := v_number g1 (by omega)
        exact ⟨v, h2, fin (r := .ret (wD v) h2) ((seq_nx s1).trans ((seq_nx (if_skip c1)).trans ((seq_nx (if_skip c2)).trans (seq_ret ((if_t c3).trans (ret_of (call1 (h1 := h1) rfl e2))))))), g2.up (by omega), hv⟩
      · rw [decide_eq_false h2] at c3
        have s4 : mSet 4 (mA1 (fLst false) (maCons (mC (.str "")) (maCons (mC (.str "")) (maCons (mC (.str "And")) (maCons (mC (.str "OR")) (maCons (mC (.str "(single")) (maCons (mC (.str "single)")) (maCons (mC (.str "free,")) (maCons (mC (.str "a_b")) (maCons (mC (.str "9a")) (maCons (mC (.str "abcdefgh")) (maCons (mC (.str "abcdefghi")) (maCons (mC (.str "Nuts")) (maCons (mC (.str "is")) maNil)))))))))))))) [some (.d (.ref 0)), some (.d (wsD N)), some (.d (wD x)), some (.d (.int r)), none] h1 = .nx [some (.d (.ref 0)), some (.d (wsD N)), some (.d (wD x)), some (.d (.int r)), some (.d (.lst (stl odA)))] h1 := set_d rfl
        have s5 : mSet 4 (m2 (fAdd false) (mVar 4) (mA1 (fLst false) (maCons (mC (.str "recipe")) (maCons (mC (.str "take")) (maCons (mC (.str "yes")) (maCons (mC (.str "none")) (maCons (mC (.str "end")) (maCons (mC (.str "of:")) (maCons (mC (.str "((")) (maCons (mC (.str "()")) (maCons (mC (.str "least-1/2")) maNil))))))))))) [some (.d (.ref 0)), some (.d (wsD N)), some (.d (wD x)), some (.d (.int r)), some (.d (.lst (stl odA)))] h1 = .nx [some (.d (.ref 0)), some (.d (wsD N)), some (.d (wD x)), some (.d (.int r)), some (.d (.lst (stl (odA ++ odB))))] h1 := set_d rfl
        obtain ⟨b3, c4⟩ := dg_of (e := mVar 2) (env := [some (.d (.ref 0)), some (.d (wsD N)), some (.d (wD x)), some (.d (.int r)), some (.d (.lst (stl (odA ++ odB))))]) (h := h1) (w := x) rfl hx
        have go : ∀ {v h2}, mIf (dgT (mVar 2)) (mA1 (fCallN 1 F__law_p5_number []) (maCons (mVar 0) maNil)) (mA1 (fCallN 2 F__law_pick []) (maCons (mVar 0) (maCons (mVar 4) maNil))) [some (.d (.ref 0)), some (.d (wsD N)), some (.d (wD x)), some (.d (.int r)), some (.d (.lst (stl (odA ++ odB))))] h1 = .ok (.d (wD v)) h2 → F__law_p5_word [.ref 0, wsD N, wD x] h = .ok (wD v) h2 := fun {v h2} e => fin (r := .ret (wD v) h2) ((seq_nx s1).trans ((seq_nx (if_skip c1)).trans ((seq_nx (if_skip c2)).trans ((seq_nx (if_skip c3)).trans ((seq_nx s4).trans ((seq_nx s5).trans (ret_of e)))))))
        unfold mIf at go
        rw [c4, R.bind_ok] at go
        cases b3 with
        | true =>
          rw [if_pos rfl] at go
          obtain ⟨v, h2, e2, g2, hv⟩ := v_number g1 (by omega)
          exact ⟨v, h2, go (call1 (h1 := h1) rfl e2), g2.up (by omega), hv⟩
        | false =>
          rw [if_neg Bool.false_ne_true] at go
          obtain ⟨v, h2, e2, g2, hv⟩ := pick_s (i := 0) (e := mVar 4) (env := [some (.d (.ref 0)), some (.d (wsD N)), some (.d (wD x)), some (.d (.int r)), some (.d (.lst (stl (odA ++ odB))))]) (h := h1) (ss := odA ++ odB) rfl rfl g1 (by omega) (by decide) (by decide) (by decide +kernel)
          exact ⟨v, h2, go e2, g2.up (by omega), hv⟩
end G38
namespace G38
open PySem L2 Vi
abbrev iDs (js : List Nat) : List D := js.map fun j => D.int (j : Nat)
theorem cut_from' {α : Type} (xs : List α) (a : Nat) : cutL xs (some (a : Int)) none = xs.drop a := by
  unfold cutL
  rw [HT.sIx_nat, HT.sIx_none]
  by_cases h : a ≤ xs.length
  · rw [Nat.min_eq_left h, List.take_of_length_le (by rw [List.length_drop]; omega)]
  · rw [Nat.min_eq_right (by omega), List.drop_eq_nil_of_le (Nat.le_refl _), List.drop_eq_nil_of_le (by omega), List.take_nil]
theorem addL {xs ys : List D} (h : Hc) (hl : xs.length + ys.length ≤ 1000) : fAdd false (.d (.lst xs)) (.d (.lst ys)) h = .ok (.d (.lst (xs ++ ys))) h := by
  show (if xs.length + ys.length ≤ 100000 then R.ok (Vl.ofL false (xs ++ ys)) h else .stuck) = _
  rw [if_pos (by omega)]
  rfl
theorem cS_app (a b : List Nat) : (cS a : PySem.Str) ++ cS b = cS (a ++ b) := TL.ext_tl (TL.tl_append _ _)
section
variable {W0 N F : List (List Nat)} {a4 a5 a6 a7 a8 : Option Sl} {t : Hc} {m : Int} {h : Hc}
abbrev envS (W0 N F : List (List Nat)) (a4 a5 a6 a7 a8 : Option Sl) : Vi.Env := [some (.d (.ref 0)), some (.d (wsD W0)), some (.d (wsD N)), some (.d (wsD F)), a4, a5, a6, a7, a8, none]
abbrev dg9 : MB := dgT (m2 fIx (mVar 3) (mVar 9))
theorem ix_w {env : Vi.Env} {a b : ME} {j : Int} {h h1 h2 : Hc} (ea : a env h = .ok (.d (wsD F)) h1) (eb : b env h1 = .ok (.d (.int j)) h2) (h0 : 0 ≤ j) (hj : j < F.length) : ∃ w, m2 fIx a b env h = .ok (.d (wD w)) h2 ∧ w ∈ F := by
  obtain ⟨x, e, hx⟩ := atI_get (xs := F.map wD) h0 (by rw [List.length_map]; exact hj)
  obtain ⟨w, hw, rfl⟩ := List.mem_map.mp hx
  refine ⟨w, (m2_of ea eb).trans ?_, hw⟩
  rw [fIx_lst, e]
theorem idx_comp (hF : ∀ x ∈ F, x.length < 1000) : ∀ (js acc : List Nat), (∀ j ∈ js, j < F.length) → (∀ j ∈ acc, j < F.length) → acc.length + js.length < 1000 →
    ∃ out, compL false (gtN 9) dg9 (mVar 9) (iDs js) (iDs acc) (envS W0 N F a4 a5 a6 a7 a8) h = .ok (.d (.lst (iDs out))) h ∧ (∀ j ∈ out, j < F.length) ∧ out.length ≤ acc.length + js.length
  | [], acc, _, ha, _ => ⟨acc, rfl, ha, by simp⟩
  | j :: js, acc, hj, ha, hl => by
    rw [List.length_cons] at hl ⊢
    have h1 := hj j (List.mem_cons_self ..)
    obtain ⟨w, ew, hw⟩ := ix_w (F := F) (env := [some (.d (.ref 0)), some (.d (wsD W0)), some (.d (wsD N)), some (.d (wsD F)), a4, a5, a6, a7, a8, some (.d (.int (j : Nat)))]) (a := mVar 3) (b := mVar 9) (j := (j : Nat)) (h := h) (h1 := h) (h2 := h) rfl rfl (by omega) (by omega)
    obtain ⟨b, eb0⟩ := dg_of ew (hF w hw)
    have eb : dg9 [some (.d (.ref 0)), some (.d (wsD W0)), some (.d (wsD N)), some (.d (wsD F)), a4, a5, a6, a7, a8, some (.d (.int (j : Nat)))] h = .ok b h := eb0
    have st : compL false (gtN 9) dg9 (mVar 9) (iDs (j :: js)) (iDs acc) (envS W0 N F a4 a5 a6 a7 a8) h = (match dg9 [some (.d (.ref 0)), some (.d (wsD W0)), some (.d (wsD N)), some (.d (wsD F)), a4, a5, a6, a7, a8, some (.d (.int (j : Nat)))] h with
      | .ok b h1 => if b then (match mVar 9 [some (.d (.ref 0)), some (.d (wsD W0)), some (.d (wsD N)), some (.d (wsD F)), a4, a5, a6, a7, a8, some (.d (.int (j : Nat)))] h1 with
        | .ok (.d y) h2 => if (iDs acc).length < 16000000 then compL false (gtN 9) dg9 (mVar 9) (iDs js) (iDs acc ++ [y]) (envS W0 N F a4 a5 a6 a7 a8) h2 else .stuck
        | _ => .stuck) else compL false (gtN 9) dg9 (mVar 9) (iDs js) (iDs acc) (envS W0 N F a4 a5 a6 a7 a8) h1
      | _ => .stuck) := rfl
    cases b with
    | true =>
      obtain ⟨out, e, q1, q2⟩ := idx_comp hF js (acc ++ [j]) (fun x hx => hj x (List.mem_cons_of_mem _ hx)) (fun x hx => by
        rcases List.mem_append.mp hx with hx | hx
        · exact ha x hx
        · rw [List.mem_singleton.mp hx]; exact h1) (by rw [List.length_append, List.length_singleton]; omega)
      refine ⟨out, ?_, q1, by rw [List.length_append, List.length_singleton] at q2; omega⟩
      rw [st, eb]
      show (if (iDs acc).length < 16000000 then compL false (gtN 9) dg9 (mVar 9) (iDs js) (iDs acc ++ [.int (j : Nat)]) (envS W0 N F a4 a5 a6 a7 a8) h else .stuck) = _
      rw [if_pos (by rw [List.length_map]; omega), show iDs acc ++ [D.int (j : Nat)] = iDs (acc ++ [j]) by rw [iDs, iDs, List.map_append]; rfl]
      exact e
    | false =>
      obtain ⟨out, e, q1, q2⟩ := idx_comp hF js acc (fun x hx => hj x (List.mem_cons_of_mem _ hx)) ha (by omega)
      refine ⟨out, ?_, q1, by omega⟩
      rw [st, eb]
      exact e
theorem len_w {i : Nat} {env : Vi.Env} (e : mVar i env h = .ok (.d (wsD F)) h) : mA1 fLen (maCons (mVar i) maNil) env h = .ok (.d (.int (F.length : Nat))) h := by
  refine (a1_of e).trans ((fLen_lst _ h).trans ?_)
  rw [List.length_map]
theorem len1_w {i : Nat} {env : Vi.Env} (e : mVar i env h = .ok (.d (wsD F)) h) : m2 (fAdd false) (mA1 fLen (maCons (mVar i) maNil)) (mC (.int 1)) env h = .ok (.d (.int ((F.length : Int) + 1))) h := (m2_of (y := .d (.int 1)) (h2 := h) (len_w e) rfl).trans rfl
theorem lenm_w {i : Nat} {env : Vi.Env} (e : mVar i env h = .ok (.d (wsD F)) h) (hl : 0 < F.length) : m2 fSub (mA1 fLen (maCons (mVar i) maNil)) (mC (.int 1)) env h = .ok (.d (.int ((F.length - 1 : Nat)))) h := by
  refine (m2_of (y := .d (.int 1)) (h2 := h) (len_w e) rfl).trans ?_
  show R.ok (Vl.d (.int (((F.length : Nat) : Int) - 1))) h = _
  rw [show (((F.length : Nat) : Int) - 1) = ((F.length - 1 : Nat) : Int) by omega]
theorem idx_all (hF : ∀ x ∈ F, x.length < 1000) (hl : F.length < 900) : ∃ out, mCompR false [9] (gtN 9) dg9 (mVar 9) (maCons (mA1 fLen (maCons (mVar 3) maNil)) maNil) (envS W0 N F a4 a5 a6 a7 a8) h = .ok (.d (.lst (iDs out))) h ∧ (∀ j ∈ out, j < F.length) ∧ out.length ≤ F.length := by
  obtain ⟨out, e, q1, q2⟩ := idx_comp (W0 := W0) (N := N) (a4 := a4) (a5 := a5) (a6 := a6) (a7 := a7) (a8 := a8) (h := h) hF (List.range' 0 F.length) [] (fun j hj => by
    have := List.mem_range'.mp hj
    omega) (fun j hj => by cases hj) (by rw [List.length_range', List.length_nil]; omega)
  rw [List.length_range', List.length_nil] at q2
  refine ⟨out, ?_, q1, by omega⟩
  unfold mCompR
  rw [ma_cons (len_w rfl) ma_nil, R.bind_ok]
  dsimp only
  have cd : -(2 ^ 62) ≤ ((F.length : Nat) : Int) ∧ ((F.length : Nat) : Int) < 2 ^ 62 := by omega
  rw [if_pos cd, Int.toNat_natCast, rD_0]
  exact e
theorem sl_to {i : Nat} {env : Vi.Env} {me : ME} {p : Nat} (e : mVar i env h = .ok (.d (wsD F)) h) (ep : me env h = .ok (.d (.int (p : Nat))) h) (hp : p ≤ F.length) : mSl false (mVar i) moN (moS me) env h = .ok (.d (wsD (F.take p))) h := by
  show (mVar i env h).bind _ = _
  rw [e, R.bind_ok]
  show (moS me env h).bind _ = _
  have q : moS me env h = .ok (some ((p : Nat) : Int)) h := by
    unfold moS
    rw [ep]
    rfl
  rw [q, R.bind_ok]
  show R.ok (Vl.ofL false (cutL (F.map wD) none (some ((p : Nat) : Int)))) h = _
  rw [cut_to _ (by rw [List.length_map]; exact hp), ← List.map_take]
  rfl
theorem sl_from {i : Nat} {env : Vi.Env} {me : ME} {p : Nat} (e : mVar i env h = .ok (.d (wsD F)) h) (ep : me env h = .ok (.d (.int (p : Nat))) h) : mSl false (mVar i) (moS me) moN env h = .ok (.d (wsD (F.drop p))) h := by
  show (mVar i env h).bind _ = _
  rw [e, R.bind_ok]
  show (moS me env h).bind _ = _
  have q : moS me env h = .ok (some ((p : Nat) : Int)) h := by
    unfold moS
    rw [ep]
    rfl
  rw [q, R.bind_ok]
  show R.ok (Vl.ofL false (cutL (F.map wD) (some ((p : Nat) : Int)) none)) h = _
  rw [cut_from', ← List.map_drop]
  rfl
end
end G38
namespace G38
open PySem L2 Vi
def spS5 : MS := mSet 5 (mCompR false [9] (gtN 9) (dgT (m2 fIx (mVar 3) (mVar 9))) (mVar 9) (maCons (mA1 fLen (maCons (mVar 3) maNil)) maNil))
abbrev drL : ME := mA1 (fCallN 2 F__law_draw []) (maCons (mVar 0) (maCons (m2 (fAdd false) (mA1 fLen (maCons (mVar 3) maNil)) (mC (.int 1))) maNil))
def spS6 : MS := mSet 6 (mA1 (fCallN 2 F__law_pick []) (maCons (mVar 0) (maCons (m2 (fAdd false) (mA1 (fLst false) (maCons drL (maCons drL maNil))) (mVar 5)) maNil)))
def spS7 : MS := mSet 7 (m2 fIx (m2 (fAdd false) (mVar 3) (mA1 (fLst false) (maCons (mC (.str "")) maNil))) (mVar 6))
def spS8 : MS := mSet 8 (mA1 (fCallN 2 F__law_draw []) (maCons (mVar 0) (maCons (mC (.int 5)) maNil)))
abbrev slA : ME := mSl false (mVar 3) moN (moS (mVar 6))
abbrev slB : ME := mSl false (mVar 3) (moS (m2 (fAdd false) (mVar 6) (mC (.int 1)))) moN
abbrev slC : ME := mSl false (mVar 3) (moS (mVar 6)) moN
abbrev slD : ME := mSl false (mVar 3) moN (moS (m2 fSub (mA1 fLen (maCons (mVar 3) maNil)) (mC (.int 1))))
abbrev wdL : ME := mA1 (fLst false) (maCons (mA1 (fCallN 3 F__law_p5_word []) (maCons (mVar 0) (maCons (mVar 2) (maCons (mVar 7) maNil)))) maNil)
abbrev cnP : MB := asB (m2 fGt (mA1 fLen (maCons (mVar 3) maNil)) (mC (.int 0)))
abbrev stE : ME := mA1 (fLst false) (maCons (m2 (fAdd false) (m2 fIx (mVar 3) (m2 fSub (mA1 fLen (maCons (mVar 3) maNil)) (mC (.int 1)))) (mA1 (fCallN 2 F__law_pick []) (maCons (mVar 0) (maCons (mA1 (fLst false) (maCons (mC (.str "\n")) (maCons (mC (.str "\t")) (maCons (mC (.str ".")) maNil)))) maNil)))) maNil)
def spI : MS := mIfS (asB (m2 (fEq false) (mVar 8) (mC (.int 0)))) (mSet 3 (m2 (fAdd false) slA slB)) (mIfS (asB (m2 (fEq false) (mVar 8) (mC (.int 1)))) (mSet 3 (m2 (fAdd false) (m2 (fAdd false) slA wdL) slC)) (mIfS (asB (m2 fLt (mVar 8) (mC (.int 4)))) (mSet 3 (m2 (fAdd false) (m2 (fAdd false) slA wdL) slB)) (mIfS (tAndM cnP (asB (m2 (fEq false) (mA1 (fCallN 2 F__law_draw []) (maCons (mVar 0) (maCons (mC (.int 2)) maNil))) (mC (.int 0))))) (mSet 3 slD) (mIfS cnP (mSet 3 (m2 (fAdd false) slD stE)) mSkip))))
def spB : MS := mSeq spS5 (mSeq spS6 (mSeq spS7 (mSeq spS8 spI)))
theorem sp_parts : m__law_p5_spoilt = mSeq (mSet 3 (mA1 (fList false) (maCons (mVar 1) maNil))) (mSeq (mForR (gtN 4) (maCons (mA1 (fCallN 2 F__law_draw []) (maCons (mVar 0) (maCons (mC (.int 4)) maNil))) maNil) spB) (mRet (mVar 3))) := rfl
theorem WL.up {k k' : Nat} {x : List Nat} (h : WL k x) (hk : k ≤ k') : WL k' x := ⟨Nat.le_trans h.1 hk, h.2⟩
theorem Wds.upk {n n' k k' : Nat} {W : List (List Nat)} (h : Wds n k W) (hn : n ≤ n') (hk : k ≤ k') : Wds n' k' W := ⟨Nat.le_trans h.1 hn, fun x hx => (h.2 x hx).up hk⟩
section
variable {W0 N F : List (List Nat)} {a4 a5 a6 a7 a8 : Option Sl} {t : Hc} {m : Int} {h : Hc} {n k : Nat}
theorem sp_pick (g : BG t m h) (hm : m < 2 ^ 45) (w : Wds n k F) (hn : n ≤ 60) {out : List Nat} (ho : ∀ j ∈ out, j < F.length) (hl : out.length ≤ F.length) :
    ∃ p h', p ≤ F.length ∧ BG t (m + 3) h' ∧ spS6 (envS W0 N F a4 (some (.d (.lst (iDs out)))) a6 a7 a8) h = .nx (envS W0 N F a4 (some (.d (.lst (iDs out)))) (some (.d (.int ((p : Nat) : Int)))) a7 a8) h' := by
  have lF := w.1
  obtain ⟨r1, h1, e1, g1, p1, q1⟩ := draw2 (many := (F.length : Int) + 1) g (by omega) (by omega) (by omega)
  obtain ⟨r2, h2, e2, g2, p2, q2⟩ := draw2 (many := (F.length : Int) + 1) g1 (by omega) (by omega) (by omega)
  have d1 : drL (envS W0 N F a4 (some (.d (.lst (iDs out)))) a6 a7 a8) h = .ok (.d (.int r1)) h1 := call2 (h1 := h) (h2 := h) rfl (len1_w rfl) e1
  have d2 : drL (envS W0 N F a4 (some (.d (.lst (iDs out)))) a6 a7 a8) h1 = .ok (.d (.int r2)) h2 := call2 (h1 := h1) (h2 := h1) rfl (len1_w rfl) e2
  have l1 : mA1 (fLst false) (maCons drL (maCons drL maNil)) (envS W0 N F a4 (some (.d (.lst (iDs out)))) a6 a7 a8) h = .ok (.d (.lst [.int r1, .int r2])) h2 := lst_of (ds := [.int r1, .int r2]) (ma_cons d1 (ma_cons d2 ma_nil)) (by simp)
  have l2 : m2 (fAdd false) (mA1 (fLst false) (maCons drL (maCons drL maNil))) (mVar 5) (envS W0 N F a4 (some (.d (.lst (iDs out)))) a6 a7 a8) h = .ok (.d (.lst ([.int r1, .int r2] ++ iDs out))) h2 := (m2_of (y := .d (.lst (iDs out))) (h2 := h2) l1 rfl).trans (addL h2 (by rw [List.length_map]; simp only [List.length_cons, List.length_nil]; omega))
  obtain ⟨x, h3, e3, g3, hx⟩ := pick_of (i := 0) rfl l2 g2 (by omega) (by simp) (by rw [List.length_append, List.length_map]; simp only [List.length_cons, List.length_nil]; omega)
  have hp : ∃ p : Nat, x = .int ((p : Nat) : Int) ∧ p ≤ F.length := by
    rcases List.mem_append.mp hx with hx | hx
    · simp only [List.mem_cons, List.not_mem_nil, or_false] at hx
      rcases hx with rfl | rfl
      · exact ⟨r1.toNat, by rw [show ((r1.toNat : Nat) : Int) = r1 by omega], by omega⟩
      · exact ⟨r2.toNat, by rw [show ((r2.toNat : Nat) : Int) = r2 by omega], by omega⟩
    · obtain ⟨j, hj, rfl⟩ := List.mem_map.mp hx
      exact ⟨j, rfl, by have := ho j hj; omega⟩
  obtain ⟨p, rfl, hp⟩ := hp
  exact ⟨p, h3, hp, g3.up (by omega), set_d e3⟩
theorem v_turn (g : BG t m h) (hm : m < 2 ^ 45) (w : Wds n k F) (hn : n ≤ 60) (hk : 21 ≤ k) (hk2 : k ≤ 100) (wN : Wds 6 21 N) (hN : N ≠ []) :
    ∃ F' b5 b6 b7 b8 h', spB (envS W0 N F a4 a5 a6 a7 a8) h = .nx (envS W0 N F' a4 b5 b6 b7 b8) h' ∧ BG t (m + 8) h' ∧ Wds (n + 1) (k + 1) F' := by
  have lF := w.1
  have hF : ∀ x ∈ F, x.length < 1000 := fun x hx => by have := (w.2 x hx).1; omega
  obtain ⟨out, e5, ho, hl⟩ := idx_all (W0 := W0) (N := N) (a4 := a4) (a5 := a5) (a6 := a6) (a7 := a7) (a8 := a8) (h := h) hF (by omega)
  have s5 : spS5 (envS W0 N F a4 a5 a6 a7 a8) h = .nx (envS W0 N F a4 (some (.d (.lst (iDs out)))) a6 a7 a8) h := set_d e5
  obtain ⟨p, h1, hp, g1, s6⟩ := sp_pick (W0 := W0) (N := N) (a4 := a4) (a6 := a6) (a7 := a7) (a8 := a8) g hm w hn ho hl
  generalize (some (Sl.d (D.lst (iDs out)))) = b5 at s5 s6
  have wF1 : Wds (n + 1) k (F ++ [cod ""]) := w.app (Wds.cons ((wl_c "" (by decide +kernel)).up hk) .nil)
  obtain ⟨x, ex, hx⟩ := ix_w (F := F ++ [cod ""]) (env := envS W0 N F a4 b5 (some (.d (.int ((p : Nat) : Int)))) a7 a8) (a := m2 (fAdd false) (mVar 3) (mA1 (fLst false) (maCons (mC (.str "")) maNil))) (b := mVar 6) (j := (p : Nat)) (h := h1) (h1 := h1) (h2 := h1) (addW_of (A := F) (h1 := h1) rfl (one_of (c_w "")) (by simp only [List.length_cons, List.length_nil]; omega)) rfl (by omega) (by rw [List.length_append, List.length_singleton]; omega)
  have hwx := wF1.2 x hx
  have s7 : spS7 (envS W0 N F a4 b5 (some (.d (.int ((p : Nat) : Int)))) a7 a8) h1 = .nx (envS W0 N F a4 b5 (some (.d (.int ((p : Nat) : Int)))) (some (.d (wD x))) a8) h1 := set_d ex
  obtain ⟨r, h2, e8, g2, r0, r1⟩ := draw2 (many := 5) g1 (by omega) (by omega) (by omega)
  have s8 : spS8 (envS W0 N F a4 b5 (some (.d (.int ((p : Nat) : Int)))) (some (.d (wD x))) a8) h1 = .nx (envS W0 N F a4 b5 (some (.d (.int ((p : Nat) : Int)))) (some (.d (wD x))) (some (.d (.int r)))) h2 := set_d (call2 (h1 := h1) (h2 := h1) rfl rfl e8)
  have fin : ∀ {F' : List (List Nat)} {h' : Hc}, spI (envS W0 N F a4 b5 (some (.d (.int ((p : Nat) : Int)))) (some (.d (wD x))) (some (.d (.int r)))) h2 = .nx (envS W0 N F' a4 b5 (some (.d (.int ((p : Nat) : Int)))) (some (.d (wD x))) (some (.d (.int r)))) h' → BG t (m + 8) h' → Wds (n + 1) (k + 1) F' →
      ∃ F' b5 b6 b7 b8 h', spB (envS W0 N F a4 a5 a6 a7 a8) h = .nx (envS W0 N F' a4 b5 b6 b7 b8) h' ∧ BG t (m + 8) h' ∧ Wds (n + 1) (k + 1) F' := fun {F' h'} e g w => ⟨F', _, _, _, _, h', (seq_nx s5).trans ((seq_nx s6).trans ((seq_nx s7).trans ((seq_nx s8).trans e))), g, w⟩
  clear s5 s6 s7 s8 ex e5 e8
  generalize hE : envS W0 N F a4 b5 (some (.d (.int ((p : Nat) : Int)))) (some (.d (wD x))) (some (.d (.int r))) = E at fin
  have v0 : ∀ h, mVar 0 E h = .ok (.d (.ref 0)) h := fun h => by rw [← hE]; rfl
  have v2 : ∀ h, mVar 2 E h = .ok (.d (wsD N)) h := fun h => by rw [← hE]; rfl
  have v3 : ∀ h, mVar 3 E h = .ok (.d (wsD F)) h := fun h => by rw [← hE]; rfl
  have v6 : ∀ h, mVar 6 E h = .ok (.d (.int ((p : Nat) : Int))) h := fun h => by rw [← hE]; rfl
  have v7 : ∀ h, mVar 7 E h = .ok (.d (wD x)) h := fun h => by rw [← hE]; rfl
  have v8 : ∀ h, mVar 8 E h = .ok (.d (.int r)) h := fun h => by rw [← hE]; rfl
  have put : ∀ {F' : List (List Nat)} {e : ME} {h'}, e E h2 = .ok (.d (wsD F')) h' → mSet 3 e E h2 = .nx (envS W0 N F' a4 b5 (some (.d (.int ((p : Nat) : Int)))) (some (.d (wD x))) (some (.d (.int r)))) h' := fun {F' e h'} ee => (set_d ee).trans (by rw [← hE]; rfl)
  have v6p : ∀ h, m2 (fAdd false) (mVar 6) (mC (.int 1)) E h = .ok (.d (.int (((p + 1 : Nat)) : Int))) h := fun h => (m2_of (x := .d (.int ((p : Nat) : Int))) (y := .d (.int 1)) (h1 := h) (h2 := h) (v6 h) rfl).trans rfl
  have eA : ∀ h, slA E h = .ok (.d (wsD (F.take p))) h := fun h => sl_to (v3 h) (v6 h) hp
  have eB : ∀ h, slB E h = .ok (.d (wsD (F.drop (p + 1)))) h := fun h => sl_from (v3 h) (v6p h)
  have eC : ∀ h, slC E h = .ok (.d (wsD (F.drop p))) h := fun h => sl_from (v3 h) (v6 h)
  have wT : ∀ q, Wds (F.take q).length k (F.take q) := fun q => ⟨Nat.le_refl _, fun y hy => w.2 y (List.mem_of_mem_take hy)⟩
  have wD' : ∀ q, Wds (F.drop q).length k (F.drop q) := fun q => ⟨Nat.le_refl _, fun y hy => w.2 y (List.mem_of_mem_drop hy)⟩
  have lT : ∀ q, (F.take q).length = min q F.length := fun q => List.length_take
  have lD : ∀ q, (F.drop q).length = F.length - q := fun q => List.length_drop
  have c0 : asB (m2 (fEq false) (mVar 8) (mC (.int 0))) E h2 = .ok (decide (r = 0)) h2 := c_eq (v8 h2)
  have c1 : asB (m2 (fEq false) (mVar 8) (mC (.int 1))) E h2 = .ok (decide (r = 1)) h2 := c_eq (v8 h2)
  have c2 : asB (m2 fLt (mVar 8) (mC (.int 4))) E h2 = .ok (decide (r < 4)) h2 := c_lt (v8 h2)
  have cp : ∀ h, cnP E h = .ok (decide (0 < F.length)) h := fun h => (c_gt (len_w (v3 h))).trans (congrArg (R.ok · h) (by rw [Bool.eq_iff_iff, decide_eq_true_iff, decide_eq_true_iff]; omega))
  by_cases h0 : r = 0
  · rw [decide_eq_true h0] at c0
    exact fin ((if_t c0).trans (put (addW_of (eA h2) (eB h2) (by rw [lT, lD]; omega)))) (g2.up (by omega)) (((wT p).app (wD' (p + 1))).upk (by rw [lT, lD]; omega) (by omega))
  rw [decide_eq_false h0] at c0
  obtain ⟨v, h3, e3, g3, hv⟩ := v_word g2 (by omega) wN hN (x := x) (by have := hwx.1; omega)
  have ew : wdL E h2 = .ok (.d (wsD [v])) h3 := one_of (call3 (v0 h2) (v2 h2) (v7 h2) e3)
  by_cases h1' : r = 1
  · rw [decide_eq_true h1'] at c1
    exact fin ((if_f c0).trans ((if_t c1).trans (put (addW_of (addW_of (eA h2) ew (by rw [lT, List.length_singleton]; omega)) (eC h3) (by rw [List.length_append, lT, lD, List.length_singleton]; omega))))) (g3.up (by omega)) ((((wT p).app (Wds.cons (hv.up hk) .nil)).app (wD' p)).upk (by rw [lT, lD]; omega) (by omega))
  rw [decide_eq_false h1'] at c1
  by_cases h4 : r < 4
  · rw [decide_eq_true h4] at c2
    exact fin ((if_f c0).trans ((if_f c1).trans ((if_t c2).trans (put (addW_of (addW_of (eA h2) ew (by rw [lT, List.length_singleton]; omega)) (eB h3) (by rw [List.length_append, lT, lD, List.length_singleton]; omega)))))) (g3.up (by omega)) ((((wT p).app (Wds.cons (hv.up hk) .nil)).app (wD' (p + 1))).upk (by rw [lT, lD]; omega) (by omega))
  rw [decide_eq_false h4] at c2
  by_cases hl0 : 0 < F.length
  · obtain ⟨r2, h4', e4, g4, _, _⟩ := draw2 (many := 2) g2 (by omega) (by omega) (by omega)
    have cpt : cnP E h2 = .ok true h2 := by rw [cp, decide_eq_true hl0]
    have cpt4 : cnP E h4' = .ok true h4' := by rw [cp, decide_eq_true hl0]
    have c3 : tAndM cnP (asB (m2 (fEq false) (mA1 (fCallN 2 F__law_draw []) (maCons (mVar 0) (maCons (mC (.int 2)) maNil))) (mC (.int 0)))) E h2 = .ok (decide (r2 = 0)) h4' := (and_tt cpt).trans (asB_of ((m2_of (y := .d (.int 0)) (call2 (v0 h2) rfl e4) rfl).trans (eqI false _ _ h4')))
    have eD : ∀ h, slD E h = .ok (.d (wsD (F.take (F.length - 1)))) h := fun h => sl_to (v3 h) (lenm_w (v3 h) hl0) (by omega)
    have put4 : ∀ {F' : List (List Nat)} {e : ME} {h'}, e E h4' = .ok (.d (wsD F')) h' → mSet 3 e E h4' = .nx (envS W0 N F' a4 b5 (some (.d (.int ((p : Nat) : Int)))) (some (.d (wD x))) (some (.d (.int r)))) h' := fun {F' e h'} ee => (set_d ee).trans (by rw [← hE]; rfl)
    by_cases hr2 : r2 = 0
    · rw [decide_eq_true hr2] at c3
      exact fin ((if_f c0).trans ((if_f c1).trans ((if_f c2).trans ((if_t c3).trans (put4 (eD h4')))))) (g4.up (by omega)) ((wT (F.length - 1)).upk (by rw [lT]; omega) (by omega))
    · rw [decide_eq_false hr2] at c3
      obtain ⟨y, ey, hy⟩ := ix_w (F := F) (env := E) (a := mVar 3) (b := m2 fSub (mA1 fLen (maCons (mVar 3) maNil)) (mC (.int 1))) (j := ((F.length - 1 : Nat) : Int)) (h := h4') (h1 := h4') (h2 := h4') (v3 h4') (lenm_w (v3 h4') hl0) (by omega) (by omega)
      have wy := w.2 y hy
      obtain ⟨z, h5, e5, g5, hz⟩ := pick_of (i := 0) (env := E) (e := mA1 (fLst false) (maCons (mC (.str "\n")) (maCons (mC (.str "\t")) (maCons (mC (.str ".")) maNil)))) (h := h4') (h1 := h4') (xs := stl ["\n", "\t", "."]) (v0 h4') rfl g4 (by omega) (by decide) (by decide)
      obtain ⟨s, hs, rfl⟩ := List.mem_map.mp hz
      have hs1 : (cod s).length ≤ 1 ∧ 32 ∉ cod s := by
        have q : ∀ s ∈ (["\n", "\t", "."] : List PySem.Str), (cod s).length ≤ 1 ∧ 32 ∉ cod s := by decide +kernel
        exact q s hs
      have ea : m2 (fAdd false) (m2 fIx (mVar 3) (m2 fSub (mA1 fLen (maCons (mVar 3) maNil)) (mC (.int 1)))) (mA1 (fCallN 2 F__law_pick []) (maCons (mVar 0) (maCons (mA1 (fLst false) (maCons (mC (.str "\n")) (maCons (mC (.str "\t")) (maCons (mC (.str ".")) maNil)))) maNil))) E h4' = .ok (.d (wD (y ++ cod s))) h5 := by
        refine (m2_of ey e5).trans ?_
        rw [str_w s]
        refine (fAdd_str false (cS y) (cS (cod s)) h5 ?_).trans ?_
        · have e1 : (cS y : PySem.Str).cps.size = y.length := len_cS y
          have e2 : (cS (cod s) : PySem.Str).cps.size = (cod s).length := len_cS (cod s)
          have := wy.1
          omega
        · rw [cS_app]
      have wz : WL (k + 1) (y ++ cod s) := ⟨by rw [List.length_append]; have := wy.1; omega, fun m => (List.mem_append.mp m).elim wy.2 hs1.2⟩
      exact fin ((if_f c0).trans ((if_f c1).trans ((if_f c2).trans ((if_f c3).trans ((if_t cpt4).trans (put4 (addW_of (eD h4') (one_of ea) (by rw [lT, List.length_singleton]; omega)))))))) (g5.up (by omega)) ((((wT (F.length - 1)).upk (Nat.le_refl _) (Nat.le_succ k)).app (Wds.cons wz .nil)).upk (by rw [lT]; omega) (by omega))
  · have cpf : cnP E h2 = .ok false h2 := by rw [cp, decide_eq_false hl0]
    exact fin ((if_f c0).trans ((if_f c1).trans ((if_f c2).trans ((if_f (and_ff cpf)).trans ((if_f cpf).trans (by rw [← hE]; rfl)))))) (g2.up (by omega)) (w.upk (by omega) (by omega))
theorem v_turns (wN : Wds 6 21 N) (hN : N ≠ []) : ∀ (zs : List D) (F : List (List Nat)) (n k : Nat) (m : Int) (h : Hc) (a4 a5 a6 a7 a8 : Option Sl), BG t m h → m + 8 * zs.length < 2 ^ 45 → Wds n k F → n + zs.length ≤ 60 → 21 ≤ k → k + zs.length ≤ 60 →
    ∃ F' b4 b5 b6 b7 b8 h', forL (gtN 4) spB zs (envS W0 N F a4 a5 a6 a7 a8) h = .nx (envS W0 N F' b4 b5 b6 b7 b8) h' ∧ BG t (m + 8 * zs.length) h' ∧ Wds (n + zs.length) (k + zs.length) F'
  | [], F, n, k, m, h, a4, a5, a6, a7, a8, g, hm, w, h1, h2, h3 => ⟨F, a4, a5, a6, a7, a8, h, rfl, by simpa using g, w⟩
  | z :: zs, F, n, k, m, h, a4, a5, a6, a7, a8, g, hm, w, h1, h2, h3 => by
    rw [List.length_cons] at hm h1 h3 ⊢
    obtain ⟨F1, b5, b6, b7, b8, h', e1, g1, w1⟩ := v_turn (W0 := W0) (a4 := some (.d z)) (a5 := a5) (a6 := a6) (a7 := a7) (a8 := a8) g (by omega) w (by omega) h2 (by omega) wN hN
    obtain ⟨F', c4, c5, c6, c7, c8, h'', e2, g2, w2⟩ := v_turns wN hN zs F1 (n + 1) (k + 1) (m + 8) h' (some (.d z)) b5 b6 b7 b8 g1 (by omega) w1 (by omega) (by omega) (by omega)
    exact ⟨F', c4, c5, c6, c7, c8, h'', (for_nx (env1 := envS W0 N F (some (.d z)) a5 a6 a7 a8) rfl e1).trans e2, g2.up (by omega), w2.upk (by omega) (by omega)⟩
theorem v_spoilt {W : List (List Nat)} (g : BG t m h) (hm : m < 2 ^ 44) (w : Wds 41 21 W) (wN : Wds 6 21 N) (hN : N ≠ []) : ∃ F' h', F__law_p5_spoilt [.ref 0, wsD W, wsD N] h = .ok (wsD F') h' ∧ BG t (m + 40) h' ∧ Wds 44 24 F' := by
  have fin : ∀ {r : RS}, m__law_p5_spoilt (mkEnv 10 [.ref 0, wsD W, wsD N]) h = r → F__law_p5_spoilt [.ref 0, wsD W, wsD N] h = r.fin := fun e => (fnOf_eq 10 3 _ _ _ rfl).trans (congrArg RS.fin e)
  rw [sp_parts] at fin
  have s1 : mSet 3 (mA1 (fList false) (maCons (mVar 1) maNil)) (mkEnv 10 [.ref 0, wsD W, wsD N]) h = .nx (envS W N W none none none none none) h := set_d rfl
  obtain ⟨r, h1, e1, g1, r0, r1⟩ := draw2 (many := 4) g (by omega) (by omega) (by omega)
  have er : mA1 (fCallN 2 F__law_draw []) (maCons (mVar 0) (maCons (mC (.int 4)) maNil)) (envS W N W none none none none none) h = .ok (.d (.int ((r.toNat : Nat) : Int))) h1 := by
    rw [show ((r.toNat : Nat) : Int) = r by omega]
    exact call2 (h1 := h) (h2 := h) rfl rfl e1
  have fr := for_r (T := gtN 4) (b := spB) (by omega : r.toNat < 2 ^ 60) er
  have ln : (rangeD 0 r.toNat).length = r.toNat := rangeD_len 0 _
  obtain ⟨F', b4, b5, b6, b7, b8, h', e2, g2, w2⟩ := v_turns (W0 := W) wN hN (rangeD 0 r.toNat) W 41 21 (m + 1) h1 none none none none none g1 (by omega) w (by omega) (by omega) (by omega)
  rw [ln] at g2 w2
  exact ⟨F', h', fin (r := .ret (wsD F') h') ((seq_nx s1).trans ((seq_nx (fr.trans e2)).trans rfl)), g2.up (by omega), w2.upk (by omega) (by omega)⟩
end
end G38
namespace G38
open PySem L2 Vi
theorem BG.app {t : Hc} {m : Int} {h : Hc} (g : BG t m h) (e : Hc) : BG (t ++ e) m (h ++ e) := by
  obtain ⟨ns, p, v, sd, l, c, rfl, r⟩ := g
  exact ⟨ns, p, v, sd, l, c, rfl, r⟩
theorem Wds.wo {n k : Nat} {W : List (List Nat)} (w : Wds n k W) (hk : k ≤ 60) : ∀ x ∈ W, WO x := fun x hx => ⟨Nat.le_trans (w.2 x hx).1 hk, (w.2 x hx).2⟩
def lwN : MS := mSet 2 (mA1 (fCallN 3 F__law_names []) (maCons (mVar 1) (maCons (m2 (fAdd false) (mC (.int 1)) (mA1 (fCallN 2 F__law_draw []) (maCons (mVar 1) (maCons (mC (.int 4)) maNil)))) (maCons (mA1 (fLst false) maNil) maNil))))
def lwW : MS := mSet 3 (mA1 (fCallN 3 F__law_p5_claim_words []) (maCons (mVar 1) (maCons (mVar 2) (maCons (mC (.int 2)) maNil))))
def lwB : MS := mIfS (tNotM (asB (mA1 (fCallN 1 F__law_p5_answered []) (maCons (mA1 (fCallN 3 F__law_p5_spoilt []) (maCons (mVar 1) (maCons (mVar 3) (maCons (m2 (fAdd false) (mVar 2) (mA1 (fLst false) (maCons (mC (.str "q7")) maNil))) maNil)))) maNil)))) (mRet (mC (.bl false))) mSkip
def lwE : MS := mIfS (tAndM (asB (m2 (fEq false) (mA1 (fCallN 2 F__law_draw []) (maCons (mVar 1) (maCons (mC (.int 3)) maNil))) (mC (.int 0)))) (tNotM (asB (mA1 (fCallN 1 F__law_p5_answered []) (maCons (mA1 (fLst false) (maCons (mC (.str "")) maNil)) maNil))))) (mRet (mC (.bl false))) mSkip
theorem law_parts : m_law = mSeq (mSet 1 (mA1 (fCallN 1 F__law_bag []) (maCons (mVar 0) maNil))) (mSeq lwN (mSeq lwW (mSeq (mForR (gtN 4) (maCons (mC (.int 5)) maNil) lwB) (mSeq lwE (mRet (mA1 (fCallN 1 F__law_p5_answered []) (maCons (mVar 3) maNil))))))) := rfl
section
variable {S : D} {N W : List (List Nat)} {t : Hc} {m : Int} {h : Hc}
abbrev envL (S : D) (N W : List (List Nat)) (k : Option Sl) : Vi.Env := [some (.d S), some (.d (.ref 0)), some (.d (wsD N)), some (.d (wsD W)), k]
theorem lw_turn (wN : Wds 5 21 N) (wW : Wds 41 21 W) (g : BG t m h) (hm : m < 2 ^ 44) (k : Option Sl) : ∃ t' h', lwB (envL S N W k) h = .nx (envL S N W k) h' ∧ BG t' (m + 40) h' := by
  have wq : Wds 6 21 (N ++ [cod "q7"]) := wN.app (Wds.cons (wl_c "q7" (by decide +kernel)) .nil)
  obtain ⟨F, h1, e1, g1, w1⟩ := v_spoilt g hm wW wq (by simp)
  obtain ⟨h2, ⟨x, rfl⟩, e2⟩ := v_answered (w1.wo (by omega)) (by have := w1.1; omega) h1
  have ea : m2 (fAdd false) (mVar 2) (mA1 (fLst false) (maCons (mC (.str "q7")) maNil)) (envL S N W k) h = .ok (.d (wsD (N ++ [cod "q7"]))) h := addW_of (A := N) (h1 := h) rfl (one_of (c_w "q7")) (by have := wN.1; simp only [List.length_cons, List.length_nil]; omega)
  exact ⟨t ++ x, h1 ++ x, if_skip (not_b (b := true) (asB_of (call1 (call3 (h1 := h) (h2 := h) (h3 := h) rfl rfl ea e1) e2))), g1.app x⟩
theorem lw_turns (wN : Wds 5 21 N) (wW : Wds 41 21 W) : ∀ (zs : List D) (t : Hc) (m : Int) (h : Hc) (k : Option Sl), BG t m h → m + 40 * zs.length < 2 ^ 44 → ∃ t' h' k', forL (gtN 4) lwB zs (envL S N W k) h = .nx (envL S N W k') h' ∧ BG t' (m + 40 * zs.length) h'
  | [], t, m, h, k, g, hm => ⟨t, h, k, rfl, by simpa using g⟩
  | z :: zs, t, m, h, k, g, hm => by
    rw [List.length_cons] at hm ⊢
    obtain ⟨t1, h1, e1, g1⟩ := lw_turn (S := S) wN wW g (by omega) (some (.d z))
    obtain ⟨t2, h2, k2, e2, g2⟩ := lw_turns wN wW zs t1 (m + 40) h1 (some (.d z)) g1 (by omega)
    exact ⟨t2, h2, k2, (for_nx (env1 := envL S N W (some (.d z))) rfl e1).trans e2, g2.up (by omega)⟩
end
theorem says : Says1 F_law 63 := by
  intro ns hl
  have g0 : BG [] 0 (bagC [] ns 0 0 (ns.sum % 1000003) 0 0) := ⟨ns, 0, 0, ns.sum % 1000003, 0, 0, rfl, by omega, by omega, Int.emod_nonneg _ (by omega), by have := Int.emod_lt_of_pos ns.sum (show (0 : Int) < 1000003 by omega); omega, by omega, by omega, by omega⟩
  have e1 : mA1 (fCallN 1 F__law_bag []) (maCons (mVar 0) maNil) (mkEnv 5 [.kl (ns.map D.int)]) [] = .ok (.d (.ref 0)) (bagC [] ns 0 0 (ns.sum % 1000003) 0 0) := call1 (h1 := []) rfl (v_bag ns)
  generalize bagC [] ns 0 0 (ns.sum % 1000003) 0 0 = h0 at g0 e1
  obtain ⟨r, h1, e2, g1, r0, r1⟩ := draw2 (many := 4) g0 (by omega) (by omega) (by omega)
  have en : m2 (fAdd false) (mC (.int 1)) (mA1 (fCallN 2 F__law_draw []) (maCons (mVar 1) (maCons (mC (.int 4)) maNil))) [some (.d (.kl (ns.map D.int))), some (.d (.ref 0)), none, none, none] h0 = .ok (.d (.int (((r + 1).toNat : Nat) : Int))) h1 := by
    refine (m2_of (x := .d (.int 1)) (y := .d (.int r)) (h1 := h0) (h2 := h1) rfl (call2 (h1 := h0) (h2 := h0) rfl rfl e2)).trans ?_
    show R.ok (Vl.d (.int (1 + r))) h1 = _
    rw [show (((r + 1).toNat : Nat) : Int) = 1 + r by omega]
  obtain ⟨xs, h2, e3, g2, nm1, _, lx⟩ := v_lnames (tk := []) (n := (r + 1).toNat) g1 (by omega) (by rw [List.length_nil]; omega)
  have exs : D.lst (xs.map D.str) = wsD (xs.map cod) := congrArg D.lst (stl_ws xs)
  rw [exs] at e3
  have wN : Wds 5 21 (xs.map cod) := ⟨by rw [List.length_map]; omega, fun y hy => by
    obtain ⟨z, hz, rfl⟩ := List.mem_map.mp hy
    have o := nm1.ok z hz
    refine ⟨by have := o.n8; show z.cps.toList.length ≤ 21; rw [Array.length_toList]; omega, fun m => ?_⟩
    have q : ∀ c ∈ sgnL, c ≠ 32 := by decide +kernel
    exact q 32 (o.all 32 m) rfl⟩
  have hN : xs.map cod ≠ [] := fun e => by
    have := List.map_eq_nil_iff.mp e
    rw [this, List.length_nil] at lx
    omega
  have s2 : lwN [some (.d (.kl (ns.map D.int))), some (.d (.ref 0)), none, none, none] h0 = .nx [some (.d (.kl (ns.map D.int))), some (.d (.ref 0)), some (.d (wsD (xs.map cod))), none, none] h2 := set_d (call3 (h1 := h0) (h2 := h1) (h3 := h1) rfl en rfl e3)
  obtain ⟨W, h3, e4, g3, wW⟩ := v_words wN hN 2 6 (0 + 1 + 600) h2 (by omega) g2 (by simp only [cst]; omega) (by simp only [siz]; omega)
  have wW : Wds 41 21 W := wW.up (by simp only [siz]; omega)
  have g3 := g3.up (n := 2000) (by simp only [cst]; omega)
  have s3 : lwW [some (.d (.kl (ns.map D.int))), some (.d (.ref 0)), some (.d (wsD (xs.map cod))), none, none] h2 = .nx (envL (.kl (ns.map D.int)) (xs.map cod) W none) h3 := set_d (call3 (h1 := h2) (h2 := h2) (h3 := h2) rfl rfl rfl e4)
  obtain ⟨t5, h5, k5, e5, g5⟩ := lw_turns (S := .kl (ns.map D.int)) wN wW (rangeD 0 5) [] 2000 h3 none g3 (by rw [rangeD_len]; omega)
  rw [rangeD_len] at g5
  have s4 : mForR (gtN 4) (maCons (mC (.int 5)) maNil) lwB (envL (.kl (ns.map D.int)) (xs.map cod) W none) h3 = .nx (envL (.kl (ns.map D.int)) (xs.map cod) W k5) h5 := (for_r (j := 5) (h1 := h3) (by omega) rfl).trans e5
  obtain ⟨q, h6, e6, g6, _, _⟩ := draw2 (many := 3) g5 (by omega) (by omega) (by omega)
  have c6 : asB (m2 (fEq false) (mA1 (fCallN 2 F__law_draw []) (maCons (mVar 1) (maCons (mC (.int 3)) maNil))) (mC (.int 0))) (envL (.kl (ns.map D.int)) (xs.map cod) W k5) h5 = .ok (decide (q = 0)) h6 := asB_of ((m2_of (y := .d (.int 0)) (call2 (h1 := h5) (h2 := h5) rfl rfl e6) rfl).trans (eqI false _ _ h6))
  obtain ⟨h7, s5⟩ : ∃ h7, lwE (envL (.kl (ns.map D.int)) (xs.map cod) W k5) h5 = .nx (envL (.kl (ns.map D.int)) (xs.map cod) W k5) h7 := by
    by_cases hq : q = 0
    · rw [decide_eq_true hq] at c6
      obtain ⟨h7, _, e7⟩ := v_answered (W := [cod ""]) (Wds.wo (n := 1) (Wds.cons (wl_c "" (by decide +kernel)) .nil) (by omega)) (by decide) h6
      exact ⟨h7, if_skip ((and_tt c6).trans (not_b (b := true) (asB_of (call1 (one_of (c_w "")) e7))))⟩
    · rw [decide_eq_false hq] at c6
      exact ⟨h6, if_skip (and_ff c6)⟩
  obtain ⟨h8, _, e8⟩ := v_answered (wW.wo (by omega)) (by have := wW.1; omega) h7
  refine ⟨h8, ?_⟩
  refine (fnOf_eq 5 1 m_law _ [] rfl).trans (congrArg RS.fin (a₂ := .ret (.bl true) h8) ?_)
  rw [law_parts]
  refine Eq.trans (seq_nx (set_d e1)) ?_
  refine Eq.trans (seq_nx s2) ?_
  refine Eq.trans (seq_nx s3) ?_
  refine Eq.trans (seq_nx s4) ?_
  refine Eq.trans (seq_nx s5) ?_
  exact ret_of (call1 (h1 := h7) rfl e8)
end G38
set_option maxHeartbeats 0
open PySem PySem.W PySem.Calls PyProof.Rows
theorem G38.ends (hs : Vi.Says1 G38.F_law 63) : PySem.Challenge.rw_swornlots_k38_bad_claim_texts.Holds := by
  w_on; o_law
  refine HeadRun.head_imp (r := G38.hR) (q := view G38.hR.prog [0, 50]) (H := G38.hk) (ob := G38.ob) (M := 20000) (loose := G38.nl0 ++ G38.nl1 ++ G38.nl2) (d := HeadRun.topDef G38.hR.prog 50) (kwd := []) G38.ob_eq G38.run
    (by kernel_rfl) (by kernel_rfl) (by kernel_rfl) (by rfl) (by first | assumption | decide +kernel) (by decide +kernel) ⟨rfl, rfl, rfl, rfl, rfl, by decide +kernel⟩ ?hw ?hc
  case hw => w_witness2
  case hc =>
    refine Vi.walk_G (l := PySem.Challenge.rw_swornlots_k38_bad_claim_texts) (n := 63) (k := 69) (x := "_law_script") (F := G38.F_law) rfl (by decide) (by kernel_rfl) ⟨rfl, by decide, by decide⟩ hs ?T
    intro w mg fa h Y G hmg0
    obtain ⟨K, KX, c, ct⟩ := Y
    have hmg : mg ("law" : PySem.Str) = some (.ref fa) := by
      have e : (HeadRun.topDef G38.hR.prog 50).name = ("law" : PySem.Str) := by kernel_rfl
      rw [← e]
      exact hmg0
    have ok : G38.PDx.ok K = true := Vi.SaysV.fact c 0
    obtain ⟨fd, F⟩ := Vi.SaysV.fun_ c 49
    have b := L2.FunD.bindsA (ps := ["_law_script"]) F fun _ _ _ _ _ _ us hl => match us, hl with | [_], _ => rfl
    refine ⟨K, fd, G38.PDx.gi K, rfl, KX, fun s u => b s [u] rfl, fun base kin gn => ?_⟩
    have Z : G38.Gn w K mg base := ⟨⟨c, kin, gn, ok⟩, ct⟩
    obtain rfl : fa = G38.r_law.pth K := by
      have z := (He.glo_ok kin gn (Vi.SaysV.fact c 35)).symm.trans hmg
      cases z
      rfl
    exact G38.fg_law Z F
theorem PySem.Challenge.cw_swornlots_k38_bad_claim_texts_holds : PySem.Challenge.rw_swornlots_k38_bad_claim_texts.Holds :=
  G38.ends G38.says

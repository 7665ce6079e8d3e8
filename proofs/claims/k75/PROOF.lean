import PyProof.Rows.All
import Wide.All
import OpenK.AllK
import Wide.FinOn
import HandS.ForMost
import HandS.ForExc
import HandS.Defaults
import HandS.CallSlots
import HandS.Gcd
import HandS.Wide
import HandS.IsInst
import HandS.Property
import HandS.ClsMeth
import HandS.ExcInit
import HandS.ExcField
import HandS.ExcIs
import HandS.Flow
import HandS.TupAny
import HandS.Deep
import KE.KOpsOwn
import PyProof.ReprRoads
import PyProof.Rows.NestShow
import HandS.Comp
import HandS.HeadHook2
import HandS.Ends
import KE.HD3
import HandS.Codes
import PyProof.SliceSyntax
import KE.KRevSl
import HandS.SortInts
import KE.KSortTupAny
import KE.KDictCopyH
import KE.KDictSum
import HandS.Text
import HandS.OwnIter
import HandS.IterVal
import PyProof.WalksMore
import HandS.Strs
import HandS.Zip
import KE.KDictPairs
import PyProof.SeqRoads
import KE.GoesMore
import KE.GoesEnum
import HandS.Star
import HandS.Style
import HandS.More
import KE.GoesZip
import KE.KEqDict
import HandS.TupMul
import PyProof.Rows.StrMeet
import HandS.HotCalls
import HandS.DictComp
import KE.KDictZip
import HandS.HeadHook3
import HandS.Records
import HandS.WordsDict
import HandS.TupLen
import HandS.Walk
import HandS.Conv
import HandS.TryOnly
import HandS.SetFor
import KE.DataFind
import HandS.TupSets
import HandS.SetBool
import HandS.TupLe
import HandS.Rev
import PyProof.ListTruth
import HandS.RaiseMore
import PyProof.Rows.StrMul
import PyProof.Rows.Digits
import PySem.Challenge.RW_swornlots_k75_bad_plain_texts
import KE.KIntText
import HandS.Iter
import HandS.Replace
import HandS.ReplaceLit
import PyProof.CollectStr
import PyProof.Rows.StrBin
import KE.DataCmp
import HandS.ReplaceList
set_option Elab.async false
set_option linter.all false
set_option maxRecDepth 100000
set_option maxHeartbeats 2000000
namespace Vi
open PySem L2
inductive D where
  | non | bl (b : Bool) | int (i : Int) | str (x : Str)
  | tup (xs : List D) | lst (xs : List D) | kl (xs : List D)
  | xtup (xs : List D)
  | ref (n : Nat)
  | obj (c : Nat) (fs : List (Str × D))
  | cls (c : Nat)
  | dK (kvs : List (Key × D)) | dT (kvs : List (List Key × D))
inductive Cell where
  | lst (xs : List D)
  | ins (c : Nat) (fs : List (Str × D))
  | dK (kvs : List (Key × D)) | dT (kvs : List (List Key × D))
  | lk (kvs : List (Key × D))
  | frz (c : Cell)
inductive Vl where
  | d (x : D) | tl (xs : List D) | bl (xs : List D) | bi (c : Nat) (fs : List (Str × D))
inductive Sl where
  | d (x : D) | ol (xs : List D) | oi (c : Nat) (fs : List (Str × D)) | xc (c : Nat) (fs : List (Str × D))
abbrev Env := List (Option Sl)
abbrev Hc := List Cell
inductive R (α : Type) where
  | ok (a : α) (h : Hc) | exc (x : D) (h : Hc) | stuck
def R.bind {α β : Type} (r : R α) (k : α → Hc → R β) : R β := match r with
  | .ok a h => k a h
  | .exc x h => .exc x h
  | .stuck => .stuck
@[simp] theorem R.bind_ok {α β : Type} {a : α} {h : Hc} {k : α → Hc → R β} : (R.ok a h).bind k = k a h := rfl
@[simp] theorem R.bind_exc {α β : Type} {a : D} {h : Hc} {k : α → Hc → R β} : (R.exc a h : R α).bind k = .exc a h := rfl
@[simp] theorem R.bind_stuck {α β : Type} {k : α → Hc → R β} : (R.stuck : R α).bind k = .stuck := rfl
inductive Ty where
  | bt (n : String) | own (c : Nat)
  deriving DecidableEq
structure Gi where
  K : PySem.W.Frag
  ca : Nat → Addr
  isC : Nat → Bool
  fld : Nat → Str → Bool
  isi : Ty → Ty → Option Bool
  kc : List D → Bool
def SqK (g : Gi) (ds : List D) (F : Hp) (a : Addr) (vs : List V) : Prop := F a = some (.tup vs) ∨ (g.kc ds = true ∧ SqT g.K F a vs)
theorem SqK.sq {g : Gi} {ds : List D} {F : Hp} {a : Addr} {vs : List V} (h : SqK g ds F a vs) : SqT g.K F a vs := by
  rcases h with h | h
  · exact .inl (.inl h)
  · exact h.2
mutual
def Rep (g : Gi) (F : Hp) (al : Nat → Option Addr) : D → V → Prop
  | .non, v => v = .non
  | .bl b, v => v = .bl b
  | .int i, v => v = .int i
  | .str x, v => v = .str x
  | .tup ds, v => ∃ (a : Addr) (vs : List V), v = .ref a ∧ SqK g ds F a vs ∧ Reps g F al ds vs
  | .lst ds, v => ∃ (a : Addr) (vs : List V), v = .ref a ∧ F a = some (.lst vs) ∧ Reps g F al ds vs
  | .xtup ds, v => ∃ (a : Addr) (o : Obj) (vs : List V), v = .ref a ∧ F a = some (.frz o (.tup vs)) ∧ o.dict = none ∧ Reps g F al ds vs
  | .kl ds, v => ∃ (a : Addr) (vs : List V), v = .ref a ∧ SqL g.K F a vs ∧ Reps g F al ds vs
  | .ref n, v => ∃ a, v = .ref a ∧ al n = some a
  | .obj c fs, v => ∃ (a dx : Addr) (vs : List (Str × V)), v = .ref a ∧ F a = some (.ins (g.ca c) dx vs) ∧ RepF g F al fs vs
  | .cls c, v => v = .ref (g.ca c)
  | .dK kvs, v => ∃ (a : Addr) (vs : List (Key × V)), v = .ref a ∧ F a = some (.dK vs) ∧ RepK g F al kvs vs
  | .dT kvs, v => ∃ (a : Addr) (vs : List (List Key × V)), v = .ref a ∧ F a = some (.dT vs) ∧ RepT g F al kvs vs
def Reps (g : Gi) (F : Hp) (al : Nat → Option Addr) : List D → List V → Prop
  | [], vs => vs = []
  | d :: ds, vs => ∃ v r, vs = v :: r ∧ Rep g F al d v ∧ Reps g F al ds r
def RepF (g : Gi) (F : Hp) (al : Nat → Option Addr) : List (Str × D) → List (Str × V) → Prop
  | [], vs => vs = []
  | (k, d) :: ds, vs => ∃ v r, vs = (k, v) :: r ∧ Rep g F al d v ∧ RepF g F al ds r
def RepK (g : Gi) (F : Hp) (al : Nat → Option Addr) : List (Key × D) → List (Key × V) → Prop
  | [], vs => vs = []
  | (k, d) :: ds, vs => ∃ v r, vs = (k, v) :: r ∧ Rep g F al d v ∧ RepK g F al ds r
def RepT (g : Gi) (F : Hp) (al : Nat → Option Addr) : List (List Key × D) → List (List Key × V) → Prop
  | [], vs => vs = []
  | (k, d) :: ds, vs => ∃ v r, vs = (k, v) :: r ∧ Rep g F al d v ∧ RepT g F al ds r
end
theorem sqT_mono {K : PySem.W.Frag} {F F' : Hp} {a : Addr} {vs : List V} (e : ∀ a o, F a = some o → F' a = some o) (h : SqT K F a vs) : SqT K F' a vs := by
  rcases h with (h | ⟨o, h⟩) | h
  · exact .inl (.inl (e _ _ h))
  · exact .inl (.inr ⟨o, e _ _ h⟩)
  · exact .inr h
theorem sqK_mono {g : Gi} {ds : List D} {F F' : Hp} {a : Addr} {vs : List V} (e : ∀ a o, F a = some o → F' a = some o) (h : SqK g ds F a vs) : SqK g ds F' a vs := by
  rcases h with h | h
  · exact .inl (e _ _ h)
  · exact .inr ⟨h.1, sqT_mono e h.2⟩
theorem sqL_mono {K : PySem.W.Frag} {F F' : Hp} {a : Addr} {vs : List V} (e : ∀ a o, F a = some o → F' a = some o) (h : SqL K F a vs) : SqL K F' a vs := by
  rcases h with (h | ⟨o, h⟩) | h
  · exact .inl (.inl (e _ _ h))
  · exact .inl (.inr ⟨o, e _ _ h⟩)
  · exact .inr h
section
variable {g : Gi} {F F' : Hp} {al al' : Nat → Option Addr}
mutual
theorem Rep.mono (e : ∀ a o, F a = some o → F' a = some o) (ea : ∀ n a, al n = some a → al' n = some a) : ∀ {d : D} {v : V}, Rep g F al d v → Rep g F' al' d v
  | .non, _, h => h
  | .bl _, _, h => h
  | .int _, _, h => h
  | .str _, _, h => h
  | .tup _, _, ⟨a, vs, h1, h2, h3⟩ => ⟨a, vs, h1, sqK_mono e h2, Reps.mono e ea h3⟩
  | .lst _, _, ⟨a, vs, h1, h2, h3⟩ => ⟨a, vs, h1, e _ _ h2, Reps.mono e ea h3⟩
  | .xtup _, _, ⟨a, o, vs, h1, h2, h3, h4⟩ => ⟨a, o, vs, h1, e _ _ h2, h3, Reps.mono e ea h4⟩
  | .kl _, _, ⟨a, vs, h1, h2, h3⟩ => ⟨a, vs, h1, sqL_mono e h2, Reps.mono e ea h3⟩
  | .ref _, _, ⟨a, h1, h2⟩ => ⟨a, h1, ea _ _ h2⟩
  | .obj _ _, _, ⟨a, dx, vs, h1, h2, h3⟩ => ⟨a, dx, vs, h1, e _ _ h2, RepF.mono e ea h3⟩
  | .cls _, _, h => h
  | .dK _, _, ⟨a, vs, h1, h2, h3⟩ => ⟨a, vs, h1, e _ _ h2, RepK.mono e ea h3⟩
  | .dT _, _, ⟨a, vs, h1, h2, h3⟩ => ⟨a, vs, h1, e _ _ h2, RepT.mono e ea h3⟩
theorem Reps.mono (e : ∀ a o, F a = some o → F' a = some o) (ea : ∀ n a, al n = some a → al' n = some a) : ∀ {d : List D} {v : List V}, Reps g F al d v → Reps g F' al' d v
  | [], _, h => h
  | _ :: _, _, ⟨v, r, h1, h2, h3⟩ => ⟨v, r, h1, Rep.mono e ea h2, Reps.mono e ea h3⟩
theorem RepF.mono (e : ∀ a o, F a = some o → F' a = some o) (ea : ∀ n a, al n = some a → al' n = some a) : ∀ {d : List (Str × D)} {v : List (Str × V)}, RepF g F al d v → RepF g F' al' d v
  | [], _, h => h
  | (_, _) :: _, _, ⟨v, r, h1, h2, h3⟩ => ⟨v, r, h1, Rep.mono e ea h2, RepF.mono e ea h3⟩
theorem RepK.mono (e : ∀ a o, F a = some o → F' a = some o) (ea : ∀ n a, al n = some a → al' n = some a) : ∀ {d : List (Key × D)} {v : List (Key × V)}, RepK g F al d v → RepK g F' al' d v
  | [], _, h => h
  | (_, _) :: _, _, ⟨v, r, h1, h2, h3⟩ => ⟨v, r, h1, Rep.mono e ea h2, RepK.mono e ea h3⟩
theorem RepT.mono (e : ∀ a o, F a = some o → F' a = some o) (ea : ∀ n a, al n = some a → al' n = some a) : ∀ {d : List (List Key × D)} {v : List (List Key × V)}, RepT g F al d v → RepT g F' al' d v
  | [], _, h => h
  | (_, _) :: _, _, ⟨v, r, h1, h2, h3⟩ => ⟨v, r, h1, Rep.mono e ea h2, RepT.mono e ea h3⟩
end
end
structure Sta where
  F : Hp
  al : Nat → Option Addr
  h : Hc
  z : Nat → Option HO
abbrev RepS (g : Gi) (s : Sta) : D → V → Prop := Rep g s.F s.al
abbrev RepsS (g : Gi) (s : Sta) : List D → List V → Prop := Reps g s.F s.al
def CellRep (g : Gi) (s : Sta) (H : Hp) (a : Addr) : Cell → Prop
  | .lst ds => ∃ vs, H a = some (.lst vs) ∧ Reps g s.F s.al ds vs
  | .ins c fs => ∃ dx vs, H a = some (.ins (g.ca c) dx vs) ∧ RepF g s.F s.al fs vs
  | .dK kvs => ∃ vs, H a = some (.dK vs) ∧ RepK g s.F s.al kvs vs
  | .dT kvs => ∃ vs, H a = some (.dT vs) ∧ RepT g s.F s.al kvs vs
  | .lk kvs => ∃ od vs, H a = some (.frz od (.dK vs)) ∧ RepK g s.F s.al kvs vs
  | .frz c => CellRep g s H a c
theorem CellRep.mv {g : Gi} {s s' : Sta} {H H' : Hp} {a : Addr} (e : ∀ o, H a = some o → H' a = some o) (f : ∀ a o, s.F a = some o → s'.F a = some o) (l : ∀ n a, s.al n = some a → s'.al n = some a) : ∀ {c : Cell}, CellRep g s H a c → CellRep g s' H' a c
  | .lst _, ⟨vs, h3, h4⟩ => ⟨vs, e _ h3, h4.mono f l⟩
  | .ins _ _, ⟨dx, vs, h3, h4⟩ => ⟨dx, vs, e _ h3, h4.mono f l⟩
  | .dK _, ⟨vs, h3, h4⟩ => ⟨vs, e _ h3, h4.mono f l⟩
  | .dT _, ⟨vs, h3, h4⟩ => ⟨vs, e _ h3, h4.mono f l⟩
  | .lk _, ⟨od, vs, h3, h4⟩ => ⟨od, vs, e _ h3, h4.mono f l⟩
  | .frz c, h => CellRep.mv (c := c) e f l h
structure ZOk (s : Sta) (H : Hp) : Prop where
  at_ : ∀ n o, s.z n = some o → ∃ a c, s.al n = some a ∧ H a = some o ∧ s.h[n]? = some (.frz c)
  of : ∀ n c, s.h[n]? = some (.frz c) → ∃ o, s.z n = some o
theorem ZOk.keep {s s' : Sta} {H H' : Hp} (k : ZOk s H) (ez : s'.z = s.z) (eh : s'.h = s.h) (l : ∀ n a, s.al n = some a → s'.al n = some a) (e : ∀ n a o, s.al n = some a → H a = some o → H' a = some o) : ZOk s' H' :=
  ⟨fun n o h => by
    rw [ez] at h
    obtain ⟨a, c, h1, h2, h3⟩ := k.at_ n o h
    exact ⟨a, c, l _ _ h1, e n a o h1 h2, by rw [eh]; exact h3⟩, fun n c h => by
    rw [eh] at h
    rw [ez]
    exact k.of n c h⟩
structure Good (g : Gi) (s : Sta) (H : Hp) : Prop where
  fle : ∀ a o, s.F a = some o → H a = some o
  inj : ∀ n m a, s.al n = some a → s.al m = some a → n = m
  dom : ∀ n a, s.al n = some a → n < s.h.length ∧ s.F a = none ∧ ∃ o, H a = some o
  cell : ∀ n c, s.h[n]? = some c → ∃ a, s.al n = some a ∧ CellRep g s H a c
  zed : ZOk s H
structure Evo (s : Sta) (H : Hp) (s' : Sta) (H' : Hp) : Prop where
  f : ∀ a o, s.F a = some o → s'.F a = some o
  al : ∀ n a, s.al n = some a → s'.al n = some a
  oth : ∀ a o, H a = some o → (∀ n, s.al n ≠ some a) → H' a = some o ∧ (s.F a = none → (∀ ws, o ≠ .tup ws) → s'.F a = none) ∧ ∀ n, s'.al n ≠ some a
  len : s.h.length ≤ s'.h.length
  z : ∀ n o, s.z n = some o → s'.z n = some o
theorem Evo.refl (s : Sta) (H : Hp) : Evo s H s H := ⟨fun _ _ h => h, fun _ _ h => h, fun _ _ h n => ⟨h, fun z _ => z, n⟩, Nat.le_refl _, fun _ _ h => h⟩
theorem Evo.trans {s s1 s2 : Sta} {H H1 H2 : Hp} (a : Evo s H s1 H1) (b : Evo s1 H1 s2 H2) : Evo s H s2 H2 :=
  ⟨fun _ _ h => b.f _ _ (a.f _ _ h), fun _ _ h => b.al _ _ (a.al _ _ h), fun x o h n => by
    obtain ⟨h1, f1, n1⟩ := a.oth x o h n
    obtain ⟨h2, f2, n2⟩ := b.oth x o h1 n1
    exact ⟨h2, fun z t => f2 (f1 z t) t, n2⟩, Nat.le_trans a.len b.len, fun _ _ h => b.z _ _ (a.z _ _ h)⟩
section
variable {g : Gi} {s s' : Sta} {H H' : Hp}
theorem Evo.rep (e : Evo s H s' H') {d : D} {v : V} (h : Rep g s.F s.al d v) : Rep g s'.F s'.al d v := h.mono e.f e.al
theorem Evo.reps (e : Evo s H s' H') {d : List D} {v : List V} (h : Reps g s.F s.al d v) : Reps g s'.F s'.al d v := h.mono e.f e.al
theorem Evo.repF (e : Evo s H s' H') {d : List (Str × D)} {v : List (Str × V)} (h : RepF g s.F s.al d v) : RepF g s'.F s'.al d v := h.mono e.f e.al
end
structure Bg where
  s : Sta
  H : Hp
  me : Addr := 0
  xa : Addr := 0
  xd : Addr := 0
  xcl : Nat := 0
structure OwnA (B : Bg) (s : Sta) (a : Addr) : Prop where
  f : s.F a = none
  al : ∀ n, s.al n ≠ some a
  new : B.H a = none
theorem OwnA.evo {B : Bg} {s s' : Sta} {H H' : Hp} {a : Addr} {o : HO} (e : Evo s H s' H') (h : OwnA B s a) (ho : H a = some o) (nt : ∀ ws, o ≠ .tup ws) : OwnA B s' a ∧ H' a = some o := by
  obtain ⟨h1, h2, h3⟩ := e.oth a o ho h.al
  exact ⟨⟨h2 h.f nt, h3, h.new⟩, h1⟩
def SlRep (g : Gi) (B : Bg) (s : Sta) (H : Hp) : Sl → V → Prop
  | .d x, v => Rep g s.F s.al x v
  | .ol xs, v => ∃ a vs, v = .ref a ∧ H a = some (.lst vs) ∧ OwnA B s a ∧ Reps g s.F s.al xs vs
  | .oi c fs, v => ∃ a dx vs, v = .ref a ∧ H a = some (.ins (g.ca c) dx vs) ∧ OwnA B s a ∧ RepF g s.F s.al fs vs ∧ a = B.me
  | .xc c fs, v => v = .ref B.xa ∧ c = B.xcl ∧ ∃ vs, H B.xd = some (.xd vs) ∧ (∀ n, s.al n ≠ some B.xd) ∧ RepF g s.F s.al fs vs
def Sl.own : Sl → Bool
  | .d _ => false
  | .xc _ _ => false
  | _ => true
theorem SlRep.evo {g : Gi} {B : Bg} {s s' : Sta} {H H' : Hp} (e : Evo s H s' H') : ∀ {sl : Sl} {v : V}, SlRep g B s H sl v → SlRep g B s' H' sl v
  | .d _, _, h => e.rep h
  | .ol _, _, ⟨a, vs, h1, h2, h3, h4⟩ => ⟨a, vs, h1, (h3.evo e h2 fun _ z => nomatch z).2, (h3.evo e h2 fun _ z => nomatch z).1, e.reps h4⟩
  | .oi _ _, _, ⟨a, dx, vs, h1, h2, h3, h4, h5⟩ => ⟨a, dx, vs, h1, (h3.evo e h2 fun _ z => nomatch z).2, (h3.evo e h2 fun _ z => nomatch z).1, e.repF h4, h5⟩
  | .xc _ _, _, ⟨h1, h2, vs, h3, h4, h5⟩ => ⟨h1, h2, vs, (e.oth _ _ h3 h4).1, (e.oth _ _ h3 h4).2.2, e.repF h5⟩
structure SR (g : Gi) (B : Bg) (env : Env) (s : Sta) (σ : L2.St) (H : Hp) : Prop where
  good : Good g s H
  evo : Evo B.s B.H s H
  len : env.length = σ.length
  slot : ∀ (i : Nat) (sl : Sl), env[i]? = some (some sl) → ∃ v, σ[i]? = some (some v) ∧ SlRep g B s H sl v
  sep : ∀ (i j : Nat) (sl sl' : Sl) (v : V), i ≠ j → env[i]? = some (some sl) → env[j]? = some (some sl') → sl.own = true → sl'.own = true → σ[i]? = some (some v) → σ[j]? ≠ some (some v)
def NotOwn (env : Env) (σ : L2.St) (a : Addr) : Prop := ∀ (i : Nat) (sl : Sl), env[i]? = some (some sl) → sl.own = true → σ[i]? ≠ some (some (.ref a))
def VlRep (g : Gi) (B : Bg) (env : Env) (σ : L2.St) (s : Sta) (H : Hp) : Vl → V → Prop
  | .d x, v => Rep g s.F s.al x v
  | .tl xs, v => ∃ a vs, v = .ref a ∧ H a = some (.lst vs) ∧ OwnA B s a ∧ NotOwn env σ a ∧ Reps g s.F s.al xs vs
  | .bl xs, v => ∃ a vs, v = .ref a ∧ H a = some (.lst vs) ∧ OwnA B s a ∧ Reps g s.F s.al xs vs
  | .bi c fs, v => ∃ a dx vs, v = .ref a ∧ H a = some (.ins (g.ca c) dx vs) ∧ OwnA B s a ∧ RepF g s.F s.al fs vs
theorem VlRep.evo {g : Gi} {B : Bg} {env : Env} {σ : L2.St} {s s' : Sta} {H H' : Hp} (e : Evo s H s' H') : ∀ {x : Vl} {v : V}, VlRep g B env σ s H x v → VlRep g B env σ s' H' x v
  | .d _, _, h => e.rep h
  | .tl _, _, ⟨a, vs, h1, h2, h3, h5, h4⟩ => ⟨a, vs, h1, (h3.evo e h2 fun _ z => nomatch z).2, (h3.evo e h2 fun _ z => nomatch z).1, h5, e.reps h4⟩
  | .bl _, _, ⟨a, vs, h1, h2, h3, h4⟩ => ⟨a, vs, h1, (h3.evo e h2 fun _ z => nomatch z).2, (h3.evo e h2 fun _ z => nomatch z).1, e.reps h4⟩
  | .bi _ _, _, ⟨a, dx, vs, h1, h2, h3, h4⟩ => ⟨a, dx, vs, h1, (h3.evo e h2 fun _ z => nomatch z).2, (h3.evo e h2 fun _ z => nomatch z).1, e.repF h4⟩
def XRep (g : Gi) (s : Sta) (H : Hp) : D → Value → Option Addr → Prop
  | .obj c fs, cls, dd => ∃ d vs, cls = .ref (g.ca c) ∧ dd = some d ∧ H d = some (.xd vs) ∧ (∀ n, s.al n ≠ some d) ∧ RepF g s.F s.al fs vs
  | _, _, _ => False
abbrev WXv := Value → Option Addr → L2.St → Hp → Prop
abbrev ME := Env → Hc → R Vl
abbrev MB := Env → Hc → R Bool
abbrev MA := Env → Hc → R (List Vl)
section
variable (g : Gi) (B : Bg) (W : WXv) (env : Env) (s : Sta) (σ : L2.St) (H : Hp)
def PostX (x : D) (h : Hc) : Prop := ∀ (cls : Value) (dd : Option Addr) (H' : Hp) (s' : Sta), s'.h = h → Evo s H s' H' → SR g B env s' σ H' → XRep g s' H' x cls dd → W cls dd σ H'
def PostE : R Vl → VK → Prop
  | .ok d h, Q => ∀ (v : V) (H' : Hp) (s' : Sta), s'.h = h → Evo s H s' H' → SR g B env s' σ H' → VlRep g B env σ s' H' d v → Q v H'
  | .exc x h, _ => PostX g B W env s σ H x h
  | .stuck, _ => False
def PostB : R Bool → (Bool → Hp → Prop) → Prop
  | .ok b h, Q => ∀ (H' : Hp) (s' : Sta), s'.h = h → Evo s H s' H' → SR g B env s' σ H' → Q b H'
  | .exc x h, _ => PostX g B W env s σ H x h
  | .stuck, _ => False
inductive VlReps (g : Gi) (B : Bg) (env : Env) (σ : L2.St) (s : Sta) (H : Hp) : List Vl → List V → Prop
  | nil : VlReps g B env σ s H [] []
  | cons {x : Vl} {xs : List Vl} {v : V} {vs : List V} : VlRep g B env σ s H x v → VlReps g B env σ s H xs vs → VlReps g B env σ s H (x :: xs) (v :: vs)
def PostA : R (List Vl) → (List V → Hp → Prop) → Prop
  | .ok d h, Q => ∀ (vs : List V) (H' : Hp) (s' : Sta), s'.h = h → Evo s H s' H' → SR g B env s' σ H' → VlReps g B env σ s' H' d vs → Q vs H'
  | .exc x h, _ => PostX g B W env s σ H x h
  | .stuck, _ => False
end
theorem VlReps.evo {g : Gi} {B : Bg} {env : Env} {σ : L2.St} {s s' : Sta} {H H' : Hp} (e : Evo s H s' H') : ∀ {x : List Vl} {v : List V}, VlReps g B env σ s H x v → VlReps g B env σ s' H' x v
  | _, _, .nil => .nil
  | _, _, .cons a b => .cons (a.evo e) (b.evo e)
def tE (g : Gi) (B : Bg) (W : WXv) (m : ME) : TE := fun σ H Q => ∃ env s, SR g B env s σ H ∧ PostE g B W env s σ H (m env s.h) Q
def tT (g : Gi) (B : Bg) (W : WXv) (m : MB) : TT := fun σ H Q => ∃ env s, SR g B env s σ H ∧ PostB g B W env s σ H (m env s.h) Q
def tA (g : Gi) (B : Bg) (W : WXv) (m : MA) : TA := fun σ H Q => ∃ env s, SR g B env s σ H ∧ PostA g B W env s σ H (m env s.h) Q
section
variable {g : Gi} {B : Bg} {W : WXv} {env : Env} {s s' : Sta} {σ : L2.St} {H H' : Hp}
theorem PostX.later {x : D} {h : Hc} (e : Evo s H s' H') (p : PostX g B W env s σ H x h) : PostX g B W env s' σ H' x h := fun cls dd H2 s2 e1 e2 sr xr => p cls dd H2 s2 e1 (e.trans e2) sr xr
theorem PostE.later {Q : VK} (e : Evo s H s' H') : ∀ {r : R Vl}, PostE g B W env s σ H r Q → PostE g B W env s' σ H' r Q
  | .ok _ _, p => fun v H2 s2 e1 e2 sr vr => p v H2 s2 e1 (e.trans e2) sr vr
  | .exc _ _, p => PostX.later e p
  | .stuck, p => p
theorem PostB.later {Q : Bool → Hp → Prop} (e : Evo s H s' H') : ∀ {r : R Bool}, PostB g B W env s σ H r Q → PostB g B W env s' σ H' r Q
  | .ok _ _, p => fun H2 s2 e1 e2 sr => p H2 s2 e1 (e.trans e2) sr
  | .exc _ _, p => PostX.later e p
  | .stuck, p => p
theorem PostA.later {Q : List V → Hp → Prop} (e : Evo s H s' H') : ∀ {r : R (List Vl)}, PostA g B W env s σ H r Q → PostA g B W env s' σ H' r Q
  | .ok _ _, p => fun v H2 s2 e1 e2 sr vr => p v H2 s2 e1 (e.trans e2) sr vr
  | .exc _ _, p => PostX.later e p
  | .stuck, p => p
theorem PostE.mono {Q Q' : VK} (i : ∀ v H, Q v H → Q' v H) : ∀ {r : R Vl}, PostE g B W env s σ H r Q → PostE g B W env s σ H r Q'
  | .ok _ _, p => fun v H2 s2 e1 e2 sr vr => i _ _ (p v H2 s2 e1 e2 sr vr)
  | .exc _ _, p => p
  | .stuck, p => p
theorem PostB.mono {Q Q' : Bool → Hp → Prop} (i : ∀ v H, Q v H → Q' v H) : ∀ {r : R Bool}, PostB g B W env s σ H r Q → PostB g B W env s σ H r Q'
  | .ok _ _, p => fun H2 s2 e1 e2 sr => i _ _ (p H2 s2 e1 e2 sr)
  | .exc _ _, p => p
  | .stuck, p => p
theorem PostA.mono {Q Q' : List V → Hp → Prop} (i : ∀ v H, Q v H → Q' v H) : ∀ {r : R (List Vl)}, PostA g B W env s σ H r Q → PostA g B W env s σ H r Q'
  | .ok _ _, p => fun v H2 s2 e1 e2 sr vr => i _ _ (p v H2 s2 e1 e2 sr vr)
  | .exc _ _, p => p
  | .stuck, p => p
theorem tE.mono {m : ME} {Q Q' : VK} (h : tE g B W m σ H Q) (i : ∀ v H, Q v H → Q' v H) : tE g B W m σ H Q' := by
  obtain ⟨env, s, sr, p⟩ := h
  exact ⟨env, s, sr, p.mono i⟩
theorem tT.mono {m : MB} {Q Q' : Bool → Hp → Prop} (h : tT g B W m σ H Q) (i : ∀ v H, Q v H → Q' v H) : tT g B W m σ H Q' := by
  obtain ⟨env, s, sr, p⟩ := h
  exact ⟨env, s, sr, p.mono i⟩
theorem tA.mono {m : MA} {Q Q' : List V → Hp → Prop} (h : tA g B W m σ H Q) (i : ∀ v H, Q v H → Q' v H) : tA g B W m σ H Q' := by
  obtain ⟨env, s, sr, p⟩ := h
  exact ⟨env, s, sr, p.mono i⟩
theorem bindE {a : ME} {k : Vl → Hc → R Vl} {Q : VK} (sr : SR g B env s σ H) (p : PostE g B W env s σ H ((a env s.h).bind k) Q) :
    tE g B W a σ H fun v H1 => ∃ s1 x, SR g B env s1 σ H1 ∧ Evo s H s1 H1 ∧ VlRep g B env σ s1 H1 x v ∧ PostE g B W env s1 σ H1 (k x s1.h) Q := by
  refine ⟨env, s, sr, ?_⟩
  cases e : a env s.h with
  | ok x h1 =>
    rw [e] at p
    intro v H1 s1 e1 ev sr1 vr
    refine ⟨s1, x, sr1, ev, vr, ?_⟩
    rw [e1]
    exact PostE.later ev p
  | exc x h1 =>
    rw [e] at p
    exact p
  | stuck =>
    rw [e] at p
    exact p
theorem bindET {a : ME} {k : Vl → Hc → R Bool} {Q : Bool → Hp → Prop} (sr : SR g B env s σ H) (p : PostB g B W env s σ H ((a env s.h).bind k) Q) :
    tE g B W a σ H fun v H1 => ∃ s1 x, SR g B env s1 σ H1 ∧ Evo s H s1 H1 ∧ VlRep g B env σ s1 H1 x v ∧ PostB g B W env s1 σ H1 (k x s1.h) Q := by
  refine ⟨env, s, sr, ?_⟩
  cases e : a env s.h with
  | ok x h1 =>
    rw [e] at p
    intro v H1 s1 e1 ev sr1 vr
    refine ⟨s1, x, sr1, ev, vr, ?_⟩
    rw [e1]
    exact PostB.later ev p
  | exc x h1 =>
    rw [e] at p
    exact p
  | stuck =>
    rw [e] at p
    exact p
theorem bindTE {a : MB} {k : Bool → Hc → R Vl} {Q : VK} (sr : SR g B env s σ H) (p : PostE g B W env s σ H ((a env s.h).bind k) Q) :
    tT g B W a σ H fun b H1 => ∃ s1, SR g B env s1 σ H1 ∧ Evo s H s1 H1 ∧ PostE g B W env s1 σ H1 (k b s1.h) Q := by
  refine ⟨env, s, sr, ?_⟩
  cases e : a env s.h with
  | ok x h1 =>
    rw [e] at p
    intro H1 s1 e1 ev sr1
    refine ⟨s1, sr1, ev, ?_⟩
    rw [e1]
    exact PostE.later ev p
  | exc x h1 =>
    rw [e] at p
    exact p
  | stuck =>
    rw [e] at p
    exact p
theorem bindTT {a : MB} {k : Bool → Hc → R Bool} {Q : Bool → Hp → Prop} (sr : SR g B env s σ H) (p : PostB g B W env s σ H ((a env s.h).bind k) Q) :
    tT g B W a σ H fun b H1 => ∃ s1, SR g B env s1 σ H1 ∧ Evo s H s1 H1 ∧ PostB g B W env s1 σ H1 (k b s1.h) Q := by
  refine ⟨env, s, sr, ?_⟩
  cases e : a env s.h with
  | ok x h1 =>
    rw [e] at p
    intro H1 s1 e1 ev sr1
    refine ⟨s1, sr1, ev, ?_⟩
    rw [e1]
    exact PostB.later ev p
  | exc x h1 =>
    rw [e] at p
    exact p
  | stuck =>
    rw [e] at p
    exact p
theorem bindAA {a : ME} {b : MA} {f : Vl → List Vl → Hc → R (List Vl)} {Q : List V → Hp → Prop} (sr : SR g B env s σ H) (p : PostA g B W env s σ H ((a env s.h).bind fun x h1 => (b env h1).bind fun xs h2 => f x xs h2) Q) :
    tE g B W a σ H fun v H1 => tA g B W b σ H1 fun vs H2 => ∃ s2 x xs, SR g B env s2 σ H2 ∧ Evo s H s2 H2 ∧ VlRep g B env σ s2 H2 x v ∧ VlReps g B env σ s2 H2 xs vs ∧ PostA g B W env s2 σ H2 (f x xs s2.h) Q := by
  refine ⟨env, s, sr, ?_⟩
  cases e1 : a env s.h with
  | ok x h1 =>
    rw [e1] at p
    intro v H1 s1 q1 ev1 sr1 vr1
    refine ⟨env, s1, sr1, ?_⟩
    have p : PostA g B W env s σ H ((b env h1).bind fun xs h2 => f x xs h2) Q := p
    rw [q1]
    cases e2 : b env h1 with
    | ok xs h2 =>
      rw [e2] at p
      intro vs H2 s2 q2 ev2 sr2 vr2
      refine ⟨s2, x, xs, sr2, ev1.trans ev2, vr1.evo ev2, vr2, ?_⟩
      rw [q2]
      exact PostA.later (ev1.trans ev2) p
    | exc x h =>
      rw [e2] at p
      exact PostX.later ev1 p
    | stuck =>
      rw [e2] at p
      exact p
  | exc x h =>
    rw [e1] at p
    exact p
  | stuck =>
    rw [e1] at p
    exact p
theorem bindA {a : MA} {k : List Vl → Hc → R Vl} {Q : VK} (sr : SR g B env s σ H) (p : PostE g B W env s σ H ((a env s.h).bind k) Q) :
    tA g B W a σ H fun vs H1 => ∃ s1 xs, SR g B env s1 σ H1 ∧ Evo s H s1 H1 ∧ VlReps g B env σ s1 H1 xs vs ∧ PostE g B W env s1 σ H1 (k xs s1.h) Q := by
  refine ⟨env, s, sr, ?_⟩
  cases e : a env s.h with
  | ok x h1 =>
    rw [e] at p
    intro v H1 s1 e1 ev sr1 vr
    refine ⟨s1, x, sr1, ev, vr, ?_⟩
    rw [e1]
    exact PostE.later ev p
  | exc x h1 =>
    rw [e] at p
    exact p
  | stuck =>
    rw [e] at p
    exact p
theorem PostE.pure {x : Vl} {v : V} {Q : VK} (sr : SR g B env s σ H) (p : PostE g B W env s σ H (.ok x s.h) Q) (r : VlRep g B env σ s H x v) : Q v H := p v H s rfl (Evo.refl s H) sr r
theorem PostB.pure {b : Bool} {Q : Bool → Hp → Prop} (sr : SR g B env s σ H) (p : PostB g B W env s σ H (.ok b s.h) Q) : Q b H := p H s rfl (Evo.refl s H) sr
theorem SR.new {p : Addr} {o : HO} (sr : SR g B env s σ H) (hp : H p = none) : SR g B env s σ (upd H p o) ∧ Evo s H s (upd H p o) := by
  have ne : ∀ {a : Addr} {u : HO}, H a = some u → a ≠ p := fun h => ne_of_none h hp
  have ev : Evo s H s (upd H p o) := ⟨fun _ _ h => h, fun _ _ h => h, fun a u h n => ⟨by rw [upd_ne (ne h)]; exact h, fun z _ => z, n⟩, Nat.le_refl _, fun _ _ h => h⟩
  refine ⟨⟨⟨fun a u h => ?_, sr.good.inj, fun n a h => ?_, fun n c h => ?_, sr.good.zed.keep rfl rfl (fun _ _ h => h) fun n a o _ h => by rw [upd_ne (ne h)]; exact h⟩, sr.evo.trans ev, sr.len, fun i sl h => ?_, sr.sep⟩, ev⟩
  · have z := sr.good.fle a u h
    rw [upd_ne (ne z)]
    exact z
  · obtain ⟨h1, h2, u, h3⟩ := sr.good.dom n a h
    exact ⟨h1, h2, u, by rw [upd_ne (ne h3)]; exact h3⟩
  · obtain ⟨a, h1, h2⟩ := sr.good.cell n c h
    refine ⟨a, h1, ?_⟩
    exact h2.mv (fun o h3 => by rw [upd_ne (ne h3)]; exact h3) (fun _ _ h => h) fun _ _ h => h
  · obtain ⟨v, h1, h2⟩ := sr.slot i sl h
    exact ⟨v, h1, h2.evo ev⟩
theorem SR.own_new {p : Addr} (sr : SR g B env s σ H) (hp : H p = none) : OwnA B s p := by
  refine ⟨?_, fun n h => ?_, ?_⟩
  · cases e : s.F p with
    | none => rfl
    | some o =>
      have z := sr.good.fle p o e
      rw [hp] at z
      cases z
  · obtain ⟨_, _, o, h3⟩ := sr.good.dom n p h
    rw [hp] at h3
    cases h3
  · cases e : B.H p with
    | none => rfl
    | some o =>
      by_cases hn : ∀ n, B.s.al n ≠ some p
      · have z := (sr.evo.oth p o e hn).1
        rw [hp] at z
        cases z
      · have hn2 : ∃ n, B.s.al n = some p := Classical.byContradiction fun h => hn fun n z => h ⟨n, z⟩
        obtain ⟨n, h⟩ := hn2
        obtain ⟨_, _, o, h3⟩ := sr.good.dom n p (sr.evo.al n p h)
        rw [hp] at h3
        cases h3
theorem SlRep.there {sl : Sl} {v : V} (h : SlRep g B s H sl v) (o : sl.own = true) : ∃ a u, v = .ref a ∧ H a = some u := by
  cases sl with
  | d x => cases o
  | ol xs => obtain ⟨a, vs, h1, h2, _⟩ := h; exact ⟨a, _, h1, h2⟩
  | oi c fs => obtain ⟨a, dx, vs, h1, h2, _⟩ := h; exact ⟨a, _, h1, h2⟩
  | xc c fs => cases o
theorem SR.notOwn_new {p : Addr} (sr : SR g B env s σ H) (hp : H p = none) : NotOwn env σ p := fun i sl h1 h2 h3 => by
  obtain ⟨v, e1, e2⟩ := sr.slot i sl h1
  obtain ⟨a, u, rfl, h4⟩ := e2.there h2
  rw [h3] at e1
  cases e1
  rw [hp] at h4
  cases h4
def Sta.frz (s : Sta) (a : Addr) (o : HO) : Sta := { s with F := upd s.F a o }
theorem evo_frz {a : Addr} {o : HO} (hf : s.F a = none) (hn : ∀ n, s.al n ≠ some a) (hb : B.H a = none) (e : Evo B.s B.H s H) : Evo B.s B.H (s.frz a o) H :=
  ⟨fun b u h => by
    have z := e.f b u h
    have ne : b ≠ a := fun q => by rw [q, hf] at z; cases z
    show upd s.F a o b = some u
    rw [upd_ne ne]; exact z, e.al, fun b u h n => by
    obtain ⟨h1, h2, h3⟩ := e.oth b u h n
    refine ⟨h1, fun z t => ?_, h3⟩
    have ne : b ≠ a := fun q => by rw [q, hb] at h; cases h
    show upd s.F a o b = none
    rw [upd_ne ne]; exact h2 z t, e.len, e.z⟩
end
end Vi
namespace Vi
open PySem L2
theorem pe_imp {X : Cx} {e : Expr} {t t' : TE} (h : PE X e t) (i : ∀ σ H Q, t' σ H Q → t σ H Q) : PE X e t' := ⟨fun pins s σ H Q I q => h.run pins s σ H Q I (i σ H Q q)⟩
theorem pt_imp {X : Cx} {e : Expr} {t t' : TT} (h : PT X e t) (i : ∀ σ H Q, t' σ H Q → t σ H Q) : PT X e t' := ⟨fun pins s σ H Q I q => h.run pins s σ H Q I (i σ H Q q)⟩
theorem pw_imp {X : Cx} {e : Expr} {t t' : TT} (h : PW X e t) (i : ∀ σ H Q, t' σ H Q → t σ H Q) : PW X e t' := ⟨fun wh pins s σ H Q I q => h.run wh pins s σ H Q I (i σ H Q q)⟩
theorem pa_imp {X : Cx} {e : List Expr} {t t' : TA} (h : PA X e t) (i : ∀ σ H Q, t' σ H Q → t σ H Q) : PA X e t' := ⟨fun pos pins s σ H Q I q => h.run pos pins s σ H Q I (i σ H Q q)⟩
def mVar (i : Nat) : ME := fun env h => match env[i]? with
  | some (some (.d x)) => .ok (.d x) h
  | some (some (.ol xs)) => .ok (.bl xs) h
  | some (some (.oi c fs)) => .ok (.bi c fs) h
  | _ => .stuck
@[simp] def mC (d : D) : ME := fun _ h => .ok (.d d) h
@[simp] def m1 (f : Vl → Hc → R Vl) (a : ME) : ME := fun env h => (a env h).bind f
@[simp] def m2 (f : Vl → Vl → Hc → R Vl) (a b : ME) : ME := fun env h => (a env h).bind fun x h1 => (b env h1).bind fun y h2 => f x y h2
@[simp] def m2b (f : Vl → Vl → Hc → R Bool) (a b : ME) : MB := fun env h => (a env h).bind fun x h1 => (b env h1).bind fun y h2 => f x y h2
@[simp] def maNil : MA := fun _ h => .ok [] h
@[simp] def maCons (a : ME) (b : MA) : MA := fun env h => (a env h).bind fun x h1 => (b env h1).bind fun xs h2 => .ok (x :: xs) h2
@[simp] def mA1 (f : List Vl → Hc → R Vl) (a : MA) : ME := fun env h => (a env h).bind f
@[simp] def datas : List Vl → Option (List D)
  | [] => some []
  | .d x :: r => (datas r).map (x :: ·)
  | _ :: _ => none
def Cell.bare : Cell → Cell
  | .frz c => c.bare
  | c => c
theorem CellRep.bare {g : Gi} {s : Sta} {H : Hp} {a : Addr} : ∀ {c : Cell}, CellRep g s H a c → CellRep g s H a c.bare
  | .lst _, h => h
  | .ins _ _, h => h
  | .dK _, h => h
  | .dT _, h => h
  | .lk _, h => h
  | .frz c, h => CellRep.bare (c := c) h
def lst? (h : Hc) : Vl → Option (List D)
  | .d (.lst xs) => some xs
  | .d (.kl xs) => some xs
  | .tl xs => some xs
  | .bl xs => some xs
  | .d (.ref n) => (match h[n]?.map Cell.bare with
    | some (.lst xs) => some xs
    | _ => none)
  | _ => none
def mlst? (h : Hc) : Vl → Option (List D)
  | .d (.lst xs) => some xs
  | .tl xs => some xs
  | .bl xs => some xs
  | .d (.ref n) => (match h[n]?.map Cell.bare with
    | some (.lst xs) => some xs
    | _ => none)
  | _ => none
def tup? : Vl → Option (List D)
  | .d (.tup xs) => some xs
  | .d (.xtup xs) => some xs
  | _ => none
def ptup? : Vl → Option (List D)
  | .d (.tup xs) => some xs
  | _ => none
theorem ptup_tup {x : Vl} {xs : List D} (h : ptup? x = some xs) : tup? x = some xs := by
  cases x with
  | d x =>
    cases x with
    | tup ys => exact h
    | _ => cases h
  | _ => cases h
section
variable {g : Gi} {B : Bg} {W : WXv} {env : Env} {s s' : Sta} {σ : L2.St} {H H' : Hp}
theorem Good.sqL {a : Addr} {vs : List V} (gd : Good g s H) (h : SqL g.K s.F a vs) : SqL g.K H a vs := sqL_mono gd.fle h
theorem Good.sqT {a : Addr} {vs : List V} (gd : Good g s H) (h : SqT g.K s.F a vs) : SqT g.K H a vs := sqT_mono gd.fle h
theorem ref_lst {n : Nat} {v : V} {xs : List D} (gd : Good g s H) (h : Rep g s.F s.al (.ref n) v) (e : (match s.h[n]?.map Cell.bare with
    | some (.lst xs) => some xs
    | _ => none) = some xs) : ∃ a vs, v = .ref a ∧ H a = some (.lst vs) ∧ Reps g s.F s.al xs vs := by
  obtain ⟨a, rfl, hal⟩ := h
  cases e1 : s.h[n]? with
  | none =>
    rw [e1] at e
    cases e
  | some c =>
    rw [e1] at e
    obtain ⟨b, g1, g2⟩ := gd.cell n c e1
    rw [hal] at g1
    cases g1
    have g3 := g2.bare
    have e : (match some c.bare with
      | some (.lst xs) => some xs
      | _ => none) = some xs := e
    cases ec : c.bare with
    | lst ys =>
      rw [ec] at e g3
      cases e
      obtain ⟨vs, h1, h2⟩ := g3
      exact ⟨a, vs, rfl, h1, h2⟩
    | _ =>
      rw [ec] at e
      cases e
theorem VlRep.lst {x : Vl} {v : V} {xs : List D} (gd : Good g s H) (h : VlRep g B env σ s H x v) (e : lst? s.h x = some xs) : ∃ a vs, v = .ref a ∧ SqL g.K H a vs ∧ Reps g s.F s.al xs vs := by
  cases x with
  | d x =>
    cases x with
    | lst ys => cases e; obtain ⟨a, vs, h1, h2, h3⟩ := h; exact ⟨a, vs, h1, .of (gd.fle _ _ h2), h3⟩
    | kl ys => cases e; obtain ⟨a, vs, h1, h2, h3⟩ := h; exact ⟨a, vs, h1, gd.sqL h2, h3⟩
    | ref n => obtain ⟨a, vs, h1, h2, h3⟩ := ref_lst gd h e; exact ⟨a, vs, h1, .of h2, h3⟩
    | _ => cases e
  | tl ys => cases e; obtain ⟨a, vs, h1, h2, _, _, h3⟩ := h; exact ⟨a, vs, h1, .of h2, h3⟩
  | bl ys => cases e; obtain ⟨a, vs, h1, h2, _, h3⟩ := h; exact ⟨a, vs, h1, .of h2, h3⟩
  | bi c fs => cases e
theorem VlRep.mlst {x : Vl} {v : V} {xs : List D} (gd : Good g s H) (h : VlRep g B env σ s H x v) (e : mlst? s.h x = some xs) : ∃ a vs, v = .ref a ∧ H a = some (.lst vs) ∧ Reps g s.F s.al xs vs := by
  cases x with
  | d x =>
    cases x with
    | lst ys => cases e; obtain ⟨a, vs, h1, h2, h3⟩ := h; exact ⟨a, vs, h1, gd.fle _ _ h2, h3⟩
    | ref n => exact ref_lst gd h e
    | _ => cases e
  | tl ys => cases e; obtain ⟨a, vs, h1, h2, _, _, h3⟩ := h; exact ⟨a, vs, h1, h2, h3⟩
  | bl ys => cases e; obtain ⟨a, vs, h1, h2, _, h3⟩ := h; exact ⟨a, vs, h1, h2, h3⟩
  | bi c fs => cases e
theorem VlRep.tup {x : Vl} {v : V} {xs : List D} (gd : Good g s H) (h : VlRep g B env σ s H x v) (e : tup? x = some xs) : ∃ a vs, v = .ref a ∧ SqT g.K H a vs ∧ Reps g s.F s.al xs vs := by
  cases x with
  | d x =>
    cases x with
    | tup ys => cases e; obtain ⟨a, vs, h1, h2, h3⟩ := h; exact ⟨a, vs, h1, gd.sqT h2.sq, h3⟩
    | xtup ys => cases e; obtain ⟨a, o, vs, h1, h2, _, h3⟩ := h; exact ⟨a, vs, h1, .inl (.inr ⟨o, gd.fle _ _ h2⟩), h3⟩
    | _ => cases e
  | tl ys => cases e
  | bl ys => cases e
  | bi c fs => cases e
theorem VlReps.datas : ∀ {xs : List Vl} {vs : List V} {ds : List D}, VlReps g B env σ s H xs vs → datas xs = some ds → Reps g s.F s.al ds vs
  | [], _, _, .nil, e => by cases e; rfl
  | .d x :: r, _, ds, .cons h t, e => by
    have e1 : (Vi.datas r).map (x :: ·) = some ds := e
    cases q : Vi.datas r with
    | none => rw [q] at e1; cases e1
    | some l =>
      rw [q] at e1
      cases e1
      exact ⟨_, _, rfl, h, t.datas q⟩
  | .tl _ :: _, _, _, _, e => by cases e
  | .bl _ :: _, _, _, _, e => by cases e
  | .bi _ _ :: _, _, _, _, e => by cases e
theorem Reps.length {F : Hp} {al : Nat → Option Addr} : ∀ {ds : List D} {vs : List V}, Reps g F al ds vs → vs.length = ds.length
  | [], _, h => by rw [h]; rfl
  | _ :: _, _, ⟨v, r, h1, _, h3⟩ => by rw [h1, List.length_cons, List.length_cons, h3.length]
theorem Reps.get {F : Hp} {al : Nat → Option Addr} : ∀ {ds : List D} {vs : List V} {i : Nat} {d : D}, Reps g F al ds vs → ds[i]? = some d → ∃ v, vs[i]? = some v ∧ Rep g F al d v
  | _ :: _, _, 0, _, ⟨v, r, h1, h2, h3⟩, e => by
    cases e
    exact ⟨v, by rw [h1]; rfl, h2⟩
  | _ :: _, _, i + 1, _, ⟨v, r, h1, h2, h3⟩, e => by
    obtain ⟨w, e1, e2⟩ := h3.get (i := i) (by simpa using e)
    exact ⟨w, by rw [h1]; simpa using e1, e2⟩
theorem Reps.append {F : Hp} {al : Nat → Option Addr} : ∀ {ds es : List D} {vs ws : List V}, Reps g F al ds vs → Reps g F al es ws → Reps g F al (ds ++ es) (vs ++ ws)
  | [], _, _, _, h, k => by rw [h]; exact k
  | _ :: _, _, _, _, ⟨v, r, h1, h2, h3⟩, k => ⟨v, r ++ _, by rw [h1]; rfl, h2, h3.append k⟩
theorem Reps.drop {F : Hp} {al : Nat → Option Addr} : ∀ {ds : List D} {vs : List V} (n : Nat), Reps g F al ds vs → Reps g F al (ds.drop n) (vs.drop n)
  | _, _, 0, h => h
  | [], _, n + 1, h => by rw [h]; rfl
  | _ :: _, _, n + 1, ⟨v, r, h1, h2, h3⟩ => by rw [h1]; exact h3.drop n
theorem Reps.take {F : Hp} {al : Nat → Option Addr} : ∀ {ds : List D} {vs : List V} (n : Nat), Reps g F al ds vs → Reps g F al (ds.take n) (vs.take n)
  | _, _, 0, h => rfl
  | [], _, n + 1, h => by rw [h]; rfl
  | _ :: _, _, n + 1, ⟨v, r, h1, h2, h3⟩ => ⟨v, r.take n, by rw [h1]; rfl, h2, h3.take n⟩
theorem Reps.set {F : Hp} {al : Nat → Option Addr} {d : D} {v : V} (hd : Rep g F al d v) : ∀ {ds : List D} {vs : List V} (n : Nat), Reps g F al ds vs → Reps g F al (ds.set n d) (vs.set n v)
  | [], _, _, h => by rw [h]; rfl
  | _ :: _, _, 0, ⟨w, r, h1, h2, h3⟩ => ⟨v, r, by rw [h1]; rfl, hd, h3⟩
  | _ :: _, _, n + 1, ⟨w, r, h1, h2, h3⟩ => ⟨w, r.set n v, by rw [h1]; rfl, h2, h3.set hd n⟩
theorem Reps.cons {F : Hp} {al : Nat → Option Addr} {d : D} {v : V} {ds : List D} {vs : List V} (h : Rep g F al d v) (k : Reps g F al ds vs) : Reps g F al (d :: ds) (v :: vs) := ⟨v, vs, rfl, h, k⟩
theorem Reps.nil {F : Hp} {al : Nat → Option Addr} : Reps g F al [] [] := rfl
theorem SR.newF {p : Addr} {o : HO} (sr : SR g B env s σ H) (hp : H p = none) :
    SR g B env (s.frz p o) σ (upd H p o) ∧ Evo s H (s.frz p o) (upd H p o) := by
  have ow := sr.own_new hp
  have ne : ∀ {a : Addr} {u : HO}, H a = some u → a ≠ p := fun h => ne_of_none h hp
  have neF : ∀ {a : Addr} {u : HO}, s.F a = some u → a ≠ p := fun h => ne (sr.good.fle _ _ h)
  have ev : Evo s H (s.frz p o) (upd H p o) := ⟨fun a u h => by
      show upd s.F p o a = some u
      rw [upd_ne (neF h)]; exact h, fun _ _ h => h, fun a u h n => ⟨by rw [upd_ne (ne h)]; exact h, fun z _ => by
      show upd s.F p o a = none
      rw [upd_ne (ne h)]; exact z, n⟩, Nat.le_refl _, fun _ _ h => h⟩
  refine ⟨⟨⟨fun a u h => ?_, sr.good.inj, fun n a h => ?_, fun n c h => ?_, sr.good.zed.keep rfl rfl (fun _ _ h => h) fun n a o _ h => by rw [upd_ne (ne h)]; exact h⟩, sr.evo.trans ev, sr.len, fun i sl h => ?_, sr.sep⟩, ev⟩
  · have h : upd s.F p o a = some u := h
    by_cases q : a = p
    · subst q
      rw [upd_same] at h ⊢
      exact h
    · rw [upd_ne q] at h ⊢
      exact sr.good.fle a u h
  · obtain ⟨h1, h2, u, h3⟩ := sr.good.dom n a h
    refine ⟨h1, ?_, u, by rw [upd_ne (ne h3)]; exact h3⟩
    show upd s.F p o a = none
    rw [upd_ne (ne h3)]; exact h2
  · obtain ⟨a, h1, h2⟩ := sr.good.cell n c h
    refine ⟨a, h1, ?_⟩
    exact h2.mv (fun o h3 => by rw [upd_ne (ne h3)]; exact h3) ev.f ev.al
  · obtain ⟨v, h1, h2⟩ := sr.slot i sl h
    exact ⟨v, h1, h2.evo ev⟩
theorem PostE.newT {ds : List D} {vs : List V} {p : Addr} {Q : VK} (sr : SR g B env s σ H) (h : PostE g B W env s σ H (.ok (.d (.tup ds)) s.h) Q) (r : Reps g s.F s.al ds vs) (hp : H p = none) : Q (.ref p) (upd H p (.tup vs)) := by
  obtain ⟨sr1, ev⟩ := sr.newF (o := .tup vs) hp
  exact h _ _ (s.frz p (.tup vs)) rfl ev sr1 ⟨p, vs, rfl, .inl upd_same, ev.reps r⟩
theorem PostE.newL {ds : List D} {vs : List V} {p : Addr} {Q : VK} (sr : SR g B env s σ H) (h : PostE g B W env s σ H (.ok (.d (.lst ds)) s.h) Q) (r : Reps g s.F s.al ds vs) (hp : H p = none) : Q (.ref p) (upd H p (.lst vs)) := by
  obtain ⟨sr1, ev⟩ := sr.newF (o := .lst vs) hp
  exact h _ _ (s.frz p (.lst vs)) rfl ev sr1 ⟨p, vs, rfl, upd_same, ev.reps r⟩
theorem PostE.newO {ds : List D} {vs : List V} {p : Addr} {Q : VK} (sr : SR g B env s σ H) (h : PostE g B W env s σ H (.ok (.tl ds) s.h) Q) (r : Reps g s.F s.al ds vs) (hp : H p = none) : Q (.ref p) (upd H p (.lst vs)) := by
  obtain ⟨sr1, ev⟩ := sr.new (o := .lst vs) hp
  exact h _ _ _ rfl ev sr1 ⟨p, vs, rfl, upd_same, sr.own_new hp, sr.notOwn_new hp, ev.reps r⟩
@[simp] def Vl.ofL (o : Bool) (ds : List D) : Vl := if o then .tl ds else .d (.lst ds)
theorem PostE.newLO {o : Bool} {ds : List D} {vs : List V} {p : Addr} {Q : VK} (sr : SR g B env s σ H) (h : PostE g B W env s σ H (.ok (Vl.ofL o ds) s.h) Q) (r : Reps g s.F s.al ds vs) (hp : H p = none) : Q (.ref p) (upd H p (.lst vs)) := by
  cases o with
  | true => exact PostE.newO sr h r hp
  | false => exact PostE.newL sr h r hp
end
section
variable {X : Cx} {g : Gi} {B : Bg} {W : WXv} {pos : Pos}
theorem ve_var (i : Nat) {x : Str} (hN : X.N[i]? = some x := by rfl) (hv : Vis X.env.scope x := by first | exact Or.inl rfl | exact Or.inr (Or.inl rfl) | exact Or.inr (Or.inr rfl)) (hd : (x == ("__debug__" : Str)) = false := by decide)
    (hcd : (x == ("__classdict__" : Str)) = false := by decide) : PE X (.Name x pos) (tE g B W (mVar i)) := by
  refine pe_imp (pe_var hN hv hd hcd) fun σ H Q ⟨env, s, sr, p⟩ => ?_
  unfold mVar at p
  cases e : env[i]? with
  | none => rw [e] at p; exact p.elim
  | some o =>
    rw [e] at p
    cases o with
    | none => exact p.elim
    | some sl =>
      obtain ⟨v, h1, h2⟩ := sr.slot i sl e
      refine ⟨v, h1, ?_⟩
      cases sl with
      | d x => exact PostE.pure sr p h2
      | ol xs => exact PostE.pure sr p h2
      | oi c fs =>
        obtain ⟨a, dx, vs, e1, e2, e3, e4, _⟩ := h2
        exact PostE.pure sr p ⟨a, dx, vs, e1, e2, e3, e4⟩
      | xc c fs => exact p.elim
theorem ve_int {i j} : PE X (.Constant (.int i) j pos) (tE g B W (mC (.int i))) := pe_imp pe_int fun σ H Q ⟨env, s, sr, p⟩ => PostE.pure sr p rfl
theorem ve_bl {b j} : PE X (.Constant (.bool b) j pos) (tE g B W (mC (.bl b))) := pe_imp pe_bl fun σ H Q ⟨env, s, sr, p⟩ => PostE.pure sr p rfl
theorem ve_non {j} : PE X (.Constant .none j pos) (tE g B W (mC .non)) := pe_imp pe_non fun σ H Q ⟨env, s, sr, p⟩ => PostE.pure sr p rfl
theorem ve_str {x j} : PE X (.Constant (.str x) j pos) (tE g B W (mC (.str x))) := pe_imp pe_str fun σ H Q ⟨env, s, sr, p⟩ => PostE.pure sr p rfl
structure GlobD (X : Cx) (g : Gi) (x : Str) (d : D) : Prop where
  ex : ∃ (v : V) (u : Value), X.mg x = some u ∧ RelV v u ∧ ∀ F al, Rep g F al d v
theorem ve_glob {x : Str} {d : D} (hg : Gl X x) (h : GlobD X g x d) (hd : (x == ("__debug__" : Str)) = false := by decide) : PE X (.Name x pos) (tE g B W (mC d)) := by
  obtain ⟨v, u, h1, h2, h3⟩ := h.ex
  exact pe_imp (pe_glob hg h1 h2 hd) fun σ H Q ⟨env, s, sr, p⟩ => PostE.pure sr p (h3 _ _)
theorem va_nil : PA X [] (tA g B W maNil) := pa_imp pa_nil fun σ H Q ⟨env, s, sr, p⟩ => p [] H s rfl (Evo.refl s H) sr .nil
theorem va_cons {e : Expr} {es : List Expr} {a : ME} {b : MA} (ha : PE X e (tE g B W a)) (hb : PA X es (tA g B W b)) (hs : starEach (e :: es) X.env = (false, eval e X.env) :: starEach es X.env := by rfl) : PA X (e :: es) (tA g B W (maCons a b)) := by
  refine pa_imp (pa_cons ha hb hs) fun σ H Q ⟨env, s, sr, p⟩ => ?_
  refine (bindAA (f := fun x xs h => .ok (x :: xs) h) (Q := Q) sr p).mono fun v H1 h1 => h1.mono fun vs H2 ⟨s2, x, xs, sr2, ev2, vr1, vr2, p2⟩ => ?_
  exact p2 _ H2 s2 rfl (Evo.refl _ _) sr2 (.cons vr1 vr2)
@[simp] def fTup (xs : List Vl) (h : Hc) : R Vl := match datas xs with
  | some ds => if ds.length ≤ 100000 then .ok (.d (.tup ds)) h else .stuck
  | none => .stuck
@[simp] def fLst (o : Bool) (xs : List Vl) (h : Hc) : R Vl := match datas xs with
  | some ds => if ds.length ≤ 100000 then .ok (Vl.ofL o ds) h else .stuck
  | none => .stuck
theorem size_of {n : Nat} (h : n ≤ 100000) : n ≤ sizeLine := Nat.le_trans h (by decide)
theorem ve_tup {es : List Expr} {a : MA} {x1} (h : PA X es (tA g B W a)) : PE X (.Tuple es x1 pos) (tE g B W (mA1 fTup a)) := by
  refine pe_imp (pe_tup h) fun σ H Q ⟨env, s, sr, p⟩ => ?_
  refine (bindA (Q := Q) sr p).mono fun vs H1 ⟨s2, ys, sr2, ev2, vr2, p2⟩ => ?_
  unfold fTup at p2
  cases e2 : datas ys with
  | none => rw [e2] at p2; exact p2.elim
  | some ds =>
    rw [e2] at p2
    by_cases hl : ds.length ≤ 100000
    · simp only [if_pos hl] at p2
      have rr := vr2.datas e2
      exact ⟨by rw [rr.length]; exact size_of hl, fun p hp => PostE.newT sr2 p2 rr hp⟩
    · simp only [if_neg hl] at p2
      exact p2.elim
theorem ve_lst (o : Bool) {es : List Expr} {a : MA} (h : PA X es (tA g B W a)) : PE X (.List es pos) (tE g B W (mA1 (fLst o) a)) := by
  refine pe_imp (pe_lst h) fun σ H Q ⟨env, s, sr, p⟩ => ?_
  refine (bindA (Q := Q) sr p).mono fun vs H1 ⟨s2, ys, sr2, ev2, vr2, p2⟩ => ?_
  unfold fLst at p2
  cases e2 : datas ys with
  | none => rw [e2] at p2; exact p2.elim
  | some ds =>
    rw [e2] at p2
    by_cases hl : ds.length ≤ 100000
    · simp only [if_pos hl] at p2
      have rr := vr2.datas e2
      exact ⟨by rw [rr.length]; exact size_of hl, fun p hp => PostE.newLO sr2 p2 rr hp⟩
    · simp only [if_neg hl] at p2
      exact p2.elim
end
end Vi
namespace Vi
open PySem L2
section
variable {g : Gi} {B : Bg} {W : WXv} {env : Env} {s s' : Sta} {σ : L2.St} {H H' : Hp}
theorem bind2E {a b : ME} {f : Vl → Vl → Hc → R Vl} {Q : VK} (sr : SR g B env s σ H) (p : PostE g B W env s σ H (m2 f a b env s.h) Q) :
    tE g B W a σ H fun v H1 => tE g B W b σ H1 fun w H2 => ∃ s2 x y, SR g B env s2 σ H2 ∧ Evo s H s2 H2 ∧ VlRep g B env σ s2 H2 x v ∧ VlRep g B env σ s2 H2 y w ∧ PostE g B W env s2 σ H2 (f x y s2.h) Q := by
  refine (bindE (k := fun x h1 => (b env h1).bind fun y h2 => f x y h2) sr p).mono fun v H1 ⟨s1, x, sr1, e1, r1, p1⟩ => ?_
  refine (bindE (k := fun y h2 => f x y h2) sr1 p1).mono fun w H2 ⟨s2, y, sr2, e2, r2, p2⟩ => ?_
  exact ⟨s2, x, y, sr2, e1.trans e2, r1.evo e2, r2, p2⟩
end
def OpV (X : Cx) (g : Gi) (f : Value → Value → Sem Value) (F : Vl → Vl → Hc → R Vl) : Prop :=
  ∃ r : R2, OpR X f r ∧ ∀ (B : Bg) (W : WXv) (env : Env) (s : Sta) (σ : L2.St) (H : Hp) (x y : Vl) (v w : V) (Q : VK), SR g B env s σ H → VlRep g B env σ s H x v → VlRep g B env σ s H y w → PostE g B W env s σ H (F x y s.h) Q → r v w H Q
section
variable {X : Cx} {g : Gi} {B : Bg} {W : WXv} {pos : Pos} {a b : Expr} {ma mb : ME}
theorem ve_bin {op : Operator} {F : Vl → Vl → Hc → R Vl} (ho : OpV X g (binaryOp op) F) (ha : PE X a (tE g B W ma)) (hb : PE X b (tE g B W mb)) : PE X (.BinOp a op b pos) (tE g B W (m2 F ma mb)) := by
  obtain ⟨r, h1, h2⟩ := ho
  refine pe_imp (pe_op h1 ha hb) fun σ H Q ⟨env, s, sr, p⟩ => ?_
  refine (bind2E (Q := Q) sr p).mono fun v H1 q => q.mono fun w H2 ⟨s2, x, y, sr2, _, r1, r2, p2⟩ => ?_
  exact h2 B W env s2 σ H2 x y v w Q sr2 r1 r2 p2
theorem ve_cmp {op : CmpOp} {F : Vl → Vl → Hc → R Vl} (ho : OpV X g (compareOp op) F) (ha : PE X a (tE g B W ma)) (hb : PE X b (tE g B W mb)) (hm : behindInMarks op b = false) : PE X (.Compare a [op] [b] pos) (tE g B W (m2 F ma mb)) := by
  obtain ⟨r, h1, h2⟩ := ho
  refine pe_imp (pe_cmpR h1 ha hb hm) fun σ H Q ⟨env, s, sr, p⟩ => ?_
  refine (bind2E (Q := Q) sr p).mono fun v H1 q => q.mono fun w H2 ⟨s2, x, y, sr2, _, r1, r2, p2⟩ => ?_
  exact h2 B W env s2 σ H2 x y v w Q sr2 r1 r2 p2
@[simp] def asB (m : ME) : MB := fun env h => (m env h).bind fun x h1 => match x with
  | .d (.bl b) => .ok b h1
  | _ => .stuck
theorem tE_asB {m : ME} {σ : L2.St} {H : Hp} {Q : Bool → Hp → Prop} (h : tT g B W (asB m) σ H Q) : tE g B W m σ H fun v H1 => ∃ k, v = .bl k ∧ Q k H1 := by
  obtain ⟨env, s, sr, p⟩ := h
  refine (bindET sr p).mono fun v H1 ⟨s1, x, sr1, _, r1, p1⟩ => ?_
  cases x with
  | d x =>
    cases x with
    | bl b => exact ⟨b, r1, PostB.pure sr1 p1⟩
    | _ => exact p1.elim
  | _ => exact p1.elim
theorem vt_cmp {op : CmpOp} {F : Vl → Vl → Hc → R Vl} (ho : OpV X g (compareOp op) F) (ha : PE X a (tE g B W ma)) (hb : PE X b (tE g B W mb)) (hm : behindInMarks op b = false) : PT X (.Compare a [op] [b] pos) (tT g B W (asB (m2 F ma mb))) := by
  obtain ⟨r, h1, h2⟩ := ho
  refine pt_imp (pt_cmpR h1 ha hb hm) fun σ H Q h => ?_
  obtain ⟨env, s, sr, p⟩ := tE_asB h
  refine (bind2E sr p).mono fun v H1 q => q.mono fun w H2 ⟨s2, x, y, sr2, _, r1, r2, p2⟩ => ?_
  exact h2 B W env s2 σ H2 x y v w _ sr2 r1 r2 p2
theorem vt_val {m : ME} (h : PE X a (tE g B W m)) (he : ∀ whole, isTrue a X.env whole = (do let v ← whole; standAt a.pos; holding [v] (truthy v)) := by intro _; rfl) : PT X a (tT g B W (asB m)) :=
  pt_imp (pt_val h he) fun σ H Q q => tE_asB q
@[simp] def fI (f : Int → Int → D) (x y : Vl) (h : Hc) : R Vl := match x, y with
  | .d (.int i), .d (.int j) => .ok (.d (f i j)) h
  | _, _ => .stuck
@[simp] def fIc (c : Int → Int → Bool) (f : Int → Int → D) (x y : Vl) (h : Hc) : R Vl := match x, y with
  | .d (.int i), .d (.int j) => if c i j then .ok (.d (f i j)) h else .stuck
  | _, _ => .stuck
theorem opv_I {f : Value → Value → Sem Value} {F : Int → Int → D} {G : Int → Int → V} (h : OpR X f (rI0 G)) (e : ∀ g F' al i j, Rep g F' al (F i j) (G i j)) : OpV X g f (fI F) := by
  refine ⟨_, h, fun B W env s σ H x y v w Q sr r1 r2 p => ?_⟩
  unfold fI at p
  split at p
  · exact ⟨_, _, r1, r2, PostE.pure sr p (e _ _ _ _ _)⟩
  · exact p.elim
theorem opv_Ic {f : Value → Value → Sem Value} {C : Int → Int → Prop} {c : Int → Int → Bool} {F : Int → Int → D} {G : Int → Int → V} (h : OpR X f (rI C G)) (hc : ∀ i j, c i j = true → C i j) (e : ∀ g F' al i j, Rep g F' al (F i j) (G i j)) : OpV X g f (fIc c F) := by
  refine ⟨_, h, fun B W env s σ H x y v w Q sr r1 r2 p => ?_⟩
  unfold fIc at p
  split at p
  · split at p
    · next hcc => exact ⟨_, _, r1, r2, hc _ _ hcc, PostE.pure sr p (e _ _ _ _ _)⟩
    · exact p.elim
  · exact p.elim
def cMul (i j : Int) : Bool := decide (i.natAbs.log2 + j.natAbs.log2 < 1000000)
def cDiv (_ j : Int) : Bool := decide (j ≠ 0) && decide (j.natAbs.log2 < 9000)
def cPow (i j : Int) : Bool := decide (0 ≤ j) && (decide (j ≤ 1000000) && decide (i.natAbs < 2 ^ 64))
abbrev fSub : Vl → Vl → Hc → R Vl := fI fun i j => .int (i - j)
abbrev fMul : Vl → Vl → Hc → R Vl := fIc cMul fun i j => .int (i * j)
abbrev fDiv : Vl → Vl → Hc → R Vl := fIc cDiv fun i j => .int (i.fdiv j)
abbrev fMod : Vl → Vl → Hc → R Vl := fIc (fun _ j => decide (0 < j)) fun i j => .int (i % j)
abbrev fPow : Vl → Vl → Hc → R Vl := fIc cPow fun i j => .int (i ^ j.toNat)
abbrev fLt : Vl → Vl → Hc → R Vl := fI fun i j => .bl (decide (i < j))
abbrev fLe : Vl → Vl → Hc → R Vl := fI fun i j => .bl (decide (i ≤ j))
abbrev fGt : Vl → Vl → Hc → R Vl := fI fun i j => .bl (decide (j < i))
abbrev fGe : Vl → Vl → Hc → R Vl := fI fun i j => .bl (decide (j ≤ i))
theorem o_sub : OpV X g (binaryOp .Sub) fSub := opv_I op_sub fun _ _ _ _ _ => rfl
theorem o_mul : OpV X g (binaryOp .Mult) fMul := opv_Ic op_mulW (fun i j h => of_decide_eq_true (p := i.natAbs.log2 + j.natAbs.log2 < 1000000) h) fun _ _ _ _ _ => rfl
theorem op_fdivA : OpR X (binaryOp .FloorDiv) (rI (fun _ j => j ≠ 0 ∧ j.natAbs.log2 < 9000) fun i j => .int (i.fdiv j)) := opI fun i j _ _ _ _ _ hc q =>
  PyProof.Rows.floordiv_int hc.1 q (.inl (PyProof.noPylong_of_log2 hc.2))
theorem o_div : OpV X g (binaryOp .FloorDiv) fDiv := opv_Ic op_fdivA (fun _ _ h => by
  obtain ⟨h1, h2⟩ := Bool.and_eq_true_iff.mp h
  exact ⟨of_decide_eq_true h1, of_decide_eq_true h2⟩) fun _ _ _ _ _ => rfl
theorem o_mod : OpV X g (binaryOp .Mod) fMod := opv_Ic op_mod (fun _ _ h => of_decide_eq_true h) fun _ _ _ _ _ => rfl
theorem o_pow : OpV X g (binaryOp .Pow) fPow := opv_Ic op_pow (fun _ _ h => by
  obtain ⟨h1, h2⟩ := Bool.and_eq_true_iff.mp h
  obtain ⟨h2, h3⟩ := Bool.and_eq_true_iff.mp h2
  exact ⟨of_decide_eq_true h1, of_decide_eq_true h2, of_decide_eq_true h3⟩) fun _ _ _ _ _ => rfl
theorem o_lt : OpV X g (compareOp .Lt) fLt := opv_I op_lt fun _ _ _ _ _ => rfl
theorem o_le : OpV X g (compareOp .LtE) fLe := opv_I op_le fun _ _ _ _ _ => rfl
theorem o_gt : OpV X g (compareOp .Gt) fGt := opv_I op_gt fun _ _ _ _ _ => rfl
theorem o_ge : OpV X g (compareOp .GtE) fGe := opv_I op_ge fun _ _ _ _ _ => rfl
theorem tup?_eq {x : Vl} {xs : List D} (h : ptup? x = some xs) : x = .d (.tup xs) := by
  cases x with
  | d x =>
    cases x with
    | tup ys => cases h; rfl
    | _ => cases h
  | _ => cases h
def fAdd (o : Bool) (x y : Vl) (h : Hc) : R Vl := match x, y with
  | .d (.int i), .d (.int j) => .ok (.d (.int (i + j))) h
  | .d (.str a), .d (.str b) => if a.length + b.length ≤ 100000 then .ok (.d (.str (a ++ b))) h else .stuck
  | x, y => match mlst? h x, mlst? h y with
    | some xs, some ys => if xs.length + ys.length ≤ 100000 then .ok (Vl.ofL o (xs ++ ys)) h else .stuck
    | _, _ => match ptup? x, ptup? y with
      | some xs, some ys => if xs.length + ys.length ≤ 100000 then .ok (.d (.tup (xs ++ ys))) h else .stuck
      | _, _ => .stuck
theorem o_add (o : Bool) (hK : g.K = X.K) : OpV X g (binaryOp .Add) (fAdd o) := by
  refine ⟨_, OpR.or op_add (OpR.or op_add_str (OpR.or op_cat op_catA)), fun B W env s σ H x y v w Q sr r1 r2 p => ?_⟩
  unfold fAdd at p
  split at p
  · exact .inl ⟨_, _, r1, r2, PostE.pure sr p rfl⟩
  · split at p
    · next hl => exact .inr (.inl ⟨_, _, r1, r2, size_of hl, PostE.pure sr p rfl⟩)
    · exact p.elim
  · split at p
    · next xs ys e1 e2 =>
      split at p
      · next hl =>
        obtain ⟨a1, vs1, rfl, h1, q1⟩ := r1.mlst sr.good e1
        obtain ⟨a2, vs2, rfl, h2, q2⟩ := r2.mlst sr.good e2
        exact .inr (.inr (.inl ⟨a1, a2, vs1, vs2, rfl, rfl, h1, h2, by rw [q1.length, q2.length]; exact size_of hl, fun p' hp => PostE.newLO sr p (q1.append q2) hp⟩))
      · exact p.elim
    · split at p
      · next xs ys e1 e2 =>
        split at p
        · next hl =>
          obtain ⟨a1, vs1, rfl, h1, q1⟩ := r1.tup sr.good (ptup_tup e1)
          obtain ⟨a2, vs2, rfl, h2, q2⟩ := r2.tup sr.good (ptup_tup e2)
          have c1 : ∀ {ds : List D} {vs : List V}, Reps g s.F s.al ds vs → vs = [] → ds = [] := fun {ds vs} q e => by
            have := q.length
            rw [e] at this
            exact List.length_eq_zero_iff.mp this.symm
          refine .inr (.inr (.inr ⟨a1, a2, vs1, vs2, rfl, rfl, hK ▸ h1, hK ▸ h2, by rw [q1.length, q2.length]; exact size_of hl, fun e => ?_, fun _ e => ?_, fun _ _ p' hp => PostE.newT sr p (q1.append q2) hp⟩))
          · have e := c1 q1 e
            subst e
            exact PostE.pure sr p (tup?_eq e2 ▸ r2)
          · have e := c1 q2 e
            subst e
            rw [List.append_nil] at p
            exact PostE.pure sr p (tup?_eq e1 ▸ r1)
        · exact p.elim
      · exact p.elim
end
end Vi
namespace Vi
open PySem L2
def Ty.val (g : Gi) : Ty → Value
  | .bt n => .type n
  | .own c => .ref (g.ca c)
def Ty.v (g : Gi) : Ty → V
  | .bt n => .ty n
  | .own c => .ref (g.ca c)
structure ClsOk (K : PySem.W.Frag) (C : Addr) : Prop where
  cl : Cls K C
  ha : PySem.W.findIn K (.ref C) "__class__" = some (some (.builtin "object.__class__"))
  hm : PySem.W.mroIn K C (.type "object") = some true
structure GiOk (g : Gi) : Prop where
  cls : ∀ c, g.isC c = true → ClsOk g.K (g.ca c)
  fld : ∀ c f, g.fld c f = true → g.isC c = true ∧ NoAttr g.K (g.ca c) f
  hn : PySem.W.specialIn g.K (.builtin "object.__class__") "__get__" = some (some (.builtin "getset_descriptor.__get__"))
  htk : PySem.W.takesIn g.K (.builtin "object.__class__") = some true
  isi : ∀ t u b, g.isi t u = some b → PySem.W.kitOne g.K (t.val g) (u.val g) = some b
def D.ty (g : Gi) : D → Option Ty
  | .non => some (.bt "NoneType")
  | .bl _ => some (.bt "bool")
  | .int _ => some (.bt "int")
  | .str _ => some (.bt "str")
  | .tup _ => some (.bt "tuple")
  | .xtup _ => some (.bt "tuple")
  | .lst _ => some (.bt "list")
  | .kl _ => none
  | .ref _ => none
  | .obj c _ => if g.isC c then some (.own c) else none
  | .cls _ => none
  | .dK _ => some (.bt "dict")
  | .dT _ => some (.bt "dict")
def Cell.tyC (isC : Nat → Bool) : Cell → Option Ty
  | .lst _ => some (.bt "list")
  | .ins c _ => if isC c then some (.own c) else none
  | .dK _ => some (.bt "dict")
  | .dT _ => some (.bt "dict")
  | .lk _ => none
  | .frz c => c.tyC isC
def Cell.ty (g : Gi) (c : Cell) : Option Ty := c.tyC g.isC
def Vl.ty (g : Gi) (h : Hc) : Vl → Option Ty
  | .d (.ref n) => h[n]?.bind (Cell.ty g)
  | .d x => x.ty g
  | .tl _ => some (.bt "list")
  | .bl _ => some (.bt "list")
  | .bi c _ => if g.isC c then some (.own c) else none
theorem ClsOk.ty {g : Gi} (G : GiOk g) {H : Hp} {c : Nat} {a dx : Addr} {vs : List (Str × V)} (hc : g.isC c = true) (h : H a = some (.ins (g.ca c) dx vs)) : TyX g.K H (.ref a) ((Ty.own c).val g) :=
  let k := G.cls c hc
  .base (.ins h k.cl k.ha G.hn G.htk k.hm)
theorem Cell.tyX {g : Gi} (G : GiOk g) {s : Sta} {H : Hp} {a : Addr} {t : Ty} : ∀ {c : Cell}, CellRep g s H a c → c.ty g = some t → TyX g.K H (.ref a) (t.val g)
  | .lst _, ⟨vs, h, _⟩, e => by cases e; exact .base (.lst h)
  | .ins c _, ⟨dx, vs, h, _⟩, e => by
    have e : (if g.isC c then some (Ty.own c) else none) = some _ := e
    by_cases hc : g.isC c = true
    · rw [if_pos hc] at e
      cases e
      exact ClsOk.ty G hc h
    · rw [if_neg hc] at e
      cases e
  | .dK _, ⟨vs, h, _⟩, e => by cases e; exact .base (.dK h)
  | .dT _, ⟨vs, h, _⟩, e => by cases e; exact .base (.dT h)
  | .lk _, _, e => by cases e
  | .frz c, h, e => Cell.tyX G (c := c) h e
theorem Vl.tyX {g : Gi} (G : GiOk g) {B : Bg} {env : Env} {s : Sta} {σ : L2.St} {H : Hp} (gd : Good g s H) : ∀ {x : Vl} {v : V} {t : Ty}, VlRep g B env σ s H x v → x.ty g s.h = some t → TyX g.K H v (t.val g)
  | .d .non, _, _, h, e => by cases e; cases h; exact .base .non
  | .d (.bl b), _, _, h, e => by cases e; cases h; exact .base (.bl b)
  | .d (.int b), _, _, h, e => by cases e; cases h; exact .base (.int b)
  | .d (.str b), _, _, h, e => by cases e; cases h; exact .base (.str b)
  | .d (.tup ds), _, _, h, e => by
    cases e
    obtain ⟨a, vs, rfl, h2, _⟩ := h
    rcases h2.sq with (h2 | ⟨o, h2⟩) | ⟨o, its, n, h2, h3, _⟩
    · exact .base (.tup (gd.fle _ _ h2))
    · exact .fTuple (gd.fle _ _ h2)
    · exact .kTuple h2 h3
  | .d (.xtup ds), _, _, h, e => by
    cases e
    obtain ⟨a, o, vs, rfl, h2, _⟩ := h
    exact .fTuple (gd.fle _ _ h2)
  | .d (.lst ds), _, _, h, e => by
    cases e
    obtain ⟨a, vs, rfl, h2, _⟩ := h
    exact .base (.lst (gd.fle _ _ h2))
  | .d (.kl _), _, _, h, e => by cases e
  | .d (.ref n), _, _, h, e => by
    obtain ⟨a, rfl, hal⟩ := h
    obtain ⟨c, e1, e2⟩ := Option.bind_eq_some_iff.mp (show s.h[n]?.bind (Cell.ty g) = some _ from e)
    obtain ⟨b, g1, g2⟩ := gd.cell n c e1
    rw [hal] at g1
    cases g1
    exact Cell.tyX G g2 e2
  | .d (.cls _), _, _, h, e => by cases e
  | .d (.obj c fs), _, _, h, e => by
    obtain ⟨a, dx, vs, rfl, h2, _⟩ := h
    have e : (if g.isC c then some (Ty.own c) else none) = some _ := e
    by_cases hc : g.isC c = true
    · rw [if_pos hc] at e
      cases e
      exact ClsOk.ty G hc (gd.fle _ _ h2)
    · rw [if_neg hc] at e
      cases e
  | .d (.dK _), _, _, h, e => by
    cases e
    obtain ⟨a, vs, rfl, h2, _⟩ := h
    exact .base (.dK (gd.fle _ _ h2))
  | .d (.dT _), _, _, h, e => by
    cases e
    obtain ⟨a, vs, rfl, h2, _⟩ := h
    exact .base (.dT (gd.fle _ _ h2))
  | .tl _, _, _, h, e => by
    cases e
    obtain ⟨a, vs, rfl, h2, _⟩ := h
    exact .base (.lst h2)
  | .bl _, _, _, h, e => by
    cases e
    obtain ⟨a, vs, rfl, h2, _⟩ := h
    exact .base (.lst h2)
  | .bi c _, _, _, h, e => by
    obtain ⟨a, dx, vs, rfl, h2, _⟩ := h
    have e : (if g.isC c then some (Ty.own c) else none) = some _ := e
    by_cases hc : g.isC c = true
    · rw [if_pos hc] at e
      cases e
      exact ClsOk.ty G hc h2
    · rw [if_neg hc] at e
      cases e
mutual
def toP : D → PyData
  | .non => .none
  | .bl b => .bool b
  | .int i => .int i
  | .str x => .str x
  | .tup xs => .tuple (toPs xs)
  | .xtup xs => .tuple (toPs xs)
  | .lst xs => .list (toPs xs)
  | .kl xs => .list (toPs xs)
  | _ => .none
def toPs : List D → List PyData
  | [] => []
  | x :: r => toP x :: toPs r
end
mutual
def dat : D → Bool
  | .non => true
  | .bl _ => true
  | .int _ => true
  | .str _ => true
  | .tup xs => dats xs
  | .xtup xs => dats xs
  | .lst xs => dats xs
  | .kl xs => dats xs
  | _ => false
def dats : List D → Bool
  | [] => true
  | x :: r => dat x && dats r
end
section
variable {g : Gi} {s : Sta} {H : Hp} {F : Hp} {al : Nat → Option Addr}
mutual
theorem dp_of (hF : ∀ a o, F a = some o → H a = some o) : ∀ {d : D} {v : V}, Rep g F al d v → dat d = true → Dp g.K H v (toP d)
  | .non, _, h, _ => by cases h; exact .non
  | .bl b, _, h, _ => by cases h; exact .bl b
  | .int b, _, h, _ => by cases h; exact .int b
  | .str b, _, h, _ => by cases h; exact .str b
  | .tup ds, _, ⟨a, vs, h1, h2, h3⟩, e => by rw [h1]; exact .tup (sqT_mono hF h2.sq) (dps_of hF h3 e)
  | .lst ds, _, ⟨a, vs, h1, h2, h3⟩, e => by rw [h1]; exact .lst (.of (hF _ _ h2)) (dps_of hF h3 e)
  | .xtup ds, _, ⟨a, o, vs, h1, h2, _, h3⟩, e => by rw [h1]; exact .tup (.inl (.inr ⟨o, hF _ _ h2⟩)) (dps_of hF h3 e)
  | .kl ds, _, ⟨a, vs, h1, h2, h3⟩, e => by rw [h1]; exact .lst (sqL_mono hF h2) (dps_of hF h3 e)
  | .ref _, _, _, e => by cases e
  | .obj _ _, _, _, e => by cases e
  | .cls _, _, _, e => by cases e
  | .dK _, _, _, e => by cases e
  | .dT _, _, _, e => by cases e
theorem dps_of (hF : ∀ a o, F a = some o → H a = some o) : ∀ {d : List D} {v : List V}, Reps g F al d v → dats d = true → DpAll g.K H v (toPs d)
  | [], _, h, _ => by cases h; exact .nil
  | d :: ds, _, ⟨v, r, h1, h2, h3⟩, e => by
    obtain ⟨e1, e2⟩ := Bool.and_eq_true_iff.mp (show (dat d && dats ds) = true from e)
    rw [h1]
    exact .cons (dp_of hF h2 e1) (dps_of hF h3 e2)
end
end
def Vl.dat? : Vl → Option D
  | .d x => if dat x then some x else none
  | .tl xs => if dats xs then some (.lst xs) else none
  | .bl xs => if dats xs then some (.lst xs) else none
  | .bi _ _ => none
theorem VlRep.dp' {g : Gi} {B : Bg} {env : Env} {s : Sta} {σ : L2.St} {H : Hp} (gd : Good g s H) : ∀ {x : Vl} {v : V} {d : D}, VlRep g B env σ s H x v → x.dat? = some d → Dp g.K H v (toP d)
  | .d x, _, _, h, e => by
    have e : (if dat x then some x else none) = some _ := e
    split at e
    · next hd => cases e; exact dp_of gd.fle h hd
    · cases e
  | .tl xs, _, _, h, e => by
    have e : (if dats xs then some (D.lst xs) else none) = some _ := e
    split at e
    · next hd =>
      cases e
      obtain ⟨a, vs, rfl, h2, _, _, h3⟩ := h
      exact .lst (.of h2) (dps_of gd.fle h3 hd)
    · cases e
  | .bl xs, _, _, h, e => by
    have e : (if dats xs then some (D.lst xs) else none) = some _ := e
    split at e
    · next hd =>
      cases e
      obtain ⟨a, vs, rfl, h2, _, h3⟩ := h
      exact .lst (.of h2) (dps_of gd.fle h3 hd)
    · cases e
  | .bi _ _, _, _, _, e => by cases e
def eqD (x y : D) : Bool := PyData.eqv (toP x) (toP y)
def shp (x : D) : Bool := SeqAt.shaped (toP x)
def fEq0 (neg : Bool) (x y : Vl) (h : Hc) : R Vl := match x.dat?, y.dat? with
  | some d, some e => if shp d && shp e then .ok (.d (.bl (if neg then !eqD d e else eqD d e))) h else .stuck
  | _, _ => .stuck
def fEq (neg : Bool) (x y : Vl) (h : Hc) : R Vl := match x, y with
  | .d (.str a), .d (.str b) => .ok (.d (.bl (if neg then !decide (a = b) else decide (a = b)))) h
  | x, y => fEq0 neg x y h
section
variable {X : Cx} {g : Gi} {B : Bg} {W : WXv} {pos : Pos} {a b c : Expr} {ma mb mc : ME}
theorem dec_s {a b : PySem.Str} : decide (L2.V.str a = L2.V.str b) = decide (a = b) := by
  rw [Bool.eq_iff_iff]
  simp
theorem o_eq (hK : g.K = X.K) (hu : X.A.units + 64 < cLine) : OpV X g (compareOp .Eq) (fEq false) := by
  refine ⟨_, OpR.or op_eq (op_eqD hu), fun B W env s σ H x y v w Q sr r1 r2 p => ?_⟩
  unfold fEq at p
  split at p
  · next a b =>
    obtain rfl : v = .str a := r1
    obtain rfl : w = .str b := r2
    exact .inl ⟨rfl, by rw [dec_s]; exact PostE.pure sr p rfl⟩
  · unfold fEq0 at p
    split at p
    · next d e e1 e2 =>
      split at p
      · next hs =>
        obtain ⟨h1, h2⟩ := Bool.and_eq_true_iff.mp hs
        exact .inr ⟨_, _, hK ▸ r1.dp' sr.good e1, hK ▸ r2.dp' sr.good e2, h1, h2, PostE.pure sr p rfl⟩
      · exact p.elim
    · exact p.elim
theorem o_ne (hK : g.K = X.K) (hu : X.A.units + 64 < cLine) : OpV X g (compareOp .NotEq) (fEq true) := by
  refine ⟨_, OpR.or op_ne (op_neD hu), fun B W env s σ H x y v w Q sr r1 r2 p => ?_⟩
  unfold fEq at p
  split at p
  · next a b =>
    obtain rfl : v = .str a := r1
    obtain rfl : w = .str b := r2
    exact .inl ⟨rfl, by rw [dec_s]; exact PostE.pure sr p rfl⟩
  · unfold fEq0 at p
    split at p
    · next d e e1 e2 =>
      split at p
      · next hs =>
        obtain ⟨h1, h2⟩ := Bool.and_eq_true_iff.mp hs
        exact .inr ⟨_, _, hK ▸ r1.dp' sr.good e1, hK ▸ r2.dp' sr.good e2, h1, h2, PostE.pure sr p rfl⟩
      · exact p.elim
    · exact p.elim
end
end Vi
namespace Vi
open PySem L2
@[simp] def mNot (m : ME) : ME := m1 (fun x h => match x with
  | .d (.bl b) => .ok (.d (.bl (!b))) h
  | _ => .stuck) m
@[simp] def mAnd (a b : ME) : ME := fun env h => (a env h).bind fun x h1 => match x with
  | .d (.bl true) => b env h1
  | .d (.bl false) => .ok (.d (.bl false)) h1
  | _ => .stuck
@[simp] def mOr (a b : ME) : ME := fun env h => (a env h).bind fun x h1 => match x with
  | .d (.bl false) => b env h1
  | .d (.bl true) => .ok (.d (.bl true)) h1
  | _ => .stuck
@[simp] def tNotM (a : MB) : MB := fun env h => (a env h).bind fun b h1 => .ok (!b) h1
def tAndM (a b : MB) : MB := fun env h => (a env h).bind fun x h1 => if x then b env h1 else .ok false h1
def tOrM (a b : MB) : MB := fun env h => (a env h).bind fun x h1 => if x then .ok true h1 else b env h1
def mIf (c : MB) (a b : ME) : ME := fun env h => (c env h).bind fun x h1 => if x then a env h1 else b env h1
@[simp] def mChain (f g : Vl → Vl → Hc → R Vl) (a b c : ME) : ME := fun env h => (a env h).bind fun x h1 => (b env h1).bind fun y h2 => (f x y h2).bind fun z h3 => match z with
  | .d (.bl true) => (c env h3).bind fun w h4 => g y w h4
  | .d (.bl false) => .ok (.d (.bl false)) h3
  | _ => .stuck
@[simp] def fNeg (x : Vl) (h : Hc) : R Vl := match x with
  | .d (.int i) => .ok (.d (.int (-i))) h
  | _ => .stuck
section
variable {X : Cx} {g : Gi} {B : Bg} {W : WXv} {pos : Pos} {a b c : Expr} {ma mb mc : ME} {rest : List Expr} {ta tb tc : MB} {env : Env} {s : Sta} {σ : L2.St} {H : Hp}
theorem ve_not (ha : PE X a (tE g B W ma)) : PE X (.UnaryOp .Not a pos) (tE g B W (mNot ma)) := by
  refine pe_imp (pe_not ha) fun σ H Q ⟨env, s, sr, p⟩ => ?_
  refine (bindE (Q := Q) sr p).mono fun v H1 ⟨s1, x, sr1, _, r1, p1⟩ => ?_
  split at p1
  · exact ⟨_, r1, PostE.pure sr1 p1 rfl⟩
  · exact p1.elim
theorem ve_one {op} (h : PE X a (tE g B W ma)) : PE X (.BoolOp op [a] pos) (tE g B W ma) := pe_one h
theorem ve_and (ha : PE X a (tE g B W ma)) (hb : PE X (.BoolOp .And (b :: rest) pos) (tE g B W mb)) : PE X (.BoolOp .And (a :: b :: rest) pos) (tE g B W (mAnd ma mb)) := by
  refine pe_imp (pe_and ha hb) fun σ H Q ⟨env, s, sr, p⟩ => ?_
  refine (bindE (Q := Q) sr p).mono fun v H1 ⟨s1, x, sr1, _, r1, p1⟩ => ?_
  split at p1
  · exact ⟨true, r1, iteT ⟨env, s1, sr1, p1⟩⟩
  · exact ⟨false, r1, iteF (PostE.pure sr1 p1 rfl)⟩
  · exact p1.elim
theorem ve_or (ha : PE X a (tE g B W ma)) (hb : PE X (.BoolOp .Or (b :: rest) pos) (tE g B W mb)) : PE X (.BoolOp .Or (a :: b :: rest) pos) (tE g B W (mOr ma mb)) := by
  refine pe_imp (pe_or ha hb) fun σ H Q ⟨env, s, sr, p⟩ => ?_
  refine (bindE (Q := Q) sr p).mono fun v H1 ⟨s1, x, sr1, _, r1, p1⟩ => ?_
  split at p1
  · exact ⟨false, r1, iteF ⟨env, s1, sr1, p1⟩⟩
  · exact ⟨true, r1, iteT (PostE.pure sr1 p1 rfl)⟩
  · exact p1.elim
theorem vt_not (ha : PT X a (tT g B W ta)) : PT X (.UnaryOp .Not a pos) (tT g B W (tNotM ta)) := by
  refine pt_imp (pt_not ha) fun σ H Q ⟨env, s, sr, p⟩ => ?_
  refine (bindTT (Q := Q) sr p).mono fun v H1 ⟨s1, sr1, _, p1⟩ => ?_
  exact PostB.pure sr1 p1
theorem vw_and1 (ha : PT X a (tT g B W ta)) : PW X (.BoolOp .And [a] pos) (tT g B W ta) := pw_and1 ha
theorem vw_or1 (ha : PT X a (tT g B W ta)) : PW X (.BoolOp .Or [a] pos) (tT g B W ta) := pw_or1 ha
theorem vw_and (ha : PT X a (tT g B W ta)) (hb : PW X (.BoolOp .And (b :: rest) pos) (tT g B W tb)) : PW X (.BoolOp .And (a :: b :: rest) pos) (tT g B W (tAndM ta tb)) := by
  refine pw_imp (pw_and ha hb) fun σ H Q ⟨env, s, sr, p⟩ => ?_
  refine (bindTT (Q := Q) sr p).mono fun v H1 ⟨s1, sr1, _, p1⟩ => ?_
  cases v with
  | true => exact iteT ⟨env, s1, sr1, p1⟩
  | false => exact iteF (PostB.pure sr1 p1)
theorem vw_or (ha : PT X a (tT g B W ta)) (hb : PW X (.BoolOp .Or (b :: rest) pos) (tT g B W tb)) : PW X (.BoolOp .Or (a :: b :: rest) pos) (tT g B W (tOrM ta tb)) := by
  refine pw_imp (pw_or ha hb) fun σ H Q ⟨env, s, sr, p⟩ => ?_
  refine (bindTT (Q := Q) sr p).mono fun v H1 ⟨s1, sr1, _, p1⟩ => ?_
  cases v with
  | true => exact iteT (PostB.pure sr1 p1)
  | false => exact iteF ⟨env, s1, sr1, p1⟩
theorem ve_if (hc : PT X c (tT g B W tc)) (ha : PE X a (tE g B W ma)) (hb : PE X b (tE g B W mb)) : PE X (.IfExp c a b pos) (tE g B W (mIf tc ma mb)) := by
  refine pe_imp (pe_ifExp hc ha hb) fun σ H Q ⟨env, s, sr, p⟩ => ?_
  refine (bindTE (Q := Q) sr p).mono fun v H1 ⟨s1, sr1, _, p1⟩ => ?_
  cases v with
  | true => exact iteT ⟨env, s1, sr1, p1⟩
  | false => exact iteF ⟨env, s1, sr1, p1⟩
theorem ve_neg (ha : PE X a (tE g B W ma)) : PE X (.UnaryOp .USub a pos) (tE g B W (m1 fNeg ma)) := by
  refine pe_imp (pe_un un_neg ha) fun σ H Q ⟨env, s, sr, p⟩ => ?_
  refine (bindE (Q := Q) sr p).mono fun v H1 ⟨s1, x, sr1, _, r1, p1⟩ => ?_
  unfold fNeg at p1
  split at p1
  · exact ⟨_, r1, PostE.pure sr1 p1 rfl⟩
  · exact p1.elim
theorem PostE.then {r : R Vl} {k : Vl → Hc → R Vl} {Q : VK} (p : PostE g B W env s σ H (r.bind k) Q) :
    PostE g B W env s σ H r fun v H1 => ∃ s1 x, SR g B env s1 σ H1 ∧ Evo s H s1 H1 ∧ VlRep g B env σ s1 H1 x v ∧ PostE g B W env s1 σ H1 (k x s1.h) Q := by
  cases r with
  | ok x h1 =>
    intro v H1 s1 e1 ev sr1 vr
    refine ⟨s1, x, sr1, ev, vr, ?_⟩
    rw [e1]
    exact PostE.later ev p
  | exc x h1 => exact p
  | stuck => exact p
def fIx (x y : Vl) (h : Hc) : R Vl := match y with
  | .d (.int i) => (match lst? h x with
    | some xs => (match atI xs i with
      | some d => .ok (.d d) h
      | none => .stuck)
    | none => (match tup? x with
      | some xs => (match atI xs i with
        | some d => .ok (.d d) h
        | none => .stuck)
      | none => (match x with
        | .d (.str z) => (match atI z.cps.toList i with
          | some c => if z.length ≤ 100000 then .ok (.d (.str ⟨#[c]⟩)) h else .stuck
          | none => .stuck)
        | .d (.ref n) => (match h[n]? with
          | some (.lst xs) => (match atI xs i with
            | some d => .ok (.d d) h
            | none => .stuck)
          | _ => .stuck)
        | _ => .stuck)))
  | _ => .stuck
theorem Reps.atI {F : Hp} {al : Nat → Option Addr} {ds : List D} {vs : List V} {i : Int} {d : D} (h : Reps g F al ds vs) (e : atI ds i = some d) : ∃ v, L2.atI vs i = some v ∧ Rep g F al d v := by
  unfold L2.atI at e ⊢
  rw [h.length]
  cases q : ixN ds.length i with
  | none => rw [q] at e; cases e
  | some j =>
    rw [q] at e
    exact h.get (i := j) e
theorem ve_ix (hK : g.K = X.K) (ha : PE X a (tE g B W ma)) (hb : PE X b (tE g B W mb)) (hs : PlainIx b) : PE X (.Subscript a b pos) (tE g B W (m2 fIx ma mb)) := by
  refine pe_imp (pe_ix ix_seq ha hb hs) fun σ H Q ⟨env, s, sr, p⟩ => ?_
  refine (bind2E (Q := Q) sr p).mono fun v H1 q => q.mono fun w H2 ⟨s2, x, y, sr2, _, r1, r2, p2⟩ => ?_
  unfold fIx at p2
  split at p2
  · next i =>
    cases r2
    split at p2
    · next xs e1 =>
      split at p2
      · next d e2 =>
        obtain ⟨a1, vs, rfl, h1, q1⟩ := r1.lst sr2.good e1
        obtain ⟨u, e3, r3⟩ := q1.atI e2
        exact .inl ⟨a1, vs, i, u, rfl, rfl, hK ▸ h1, e3, PostE.pure sr2 p2 r3⟩
      · exact p2.elim
    · split at p2
      · next xs e1 =>
        split at p2
        · next d e2 =>
          obtain ⟨a1, vs, rfl, h1, q1⟩ := r1.tup sr2.good e1
          obtain ⟨u, e3, r3⟩ := q1.atI e2
          exact .inr (.inl ⟨a1, vs, i, u, rfl, rfl, hK ▸ h1, e3, PostE.pure sr2 p2 r3⟩)
        · exact p2.elim
      · split at p2
        · next z _ _ =>
          split at p2
          · next c e2 =>
            split at p2
            · next hl =>
              cases r1
              exact .inr (.inr ⟨z, i, c, rfl, rfl, size_of hl, e2, PostE.pure sr2 p2 rfl⟩)
            · exact p2.elim
          · exact p2.elim
        · next n _ _ =>
          split at p2
          · next xs hx =>
            split at p2
            · next d e2 =>
              obtain ⟨a1, rfl, hal⟩ := r1
              obtain ⟨a2, h1, vs, h3, q1⟩ := sr2.good.cell n _ hx
              rw [hal] at h1
              cases h1
              obtain ⟨u, e3, r3⟩ := q1.atI e2
              exact .inl ⟨a1, vs, i, u, rfl, rfl, .of h3, e3, PostE.pure sr2 p2 r3⟩
            · exact p2.elim
          · exact p2.elim
        · exact p2.elim
  · exact p2.elim
end
def CallV (X : Cx) (g : Gi) (f : Value) (F : List Vl → Hc → R Vl) : Prop :=
  ∃ r : List V → Hp → VK → Prop, CallR X f r ∧ ∀ (B : Bg) (W : WXv) (env : Env) (s : Sta) (σ : L2.St) (H : Hp) (xs : List Vl) (vs : List V) (Q : VK), SR g B env s σ H → VlReps g B env σ s H xs vs → PostE g B W env s σ H (F xs s.h) Q → r vs H Q
section
variable {X : Cx} {g : Gi} {B : Bg} {W : WXv} {pos p : Pos} {e : Expr} {es : List Expr} {A : MA} {F : List Vl → Hc → R Vl} {id T : String} {x : Str}
theorem ve_callB (hc : CallV X g (.builtin id) F) (hg : Gl X x) (hm : X.mg x = none) (hv : bootBuiltins x = some (.builtin id)) (ha : PA X (e :: es) (tA g B W A)) (hn : x ≠ "__name__" := by decide) (hdb : (x == ("__debug__" : Str)) = false := by decide)
    (he : starEach (e :: es) X.env = (false, eval e X.env) :: starEach es X.env := by rfl) (hpl : (backTo pos (starEach es X.env)).any (·.1) = false := by rfl) : PE X (.Call (.Name x p) (e :: es) [] pos) (tE g B W (mA1 F A)) := by
  obtain ⟨r, h1, h2⟩ := hc
  refine pe_imp (pe_callB h1 hg hm hv ha hn hdb he hpl) fun σ H Q ⟨env, s, sr, p⟩ => ?_
  refine (bindA (Q := Q) sr p).mono fun vs H1 ⟨s1, xs, sr1, _, r1, p1⟩ => ?_
  exact h2 B W env s1 σ H1 xs vs Q sr1 r1 p1
theorem ve_callTy (hc : CallV X g (.type T) F) (hg : Gl X x) (hm : X.mg x = none) (hv : bootBuiltins x = some (.type T)) (ha : PA X (e :: es) (tA g B W A)) (hn : x ≠ "__name__" := by decide) (hdb : (x == ("__debug__" : Str)) = false := by decide)
    (he : starEach (e :: es) X.env = (false, eval e X.env) :: starEach es X.env := by rfl) (hpl : (backTo pos (starEach es X.env)).any (·.1) = false := by rfl) : PE X (.Call (.Name x p) (e :: es) [] pos) (tE g B W (mA1 F A)) := by
  obtain ⟨r, h1, h2⟩ := hc
  refine pe_imp (pe_callTy h1 hg hm hv ha hn hdb he hpl) fun σ H Q ⟨env, s, sr, p⟩ => ?_
  refine (bindA (Q := Q) sr p).mono fun vs H1 ⟨s1, xs, sr1, _, r1, p1⟩ => ?_
  exact h2 B W env s1 σ H1 xs vs Q sr1 r1 p1
end
section
variable {g : Gi} {B : Bg} {env : Env} {s : Sta} {σ : L2.St} {H : Hp}
theorem VlReps.one {x : Vl} {vs : List V} (h : VlReps g B env σ s H [x] vs) : ∃ v, vs = [v] ∧ VlRep g B env σ s H x v := by
  cases h with
  | cons a b => cases b; exact ⟨_, rfl, a⟩
theorem VlReps.two {x y : Vl} {vs : List V} (h : VlReps g B env σ s H [x, y] vs) : ∃ v w, vs = [v, w] ∧ VlRep g B env σ s H x v ∧ VlRep g B env σ s H y w := by
  cases h with
  | cons a b =>
    cases b with
    | cons b c => cases c; exact ⟨_, _, rfl, a, b⟩
end
@[simp] def fAbs (xs : List Vl) (h : Hc) : R Vl := match xs with
  | [.d (.int i)] => .ok (.d (.int (if i < 0 then -i else i))) h
  | _ => .stuck
@[simp] def fMax2 (xs : List Vl) (h : Hc) : R Vl := match xs with
  | [.d (.int i), .d (.int j)] => .ok (.d (.int (if j > i then j else i))) h
  | _ => .stuck
@[simp] def fMin2 (xs : List Vl) (h : Hc) : R Vl := match xs with
  | [.d (.int i), .d (.int j)] => .ok (.d (.int (if j < i then j else i))) h
  | _ => .stuck
@[simp] def fGcd (xs : List Vl) (h : Hc) : R Vl := match xs with
  | [.d (.int i), .d (.int j)] => .ok (.d (.int ((Nat.gcd i.natAbs j.natAbs : Nat) : Int))) h
  | _ => .stuck
@[simp] def fIntOf (xs : List Vl) (h : Hc) : R Vl := match xs with
  | [.d (.int i)] => .ok (.d (.int i)) h
  | [.d (.bl b)] => .ok (.d (.int (if b then 1 else 0))) h
  | _ => .stuck
def fStrOf (xs : List Vl) (h : Hc) : R Vl := match xs with
  | [.d (.int i)] => if i.natAbs.log2 < 1920 then .ok (.d (.str (toString i))) h else .stuck
  | _ => .stuck
def fLen (xs : List Vl) (h : Hc) : R Vl := match xs with
  | [x] => (match lst? h x with
    | some ys => .ok (.d (.int ys.length)) h
    | none => (match tup? x with
      | some ys => .ok (.d (.int ys.length)) h
      | none => (match x with
        | .d (.str z) => if z.length ≤ 100000 then .ok (.d (.int z.length)) h else .stuck
        | .d (.ref n) => (match h[n]? with
          | some (.lst ys) => .ok (.d (.int ys.length)) h
          | _ => .stuck)
        | _ => .stuck)))
  | _ => .stuck
def ints? : List D → Option (List Int)
  | [] => some []
  | .int i :: r => (ints? r).map (i :: ·)
  | _ :: _ => none
def fSum (xs : List Vl) (h : Hc) : R Vl := match xs with
  | [x] => (match lst? h x with
    | some ys => (match ints? ys with
      | some ns => .ok (.d (.int ns.sum)) h
      | none => .stuck)
    | none => .stuck)
  | _ => .stuck
def fList (o : Bool) (xs : List Vl) (h : Hc) : R Vl := match xs with
  | [x] => (match lst? h x with
    | some ys => .ok (Vl.ofL o ys) h
    | none => (match tup? x with
      | some ys => .ok (Vl.ofL o ys) h
      | none => .stuck))
  | _ => .stuck
def fTuple (xs : List Vl) (h : Hc) : R Vl := match xs with
  | [x] => (match lst? h x with
    | some ys => .ok (.d (.tup ys)) h
    | none => (match ptup? x with
      | some ys => .ok (.d (.tup ys)) h
      | none => .stuck))
  | _ => .stuck
section
variable {X : Cx} {g : Gi}
theorem c_abs : CallV X g (.builtin "abs") fAbs := by
  refine ⟨_, call_abs, fun B W env s σ H xs vs Q sr r p => ?_⟩
  unfold fAbs at p
  split at p
  · obtain ⟨v, rfl, rr⟩ := r.one
    cases rr
    exact ⟨_, rfl, PostE.pure sr p rfl⟩
  · exact p.elim
theorem c_min2 (hc : X.calm = true) : CallV X g (.builtin "min") fMin2 := by
  refine ⟨_, call_min2 hc, fun B W env s σ H xs vs Q sr r p => ?_⟩
  unfold fMin2 at p
  split at p
  · obtain ⟨v, w, rfl, rr, r2⟩ := r.two
    cases rr
    cases r2
    exact ⟨_, _, rfl, PostE.pure sr p rfl⟩
  · exact p.elim
theorem c_int : CallV X g (.type "int") fIntOf := by
  refine ⟨_, call_int1, fun B W env s σ H xs vs Q sr r p => ?_⟩
  unfold fIntOf at p
  split at p
  · obtain ⟨v, rfl, rr⟩ := r.one
    cases rr
    exact .inl ⟨_, rfl, PostE.pure sr p rfl⟩
  · obtain ⟨v, rfl, rr⟩ := r.one
    cases rr
    exact .inr ⟨_, rfl, PostE.pure sr p rfl⟩
  · exact p.elim
theorem c_len (hK : g.K = X.K) : CallV X g (.builtin "len") fLen := by
  refine ⟨_, call_len, fun B W env s σ H xs vs Q sr r p => ?_⟩
  unfold fLen at p
  split at p
  · next x =>
    obtain ⟨v, rfl, rr⟩ := r.one
    split at p
    · next ys e1 =>
      obtain ⟨a1, ws, rfl, h1, q1⟩ := rr.lst sr.good e1
      exact ⟨_, ys.length, rfl, .inl ⟨ws, hK ▸ h1, q1.length.symm⟩, PostE.pure sr p rfl⟩
    · split at p
      · next ys e1 =>
        obtain ⟨a1, ws, rfl, h1, q1⟩ := rr.tup sr.good e1
        exact ⟨_, ys.length, rfl, .inr ⟨ws, hK ▸ h1, q1.length.symm⟩, PostE.pure sr p rfl⟩
      · split at p
        · split at p
          · next hl =>
            cases rr
            exact ⟨_, _, rfl, ⟨size_of hl, rfl⟩, PostE.pure sr p rfl⟩
          · exact p.elim
        · next n _ _ =>
          split at p
          · next ys hx =>
            obtain ⟨a1, rfl, hal⟩ := rr
            obtain ⟨a2, h1, ws, h3, q1⟩ := sr.good.cell n _ hx
            rw [hal] at h1
            cases h1
            exact ⟨_, ys.length, rfl, .inl ⟨ws, .of h3, q1.length.symm⟩, PostE.pure sr p rfl⟩
          · exact p.elim
        · exact p.elim
  · exact p.elim
theorem Reps.ints {F : Hp} {al : Nat → Option Addr} (ds : List D) : ∀ {vs : List V} {ns : List Int}, Reps g F al ds vs → ints? ds = some ns → vs = ns.map V.int := by
  induction ds with
  | nil =>
    intro vs ns h e
    have e : some [] = some ns := e
    cases e
    exact h
  | cons d ds ih =>
    intro vs ns h e
    obtain ⟨v, r, h1, h2, h3⟩ := h
    cases d with
    | int i =>
      have e1 : (ints? ds).map (i :: ·) = some ns := e
      cases q : ints? ds with
      | none => rw [q] at e1; cases e1
      | some l =>
        rw [q] at e1
        have e2 : i :: l = ns := Option.some.inj e1
        have h2 : v = .int i := h2
        rw [← e2, h1, ih h3 q, h2, List.map_cons]
    | _ => cases e
theorem c_sum (hK : g.K = X.K) (hc : X.calm = true) : CallV X g (.builtin "sum") fSum := by
  refine ⟨_, cr_sum hc, fun B W env s σ H xs vs Q sr r p => ?_⟩
  unfold fSum at p
  split at p
  · obtain ⟨v, rfl, rr⟩ := r.one
    split at p
    · next ys e1 =>
      split at p
      · next ns e2 =>
        obtain ⟨a1, ws, rfl, h1, q1⟩ := rr.lst sr.good e1
        have e3 := Reps.ints _ q1 e2
        subst e3
        exact ⟨a1, ns, rfl, hK ▸ h1, PostE.pure sr p rfl⟩
      · exact p.elim
    · exact p.elim
  · exact p.elim
theorem c_list (o : Bool) (hK : g.K = X.K) : CallV X g (.type "list") (fList o) := by
  refine ⟨_, call_list_of, fun B W env s σ H xs vs Q sr r p => ?_⟩
  unfold fList at p
  split at p
  · obtain ⟨v, rfl, rr⟩ := r.one
    split at p
    · next ys e1 =>
      obtain ⟨a1, ws, rfl, h1, q1⟩ := rr.lst sr.good e1
      exact ⟨_, ws, rfl, .inl (hK ▸ h1), fun l hl => PostE.newLO sr p q1 hl⟩
    · split at p
      · next ys e1 =>
        obtain ⟨a1, ws, rfl, h1, q1⟩ := rr.tup sr.good e1
        exact ⟨_, ws, rfl, .inr (hK ▸ h1), fun l hl => PostE.newLO sr p q1 hl⟩
      · exact p.elim
  · exact p.elim
theorem c_tuple (hK : g.K = X.K) : CallV X g (.type "tuple") fTuple := by
  refine ⟨_, call_tuple_of, fun B W env s σ H xs vs Q sr r p => ?_⟩
  unfold fTuple at p
  split at p
  · obtain ⟨v, rfl, rr⟩ := r.one
    split at p
    · next ys e1 =>
      obtain ⟨a1, ws, rfl, h1, q1⟩ := rr.lst sr.good e1
      exact ⟨_, ws, rfl, .inl ⟨hK ▸ h1, fun l hl => PostE.newT sr p q1 hl⟩⟩
    · split at p
      · next ys e1 =>
        obtain ⟨a1, ws, e2, h1, q1⟩ := rr.tup sr.good (ptup_tup e1)
        subst e2
        exact ⟨_, ws, rfl, .inr ⟨hK ▸ h1, PostE.pure sr p (tup?_eq e1 ▸ rr)⟩⟩
      · exact p.elim
  · exact p.elim
def fIsi (g : Gi) (t : Ty) (x : Vl) (h : Hc) : R Vl := match x.ty g h with
  | some u => (match g.isi u t with
    | some b => .ok (.d (.bl b)) h
    | none => .stuck)
  | none => .stuck
end
section
variable {X : Cx} {g : Gi} {B : Bg} {W : WXv} {pos p : Pos} {e c : Expr} {m : ME}
theorem ve_isi (G : GiOk g) (hK : g.K = X.K) (t : Ty) (hg : Gl X "isinstance") (hm : X.mg "isinstance" = none) (he : PE X e (tE g B W m)) (hc : PE X c (tC (t.v g)))
    (hs : starEach [e, c] X.env = (false, eval e X.env) :: starEach [c] X.env := by rfl) (hs2 : starEach [c] X.env = (false, eval c X.env) :: starEach [] X.env := by rfl) (hpl : (backTo pos (starEach [c] X.env)).any (·.1) = false := by rfl) :
    PE X (.Call (.Name "isinstance" p) [e, c] [] pos) (tE g B W (m1 (fIsi g t) m)) := by
  refine pe_imp (pe_callB call_isi hg hm (by decide +kernel) (pa_cons he (pa_cons hc pa_nil hs2) hs) (by decide) (by decide) hs hpl) fun σ H Q ⟨env, s, sr, p⟩ => ?_
  refine (bindE (Q := Q) sr p).mono fun v H1 ⟨s1, x, sr1, _, r1, p1⟩ => ?_
  unfold fIsi at p1
  split at p1
  · next u e1 =>
    split at p1
    · next b e2 =>
      refine ⟨v, t.v g, u.val g, t.val g, b, rfl, ?_, hK ▸ Vl.tyX G sr1.good r1 e1, hK ▸ G.isi u t b e2, PostE.pure sr1 p1 rfl⟩
      cases t with
      | bt n => exact .ty n
      | own c => exact .own _
    · exact p1.elim
  · exact p1.elim
end
end Vi
namespace Vi
open PySem L2
inductive RS where
  | nx (env : Env) (h : Hc) | ret (d : D) (h : Hc) | brk (env : Env) (h : Hc) | cnt (env : Env) (h : Hc) | exc (env : Env) (x : D) (h : Hc) | stuck
abbrev MS := Env → Hc → RS
structure Le (s s' : Sta) : Prop where
  f : ∀ a o, s.F a = some o → s'.F a = some o
  al : ∀ n a, s.al n = some a → s'.al n = some a
  z : ∀ n o, s.z n = some o → s'.z n = some o
theorem Le.refl (s : Sta) : Le s s := ⟨fun _ _ h => h, fun _ _ h => h, fun _ _ h => h⟩
theorem Le.trans {a b c : Sta} (x : Le a b) (y : Le b c) : Le a c := ⟨fun _ _ h => y.f _ _ (x.f _ _ h), fun _ _ h => y.al _ _ (x.al _ _ h), fun _ _ h => y.z _ _ (x.z _ _ h)⟩
theorem Evo.le {s s' : Sta} {H H' : Hp} (e : Evo s H s' H') : Le s s' := ⟨e.f, e.al, e.z⟩
section
variable (g : Gi) (B : Bg) (W : WXv)
def PostS (s0 : Sta) : RS → Ends → Prop
  | .nx env h, N => ∀ (σ : L2.St) (H : Hp) (s : Sta), s.h = h → Le s0 s → SR g B env s σ H → N.nx σ H
  | .ret d h, N => ∀ (v : V) (H : Hp) (s : Sta), s.h = h → Evo B.s B.H s H → Good g s H → Rep g s.F s.al d v → N.rt v H
  | .brk env h, N => ∀ (σ : L2.St) (H : Hp) (s : Sta), s.h = h → Le s0 s → SR g B env s σ H → N.bk σ H
  | .cnt env h, N => ∀ (σ : L2.St) (H : Hp) (s : Sta), s.h = h → Le s0 s → SR g B env s σ H → N.ct σ H
  | .exc env x h, _ => ∀ (cls : Value) (dd : Option Addr) (σ : L2.St) (H : Hp) (s : Sta), s.h = h → Le s0 s → SR g B env s σ H → XRep g s H x cls dd → W cls dd σ H
  | .stuck, _ => False
def tS (m : MS) : TS := fun N σ H => ∃ env s, SR g B env s σ H ∧ PostS g B W s (m env s.h) N
end
def R.thenS {α : Type} (r : R α) (env : Env) (k : α → Hc → RS) : RS := match r with
  | .ok a h => k a h
  | .exc x h => .exc env x h
  | .stuck => .stuck
theorem ps_imp {X : Cx} {e : Stmt} {t t' : TS} (h : PS X e t) (i : ∀ N σ H, t' N σ H → t N σ H) : PS X e t' := ⟨fun pins s σ H N I q => h.run pins s σ H N I (i N σ H q)⟩
theorem pss_imp {X : Cx} {e : List Stmt} {t t' : TS} (h : PSs X e t) (i : ∀ N σ H, t' N σ H → t N σ H) : PSs X e t' := ⟨fun pins s σ H N I q => h.run pins s σ H N I (i N σ H q)⟩
section
variable {g : Gi} {B : Bg} {W : WXv} {env : Env} {s : Sta} {σ : L2.St} {H : Hp}
theorem PostS.later {s0 s1 : Sta} {N : Ends} (l : Le s0 s1) : ∀ {r : RS}, PostS g B W s0 r N → PostS g B W s1 r N
  | .nx _ _, p => fun σ H s e h sr => p σ H s e (l.trans h) sr
  | .ret _ _, p => p
  | .brk _ _, p => fun σ H s e h sr => p σ H s e (l.trans h) sr
  | .cnt _ _, p => fun σ H s e h sr => p σ H s e (l.trans h) sr
  | .exc _ _ _, p => fun c d σ H s e h sr => p c d σ H s e (l.trans h) sr
  | .stuck, p => p
theorem bindS {a : ME} {k : Vl → Hc → RS} {N : Ends} (sr : SR g B env s σ H) (p : PostS g B W s ((a env s.h).thenS env k) N) :
    tE g B W a σ H fun v H1 => ∃ s1 x, SR g B env s1 σ H1 ∧ Le s s1 ∧ VlRep g B env σ s1 H1 x v ∧ PostS g B W s1 (k x s1.h) N := by
  refine ⟨env, s, sr, ?_⟩
  cases e : a env s.h with
  | ok x h1 =>
    rw [e] at p
    intro v H1 s1 e1 ev sr1 vr
    exact ⟨s1, x, sr1, ev.le, vr, by rw [e1]; exact PostS.later ev.le p⟩
  | exc x h1 =>
    rw [e] at p
    intro cls dd H1 s1 e1 ev sr1 xr
    exact p cls dd σ H1 s1 e1 ev.le sr1 xr
  | stuck =>
    rw [e] at p
    exact p
theorem bindSB {a : MB} {k : Bool → Hc → RS} {N : Ends} (sr : SR g B env s σ H) (p : PostS g B W s ((a env s.h).thenS env k) N) :
    tT g B W a σ H fun b H1 => ∃ s1, SR g B env s1 σ H1 ∧ Le s s1 ∧ PostS g B W s1 (k b s1.h) N := by
  refine ⟨env, s, sr, ?_⟩
  cases e : a env s.h with
  | ok x h1 =>
    rw [e] at p
    intro H1 s1 e1 ev sr1
    exact ⟨s1, sr1, ev.le, by rw [e1]; exact PostS.later ev.le p⟩
  | exc x h1 =>
    rw [e] at p
    intro cls dd H1 s1 e1 ev sr1 xr
    exact p cls dd σ H1 s1 e1 ev.le sr1 xr
  | stuck =>
    rw [e] at p
    exact p
theorem bindSA {a : MA} {k : List Vl → Hc → RS} {N : Ends} (sr : SR g B env s σ H) (p : PostS g B W s ((a env s.h).thenS env k) N) :
    tA g B W a σ H fun vs H1 => ∃ s1 xs, SR g B env s1 σ H1 ∧ Le s s1 ∧ VlReps g B env σ s1 H1 xs vs ∧ PostS g B W s1 (k xs s1.h) N := by
  refine ⟨env, s, sr, ?_⟩
  cases e : a env s.h with
  | ok x h1 =>
    rw [e] at p
    intro v H1 s1 e1 ev sr1 vr
    exact ⟨s1, x, sr1, ev.le, vr, by rw [e1]; exact PostS.later ev.le p⟩
  | exc x h1 =>
    rw [e] at p
    intro cls dd H1 s1 e1 ev sr1 xr
    exact p cls dd σ H1 s1 e1 ev.le sr1 xr
  | stuck =>
    rw [e] at p
    exact p
theorem SR.set {i : Nat} {x : D} {v : V} (sr : SR g B env s σ H) (r : Rep g s.F s.al x v) : SR g B (env.set i (some (.d x))) s (σ.set i (some v)) H := by
  refine ⟨sr.good, sr.evo, by rw [List.length_set, List.length_set]; exact sr.len, fun j sl h => ?_, fun j k sl sl' u hjk h1 h2 o1 o2 h3 h4 => ?_⟩
  · by_cases e : i = j
    · subst e
      have hi : i < env.length := by
        have := (List.getElem?_eq_some_iff.mp h).1
        rwa [List.length_set] at this
      rw [List.getElem?_set_self hi] at h
      cases h
      exact ⟨v, List.getElem?_set_self (sr.len ▸ hi), r⟩
    · rw [List.getElem?_set_ne e] at h
      rw [List.getElem?_set_ne e]
      exact sr.slot j sl h
  · have ne : ∀ {j : Nat} {sl : Sl}, (env.set i (some (.d x)))[j]? = some (some sl) → sl.own = true → i ≠ j := fun {j sl} h o e => by
      subst e
      have hi : i < env.length := by
        have := (List.getElem?_eq_some_iff.mp h).1
        rwa [List.length_set] at this
      rw [List.getElem?_set_self hi] at h
      cases h
      cases o
    have n1 := ne h1 o1
    have n2 := ne h2 o2
    rw [List.getElem?_set_ne n1] at h1 h3
    rw [List.getElem?_set_ne n2] at h2 h4
    exact sr.sep j k sl sl' u hjk h1 h2 o1 o2 h3 h4
theorem SR.setO {i : Nat} {sl : Sl} {a : Addr} (sr : SR g B env s σ H) (r : SlRep g B s H sl (.ref a)) (hn : NotOwn env σ a) : SR g B (env.set i (some sl)) s (σ.set i (some (.ref a))) H := by
  refine ⟨sr.good, sr.evo, by rw [List.length_set, List.length_set]; exact sr.len, fun j sl' h => ?_, fun j k sl1 sl2 u hjk h1 h2 o1 o2 h3 h4 => ?_⟩
  · by_cases e : i = j
    · subst e
      have hi : i < env.length := by
        have := (List.getElem?_eq_some_iff.mp h).1
        rwa [List.length_set] at this
      rw [List.getElem?_set_self hi] at h
      cases h
      exact ⟨_, List.getElem?_set_self (sr.len ▸ hi), r⟩
    · rw [List.getElem?_set_ne e] at h
      rw [List.getElem?_set_ne e]
      exact sr.slot j sl' h
  · by_cases e1 : i = j
    · subst e1
      have hi : i < env.length := by
        have := (List.getElem?_eq_some_iff.mp h1).1
        rwa [List.length_set] at this
      rw [List.getElem?_set_self (sr.len ▸ hi)] at h3
      cases h3
      rw [List.getElem?_set_ne hjk] at h2 h4
      exact hn k sl2 h2 o2 h4
    · rw [List.getElem?_set_ne e1] at h1 h3
      by_cases e2 : i = k
      · subst e2
        have hi : i < env.length := by
          have := (List.getElem?_eq_some_iff.mp h2).1
          rwa [List.length_set] at this
        rw [List.getElem?_set_self (sr.len ▸ hi)] at h4
        cases h4
        exact hn j sl1 h1 o1 h3
      · rw [List.getElem?_set_ne e2] at h2 h4
        exact sr.sep j k sl1 sl2 u hjk h1 h2 o1 o2 h3 h4
end
@[simp] def mSkip : MS := fun env h => .nx env h
def mSeq (a b : MS) : MS := fun env h => match a env h with
  | .nx env' h' => b env' h'
  | r => r
@[simp] def mSet (i : Nat) (e : ME) : MS := fun env h => (e env h).thenS env fun x h1 => match x with
  | .d x => .nx (env.set i (some (.d x))) h1
  | .tl xs => .nx (env.set i (some (.ol xs))) h1
  | _ => .stuck
@[simp] def mDrop (e : ME) : MS := fun env h => (e env h).thenS env fun _ h1 => .nx env h1
@[simp] def mRet (e : ME) : MS := fun env h => (e env h).thenS env fun x h1 => match x with
  | .d x => .ret x h1
  | .tl xs => .ret (.lst xs) h1
  | .bl xs => .ret (.lst xs) h1
  | _ => .stuck
@[simp] def mRetN : MS := fun _ h => .ret .non h
def mIfS (c : MB) (a b : MS) : MS := fun env h => (c env h).thenS env fun x h1 => if x then a env h1 else b env h1
@[simp] def mBrk : MS := fun env h => .brk env h
@[simp] def mCnt : MS := fun env h => .cnt env h
section
variable {X : Cx} {g : Gi} {B : Bg} {W : WXv} {pos : Pos} {st : Stmt} {rest : List Stmt} {ma mb : MS} {e : Expr} {m : ME} {c : Expr} {mc : MB}
theorem vs_nil : PSs X [] (tS g B W mSkip) := pss_imp pss_nil fun N σ H ⟨env, s, sr, p⟩ => p σ H s rfl (Le.refl s) sr
theorem vs_cons (h1 : PS X st (tS g B W ma)) (h2 : PSs X rest (tS g B W mb)) : PSs X (st :: rest) (tS g B W (mSeq ma mb)) := by
  refine pss_imp (pss_cons h1 h2) fun N σ H ⟨env, s, sr, p⟩ => ⟨env, s, sr, ?_⟩
  unfold mSeq at p
  cases q : ma env s.h with
  | nx env' h' =>
    rw [q] at p
    intro σ' H' s' e l sr'
    exact ⟨env', s', sr', by rw [e]; exact PostS.later l p⟩
  | ret d h' => rw [q] at p; exact p
  | brk env' h' => rw [q] at p; exact p
  | cnt env' h' => rw [q] at p; exact p
  | exc env' x h' => rw [q] at p; exact p
  | stuck => rw [q] at p; exact p
theorem vs_one (h1 : PS X st (tS g B W ma)) : PSs X [st] (tS g B W ma) := pss_one h1
@[simp] def mNever : MS := fun _ _ => .stuck
theorem setPost {i : Nat} {x : Vl} {v : V} {env : Env} {s : Sta} {σ : L2.St} {H : Hp} {N : Ends} (sr : SR g B env s σ H) (r : VlRep g B env σ s H x v)
    (p : PostS g B W s (match (motive := Vl → RS) x with
      | .d x => .nx (env.set i (some (.d x))) s.h
      | .tl xs => .nx (env.set i (some (.ol xs))) s.h
      | _ => .stuck) N) : N.nx (σ.set i (some v)) H := by
  cases x with
  | d x => exact p _ H s rfl (Le.refl s) (sr.set r)
  | tl xs =>
    obtain ⟨a, vs, rfl, h1, h2, h3, h4⟩ := r
    exact p _ H s rfl (Le.refl s) (sr.setO (sl := .ol xs) ⟨a, vs, rfl, h1, h2, h4⟩ h3)
  | bl xs => exact p.elim
  | bi c fs => exact p.elim
theorem vs_set {i : Nat} {x : Str} {pos' : Pos} (hN : X.N.Nodup) (hi : X.N[i]? = some x) (hx : Loc X.env.scope x) (he : PE X e (tE g B W m)) (hs : swapsWith e (some (.Name x pos')) pos.line X.env = pure false := by rfl) (hf : X.fn x = true ∨ X.env.scope.names.lookup x = some .local := by first | exact .inl rfl | exact .inr rfl | assumption) :
    PS X (.Assign [.Name x pos'] e pos) (tS g B W (mSet i m)) := by
  refine ps_imp (ps_set hN hi hx he hs hf) fun N σ H ⟨env, s, sr, p⟩ => ?_
  exact (bindS sr p).mono fun v H1 ⟨s1, x, sr1, l1, r1, p1⟩ => setPost sr1 r1 p1
theorem vs_expr (he : PE X e (tE g B W m)) (hs : swapsWith e none pos.line X.env = pure false := by rfl) : PS X (.Expr e pos) (tS g B W (mDrop m)) := by
  refine ps_imp (ps_expr he hs) fun N σ H ⟨env, s, sr, p⟩ => ?_
  exact (bindS sr p).mono fun v H1 ⟨s1, x, sr1, l1, r1, p1⟩ => p1 σ H1 s1 rfl (Le.refl s1) sr1
theorem Good.frz {s : Sta} {H : Hp} {a : Addr} {o : HO} (gd : Good g s H) (ha : H a = some o) (hf : s.F a = none) (hal : ∀ n, s.al n ≠ some a) : Good g (s.frz a o) H := by
  have f : ∀ b u, s.F b = some u → (s.frz a o).F b = some u := fun b u h => by
    have ne : b ≠ a := fun q => by rw [q, hf] at h; cases h
    show upd s.F a o b = some u
    rw [upd_ne ne]; exact h
  refine ⟨fun b u h => ?_, gd.inj, fun n b h => ?_, fun n c h => ?_, gd.zed.keep rfl rfl (fun _ _ h => h) fun _ _ _ _ h => h⟩
  · have h : upd s.F a o b = some u := h
    by_cases q : b = a
    · subst q
      rw [upd_same] at h
      cases h
      exact ha
    · rw [upd_ne q] at h
      exact gd.fle b u h
  · obtain ⟨h1, h2, h3⟩ := gd.dom n b h
    refine ⟨h1, ?_, h3⟩
    have ne : b ≠ a := fun q => by subst q; exact hal n h
    show upd s.F a o b = none
    rw [upd_ne ne]; exact h2
  · obtain ⟨b, h1, h2⟩ := gd.cell n c h
    refine ⟨b, h1, ?_⟩
    exact h2.mv (fun _ z => z) f fun _ _ z => z
theorem frz_le {s : Sta} {a : Addr} {o : HO} (hf : s.F a = none) : ∀ b u, s.F b = some u → (s.frz a o).F b = some u := fun b u h => by
  have ne : b ≠ a := fun q => by rw [q, hf] at h; cases h
  show upd s.F a o b = some u
  rw [upd_ne ne]; exact h
theorem retL {xs : List D} {a : Addr} {vs : List V} {env : Env} {s : Sta} {σ : L2.St} {H : Hp} {N : Ends} (sr : SR g B env s σ H) (h1 : H a = some (.lst vs)) (h2 : OwnA B s a) (h4 : Reps g s.F s.al xs vs) (p : PostS g B W s (.ret (.lst xs) s.h) N) : N.rt (.ref a) H := by
  have fl := frz_le (o := .lst vs) h2.f
  exact p (.ref a) H (s.frz a (.lst vs)) rfl (evo_frz h2.f h2.al h2.new sr.evo) (sr.good.frz h1 h2.f h2.al) ⟨a, vs, rfl, upd_same, h4.mono fl fun _ _ z => z⟩
theorem vs_ret (he : PE X e (tE g B W m)) : PS X (.Return (some e) pos) (tS g B W (mRet m)) := by
  refine ps_imp (ps_ret he) fun N σ H ⟨env, s, sr, p⟩ => ?_
  refine (bindS sr p).mono fun v H1 ⟨s1, x, sr1, l1, r1, p1⟩ => ?_
  cases x with
  | d x => exact p1 v H1 s1 rfl sr1.evo sr1.good r1
  | tl xs =>
    obtain ⟨a, vs, rfl, h1, h2, h3, h4⟩ := r1
    exact retL sr1 h1 h2 h4 p1
  | bl xs =>
    obtain ⟨a, vs, rfl, h1, h2, h4⟩ := r1
    exact retL sr1 h1 h2 h4 p1
  | bi c fs => exact p1.elim
theorem vs_retN : PS X (.Return none pos) (tS g B W mRetN) := ps_imp ps_retN fun N σ H ⟨env, s, sr, p⟩ => p .non H s rfl sr.evo sr.good rfl
theorem vs_if {a b : List Stmt} (hc : PT X c (tT g B W mc)) (ha : PSs X a (tS g B W ma)) (hb : PSs X b (tS g B W mb)) : PS X (.If c a b pos) (tS g B W (mIfS mc ma mb)) := by
  refine ps_imp (ps_if hc ha hb) fun N σ H ⟨env, s, sr, p⟩ => ?_
  refine (bindSB sr p).mono fun v H1 ⟨s1, sr1, l1, p1⟩ => ?_
  cases v with
  | true => exact iteT ⟨env, s1, sr1, p1⟩
  | false => exact iteF ⟨env, s1, sr1, p1⟩
end
end Vi
namespace Vi
open PySem L2
abbrev TgF := D → Env → Option Env
def TgV (X : Cx) (g : Gi) (target : Expr) (T : TgF) : Prop :=
  ∃ t : TG, PG X target t ∧ ∀ (B : Bg) (env env' : Env) (s : Sta) (σ : L2.St) (H : Hp) (d : D) (v : V) (Q : L2.St → Hp → Prop), SR g B env s σ H → Rep g s.F s.al d v → T d env = some env' → (∀ σ' H', SR g B env' s σ' H' → Q σ' H') → t v σ H Q
def TgsV (X : Cx) (g : Gi) (targets : List Expr) (T : List D → Env → Option Env) : Prop :=
  ∃ t : TGs, PGs X targets t ∧ ∀ (B : Bg) (env env' : Env) (s : Sta) (σ : L2.St) (H : Hp) (ds : List D) (vs : List V) (Q : L2.St → Hp → Prop), SR g B env s σ H → Reps g s.F s.al ds vs → T ds env = some env' → (∀ σ' H', SR g B env' s σ' H' → Q σ' H') → t vs σ H Q
@[simp] def gtN (i : Nat) : TgF := fun d env => some (env.set i (some (.d d)))
@[simp] def gtNil : List D → Env → Option Env := fun ds env => match ds with
  | [] => some env
  | _ => none
@[simp] def gtCons (a : TgF) (b : List D → Env → Option Env) : List D → Env → Option Env := fun ds env => match ds with
  | d :: r => (a d env).bind fun env1 => b r env1
  | [] => none
@[simp] def gtT (n : Nat) (b : List D → Env → Option Env) : TgF := fun d env => match d with
  | .tup ds => if ds.length = n then b ds env else none
  | _ => none
section
variable {X : Cx} {g : Gi} {pos : Pos}
theorem vg_name {i : Nat} {x : Str} (hN : X.N.Nodup) (hi : X.N[i]? = some x) (hx : Loc X.env.scope x) (hf : X.fn x = true ∨ X.env.scope.names.lookup x = some .local := by first | exact .inl rfl | exact .inr rfl | assumption) : TgV X g (.Name x pos) (gtN i) :=
  ⟨_, pg_name hN hi hx hf, fun B env env' s σ H d v Q sr r e k => by
    have e : env.set i (some (.d d)) = env' := Option.some.inj e
    exact k _ _ (e ▸ sr.set r)⟩
theorem vg_nil : TgsV X g [] gtNil := ⟨_, pgs_nil, fun B env env' s σ H ds vs Q sr r e k => by
  cases ds with
  | nil =>
    have e : env = env' := Option.some.inj e
    exact ⟨r, k _ _ (e ▸ sr)⟩
  | cons _ _ => cases e⟩
theorem vg_cons {e : Expr} {es : List Expr} {T : TgF} {U : List D → Env → Option Env} (h1 : TgV X g e T) (h2 : TgsV X g es U) (hs : (assignEach (e :: es) X.env).map (·.2) = assign e X.env :: (assignEach es X.env).map (·.2) := by rfl) : TgsV X g (e :: es) (gtCons T U) := by
  obtain ⟨t, p1, q1⟩ := h1
  obtain ⟨u, p2, q2⟩ := h2
  refine ⟨_, pgs_cons p1 p2 hs, fun B env env' s σ H ds vs Q sr r e k => ?_⟩
  cases ds with
  | nil => cases e
  | cons d ds =>
    obtain ⟨v, vr, ev, r1, r2⟩ := r
    have e : (T d env).bind (fun env1 => U ds env1) = some env' := e
    cases e1 : T d env with
    | none => rw [e1] at e; cases e
    | some env1 =>
      rw [e1] at e
      exact ⟨v, vr, ev, q1 B env env1 s σ H d v _ sr r1 e1 fun σ1 H1 sr1 => q2 B env1 env' s σ1 H1 ds vr Q sr1 r2 e k⟩
theorem vg_tup (hK : g.K = X.K) (hc : X.calm = true) {es : List Expr} {k n : Nat} {U : List D → Env → Option Env} (h : TgsV X g es U) (hn : (assignEach es X.env).length = n := by rfl) (hst : (assignEach es X.env).findIdx? (·.1) = none := by rfl) : TgV X g (.Tuple es k pos) (gtT n U) := by
  obtain ⟨t, p1, q1⟩ := h
  refine ⟨_, pg_tup hc p1 hn hst, fun B env env' s σ H d v Q sr r e k => ?_⟩
  cases d with
  | tup ds =>
    obtain ⟨a, vs, rfl, h2, h3⟩ := r
    have e : (if ds.length = n then U ds env else none) = some env' := e
    by_cases hl : ds.length = n
    · rw [if_pos hl] at e
      exact ⟨a, vs, rfl, hK ▸ sr.good.sqT h2.sq, h3.length.trans hl, q1 B env env' s σ H ds vs Q sr h3 e k⟩
    · rw [if_neg hl] at e
      cases e
  | _ => cases e
end
@[simp] def mUnp (T : TgF) (e : ME) : MS := fun env h => (e env h).thenS env fun x h1 => match x with
  | .d d => (match T d env with
    | some env' => .nx env' h1
    | none => .stuck)
  | _ => .stuck
section
variable {X : Cx} {g : Gi} {B : Bg} {W : WXv} {pos : Pos} {e tg : Expr} {m : ME} {T : TgF}
theorem vs_unp (he : PE X e (tE g B W m)) (ht : TgV X g tg T) (hs : swapsWithSole [tg] e pos.line X.env = pure false := by rfl) (hw : swappedStores [tg] e X.env = pure none := by rfl)
    (h1 : (assignEach [tg] X.env).map (·.2) = [assign tg X.env] := by rfl) : PS X (.Assign [tg] e pos) (tS g B W (mUnp T m)) := by
  obtain ⟨t, p1, q1⟩ := ht
  refine ps_imp (ps_asg he p1 hs hw h1) fun N σ H ⟨env, s, sr, p⟩ => ?_
  refine (bindS sr p).mono fun v H1 ⟨s1, x, sr1, l1, r1, p1⟩ => ?_
  cases x with
  | d d =>
    cases e1 : T d env with
    | none => simp only [e1] at p1; exact p1.elim
    | some env' =>
      simp only [e1] at p1
      exact q1 B env env' s1 σ H1 d v _ sr1 r1 e1 fun σ' H' sr' => p1 σ' H' s1 rfl (Le.refl s1) sr'
  | _ => exact p1.elim
end
def mWhile : Nat → MB → MS → MS
  | 0, _, _ => fun _ _ => .stuck
  | n + 1, c, b => fun env h => (c env h).thenS env fun x h1 => if x then (match b env h1 with
    | .nx e h2 => mWhile n c b e h2
    | .cnt e h2 => mWhile n c b e h2
    | .brk e h2 => .nx e h2
    | .ret d h2 => .ret d h2
    | .exc e x h2 => .exc e x h2
    | .stuck => .stuck) else .nx env h1
section
variable {X : Cx} {g : Gi} {B : Bg} {W : WXv} {pos : Pos} {c : Expr} {body : List Stmt} {mc : MB} {mb : MS}
theorem vs_while (n : Nat) (hp : PassesOwn (model X.prog X.w) X.A X.env X.xe) (hc : PT X c (tT g B W mc)) (hb : PSs X body (tS g B W mb)) : PS X (.While c body [] pos) (tS g B W (mWhile n mc mb)) := by
  refine ps_imp (ps_while hp hc hb) fun N σ H ⟨env, s, sr, p⟩ => ?_
  refine ⟨fun m σ H => ∃ env s, SR g B env s σ H ∧ PostS g B W s (mWhile m mc mb env s.h) N, ⟨n, env, s, sr, p⟩, ?_⟩
  rintro m σ H ⟨env, s, sr, p⟩
  cases m with
  | zero => exact p.elim
  | succ m =>
    refine (bindSB (k := fun x h1 => if x then (match mb env h1 with
      | .nx e h2 => mWhile m mc mb e h2
      | .cnt e h2 => mWhile m mc mb e h2
      | .brk e h2 => .nx e h2
      | .ret d h2 => .ret d h2
      | .exc e x h2 => .exc e x h2
      | .stuck => .stuck) else .nx env h1) sr p).mono fun b H1 ⟨s1, sr1, l1, p1⟩ => ?_
    cases b with
    | false => exact iteF (p1 σ H1 s1 rfl (Le.refl s1) sr1)
    | true =>
      refine iteT ⟨fun σ' H' => ∃ env s, SR g B env s σ' H' ∧ PostS g B W s (mWhile m mc mb env s.h) N, fun σ' H' q => ⟨m, Nat.lt_succ_self m, q⟩, env, s1, sr1, ?_⟩
      rw [if_pos rfl] at p1
      cases q : mb env s1.h with
      | nx e h2 =>
        rw [q] at p1
        intro σ' H' s' e1 l sr'
        exact ⟨e, s', sr', by rw [e1]; exact PostS.later l p1⟩
      | cnt e h2 =>
        rw [q] at p1
        intro σ' H' s' e1 l sr'
        exact ⟨e, s', sr', by rw [e1]; exact PostS.later l p1⟩
      | brk e h2 => rw [q] at p1; exact p1
      | ret d h2 => rw [q] at p1; exact p1
      | exc e x h2 => rw [q] at p1; exact p1
      | stuck => rw [q] at p1; exact p1
end
def forL (T : TgF) (b : MS) : List D → MS
  | [] => fun env h => .nx env h
  | d :: r => fun env h => match T d env with
    | none => .stuck
    | some env1 => (match b env1 h with
      | .nx e h2 => forL T b r e h2
      | .cnt e h2 => forL T b r e h2
      | .brk e h2 => .nx e h2
      | .ret d h2 => .ret d h2
      | .exc e x h2 => .exc e x h2
      | .stuck => .stuck)
def seqD? (h : Hc) : Vl → Option (Bool × List D)
  | .d (.lst xs) => some (true, xs)
  | .d (.kl xs) => some (true, xs)
  | .d (.tup xs) => some (false, xs)
  | .d (.xtup xs) => some (false, xs)
  | .d (.ref n) => (match h[n]? with
    | some (.frz c) => (match c.bare with
      | .lst xs => some (true, xs)
      | _ => none)
    | _ => none)
  | _ => none
def StL (K : PySem.W.Frag) (s : Sta) (a : Addr) (vs : List V) : Prop := SqL K s.F a vs ∨ ∃ n, s.z n = some (.lst vs) ∧ s.al n = some a
theorem StL.le {K : PySem.W.Frag} {s s' : Sta} {a : Addr} {vs : List V} (l : Le s s') (h : StL K s a vs) : StL K s' a vs := by
  rcases h with h | ⟨n, h1, h2⟩
  · exact .inl (sqL_mono l.f h)
  · exact .inr ⟨n, l.z _ _ h1, l.al _ _ h2⟩
theorem StL.sqL {g : Gi} {K : PySem.W.Frag} {s : Sta} {H : Hp} {a : Addr} {vs : List V} (gd : Good g s H) (h : StL K s a vs) : SqL K H a vs := by
  rcases h with h | ⟨n, h1, h2⟩
  · exact sqL_mono gd.fle h
  · obtain ⟨b, c, h3, h4, _⟩ := gd.zed.at_ n _ h1
    rw [h2] at h3
    cases h3
    exact .of h4
theorem frz_lst {g : Gi} {s : Sta} {H : Hp} {n : Nat} {v : V} {c : Cell} {xs : List D} (gd : Good g s H) (r : Rep g s.F s.al (.ref n) v) (e1 : s.h[n]? = some (.frz c)) (e2 : c.bare = .lst xs) :
    ∃ a vs, v = .ref a ∧ s.z n = some (.lst vs) ∧ s.al n = some a ∧ Reps g s.F s.al xs vs := by
  obtain ⟨a, rfl, hal⟩ := r
  obtain ⟨b, g1, g2⟩ := gd.cell n _ e1
  rw [hal] at g1
  cases g1
  have g3 : CellRep g s H a c.bare := CellRep.bare (c := c) g2
  rw [e2] at g3
  obtain ⟨vs, h1, h2⟩ := g3
  obtain ⟨o, h3⟩ := gd.zed.of n c e1
  obtain ⟨b, _, h4, h5, _⟩ := gd.zed.at_ n o h3
  rw [hal] at h4
  cases h4
  rw [h1] at h5
  cases h5
  exact ⟨a, vs, rfl, h3, hal, h2⟩
def mFor (T : TgF) (e : ME) (b : MS) : MS := fun env h => (e env h).thenS env fun x h1 => match seqD? h1 x with
  | some (_, xs) => forL T b xs env h1
  | none => .stuck
theorem pi_or {X : Cx} {tg e : Expr} {t t' : TI} (h : PI X tg e t) (h' : PI X tg e t') : PI X tg e (fun σ H R => t σ H R ∨ t' σ H R) := ⟨fun pins s σ H R I q => by
  rcases q with q | q
  · exact h.run pins s σ H R I q
  · exact h'.run pins s σ H R I q⟩
section
variable {X : Cx} {g : Gi} {B : Bg} {W : WXv} {pos : Pos} {e tg : Expr} {body : List Stmt} {m : ME} {mb : MS} {T : TgF}
theorem forTurn {t : TG} {d : D} {r : List D} {v : V} {env : Env} {s : Sta} {σ : L2.St} {H : Hp} {N : Ends} (q1 : ∀ (B : Bg) (env env' : Env) (s : Sta) (σ : L2.St) (H : Hp) (d : D) (v : V) (Q : L2.St → Hp → Prop), SR g B env s σ H → Rep g s.F s.al d v → T d env = some env' → (∀ σ' H', SR g B env' s σ' H' → Q σ' H') → t v σ H Q)
    (sr : SR g B env s σ H) (rep : Rep g s.F s.al d v) (p : PostS g B W s (forL T mb (d :: r) env s.h) N) {Nx : L2.St → Hp → Prop} (hN : ∀ (env : Env) (s' : Sta) (σ : L2.St) (H : Hp), Le s s' → SR g B env s' σ H → PostS g B W s' (forL T mb r env s'.h) N → Nx σ H) :
    t v σ H fun σ2 H2 => tS g B W mb { N with nx := Nx, ct := Nx, bk := N.nx } σ2 H2 := by
  have p : PostS g B W s (match T d env with
    | none => .stuck
    | some env1 => (match mb env1 s.h with
      | .nx e h2 => forL T mb r e h2
      | .cnt e h2 => forL T mb r e h2
      | .brk e h2 => .nx e h2
      | .ret d h2 => .ret d h2
      | .exc e x h2 => .exc e x h2
      | .stuck => .stuck)) N := p
  cases e1 : T d env with
  | none => rw [e1] at p; exact p.elim
  | some env1 =>
    rw [e1] at p
    refine q1 B env env1 s σ H d v _ sr rep e1 fun σ' H' sr' => ⟨env1, s, sr', ?_⟩
    have p : PostS g B W s (match mb env1 s.h with
      | .nx e h2 => forL T mb r e h2
      | .cnt e h2 => forL T mb r e h2
      | .brk e h2 => .nx e h2
      | .ret d h2 => .ret d h2
      | .exc e x h2 => .exc e x h2
      | .stuck => .stuck) N := p
    cases q : mb env1 s.h with
    | nx e h2 =>
      rw [q] at p
      intro σ2 H2 s2 e2 l sr2
      exact hN e s2 σ2 H2 l sr2 (by rw [e2]; exact PostS.later l p)
    | cnt e h2 =>
      rw [q] at p
      intro σ2 H2 s2 e2 l sr2
      exact hN e s2 σ2 H2 l sr2 (by rw [e2]; exact PostS.later l p)
    | brk e h2 => rw [q] at p; exact p
    | ret d h2 => rw [q] at p; exact p
    | exc e x h2 => rw [q] at p; exact p
    | stuck => rw [q] at p; exact p
theorem Reps.mono2 {F F' : Hp} {al al' : Nat → Option Addr} {ds : List D} {vs : List V} (h : Reps g F al ds vs) (e : ∀ a o, F a = some o → F' a = some o) (ea : ∀ n a, al n = some a → al' n = some a) : Reps g F' al' ds vs := h.mono e ea
theorem vs_for (hK : g.K = X.K) (hp : PassesOwn (model X.prog X.w) X.A X.env X.xe) (hc : X.calm = true) (he : PE X e (tE g B W m)) (ht : TgV X g tg T) (hb : PSs X body (tS g B W mb))
    (hs : ∀ x, foldedSetIterable e X.env x = pure x := by intro _; rfl) : PS X (.For tg e body [] pos) (tS g B W (mFor T m mb)) := by
  obtain ⟨t, p1, q1⟩ := ht
  refine ps_imp (ps_for hp hc (pi_or (pi_list (tg := tg) he) (pi_tup he)) p1 hb hs) fun N σ H ⟨env, s, sr, p⟩ => ?_
  have go : ∀ (bb : Bool) (xs : List D) (h1 : Hc) (x : Vl), m env s.h = .ok x h1 → seqD? h1 x = some (bb, xs) → PostS g B W s (forL T mb xs env h1) N → tFor (fun σ H R => iList X.K (tE g B W m) σ H R ∨ iTup X.K (tE g B W m) σ H R) t (tS g B W mb) N σ H := by
    intro bb xs h1 x em es pp
    cases bb with
    | true =>
      refine .inl ⟨env, s, sr, ?_⟩
      rw [em]
      intro v H1 s1 e1 ev sr1 vr
      have q : ∃ a vs, v = .ref a ∧ StL g.K s1 a vs ∧ Reps g s1.F s1.al xs vs := by
        cases x with
        | d x =>
          cases x with
          | lst ys => cases es; obtain ⟨a, vs, h1, h2, h3⟩ := vr; exact ⟨a, vs, h1, .inl (.of h2), h3⟩
          | kl ys => cases es; obtain ⟨a, vs, h1, h2, h3⟩ := vr; exact ⟨a, vs, h1, .inl h2, h3⟩
          | ref n =>
            rw [← e1] at es
            unfold seqD? at es
            dsimp only at es
            split at es
            · next c ec =>
              split at es
              · next ys eb =>
                cases es
                obtain ⟨a, vs, h1, h2, h3, h4⟩ := frz_lst sr1.good vr ec eb
                exact ⟨a, vs, h1, .inr ⟨n, h2, h3⟩, h4⟩
              · cases es
            · cases es
          | _ => cases es
        | _ => cases es
      obtain ⟨a, vs, rfl, hq, hr⟩ := q
      refine ⟨a, rfl, ⟨vs, hK ▸ hq.sqL sr1.good⟩, for_list (K := X.K) (a := a) (xs := vs) (fun i σ H => ∃ env s', SR g B env s' σ H ∧ Le s1 s' ∧ PostS g B W s' (forL T mb (xs.drop i) env s'.h) N)
        ⟨env, s1, sr1, Le.refl s1, by rw [List.drop_zero, e1]; exact PostS.later ev.le pp⟩ (fun i σ H _ ⟨env, s', sr', l, _⟩ => hK ▸ (hq.le l).sqL sr'.good) ?_ ?_⟩
      · rintro i y σ H hi ⟨env, s', sr', l, pp⟩
        have hr' := hr.mono2 l.f l.al
        have hl : i < xs.length := by
          rw [← hr.length]
          exact (List.getElem?_eq_some_iff.mp hi).1
        obtain ⟨y', ey, ry⟩ := hr'.get (List.getElem?_eq_getElem hl)
        rw [hi] at ey
        cases ey
        rw [List.drop_eq_getElem_cons hl] at pp
        exact forTurn q1 sr' ry pp fun env2 s2 σ2 H2 l2 sr2 p2 => ⟨env2, s2, sr2, l.trans l2, p2⟩
      · rintro σ H ⟨env, s', sr', l, pp⟩
        rw [hr.length, List.drop_length] at pp
        exact pp σ H s' rfl (Le.refl s') sr'
    | false =>
      refine .inr ⟨env, s, sr, ?_⟩
      rw [em]
      intro v H1 s1 e1 ev sr1 vr
      have q : ∃ a vs, v = .ref a ∧ SqT g.K s1.F a vs ∧ Reps g s1.F s1.al xs vs := by
        cases x with
        | d x =>
          cases x with
          | tup ys => cases es; obtain ⟨a, vs, h1, h2, h3⟩ := vr; exact ⟨a, vs, h1, h2.sq, h3⟩
          | xtup ys => cases es; obtain ⟨a, o, vs, h1, h2, _, h3⟩ := vr; exact ⟨a, vs, h1, .inl (.inr ⟨o, h2⟩), h3⟩
          | ref n =>
            unfold seqD? at es
            dsimp only at es
            split at es
            · split at es <;> cases es
            · cases es
          | _ => cases es
        | _ => cases es
      obtain ⟨a, vs, rfl, hq, hr⟩ := q
      refine ⟨a, rfl, ⟨vs, hK ▸ sr1.good.sqT hq⟩, for_tup (K := X.K) (a := a) (xs := vs) (fun i σ H => ∃ env s', SR g B env s' σ H ∧ Le s1 s' ∧ PostS g B W s' (forL T mb (xs.drop i) env s'.h) N)
        ⟨env, s1, sr1, Le.refl s1, by rw [List.drop_zero, e1]; exact PostS.later ev.le pp⟩ (fun i σ H _ ⟨env, s', sr', l, _⟩ => hK ▸ sr'.good.sqT (sqT_mono l.f hq)) ?_ ?_⟩
      · rintro i y σ H hi ⟨env, s', sr', l, pp⟩
        have hr' := hr.mono2 l.f l.al
        have hl : i < xs.length := by
          rw [← hr.length]
          exact (List.getElem?_eq_some_iff.mp hi).1
        obtain ⟨y', ey, ry⟩ := hr'.get (List.getElem?_eq_getElem hl)
        rw [hi] at ey
        cases ey
        rw [List.drop_eq_getElem_cons hl] at pp
        exact forTurn q1 sr' ry pp fun env2 s2 σ2 H2 l2 sr2 p2 => ⟨env2, s2, sr2, l.trans l2, p2⟩
      · rintro σ H ⟨env, s', sr', l, pp⟩
        rw [hr.length, List.drop_length] at pp
        exact pp σ H s' rfl (Le.refl s') sr'
  unfold mFor at p
  cases em : m env s.h with
  | ok x h1 =>
    rw [em] at p
    have p : PostS g B W s (match seqD? h1 x with
      | some (_, xs) => forL T mb xs env h1
      | none => .stuck) N := p
    cases es : seqD? h1 x with
    | none => rw [es] at p; exact p.elim
    | some q =>
      rw [es] at p
      exact go q.1 q.2 h1 x em es p
  | exc x h1 =>
    rw [em] at p
    refine .inl ⟨env, s, sr, ?_⟩
    rw [em]
    intro cls dd H1 s1 e1 ev sr1 xr
    exact p cls dd σ H1 s1 e1 ev.le sr1 xr
  | stuck =>
    rw [em] at p
    exact p.elim
def rangeD (lo : Int) (n : Nat) : List D := (List.range n).map fun i : Nat => D.int (lo + (i : Nat))
def mForR (T : TgF) (a : MA) (b : MS) : MS := fun env h => (a env h).thenS env fun xs h1 => match xs with
  | [.d (.int j)] => if -(2 ^ 62) ≤ j ∧ j < 2 ^ 62 then forL T b (rangeD 0 j.toNat) env h1 else .stuck
  | _ => .stuck
def mForR2 (T : TgF) (a : MA) (b : MS) : MS := fun env h => (a env h).thenS env fun xs h1 => match xs with
  | [.d (.int i), .d (.int j)] => if -(2 ^ 62) ≤ i ∧ i < 2 ^ 62 ∧ -(2 ^ 62) ≤ j ∧ j < 2 ^ 62 then forL T b (rangeD i (j - i).toNat) env h1 else .stuck
  | _ => .stuck
theorem rangeD_len (lo : Int) (n : Nat) : (rangeD lo n).length = n := by unfold rangeD; rw [List.length_map, List.length_range]
theorem rangeD_get (lo : Int) (n i : Nat) (h : i < (rangeD lo n).length) : (rangeD lo n)[i] = .int (lo + (i : Nat)) := by
  have e : (rangeD lo n)[i]? = some (.int (lo + (i : Nat))) := by
    have hn : i < n := by rw [rangeD_len] at h; exact h
    show ((List.range n).map fun i : Nat => D.int (lo + (i : Nat)))[i]? = _
    rw [List.getElem?_map, List.getElem?_range hn]
    rfl
  exact (List.getElem?_eq_some_iff.mp e).2
theorem forRange {t : TG} {lo : Int} {n : Nat} {env : Env} {s1 : Sta} {σ : L2.St} {H : Hp} {N : Ends} (q1 : ∀ (B : Bg) (env env' : Env) (s : Sta) (σ : L2.St) (H : Hp) (d : D) (v : V) (Q : L2.St → Hp → Prop), SR g B env s σ H → Rep g s.F s.al d v → T d env = some env' → (∀ σ' H', SR g B env' s σ' H' → Q σ' H') → t v σ H Q)
    (sr1 : SR g B env s1 σ H) (pp : PostS g B W s1 (forL T mb (rangeD lo n) env s1.h) N) : ∃ W' : Nat → Nat → L2.St → Hp → Prop, (∃ m, W' 0 m σ H) ∧ ∀ i m σ H, W' i m σ H →
      ((Itr lo n).stop i H ∧ N.nx σ H) ∨ ((Itr lo n).go i H ∧ ∃ Nx : L2.St → Hp → Prop, (∀ σ' H', Nx σ' H' → ∃ m', m' < m ∧ W' (i + 1) m' σ' H') ∧ ∀ x H', (Itr lo n).yld i H x H' → t x σ H' fun σ2 H2 => tS g B W mb { N with nx := Nx, ct := Nx, bk := N.nx } σ2 H2) := by
  refine for_range (lo := lo) (n := n) (fun i σ H => ∃ env s', SR g B env s' σ H ∧ PostS g B W s' (forL T mb ((rangeD lo n).drop i) env s'.h) N) ⟨env, s1, sr1, by rw [List.drop_zero]; exact pp⟩ ?_ ?_
  · rintro i σ H hi ⟨env, s', sr', pp⟩
    have hl : i < (rangeD lo n).length := by rw [rangeD_len]; exact hi
    rw [List.drop_eq_getElem_cons hl, rangeD_get] at pp
    exact forTurn q1 sr' (show Rep g s'.F s'.al (.int (lo + (i : Nat))) (.int (lo + (i : Nat))) from rfl) pp fun env2 s2 σ2 H2 l2 sr2 p2 => ⟨env2, s2, sr2, p2⟩
  · rintro σ H ⟨env, s', sr', pp⟩
    rw [show (rangeD lo n).drop n = [] from List.drop_eq_nil_of_le (by rw [rangeD_len]; exact Nat.le_refl _)] at pp
    exact pp σ H s' rfl (Le.refl s') sr'
theorem vs_forR1 {a : Expr} {ma : MA} {p' rp : Pos} (hp : PassesOwn (model X.prog X.w) X.A X.env X.xe) (hc : X.calm = true) (hg : Gl X "range") (hm : X.mg "range" = none) (ha : PA X [a] (tA g B W ma)) (ht : TgV X g tg T) (hb : PSs X body (tS g B W mb))
    (hst : starEach [a] X.env = [(false, eval a X.env)] := by rfl) (hs : ∀ x, foldedSetIterable (.Call (.Name "range" p') [a] [] rp) X.env x = pure x := by intro _; rfl) :
    PS X (.For tg (.Call (.Name "range" p') [a] [] rp) body [] pos) (tS g B W (mForR T ma mb)) := by
  obtain ⟨t, p1, q1⟩ := ht
  refine ps_imp (ps_for hp hc (pi_range1 (tg := tg) hg hm ha hst) p1 hb hs) fun N σ H ⟨env, s, sr, p⟩ => ?_
  refine (bindSA sr p).mono fun vs H1 ⟨s1, xs, sr1, l1, r1, p1⟩ => ?_
  split at p1
  · next j =>
    obtain ⟨v, rfl, r⟩ := r1.one
    split at p1
    · next hj =>
      have r : v = .int j := r
      exact ⟨j, by rw [r], hj.1, hj.2, forRange q1 sr1 p1⟩
    · exact p1.elim
  · exact p1.elim
end
end Vi
namespace Vi
open PySem L2
section
variable {g : Gi} {B : Bg} {W : WXv} {env : Env} {s : Sta} {σ : L2.St} {H : Hp}
theorem SR.mut {i : Nat} {sl sl' : Sl} {a : Addr} {o : HO} (sr : SR g B env s σ H) (hi : env[i]? = some (some sl)) (ho : sl.own = true) (hσ : σ[i]? = some (some (.ref a))) (hf : s.F a = none) (hal : ∀ n, s.al n ≠ some a) (hb : B.H a = none)
    (r : SlRep g B s (upd H a o) sl' (.ref a)) : SR g B (env.set i (some sl')) s σ (upd H a o) := by
  have hlt : i < env.length := (List.getElem?_eq_some_iff.mp hi).1
  have hnx : ∀ zs, H a ≠ some (.xd zs) := fun zs hz => by
    obtain ⟨v, h1, h2⟩ := sr.slot i sl hi
    rw [hσ] at h1
    cases h1
    cases sl with
    | d x => cases ho
    | xc c fs => cases ho
    | ol xs =>
      obtain ⟨b, vs, e, h2, _⟩ := h2
      cases e
      rw [hz] at h2
      cases h2
    | oi c fs =>
      obtain ⟨b, dx, vs, e, h2, _⟩ := h2
      cases e
      rw [hz] at h2
      cases h2
  have stay : ∀ {sl1 : Sl} {v : V}, SlRep g B s H sl1 v → (sl1.own = true → v ≠ .ref a) → SlRep g B s (upd H a o) sl1 v := fun {sl1 v} h hne => by
    cases sl1 with
    | d x => exact h
    | ol xs =>
      obtain ⟨b, vs, rfl, h2, h3, h4⟩ := h
      have ne : b ≠ a := fun e => hne rfl (by rw [e])
      exact ⟨b, vs, rfl, by rw [upd_ne ne]; exact h2, h3, h4⟩
    | oi c fs =>
      obtain ⟨b, dx, vs, rfl, h2, h3, h4, h5⟩ := h
      have ne : b ≠ a := fun e => hne rfl (by rw [e])
      exact ⟨b, dx, vs, rfl, by rw [upd_ne ne]; exact h2, h3, h4, h5⟩
    | xc c fs =>
      obtain ⟨h1, h2, vs, h3, h4, h5⟩ := h
      have ne : B.xd ≠ a := fun e => hnx vs (by rw [← e]; exact h3)
      exact ⟨h1, h2, vs, by rw [upd_ne ne]; exact h3, h4, h5⟩
  refine ⟨⟨fun b u h => ?_, sr.good.inj, fun n b h => ?_, fun n c h => ?_, sr.good.zed.keep rfl rfl (fun _ _ h => h) fun n b o h1 h2 => by rw [upd_ne (fun e => hal n (by rw [← e]; exact h1))]; exact h2⟩, ⟨sr.evo.f, sr.evo.al, fun b u h n => ?_, sr.evo.len, sr.evo.z⟩, by rw [List.length_set]; exact sr.len, fun j sl1 h => ?_, fun j k sl1 sl2 u hjk h1 h2 o1 o2 h3 h4 => ?_⟩
  · have ne : b ≠ a := fun e => by rw [e, hf] at h; cases h
    rw [upd_ne ne]
    exact sr.good.fle b u h
  · obtain ⟨h1, h2, u, h3⟩ := sr.good.dom n b h
    have ne : b ≠ a := fun e => hal n (by rw [← e]; exact h)
    exact ⟨h1, h2, u, by rw [upd_ne ne]; exact h3⟩
  · obtain ⟨b, h1, h2⟩ := sr.good.cell n c h
    have ne : b ≠ a := fun e => hal n (by rw [← e]; exact h1)
    refine ⟨b, h1, ?_⟩
    exact h2.mv (fun o h3 => by rw [upd_ne ne]; exact h3) (fun _ _ h => h) fun _ _ h => h
  · obtain ⟨h1, h2, h3⟩ := sr.evo.oth b u h n
    have ne : b ≠ a := fun e => by rw [e, hb] at h; cases h
    exact ⟨by rw [upd_ne ne]; exact h1, h2, h3⟩
  · by_cases e : i = j
    · subst e
      rw [List.getElem?_set_self hlt] at h
      cases h
      exact ⟨_, hσ, r⟩
    · rw [List.getElem?_set_ne e] at h
      obtain ⟨v, h1, h2⟩ := sr.slot j sl1 h
      exact ⟨v, h1, stay h2 fun o1 q => by subst q; exact sr.sep i j sl sl1 (.ref a) e hi h ho o1 hσ h1⟩
  · have f : ∀ {j : Nat} {sl1 : Sl}, (env.set i (some sl'))[j]? = some (some sl1) → sl1.own = true → ∃ sl3, env[j]? = some (some sl3) ∧ sl3.own = true := fun {j sl1} h q => by
      by_cases e : i = j
      · subst e
        exact ⟨sl, hi, ho⟩
      · rw [List.getElem?_set_ne e] at h
        exact ⟨sl1, h, q⟩
    obtain ⟨x1, e1, e2⟩ := f h1 o1
    obtain ⟨x2, e3, e4⟩ := f h2 o2
    exact sr.sep j k x1 x2 u hjk e1 e3 e2 e4 h3 h4
theorem SR.cell {n : Nat} {c c' : Cell} {a : Addr} {o : HO} (sr : SR g B env s σ H) (hc : s.h[n]? = some c) (ha : s.al n = some a) (nf : ∀ c0, c ≠ .frz c0) (nf' : ∀ c0, c' ≠ .frz c0) (r : CellRep g { s with h := s.h.set n c' } (upd H a o) a c') :
    SR g B env { s with h := s.h.set n c' } σ (upd H a o) := by
  obtain ⟨hn, hf, u0, hu0⟩ := sr.good.dom n a ha
  have stay : ∀ {sl1 : Sl} {v : V}, SlRep g B s H sl1 v → SlRep g B { s with h := s.h.set n c' } (upd H a o) sl1 v := fun {sl1 v} h => by
    cases sl1 with
    | d x => exact h
    | ol xs =>
      obtain ⟨b, vs, rfl, h2, h3, h4⟩ := h
      have ne : b ≠ a := fun e => h3.al n (by rw [e]; exact ha)
      exact ⟨b, vs, rfl, by rw [upd_ne ne]; exact h2, ⟨h3.f, h3.al, h3.new⟩, h4⟩
    | oi c fs =>
      obtain ⟨b, dx, vs, rfl, h2, h3, h4, h5⟩ := h
      have ne : b ≠ a := fun e => h3.al n (by rw [e]; exact ha)
      exact ⟨b, dx, vs, rfl, by rw [upd_ne ne]; exact h2, ⟨h3.f, h3.al, h3.new⟩, h4, h5⟩
    | xc c fs =>
      obtain ⟨h1, h2, vs, h3, h4, h5⟩ := h
      have ne : B.xd ≠ a := fun e => h4 n (by rw [e]; exact ha)
      exact ⟨h1, h2, vs, by rw [upd_ne ne]; exact h3, h4, h5⟩
  have zed : ZOk { s with h := s.h.set n c' } (upd H a o) := ⟨fun m u h => by
      obtain ⟨b, c0, h1, h2, h3⟩ := sr.good.zed.at_ m u h
      have e : n ≠ m := fun e => by
        subst e
        rw [hc] at h3
        exact nf _ (Option.some.inj h3)
      have ne : b ≠ a := fun q => e (sr.good.inj n m a ha (by rw [← q]; exact h1))
      refine ⟨b, c0, h1, by rw [upd_ne ne]; exact h2, ?_⟩
      show (s.h.set n c')[m]? = _
      rw [List.getElem?_set_ne e]
      exact h3, fun m c0 h => by
      have h : (s.h.set n c')[m]? = some (.frz c0) := h
      by_cases e : n = m
      · subst e
        rw [List.getElem?_set_self hn] at h
        exact absurd (Option.some.inj h) (nf' _)
      · rw [List.getElem?_set_ne e] at h
        exact sr.good.zed.of m c0 h⟩
  refine ⟨⟨fun b u h => ?_, sr.good.inj, fun m b h => ?_, fun m d h => ?_, zed⟩, ⟨sr.evo.f, sr.evo.al, fun b u h nn => ?_, by show _ ≤ (s.h.set n c').length; rw [List.length_set]; exact sr.evo.len, sr.evo.z⟩, sr.len, fun j sl1 h => ?_, sr.sep⟩
  · have ne : b ≠ a := fun e => by rw [e] at h; rw [hf] at h; cases h
    rw [upd_ne ne]
    exact sr.good.fle b u h
  · obtain ⟨h1, h2, u, h3⟩ := sr.good.dom m b h
    refine ⟨by show m < (s.h.set n c').length; rw [List.length_set]; exact h1, h2, ?_⟩
    by_cases e : b = a
    · subst e
      exact ⟨o, upd_same⟩
    · exact ⟨u, by rw [upd_ne e]; exact h3⟩
  · have h : (s.h.set n c')[m]? = some d := h
    by_cases e : n = m
    · subst e
      rw [List.getElem?_set_self hn] at h
      cases h
      exact ⟨a, ha, r⟩
    · rw [List.getElem?_set_ne e] at h
      obtain ⟨b, h1, h2⟩ := sr.good.cell m d h
      have ne : b ≠ a := fun q => e (sr.good.inj n m a ha (by rw [← q]; exact h1))
      refine ⟨b, h1, ?_⟩
      exact CellRep.mv (s := s) (s' := { s with h := s.h.set n c' }) (H := H) (fun o h3 => by rw [upd_ne ne]; exact h3) (fun _ _ h => h) (fun _ _ h => h) h2
  · obtain ⟨h1, h2, h3⟩ := sr.evo.oth b u h nn
    have ne : b ≠ a := fun e => h3 n (by rw [e]; exact ha)
    exact ⟨by rw [upd_ne ne]; exact h1, h2, h3⟩
  · obtain ⟨v, h1, h2⟩ := sr.slot j sl1 h
    exact ⟨v, h1, stay h2⟩
end
section
variable {g : Gi} {B : Bg} {W : WXv} {env : Env} {s : Sta} {σ : L2.St} {H : Hp}
theorem bind2S {a b : ME} {f : Vl → Vl → Hc → RS} {N : Ends} (sr : SR g B env s σ H) (p : PostS g B W s ((a env s.h).thenS env fun y h2 => (b env h2).thenS env fun z h3 => f y z h3) N) :
    tE g B W a σ H fun v H1 => tE g B W b σ H1 fun w H2 => ∃ s2 x y, SR g B env s2 σ H2 ∧ Evo s H s2 H2 ∧ VlRep g B env σ s2 H2 x v ∧ VlRep g B env σ s2 H2 y w ∧ PostS g B W s2 (f x y s2.h) N := by
  refine ⟨env, s, sr, ?_⟩
  cases e1 : a env s.h with
  | ok x h1 =>
    rw [e1] at p
    intro v H1 s1 q1 ev1 sr1 vr1
    refine ⟨env, s1, sr1, ?_⟩
    have p : PostS g B W s ((b env h1).thenS env fun z h3 => f x z h3) N := p
    rw [q1]
    cases e2 : b env h1 with
    | ok y h2 =>
      rw [e2] at p
      intro w H2 s2 q2 ev2 sr2 vr2
      refine ⟨s2, x, y, sr2, ev1.trans ev2, vr1.evo ev2, vr2, ?_⟩
      rw [q2]
      exact PostS.later (ev1.trans ev2).le p
    | exc x h =>
      rw [e2] at p
      intro cls dd H2 s2 q2 ev2 sr2 xr
      exact p cls dd σ H2 s2 q2 (ev1.trans ev2).le sr2 xr
    | stuck => rw [e2] at p; exact p
  | exc x h =>
    rw [e1] at p
    intro cls dd H2 s2 q2 ev2 sr2 xr
    exact p cls dd σ H2 s2 q2 ev2.le sr2 xr
  | stuck => rw [e1] at p; exact p
end
def mAppend (i : Nat) (e : ME) : MS := fun env h => match env[i]? with
  | some (some (.ol xs)) => (e env h).thenS env fun x h1 => match x with
    | .d d => if xs.length < 100000 then .nx (env.set i (some (.ol (xs ++ [d])))) h1 else .stuck
    | _ => .stuck
  | _ => .stuck
@[simp] def fSetIx (env : Env) (x y z : Vl) (h3 : Hc) : RS := match x, y, z with
  | .d d, .d (.ref n), .d (.int i) => (match h3[n]? with
    | some (.lst xs) => (match ixN xs.length i with
      | some j => .nx env (h3.set n (.lst (xs.set j d)))
      | none => .stuck)
    | _ => .stuck)
  | _, _, _ => .stuck
@[simp] def mSetIx (e o k : ME) : MS := fun env h => (e env h).thenS env fun x h1 => (o env h1).thenS env fun y h2 => (k env h2).thenS env fun z h3 => fSetIx env x y z h3
theorem size_lt {n : Nat} (h : n < 100000) : n < sizeLine := Nat.lt_of_lt_of_le h (by decide)
section
variable {X : Cx} {g : Gi} {B : Bg} {W : WXv} {pos apos cpos : Pos} {e o k : Expr} {m mo mk : ME} {tpos : Pos}
theorem vs_setix (he : PE X e (tE g B W m)) (ho : PE X o (tE g B W mo)) (hk : PE X k (tE g B W mk)) (hs : swapsWithSole [.Subscript o k tpos] e pos.line X.env = pure false := by rfl) (hw : swappedStores [.Subscript o k tpos] e X.env = pure none := by rfl)
    (h1 : (assignEach [.Subscript o k tpos] X.env).map (·.2) = [assign (.Subscript o k tpos) X.env] := by rfl)
    (ha : ∀ v, assign (.Subscript o k tpos) X.env v = (do
      let ov ← holding [v] (eval o X.env)
      let iv ← holding [v, ov] (eval k X.env)
      standAt tpos
      holding [v, ov, iv] (setItem ov iv v)
      release [v, ov, iv] []) := by intro _; rfl) : PS X (.Assign [.Subscript o k tpos] e pos) (tS g B W (mSetIx m mo mk)) := by
  refine ps_imp (ps_asg he (pg_sub ho hk set_list ha) hs hw h1) fun N σ H ⟨env, s, sr, p⟩ => ?_
  refine (bindS sr p).mono fun v H1 ⟨s1, x, sr1, l1, r1, p1⟩ => ?_
  have two := bind2S (W := W) (N := N) (f := fSetIx env x) sr1 p1
  refine two.mono fun ov H2 q => q.mono fun kv H3 ⟨s3, y, z, sr3, e3, r2, r3, p3⟩ => ?_
  have r1' := r1.evo e3
  unfold fSetIx at p3
  split at p3
  · split at p3
    · next xs hx =>
      split at p3
      · next j hj =>
        obtain ⟨a, rfl, hal⟩ := r2
        obtain ⟨a2, g1, ws, g3, q1⟩ := sr3.good.cell _ _ hx
        rw [hal] at g1
        cases g1
        refine ⟨a, ws, _, j, rfl, r3, g3, by rw [q1.length]; exact hj, ?_⟩
        exact p3 σ _ { s3 with h := s3.h.set _ (.lst (xs.set j _)) } rfl ⟨fun _ _ z => z, fun _ _ z => z, fun _ _ z => z⟩ (sr3.cell hx hal (fun _ z => by cases z) (fun _ z => by cases z) ⟨ws.set j v, upd_same, q1.set r1' j⟩)
      · exact p3.elim
    · exact p3.elim
  · exact p3.elim
def putD (f : Str) (d : D) : List (Str × D) → List (Str × D)
  | [] => [(f, d)]
  | (g, x) :: r => if g = f then (g, d) :: r else (g, x) :: putD f d r
def fFld (g : Gi) (f : Str) (x : Vl) (h : Hc) : R Vl := match x with
  | .d (.obj c fs) => if g.fld c f then (match fs.lookup f with
    | some d => .ok (.d d) h
    | none => .stuck) else .stuck
  | .bi c fs => if g.fld c f then (match fs.lookup f with
    | some d => .ok (.d d) h
    | none => .stuck) else .stuck
  | .d (.ref n) => (match h[n]? with
    | some (.ins c fs) => if g.fld c f then (match fs.lookup f with
      | some d => .ok (.d d) h
      | none => .stuck) else .stuck
    | _ => .stuck)
  | _ => .stuck
theorem RepF.lookup {F : Hp} {al : Nat → Option Addr} {f : Str} : ∀ {fs : List (Str × D)} {vs : List (Str × V)} {d : D}, RepF g F al fs vs → fs.lookup f = some d → ∃ v, vs.lookup f = some v ∧ Rep g F al d v
  | [], _, _, _, e => by cases e
  | (k, x) :: r, _, d, ⟨v, rr, h1, h2, h3⟩, e => by
    rw [h1]
    by_cases q : f = k
    · subst q
      rw [List.lookup_cons_self] at e
      cases e
      exact ⟨v, List.lookup_cons_self, h2⟩
    · have nb : (f == k) = false := beq_eq_false_iff_ne.mpr q
      rw [List.lookup_cons, nb] at e
      obtain ⟨w, e1, e2⟩ := h3.lookup e
      exact ⟨w, by rw [List.lookup_cons, nb]; exact e1, e2⟩
theorem RepF.put {F : Hp} {al : Nat → Option Addr} {f : Str} {d : D} {v : V} (hd : Rep g F al d v) : ∀ {fs : List (Str × D)} {vs : List (Str × V)}, RepF g F al fs vs → RepF g F al (putD f d fs) (putF f v vs)
  | [], _, h => by rw [show _ = [] from h]; exact ⟨v, [], rfl, hd, rfl⟩
  | (k, x) :: r, _, ⟨w, rr, h1, h2, h3⟩ => by
    rw [h1]
    unfold putD putF
    by_cases q : k = f
    · rw [if_pos q, if_pos q]
      exact ⟨v, rr, rfl, hd, h3⟩
    · rw [if_neg q, if_neg q]
      exact ⟨w, _, rfl, h2, h3.put hd⟩
theorem RepF.length {F : Hp} {al : Nat → Option Addr} : ∀ {fs : List (Str × D)} {vs : List (Str × V)}, RepF g F al fs vs → vs.length = fs.length
  | [], _, h => by rw [show _ = [] from h]; rfl
  | (k, x) :: r, _, ⟨w, rr, h1, h2, h3⟩ => by rw [h1, List.length_cons, List.length_cons, h3.length]
theorem ve_fld (G : GiOk g) (hK : g.K = X.K) {f : Str} (ho : PE X o (tE g B W mo)) (hb : attributeBase o f X.env (eval o X.env) = eval o X.env := by rfl) : PE X (.Attribute o f pos) (tE g B W (m1 (fFld g f) mo)) := by
  refine pe_imp (pe_fld ho hb) fun σ H Q ⟨env, s, sr, p⟩ => ?_
  refine (bindE (Q := Q) sr p).mono fun v H1 ⟨s1, x, sr1, _, r1, p1⟩ => ?_
  have fin : ∀ {c : Nat} {fs : List (Str × D)} {a dx : Addr} {vs : List (Str × V)}, H1 a = some (.ins (g.ca c) dx vs) → RepF g s1.F s1.al fs vs → PostE g B W env s1 σ H1 (if g.fld c f then (match fs.lookup f with
      | some d => .ok (.d d) s1.h
      | none => .stuck) else .stuck) Q → v = .ref a → ∃ (a C dx : Addr) (fs : List (Str × V)) (w : V), v = .ref a ∧ H1 a = some (.ins C dx fs) ∧ Cls X.K C ∧ NoAttr X.K C f ∧ fs.lookup f = some w ∧ Q w H1 := by
    intro c fs a dx vs ha hr pp ev
    by_cases hc : g.fld c f = true
    · rw [if_pos hc] at pp
      cases e : fs.lookup f with
      | none => rw [e] at pp; exact pp.elim
      | some d =>
        rw [e] at pp
        obtain ⟨w, e1, e2⟩ := hr.lookup e
        obtain ⟨k1, k2⟩ := G.fld c f hc
        exact ⟨a, g.ca c, dx, vs, w, ev, ha, hK ▸ (G.cls c k1).cl, hK ▸ k2, e1, PostE.pure sr1 pp e2⟩
    · rw [if_neg hc] at pp
      exact pp.elim
  unfold fFld at p1
  split at p1
  · obtain ⟨a, dx, vs, rfl, h2, h3⟩ := r1
    exact fin (sr1.good.fle _ _ h2) h3 p1 rfl
  · obtain ⟨a, dx, vs, rfl, h2, _, h3⟩ := r1
    exact fin h2 h3 p1 rfl
  · next n =>
    split at p1
    · next c fs hx =>
      obtain ⟨a, rfl, hal⟩ := r1
      obtain ⟨a2, g1, dx, vs, h2, h3⟩ := sr1.good.cell n _ hx
      rw [hal] at g1
      cases g1
      exact fin h2 h3 p1 rfl
    · exact p1.elim
  · exact p1.elim
def mSetFld (g : Gi) (i : Nat) (f : Str) (e : ME) : MS := fun env h => (e env h).thenS env fun x h1 => match x, env[i]? with
  | .d d, some (some (.oi c fs)) => if g.fld c f && decide (fs.length < 1000) then .nx (env.set i (some (.oi c (putD f d fs)))) h1 else .stuck
  | _, _ => .stuck
theorem vs_setfld {i : Nat} (G : GiOk g) (hK : g.K = X.K) {f : Str} (ho : PE X o (tVar i)) (he : PE X e (tE g B W m)) (hs : swapsWith e (some (.Attribute o f tpos)) pos.line X.env = pure false := by rfl) :
    PS X (.Assign [.Attribute o f tpos] e pos) (tS g B W (mSetFld g i f m)) := by
  refine ps_imp (ps_fld ho he hs) fun N σ H ⟨env, s, sr, p⟩ => ?_
  refine (bindS sr p).mono fun v H1 ⟨s1, x, sr1, l1, r1, p1⟩ => ?_
  split at p1
  · next d c fs hx =>
    split at p1
    · next hcl =>
      obtain ⟨hc, hl⟩ := Bool.and_eq_true_iff.mp hcl
      obtain ⟨w, h1, h2⟩ := sr1.slot i _ hx
      obtain ⟨a, dx, vs, rfl, h3, h4, h5, h6⟩ := h2
      obtain ⟨k1, k2⟩ := G.fld c f hc
      refine ⟨_, h1, a, g.ca c, dx, vs, rfl, h3, hK ▸ (G.cls c k1).cl, hK ▸ k2, by rw [h5.length]; exact of_decide_eq_true hl, ?_⟩
      exact p1 σ _ s1 rfl (Le.refl s1) (sr1.mut hx rfl h1 h4.f h4.al h4.new ⟨a, dx, _, rfl, upd_same, h4, h5.put r1, h6⟩)
    · exact p1.elim
  · exact p1.elim
end
end Vi
namespace Vi
open PySem L2 PyProof.Rows
structure FnG (P : Program) (w : World) (K : PySem.W.Frag) (mg : Str → Option Value) (base : Heap) (k : Nat) (f : Addr) (fd : FuncData) (ps : List Str) (sp : Sp) : Prop where
  len : ∀ vs H Q E, sp vs H Q E → vs.length = ps.length
  run : ∀ (A : Around) (outer : List PySem.Env) (s : Shared) (H : Hp) (args : Args) (us : List Value) (vs : List V) (Q : VK) (E : XK), Room k A → A.guards = some [] → Env0 P w K mg base A outer s H → BindsTo s fd args (ps.zip us) → Vals vs us → sp vs H Q E →
    codeAny (model P w) A (.call (.ref f) args) (CR (L2.CX P w) outer P w H s Q E) s
theorem FnG.mono {P : Program} {w : World} {K : PySem.W.Frag} {mg : Str → Option Value} {base : Heap} {j k : Nat} {f : Addr} {fd : FuncData} {ps : List Str} {sp : Sp} (F : FnG P w K mg base j f fd ps sp) (h : j ≤ k) : FnG P w K mg base k f fd ps sp :=
  ⟨F.len, fun A outer s H args us vs Q E hr => F.run A outer s H args us vs Q E (hr.mono h)⟩
theorem fn_G {P : Program} {w : World} {K : PySem.W.Frag} {mg : Str → Option Value} {base : Heap} {x qual : Str} {params : Arguments} {body : List Stmt} {scope : Scope} {dvs : List V} {kws : List (Str × V)} {f : Addr} {fd : FuncData} {N ps : List Str} {k : Nat} {sp : Sp}
    (F : FunD K x qual params body scope dvs kws f fd) (S : FnScope N ps scope) (len : ∀ vs H Q E, sp vs H Q E → vs.length = ps.length)
    (hbody : ∀ (cdv : Value) (A : Around) (outer : List PySem.Env) (s : Shared) (H : Hp) (vs : List V) (Q : VK) (E : XK), Room k (A.deeper (envOfC qual scope s.heap.objs.size f cdv)) → A.guards = some [] → sp vs H Q E →
      ∃ t, PSs (cxOf (L2.CX P w) P w K mg base N qual scope f cdv A outer s H E) body t ∧ t { nx := fun _ H' => Q .non H', rt := Q } (start N vs) H) : FnG P w K mg base (k + 1) f fd ps sp := by
  obtain ⟨oc, od, dV, kV, doc, pm, an, cdv, ct, osl, rfl, lk, hcd, _, _⟩ := F.ex
  refine ⟨len, ?_⟩
  intro A outer s H args us vs Q E room gds e0 bnd rv want
  have many := len _ _ _ _ want
  have inK : K.In s.heap := e0.mod.kin.keeps fun b o e => (e0.bs b o e).1
  have free : s.heap.NoLimit := e0.mod.nolimit.keeps fun b o e => (e0.bs b o e).1
  have kinds : ∀ y ∈ ps.zip us, scope.names.lookup y.1 = some .local ∨ (scope.names.lookup y.1 = some .cell ∧ ((cellsFrom (s.heap.objs.size + 1) scope.names []).lookup y.1).isSome = true) := by
    rintro ⟨n, v⟩ hy
    rcases S.par n (List.of_mem_zip hy).1 with q | q
    · exact .inl q
    · exact .inr ⟨q, PySem.W.cellsFrom_some _ _ _ (.inl q)⟩
  refine codeAny_call_function room.depth (inK _ _ lk) rfl S.co S.gen rfl (PySem.W.codeRec_of inK hcd) (bnd _ _ _ _ ?_)
  refine wpAny_newFunctionEnv_cells S.kind kinds ?_
  intro env he s1 x
  subst he
  refine ⟨free.keeps x.toInCall.keep, codeAny_func ?_⟩
  obtain ⟨t, ht, hq⟩ := hbody cdv A outer s H vs Q E (room.deeper _) gds want
  have I : Inv (cxOf (L2.CX P w) P w K mg base N qual scope f cdv A outer s H E) [] (start N vs) H s1 := inv_start S room.hd e0 many rv x
  have fin : ∀ {s' : Shared} {σ' : L2.St} {H' : Hp} {v : V} {u : Value}, Inv (cxOf (L2.CX P w) P w K mg base N qual scope f cdv A outer s H E) [] σ' H' s' → RelV v u → Q v H' → CE outer P w H s Q u s' := by
    intro s' σ' H' v u J r q
    exact ⟨v, H', J.os, J.bare, J.base, J.hok, r, q⟩
  refine wpAny_mono (ht.run [] s1 (start N vs) H _ I hq) ?_ fun e s' hs => hs
  intro fl s' hs
  cases fl with
  | ret u =>
    obtain ⟨v, σ', H', J, r, q⟩ := hs
    exact fin J r q
  | next =>
    obtain ⟨σ', H', J, q⟩ := hs
    exact fin (v := V.non) (u := Value.none) J rfl q
  | brk => exact (hs.choose_spec.choose_spec.2).elim
  | cont => exact (hs.choose_spec.choose_spec.2).elim
abbrev Fn := List D → Hc → R D
def PostF (g : Gi) (s : Sta) (H : Hp) : R D → VK → XK → Prop
  | .ok d h, Q, _ => ∀ (v : V) (H' : Hp) (s' : Sta), s'.h = h → Evo s H s' H' → Good g s' H' → Rep g s'.F s'.al d v → Q v H'
  | .exc x h, _, E => ∀ (cls : Value) (dd : Option Addr) (H' : Hp) (s' : Sta), s'.h = h → Evo s H s' H' → Good g s' H' → XRep g s' H' x cls dd → E cls dd H'
  | .stuck, _, _ => False
def spD (g : Gi) (n : Nat) (F : Fn) : Sp := fun vs H Q E => ∃ (s : Sta) (ds : List D), vs.length = n ∧ Good g s H ∧ Reps g s.F s.al ds vs ∧ PostF g s H (F ds s.h) Q E
@[simp] def fCall (F : Fn) (dd : List D) (xs : List Vl) (h : Hc) : R Vl := match datas xs with
  | some ds => (F (ds ++ dd) h).bind fun d h' => .ok (.d d) h'
  | none => .stuck
structure VFn (X : Cx) (g : Gi) (x : Str) (n : Nat) (dd : List D) (F : Fn) : Prop where
  ex : ∃ (k : Nat) (f : Addr) (fd : FuncData) (ps : List Str) (dvs : List V) (ds : List Value), FnG X.prog X.w X.K X.mg X.base k f fd ps (spD g ps.length F) ∧ Room k X.A ∧ X.mg x = some (.ref f) ∧ PySem.W.keepIn X.K (.ref f) = true ∧
    Binds X.K fd ps ds ∧ Vals dvs ds ∧ (∀ F al, Reps g F al dd dvs) ∧ n + dvs.length = ps.length
section
variable {X : Cx} {g : Gi} {B : Bg} {W : WXv} {env : Env} {s s' : Sta} {σ : L2.St} {H H' : Hp}
theorem SR.call (sr : SR g B env s σ H) (e : Evo s H s' H') (gd : Good g s' H') : SR g B env s' σ H' :=
  ⟨gd, sr.evo.trans e, sr.len, fun i sl h => by
    obtain ⟨v, h1, h2⟩ := sr.slot i sl h
    exact ⟨v, h1, h2.evo e⟩, sr.sep⟩
theorem run_G {CXE : L2.St → XK} {k : Nat} {f : Addr} {fd : FuncData} {ps : List Str} {sp : Sp} {dvs : List V} {ds : List Value} {pins : List (Addr × Obj)} {σ : L2.St} {H : Hp} {s : Shared} {Q : VK} {us : List Value} {vs : List V}
    (F : FnG X.prog X.w X.K X.mg X.base k f fd ps sp) (hr : Room k X.A) (hg : X.A.guards = some []) (hb : Binds X.K fd ps ds) (hd : Vals dvs ds) (hx : PassesAt (L2.CX X.prog X.w) X σ (CXE σ))
    (I : Inv X pins σ H s) (r : Vals vs us) (h : sp (vs ++ dvs) H Q (CXE σ)) : wpAny (model X.prog X.w) X.A (call (.ref f) us) (EP X pins σ Q) X.xe s := by
  have r2 : Vals (vs ++ dvs) (us ++ ds) := r.append hd
  have hl : (us ++ ds).length = ps.length := by rw [← r2.length]; exact F.len _ _ _ _ h
  refine wpAny_call (codeAny_mono (F.run X.A X.stack s H ⟨us, []⟩ (us ++ ds) (vs ++ dvs) Q (CXE σ) hr hg I.env0 (hb s us I.kIn hl) r2 h) ?_)
  intro r s' hq
  cases r with
  | error e => exact hx pins H s e s' I hq
  | ok fl =>
    cases fl with
    | ret u => exact I.after hq
    | next => exact False.elim hq
    | brk => exact False.elim hq
    | cont => exact False.elim hq
theorem spD_of {n : Nat} {F : Fn} {ds : List D} {vs : List V} {s : Sta} {H : Hp} {σ : L2.St} {Q : VK} (sr : SR g B env s σ H) (hl : vs.length = n) (r : Reps g s.F s.al ds vs) (p : PostE g B W env s σ H ((F ds s.h).bind fun d h' => .ok (.d d) h') Q) : spD g n F vs H Q (fun cls d H' => W cls d σ H') := by
  refine ⟨s, ds, hl, sr.good, r, ?_⟩
  cases e : F ds s.h with
  | ok d h =>
    rw [e] at p
    intro v H' s' e1 ev gd rr
    exact p v H' s' e1 ev (sr.call ev gd) rr
  | exc x h =>
    rw [e] at p
    intro cls dd H' s' e1 ev gd xr
    exact p cls dd H' s' e1 ev (sr.call ev gd) xr
  | stuck =>
    rw [e] at p
    exact p
end
section
variable {X : Cx} {g : Gi} {B : Bg} {W : WXv} {pos p : Pos} {e : Expr} {es : List Expr} {A : MA} {F : Fn} {dd : List D} {n : Nat} {x : Str}
theorem datas_length : ∀ {xs : List Vl} {ds : List D}, datas xs = some ds → ds.length = xs.length
  | [], _, e => by
    have e : some [] = some _ := e
    cases e
    rfl
  | .d x :: r, ds, e => by
    have e : (datas r).map (x :: ·) = some ds := e
    cases q : datas r with
    | none => rw [q] at e; cases e
    | some l =>
      rw [q] at e
      have e : x :: l = ds := Option.some.inj e
      rw [← e, List.length_cons, List.length_cons, datas_length q]
  | .tl _ :: _, _, e => by cases e
  | .bl _ :: _, _, e => by cases e
  | .bi _ _ :: _, _, e => by cases e
theorem VlReps.length {env : Env} {σ : L2.St} {s : Sta} {H : Hp} : ∀ {xs : List Vl} {vs : List V}, VlReps g B env σ s H xs vs → vs.length = xs.length
  | _, _, .nil => rfl
  | _, _, .cons _ b => by rw [List.length_cons, List.length_cons, b.length]
@[simp] def fCallN (n : Nat) (F : Fn) (dd : List D) (xs : List Vl) (h : Hc) : R Vl := if xs.length = n then fCall F dd xs h else .stuck
theorem ve_call (V : VFn X g x n dd F) (hgd : X.A.guards = some []) (tk : Takes X W) (hg : Gl X x) (ha : PA X (e :: es) (tA g B W A)) (hdb : (x == ("__debug__" : Str)) = false := by decide)
    (he : starEach (e :: es) X.env = (false, eval e X.env) :: starEach es X.env := by rfl) (hpl : (backTo pos (starEach es X.env)).any (·.1) = false := by rfl) :
    PE X (.Call (.Name x p) (e :: es) [] pos) (tE g B W (mA1 (fCallN n F dd) A)) := by
  obtain ⟨k, f, fd, ps, dvs, ds, FG, hr, hm, hk, hb, hd, hdd, hn⟩ := V.ex
  refine ⟨fun pins s σ H Q I h => ?_⟩
  refine wpAny_Call_Name_kw (ld_glob I hg hm ?_ hdb)
  obtain ⟨env, st, sr, pp⟩ := h
  have hA := (bindA (Q := Q) sr pp)
  refine PySem.W.callWith_K (h₀ := X.base) I.ok.mod.kin hk (thn (ha.run pos pins s σ H _ I hA) fun us s1 ⟨vs, H1, I1, r, st1, xs, sr1, ev1, r1, p1⟩ => ⟨I1.kIn, ?_⟩) he hpl
  unfold fCallN at p1
  by_cases hl : xs.length = n
  · rw [if_pos hl] at p1
    unfold fCall at p1
    cases e1 : datas xs with
    | none => rw [e1] at p1; exact p1.elim
    | some dl =>
      rw [e1] at p1
      have rr := (r1.datas e1).append (hdd st1.F st1.al)
      exact run_G (CXE := fun σ => WE W σ) FG hr hgd hb hd (passAt tk σ) I1 r (spD_of sr1 (by rw [List.length_append, r1.length, hl]; exact hn) rr p1)
  · rw [if_neg hl] at p1
    exact p1.elim
end
end Vi
namespace Vi
open PySem L2 PyProof.Rows
structure Bd (X : Cx) (g : Gi) (W : WXv) : Prop where
  G : GiOk g
  K : g.K = X.K
  calm : X.calm = true
  gd : X.A.guards = some []
  tk : Takes X W
  ps : PassesOwn (model X.prog X.w) X.A X.env X.xe
  un : X.A.units + 64 < cLine
@[simp] def mkEnv (n : Nat) (ds : List D) : Env := ds.map (fun d => some (.d d)) ++ List.replicate (n - ds.length) none
def fnOf (N n : Nat) (m : MS) : Fn := fun ds h => if ds.length = n then (match m (mkEnv N ds) h with
  | .nx _ h => .ok .non h
  | .ret d h => .ok d h
  | .exc _ x h => .exc x h
  | _ => .stuck) else .stuck
theorem mkEnv_get {N : Nat} {ds : List D} {i : Nat} {sl : Sl} (h : (mkEnv N ds)[i]? = some (some sl)) : ∃ d, ds[i]? = some d ∧ sl = .d d := by
  unfold mkEnv at h
  by_cases hi : i < ds.length
  · rw [List.getElem?_append_left (by rw [List.length_map]; exact hi), List.getElem?_map, List.getElem?_eq_getElem hi] at h
    cases h
    exact ⟨_, List.getElem?_eq_getElem hi, rfl⟩
  · rw [List.getElem?_append_right (by rw [List.length_map]; omega), List.getElem?_replicate] at h
    split at h <;> cases h
theorem start_sr {g : Gi} {s : Sta} {H : Hp} {N : List Str} {ds : List D} {vs : List V} (gd : Good g s H) (r : Reps g s.F s.al ds vs) : SR g ⟨s, H, 0, 0, 0, 0⟩ (mkEnv N.length ds) s (L2.start N vs) H := by
  refine ⟨gd, Evo.refl s H, ?_, fun i sl h => ?_, fun i j sl sl' v hij h1 h2 o1 => ?_⟩
  · unfold mkEnv L2.start
    rw [List.length_append, List.length_append, List.length_map, List.length_map, List.length_replicate, List.length_replicate, r.length]
  · obtain ⟨d, e1, rfl⟩ := mkEnv_get h
    obtain ⟨v, e2, r2⟩ := r.get e1
    refine ⟨v, ?_, r2⟩
    unfold L2.start
    have hi : i < vs.length := (List.getElem?_eq_some_iff.mp e2).1
    rw [List.getElem?_append_left (by rw [List.length_map]; exact hi), List.getElem?_map, e2]
    rfl
  · obtain ⟨d, _, rfl⟩ := mkEnv_get h1
    cases o1
theorem fn_D {P : Program} {w : World} {g : Gi} {mg : Str → Option Value} {base : Heap} {x qual : Str} {params : Arguments} {body : List Stmt} {scope : Scope} {dvs : List V} {kws : List (Str × V)} {f : Addr} {fd : FuncData} {N ps : List Str} {k : Nat} {m : MS}
    (G : GiOk g) (F : FunD g.K x qual params body scope dvs kws f fd) (S : FnScope N ps scope)
    (hbody : ∀ (cdv : Value) (A : Around) (outer : List PySem.Env) (s : Shared) (H : Hp) (E : XK) (B : Bg), Room k (cxOf (L2.CX P w) P w g.K mg base N qual scope f cdv A outer s H E).A → Bd (cxOf (L2.CX P w) P w g.K mg base N qual scope f cdv A outer s H E) g (fun cls d _ H => E cls d H) →
      PSs (cxOf (L2.CX P w) P w g.K mg base N qual scope f cdv A outer s H E) body (tS g B (fun cls d _ H => E cls d H) m)) :
    FnG P w g.K mg base (k + 1) f fd ps (spD g ps.length (fnOf N.length ps.length m)) := by
  refine fn_G F S (fun vs H Q E h => ?_) ?_
  · obtain ⟨_, _, hl, _⟩ := h
    exact hl
  · intro cdv A outer s H vs Q E hr gds h
    obtain ⟨st, ds, hl, gd, r, p⟩ := h
    have hb := hbody cdv A outer s H E ⟨st, H, 0, 0, 0, 0⟩ hr ⟨G, rfl, rfl, gds, takes_of rfl rfl rfl rfl, passes_of rfl, hr.units⟩
    refine ⟨_, hb, mkEnv N.length ds, st, start_sr gd r, ?_⟩
    have hl2 : ds.length = ps.length := by rw [← r.length]; exact hl
    unfold fnOf at p
    rw [if_pos hl2] at p
    cases e : m (mkEnv N.length ds) st.h with
    | nx env h =>
      rw [e] at p
      intro σ' H' s' e1 _ sr
      exact p .non H' s' e1 sr.evo sr.good rfl
    | ret d h =>
      rw [e] at p
      intro v H' s' e1 ev gd' rr
      exact p v H' s' e1 ev gd' rr
    | exc env x h =>
      rw [e] at p
      intro cls dd σ' H' s' e1 _ sr xr
      exact p cls dd H' s' e1 sr.evo sr.good xr
    | brk env h => rw [e] at p; exact p.elim
    | cnt env h => rw [e] at p; exact p.elim
    | stuck => rw [e] at p; exact p.elim
structure VMeth (X : Cx) (g : Gi) (c : Nat) (m : Str) (n : Nat) (dd : List D) (F : Fn) : Prop where
  ex : ∃ (k : Nat) (f : Addr) (fd : FuncData) (ps : List Str) (dvs : List V) (ds : List Value), FnG X.prog X.w X.K X.mg X.base k f fd ps (spD g ps.length F) ∧ Room k X.A ∧ Meth X.K (g.ca c) m f ∧
    Binds X.K fd ps ds ∧ Vals dvs ds ∧ (∀ F al, Reps g F al dd dvs) ∧ (n + 1) + dvs.length = ps.length
  cl : g.isC c = true
def ins? (c : Nat) (x : Vl) (h : Hc) : Option (List (Str × D)) := match x with
  | .d (.obj c' fs) => if c' = c then some fs else none
  | .d (.ref n) => (match h[n]? with
    | some (.ins c' fs) => if c' = c then some fs else none
    | _ => none)
  | _ => none
def fMeth (c : Nat) (m : Str) (n : Nat) (F : Fn) (dd : List D) (o : Vl) (xs : List Vl) (h : Hc) : R Vl := match o with
  | .d od => if xs.length = n then (match datas xs with
    | some ds => (F (od :: (ds ++ dd)) h).bind fun d h' => .ok (.d d) h'
    | none => .stuck) else .stuck
  | _ => .stuck
def mMeth (c : Nat) (m : Str) (n : Nat) (F : Fn) (dd : List D) (o : ME) (a : MA) : ME := fun env h => (o env h).bind fun x h1 => match ins? c x h1 with
  | some fs => if (fs.lookup m).isNone then (a env h1).bind fun xs h2 => fMeth c m n F dd x xs h2 else .stuck
  | none => .stuck
theorem RepF.none {g : Gi} {F : Hp} {al : Nat → Option Addr} {f : Str} : ∀ {fs : List (Str × D)} {vs : List (Str × V)}, RepF g F al fs vs → fs.lookup f = none → vs.lookup f = none
  | [], _, h, _ => by rw [show _ = [] from h]; rfl
  | (k, x) :: r, _, ⟨v, rr, h1, h2, h3⟩, e => by
    rw [h1]
    by_cases q : f = k
    · subst q
      rw [List.lookup_cons_self] at e
      cases e
    · have nb : (f == k) = false := beq_eq_false_iff_ne.mpr q
      rw [List.lookup_cons, nb] at e
      rw [List.lookup_cons, nb]
      exact h3.none e
section
variable {X : Cx} {g : Gi} {B : Bg} {W : WXv} {env : Env} {s s' : Sta} {σ : L2.St} {H H' : Hp}
theorem ins_rep {c : Nat} {x : Vl} {v : V} {fs : List (Str × D)} (gd : Good g s H) (r : VlRep g B env σ s H x v) (e : ins? c x s.h = some fs) : ∃ a dx vs od, v = .ref a ∧ x = .d od ∧ H a = some (.ins (g.ca c) dx vs) ∧ RepF g s.F s.al fs vs := by
  unfold ins? at e
  split at e
  · split at e
    · next hc =>
      cases e
      subst hc
      obtain ⟨a, dx, vs, rfl, h2, h3⟩ := r
      exact ⟨a, dx, vs, _, rfl, rfl, gd.fle _ _ h2, h3⟩
    · cases e
  · split at e
    · next c' fs' hx =>
      split at e
      · next hc =>
        cases e
        subst hc
        obtain ⟨a, rfl, hal⟩ := r
        obtain ⟨a2, g1, dx, vs, h2, h3⟩ := gd.cell _ _ hx
        rw [hal] at g1
        cases g1
        exact ⟨a, dx, vs, _, rfl, rfl, h2, h3⟩
      · cases e
    · cases e
  · cases e
end
section
variable {X : Cx} {g : Gi} {B : Bg} {W : WXv} {pos p apos : Pos} {e o : Expr} {es : List Expr} {A : MA} {F : Fn} {dd : List D} {n c : Nat} {x m : Str} {mo : ME}
theorem ve_meth {pl : Sem Bool} (b : Bd X g W) (V : VMeth X g c m n dd F) (ho : PE X o (tE g B W mo)) (ha : PA X (e :: es) (tA g B W A))
    (hst : starEach (e :: es) X.env = (false, eval e X.env) :: starEach es X.env := by rfl) (hpl : (backTo pos (starEach es X.env)).any (·.1) = false := by rfl)
    (ht : eval (.Call (.Attribute o m apos) (e :: es) [] pos) X.env = (do
      let ov ← eval o X.env
      standAt apos.atName
      let (f, first) ← holding [ov] (getMethod ov m pl)
      callWith pos f first (backTo pos (starEach (e :: es) X.env)) (backToKw pos (keywordEach [] X.env))) := by rfl) :
    PE X (.Call (.Attribute o m apos) (e :: es) [] pos) (tE g B W (mMeth c m n F dd mo A)) := by
  obtain ⟨k, f, fd, ps, dvs, ds, FG, hr, hm, hb, hd, hdd, hn⟩ := V.ex
  refine ⟨fun pins s σ H Q I h => ?_⟩
  obtain ⟨env, st, sr, pp⟩ := h
  refine PySem.W.methodCall_KW (pl := pl) (thn (ho.run pins s σ H _ I (bindE (Q := Q) sr pp)) fun u s1 ⟨v, H1, I1, rx, st1, ox, sr1, ev1, r1, p1⟩ => ?_) ht
  cases ei : ins? c ox st1.h with
  | none => simp only [ei] at p1; exact p1.elim
  | some fs =>
    simp only [ei] at p1
    obtain ⟨a, dx, vs, od, rfl, ex, hH, hf⟩ := ins_rep sr1.good r1 ei
    subst ex
    obtain rfl : u = Value.ref a := rx
    by_cases hl : (fs.lookup m).isNone = true
    · rw [if_pos hl] at p1
      refine getmeth_ok I1 hH (b.K ▸ (b.G.cls c V.cl).cl) hm (hf.none (Option.isNone_iff_eq_none.mp hl)) ?_
      refine PySem.W.callWith_K (first := [.ref a]) (h₀ := X.base) I1.ok.mod.kin hm.kp (thn (ha.run pos pins s1 σ H1 _ I1 (bindA (Q := Q) sr1 p1)) fun us s2 ⟨ws, H2, I2, r, st2, xs, sr2, ev2, r2, p2⟩ => ⟨I2.kIn, ?_⟩) hst hpl
      have p2 : PostE g B W env st2 σ H2 (if xs.length = n then (match datas xs with
        | some ds => (F (od :: (ds ++ dd)) st2.h).bind fun d h' => .ok (.d d) h'
        | none => .stuck) else .stuck) Q := p2
      by_cases hx : xs.length = n
      · rw [if_pos hx] at p2
        cases ed : datas xs with
        | none => rw [ed] at p2; exact p2.elim
        | some dl =>
          rw [ed] at p2
          have ro : Rep g st2.F st2.al od (.ref a) := ev2.rep (show Rep g st1.F st1.al od (.ref a) from r1)
          have rr : Reps g st2.F st2.al (od :: (dl ++ dd)) ((.ref a :: ws) ++ dvs) := Reps.cons ro ((r2.datas ed).append (hdd st2.F st2.al))
          exact run_G (us := .ref a :: us) (vs := .ref a :: ws) (CXE := fun σ => WE W σ) FG hr b.gd hb hd (passAt b.tk σ) I2 (.cons rfl r) (spD_of sr2 (by rw [List.length_append, List.length_cons, r2.length, hx]; exact hn) rr p2)
      · rw [if_neg hx] at p2
        exact p2.elim
    · rw [if_neg hl] at p1
      exact p1.elim
theorem ve_meth0 {pl : Sem Bool} (b : Bd X g W) (V : VMeth X g c m 0 dd F) (ho : PE X o (tE g B W mo))
    (ht : eval (.Call (.Attribute o m apos) [] [] pos) X.env = (do
      let ov ← eval o X.env
      standAt apos.atName
      let (f, first) ← holding [ov] (getMethod ov m pl)
      callWith pos f first (backTo pos (starEach [] X.env)) (backToKw pos (keywordEach [] X.env))) := by rfl) :
    PE X (.Call (.Attribute o m apos) [] [] pos) (tE g B W (mMeth c m 0 F dd mo maNil)) := by
  obtain ⟨k, f, fd, ps, dvs, ds, FG, hr, hm, hb, hd, hdd, hn⟩ := V.ex
  refine ⟨fun pins s σ H Q I h => ?_⟩
  obtain ⟨env, st, sr, pp⟩ := h
  refine PySem.W.methodCall_KW (pl := pl) (thn (ho.run pins s σ H _ I (bindE (Q := Q) sr pp)) fun u s1 ⟨v, H1, I1, rx, st1, ox, sr1, ev1, r1, p1⟩ => ?_) ht
  cases ei : ins? c ox st1.h with
  | none => simp only [ei] at p1; exact p1.elim
  | some fs =>
    simp only [ei] at p1
    obtain ⟨a, dx, vs, od, rfl, ex, hH, hf⟩ := ins_rep sr1.good r1 ei
    subst ex
    obtain rfl : u = Value.ref a := rx
    by_cases hl : (fs.lookup m).isNone = true
    · rw [if_pos hl] at p1
      refine getmeth_ok I1 hH (b.K ▸ (b.G.cls c V.cl).cl) hm (hf.none (Option.isNone_iff_eq_none.mp hl)) ?_
      have p1 : PostE g B W env st1 σ H1 ((F (od :: dd) st1.h).bind fun d h' => .ok (.d d) h') Q := p1
      refine PySem.W.callWith_K0 (first := [.ref a]) I1.kIn hm.kp ?_
      have rr : Reps g st1.F st1.al (od :: dd) ([.ref a] ++ dvs) := Reps.cons (show Rep g st1.F st1.al od (.ref a) from r1) (hdd st1.F st1.al)
      exact run_G (us := [.ref a]) (vs := [.ref a]) (CXE := fun σ => WE W σ) FG hr b.gd hb hd (passAt b.tk σ) I1 (.cons rfl .nil) (spD_of sr1 (by rw [List.length_append]; exact hn) rr p1)
    · rw [if_neg hl] at p1
      exact p1.elim
end
abbrev FnI := List D → Hc → R (List (Str × D))
def initOf (N n : Nat) (c : Nat) (m : MS) : FnI := fun ds h => if ds.length = n then (match m (some (.oi c []) :: mkEnv N ds) h with
  | .nx (some (.oi c' fs) :: _) h => if c' = c then .ok fs h else .stuck
  | .exc _ x h => .exc x h
  | _ => .stuck) else .stuck
def spI (g : Gi) (c n : Nat) (F : FnI) : Sp := fun vs H Q E => ∃ (s : Sta) (ds : List D) (H0 : Hp) (x dx : Addr) (ws : List V), vs = .ref x :: ws ∧ ws.length = n ∧ H0 x = none ∧ H0 dx = none ∧ dx ≠ x ∧ H = upd (upd H0 dx (.own x)) x (.ins (g.ca c) dx []) ∧ Good g s H0 ∧ Reps g s.F s.al ds ws ∧
  (match F ds s.h with
    | .ok fs h => ∀ (H' : Hp) (s' : Sta), s'.h = h → Evo s H0 s' H' → Good g s' H' → (∃ dx vs, H' x = some (.ins (g.ca c) dx vs) ∧ s'.F x = none ∧ (∀ n, s'.al n ≠ some x) ∧ RepF g s'.F s'.al fs vs) → Q .non H'
    | .exc y h => ∀ (cls : Value) (dd : Option Addr) (H' : Hp) (s' : Sta), s'.h = h → Evo s H0 s' H' → Good g s' H' → XRep g s' H' y cls dd → E cls dd H'
    | .stuck => False)
theorem Good.add {g : Gi} {s : Sta} {H : Hp} {p : Addr} {o : HO} (gd : Good g s H) (hp : H p = none) : Good g s (upd H p o) ∧ Evo s H s (upd H p o) := by
  have sr : SR g ⟨s, H, 0, 0, 0, 0⟩ [] s [] H := ⟨gd, Evo.refl s H, rfl, fun i sl h => (by cases h), fun i j sl sl' v _ h => (by cases h)⟩
  obtain ⟨a, b⟩ := sr.new (o := o) hp
  exact ⟨a.good, b⟩
theorem own_free {g : Gi} {s : Sta} {H : Hp} {p : Addr} (gd : Good g s H) (hp : H p = none) : s.F p = none ∧ ∀ n, s.al n ≠ some p := by
  have sr : SR g ⟨s, H, 0, 0, 0, 0⟩ [] s [] H := ⟨gd, Evo.refl s H, rfl, fun i sl h => (by cases h), fun i j sl sl' v _ h => (by cases h)⟩
  exact ⟨(sr.own_new hp).f, (sr.own_new hp).al⟩
theorem fn_I {P : Program} {w : World} {g : Gi} {mg : Str → Option Value} {base : Heap} {x qual : Str} {params : Arguments} {body : List Stmt} {scope : Scope} {dvs : List V} {kws : List (Str × V)} {f : Addr} {fd : FuncData} {nm nm' : Str} {N ps : List Str} {k c : Nat} {m : MS}
    (G : GiOk g) (F : FunD g.K x qual params body scope dvs kws f fd) (S : FnScope (nm :: N) (nm' :: ps) scope)
    (hbody : ∀ (cdv : Value) (A : Around) (outer : List PySem.Env) (s : Shared) (H : Hp) (E : XK) (B : Bg), Room k (cxOf (L2.CX P w) P w g.K mg base (nm :: N) qual scope f cdv A outer s H E).A → Bd (cxOf (L2.CX P w) P w g.K mg base (nm :: N) qual scope f cdv A outer s H E) g (fun cls d _ H => E cls d H) →
      PSs (cxOf (L2.CX P w) P w g.K mg base (nm :: N) qual scope f cdv A outer s H E) body (tS g B (fun cls d _ H => E cls d H) m)) :
    FnG P w g.K mg base (k + 1) f fd (nm' :: ps) (spI g c ps.length (initOf N.length ps.length c m)) := by
  refine fn_G F S (fun vs H Q E h => ?_) ?_
  · obtain ⟨_, _, _, _, _, ws, rfl, hl, _⟩ := h
    rw [List.length_cons, List.length_cons, hl]
  · intro cdv A outer s H vs Q E hr gds h
    obtain ⟨st, ds, H0, x, dx, ws, rfl, hl, hx, hdx, hne, rfl, gd, r, p⟩ := h
    have hb := hbody cdv A outer s (upd (upd H0 dx (.own x)) x (.ins (g.ca c) dx [])) E ⟨st, H0, x, 0, 0, 0⟩ hr ⟨G, rfl, rfl, gds, takes_of rfl rfl rfl rfl, passes_of rfl, hr.units⟩
    obtain ⟨gd1, ev1⟩ := gd.add (o := .own x) hdx
    have hx1 : upd H0 dx (.own x) x = none := by rw [upd_ne hne.symm]; exact hx
    obtain ⟨gd2, ev2⟩ := gd1.add (o := .ins (g.ca c) dx []) hx1
    obtain ⟨fx, ax⟩ := own_free gd hx
    have s0 := start_sr (N := N) gd r
    have sr : SR g ⟨st, H0, x, 0, 0, 0⟩ (some (.oi c []) :: mkEnv N.length ds) st (L2.start (nm :: N) (.ref x :: ws)) (upd (upd H0 dx (.own x)) x (.ins (g.ca c) dx [])) := by
      have es : L2.start (nm :: N) (.ref x :: ws) = some (.ref x) :: L2.start N ws := by
        unfold L2.start
        rw [List.length_cons, List.length_cons, Nat.add_sub_add_right]
        rfl
      rw [es]
      refine ⟨gd2, ev1.trans ev2, by rw [List.length_cons, List.length_cons, s0.len], fun i sl h => ?_, fun i j sl sl' v hij h1 h2 o1 o2 => ?_⟩
      · cases i with
        | zero =>
          cases h
          exact ⟨_, rfl, x, dx, [], rfl, upd_same, ⟨fx, ax, hx⟩, rfl, rfl⟩
        | succ i =>
          have h : (mkEnv N.length ds)[i]? = some (some sl) := h
          obtain ⟨v, h1, h2⟩ := s0.slot i sl h
          obtain ⟨d, _, rfl⟩ := mkEnv_get h
          exact ⟨v, h1, h2⟩
      · cases i with
        | succ i =>
          obtain ⟨d, _, rfl⟩ := mkEnv_get (show (mkEnv N.length ds)[i]? = some (some sl) from h1)
          cases o1
        | zero =>
          cases j with
          | zero => exact absurd rfl hij
          | succ j =>
            obtain ⟨d, _, rfl⟩ := mkEnv_get (show (mkEnv N.length ds)[j]? = some (some sl') from h2)
            cases o2
    refine ⟨_, hb, _, st, sr, ?_⟩
    have hl2 : ds.length = ps.length := by rw [← r.length]; exact hl
    unfold initOf at p
    rw [if_pos hl2] at p
    cases e : m (some (.oi c []) :: mkEnv N.length ds) st.h with
    | nx env h =>
      rw [e] at p
      intro σ' H' s' e1 _ sr'
      cases env with
      | nil => exact p.elim
      | cons a rest =>
        cases a with
        | none => exact p.elim
        | some sl =>
          cases sl with
          | d y => exact p.elim
          | ol y => exact p.elim
          | xc c' fs => exact p.elim
          | oi c' fs =>
            by_cases hc : c' = c
            · subst hc
              simp only [if_pos] at p
              obtain ⟨v, _, a', dx', vs', _, g2, g3, g4, g5⟩ := sr'.slot 0 (.oi c' fs) rfl
              have g5 : a' = x := g5
              subst g5
              exact p H' s' e1 sr'.evo sr'.good ⟨dx', vs', g2, g3.f, g3.al, g4⟩
            · simp only [if_neg hc] at p
    | ret d h => rw [e] at p; exact p.elim
    | exc env y h =>
      rw [e] at p
      intro cls dd σ' H' s' e1 _ sr' xr
      exact p cls dd H' s' e1 sr'.evo sr'.good xr
    | brk env h => rw [e] at p; exact p.elim
    | cnt env h => rw [e] at p; exact p.elim
    | stuck => rw [e] at p; exact p.elim
end Vi
namespace Vi
open PySem L2 PyProof.Rows
structure VMake (X : Cx) (g : Gi) (c n : Nat) (dd : List D) (F : FnI) : Prop where
  ex : ∃ (k : Nat) (f : Addr) (fd : FuncData) (ps : List Str) (q : Str) (dvs : List V) (ds : List Value), FnG X.prog X.w X.K X.mg X.base k f fd (q :: ps) (spI g c ps.length F) ∧ Room (k + 1) X.A ∧ Mk X.K (g.ca c) f ∧
    Binds X.K fd (q :: ps) ds ∧ Vals dvs ds ∧ (∀ F al, Reps g F al dd dvs) ∧ n + dvs.length = ps.length
def fMake (c n : Nat) (F : FnI) (dd : List D) (xs : List Vl) (h : Hc) : R Vl := if xs.length = n then (match datas xs with
  | some ds => (F (ds ++ dd) h).bind fun fs h' => .ok (.d (.obj c fs)) h'
  | none => .stuck) else .stuck
theorem under_guards {A : Around} {C : Addr} {us : List Value} {kw : List (Str × Value)} : (A.under (.builtin "type.__call__" ⟨.ref C :: us, kw⟩)).guards = A.guards := by
  first | rfl | simp [Around.under, Code.guards, pushGuards]
theorem Evo.frz {s s' : Sta} {H H' : Hp} {a : Addr} {o : HO} (e : Evo s H s' H') (hf : s'.F a = none) (hn : ∀ n, s'.al n ≠ some a) (hb : H a = none) : Evo s H (s'.frz a o) H' := evo_frz (B := ⟨s, H, 0, 0, 0, 0⟩) hf hn hb e
section
variable {X : Cx} {g : Gi} {B : Bg} {W : WXv} {pos p : Pos} {e : Expr} {es : List Expr} {A : MA} {F : FnI} {dd : List D} {n c : Nat} {x : Str}
end
structure VProp (X : Cx) (g : Gi) (c : Nat) (f : Str) (F : Fn) : Prop where
  ex : ∃ (k : Nat) (p q : Addr) (fd : FuncData) (ps : List Str), FnG X.prog X.w X.K X.mg X.base k q fd ps (spD g ps.length F) ∧ Room (k + 1) X.A ∧ PropOf X.K (g.ca c) f p q ∧ Binds X.K fd ps [] ∧ ps.length = 1
  cl : g.isC c = true
def fProp (c : Nat) (F : Fn) (x : Vl) (h : Hc) : R Vl := match ins? c x h, x with
  | some _, .d od => (match F [od] h with
    | .ok d h' => .ok (.d d) h'
    | _ => .stuck)
  | _, _ => .stuck
section
variable {X : Cx} {g : Gi} {B : Bg} {W : WXv} {pos : Pos} {e : Expr} {F : Fn} {c : Nat} {f : Str} {m : ME}
end
end Vi
namespace Vi
open PySem L2 PyProof.Rows
def spE (C : Addr) (n : Nat) (fs : List L2.V → List (Str × L2.V)) : Sp := fun vs H Q _ => ∃ (a : Addr) (ws : List L2.V) (H0 : Hp), vs = .ref a :: ws ∧ ws.length = n ∧ H0 a = none ∧ H = upd H0 a (exo a C none) ∧
  ∀ (dx : Addr) (H2 : Hp), H0 dx = none → dx ≠ a → H2 a = some (exo a C (some dx)) → H2 dx = some (exd dx (fs ws)) → (∀ b, b ≠ a → b ≠ dx → H2 b = H0 b) → Q .non H2
structure VExc (X : Cx) (g : Gi) (x : Str) (c n : Nat) (mk : List D → List (Str × D)) : Prop where
  ex : ∃ (k : Nat) (fI : Addr) (fd : FuncData) (ps : List Str) (fs : List L2.V → List (Str × L2.V)), OexC X.K (g.ca c) ∧ PySem.W.findIn X.K (.ref (g.ca c)) "__init__" = some (some (.ref fI)) ∧ PySem.W.typeIn X.K (.ref fI) = some (.type "function") ∧
    FnOk X.prog X.w X.K X.mg X.base (L2.CX X.prog X.w) k fI fd ps (spE (g.ca c) n fs) ∧ Room (k + 1) X.A ∧ Binds X.K fd ps [] ∧ X.mg x = some (.ref (g.ca c)) ∧ n ≤ 1000 ∧
    (∀ F al ds ws, Reps g F al ds ws → ds.length = n → RepF g F al (mk ds) (fs ws))
def mRaise (c n : Nat) (mk : List D → List (Str × D)) (A : MA) : MS := fun env h => (A env h).thenS env fun xs h' => if xs.length = n then (match datas xs with
  | some ds => .exc env (.obj c (mk ds)) h'
  | none => .stuck) else .stuck
section
variable {X : Cx} {g : Gi} {B : Bg} {W : WXv} {pos p pos' : Pos} {e : Expr} {es : List Expr} {A : MA} {n c : Nat} {x : Str} {mk : List D → List (Str × D)}
theorem vs_raise (b : Bd X g W) (w : VExc X g x c n mk) (hg : Gl X x) (ha : PA X (e :: es) (tA g B W A)) (hdb : (x == ("__debug__" : Str)) = false := by decide)
    (he : starEach (e :: es) X.env = (false, eval e X.env) :: starEach es X.env := by rfl) (hpl : (backTo pos' (starEach es X.env)).any (·.1) = false := by rfl) :
    PS X (.Raise (some (.Call (.Name x p) (e :: es) [] pos')) none pos) (tS g B W (mRaise c n mk A)) := by
  obtain ⟨k, fI, fd, ps, fs, T, iC, tI, F1, hr, hb, hm, hn, hmk⟩ := w.ex
  refine ps_imp (ps_raise b.calm b.tk (pmk_oex (dvs := []) (ds := []) (sp := spE (g.ca c) n fs) T iC tI F1 hr hb .nil (passes_call (E := fun _ _ _ => False) b.tk fun _ _ _ _ z => z.elim) hg hm ha hdb he hpl)) fun N σ H ⟨env, st, sr, pp⟩ => ?_
  refine tA.mono (bindSA (N := N) sr pp) ?_
  rintro vs H1 ⟨s1, xs, sr1, le1, r1, p1⟩
  by_cases hl : xs.length = n
  · rw [if_pos hl] at p1
    cases e1 : datas xs with
    | none => rw [e1] at p1; exact p1.elim
    | some ds =>
      rw [e1] at p1
      refine ⟨by rw [r1.length, hl]; exact hn, fun a ea => ⟨a, vs ++ [], H1, rfl, by rw [List.append_nil, r1.length, hl], ea, rfl, fun dx H2 nd ne h1 h2 hk => ⟨rfl, dx, _, h1, h2, nd, ?_⟩⟩⟩
      have eH : upd (del H2 a) dx (.xd (fs (vs ++ []))) = upd H1 dx (.xd (fs (vs ++ []))) := by
        funext z
        by_cases q1 : z = dx
        · rw [q1, upd_same, upd_same]
        · rw [upd_ne q1, upd_ne q1]
          by_cases q2 : z = a
          · rw [q2, del_same, ea]
          · rw [del_ne q2, hk z q2 q1]
      rw [eH]
      obtain ⟨sr2, ev2⟩ := sr1.new (o := .xd (fs (vs ++ []))) nd
      refine p1 (.ref (g.ca c)) (some dx) σ _ s1 rfl (Le.refl _) sr2 ⟨dx, _, rfl, rfl, upd_same, (sr1.own_new nd).al, ?_⟩
      rw [List.append_nil]
      exact hmk _ _ _ _ (r1.datas e1) (by rw [datas_length e1, hl])
  · rw [if_neg hl] at p1
    exact p1.elim
end
theorem fn_E {P : Program} {w : World} {K : PySem.W.Frag} {mg : Str → Option Value} {base : Heap} {x qual : Str} {params : Arguments} {scope : Scope} {f : Addr} {fd : FuncData} {k : Nat} {C : Addr} {self p1 f1 f2 lit : Str} {q1 q2 q3 q4 q5 q6 q7 q4' : Pos} {j : Nat}
    (F : FunD K x qual params [.Assign [.Attribute (.Name self q1) f1 q2] (.Name p1 q3) q4, .Assign [.Attribute (.Name self q5) f2 q6] (.Constant (.str lit) j q7) q4'] scope [] [] f fd) (S : FnScope [self, p1] [self, p1] scope)
    (T : OexC K C) (n1 : PySem.W.findIn K (.ref C) f1 = some none) (n2 : PySem.W.findIn K (.ref C) f2 = some none)
    (v0 : Vis scope self) (v1 : Vis scope p1)
    (d0 : (self == ("__debug__" : Str)) = false) (d0c : (self == ("__classdict__" : Str)) = false) (d1 : (p1 == ("__debug__" : Str)) = false) (d1c : (p1 == ("__classdict__" : Str)) = false) :
    FnOk P w K mg base (L2.CX P w) (k + 1) f fd [self, p1] (spE C 1 fun ws => match ws with
      | [v] => [(f2, .str lit), (f1, v)]
      | _ => []) := by
  refine F.ok S (fun vs H Q E h => ?_) ?_
  · obtain ⟨a, ws, H0, rfl, hl, _⟩ := h
    rw [List.length_cons, hl]
    rfl
  · intro cdv A outer s H vs Q E hr h
    obtain ⟨a, ws, H0, rfl, hl, ha, rfl, q⟩ := h
    obtain ⟨v, rfl⟩ : ∃ v, ws = [v] := by
      cases ws with
      | nil => cases hl
      | cons v r => cases r with
        | nil => exact ⟨v, rfl⟩
        | cons _ _ => cases hl
    refine ⟨_, pss_cons (ps_ost (pe_var (i := 0) rfl v0 d0 d0c) (pe_var (i := 1) rfl v1 d1 d1c)) (pss_cons (ps_ost (pe_var (i := 0) rfl v0 d0 d0c) pe_str) pss_nil), ?_⟩
    refine ⟨v, rfl, .ref a, rfl, a, C, rfl, T, n1, .inl ⟨upd_same, fun dx hd ne => ?_⟩⟩
    have hd0 : H0 dx = none := by rw [upd_ne ne] at hd; exact hd
    refine ⟨.ref a, rfl, a, C, rfl, T, n2, .inr ⟨dx, [(f1, v)], upd_same, ?_, Nat.le_of_ble_eq_true rfl, ?_⟩⟩
    · rw [upd_ne ne, upd_same]
    · refine q dx _ hd0 ne ?_ upd_same fun z z1 z2 => ?_
      · rw [upd_ne ne.symm, upd_same]
      · rw [upd_ne z2, upd_ne z1, upd_ne z2, upd_ne z1]
end Vi
namespace Vi
open PySem PySem.W PySem.Calls L2 PyProof.Rows
section
variable {prog : Program} {w : World} {A : Around} {E : Value → Shared → Prop} {s : Shared} {K : Frag} {x Dc : Addr} {ox od : Obj}
theorem cls_of_exc {Q : Option Value → Shared → Prop} (C : L2.ExcC K Dc) (X : K.In s.heap) (I : InstAt s.heap x ox Dc (some od)) (q : Q (some (.ref Dc)) { s with toks := s.toks + 1 }) :
    wpAny (model prog w) A (getAttr? (.ref x) "__class__") Q E s := by
  obtain ⟨hga, hgt, hsub, hdct, ha, hn, htk, hm⟩ := C
  have hcs : (clsIn K Dc).isSome = true := by
    obtain ⟨cd, hc, _⟩ := any_some hdct
    rw [hc]
    rfl
  have hf := findObj_data (od := od) hcs ha hn htk
  obtain ⟨h0, gs, dr, tk, oss⟩ := s
  have ty := I.type (M := model prog w)
  have l1 := looks_findIn (M := model prog w) X hga
  have l2 := looks_findIn (M := model prog w) X hgt
  have l3 := looks_find (M := model prog w) X I hf
  have ne : (Value.builtin "BaseException.__getattribute__" == Value.builtin "object.__getattribute__") = false := by decide +kernel
  have g0 : (onTheHeap (Value.ref Dc) && Value.builtin "BaseException.__getattribute__" == Value.builtin "object.__getattribute__") = false := by
    rw [ne]
    rfl
  have g1 : (false && onTheHeap (Value.builtin "BaseException.__getattribute__")) = false := rfl
  unfold getAttr? getAttrBy? getAttrBy
  refine wpAny_bind (wpAny_mkText (wpAny_bind ?_))
  refine wpAny_attempt (wpAny_holding (wpAny_bind (ty.at ?_)))
  refine wpAny_bind (l1.at ?_)
  show wpAny _ _ (if (onTheHeap (Value.ref Dc) &&
    Value.builtin "BaseException.__getattribute__" == Value.builtin "object.__getattribute__") = true then _ else _) _ _ _
  rw [g0, if_neg (by decide)]
  unfold getAttrByItsOwn hookBefore
  refine wpAny_bind ?_
  rw [if_pos (show onTheHeap (Value.ref Dc) = true by rfl)]
  refine l2.at (wpAny_bind (wpAny_attempt (wpAny_holding ?_)))
  unfold callGetattribute
  rw [g1, if_neg (by decide)]
  unfold boundAndCalled
  rw [F.excAttr_ValueError.ga.bind (.ref x)]
  refine wpAny_bind (wpAny_pure ?_)
  show wpAny _ _ (call (.builtin "BaseException.__getattribute__") [.ref x, .str "__class__" tk]) _ _ _
  refine wpAny_call ?_
  refine codeAny_call_builtin F.excAttr_ValueError.ga.plain F.entry_bexc_ga ?_
  have sb : Looks (model prog w) h0 (isInstance (.ref x) (.type "BaseException")) true := ty.andThen (looks_subIn X hsub)
  refine @check_slot (model prog w) _ _ ⟨h0, gs, dr, tk + 1, oss⟩ "BaseException.__getattribute__" "BaseException"
    "__getattribute__" (.ref x) [.str "__class__" tk] [] _ (by decide +kernel) (by decide +kernel) sb (F.args_bexc_ga (.ref x) (.str "__class__" tk)) ?_
  unfold Builtin.«object.__getattribute__»
  refine wpAny_bind (wpAny_of_eq (a := ((Value.ref x : Value), [Value.str "__class__" tk])) (by first | rfl | (simp only [slotArgs]; rfl)) ?_)
  refine wpAny_bind (wpAny_pure (wpAny_bind (ty.at (wpAny_bind (l3.at ?_)))))
  show wpAny _ _ (holding [Value.builtin "object.__class__"] (call (.builtin "getset_descriptor.__get__") _) >>= ret) _ _ _
  refine wpAny_bind (wpAny_holding (wpAny_call ?_))
  refine class_get (s := ⟨h0, gs, dr, tk + 1, oss⟩) (ox := ox) (od := some od) X I hm ?_
  refine wpAny_pure ?_
  show wpAny _ _ (handedOut (.ref Dc)) _ _ _
  rw [handedOut_of (v := .ref Dc) rfl]
  first
    | exact wpAny_pure (wpAny_pure q)
    | exact wpAny_pure q
    | exact wpAny_pure (wpAny_bind (wpAny_pure (wpAny_pure q)))
theorem kit_exc (C : L2.ExcC K Dc) : KitX K (.ref x) (.ref Dc) (fun h => InstAt h x ox Dc (some od)) := by
  obtain ⟨cd, hc, _⟩ := any_some C.hd
  unfold clsIn at hc
  split at hc
  · rename_i c' d' cd' sl' ho
    refine ⟨fun _ _ _ I => I.type, fun _ _ X _ => ?_, fun h tp dd its n sl X htp => Bool.eq_false_iff.mpr fun q => ?_, fun X I k => cls_of_exc C X I k⟩
    · intro A' Q' E' s' k q
      unfold isType loadHead
      exact wpAny_bind (wpAny_loadPart (k _ _ (X _ _ ho)) (wpAny_pure q))
    · obtain rfl : Dc = tp := Value.ref.inj (beq_iff_eq.mp q)
      cases (X _ _ ho).symm.trans htp
  · cases hc
end
theorem ty_val {g : Gi} (t : Ty) : ∀ u, RelV (t.v g) u → u = t.val g := fun u r => by
  cases t with
  | bt n => exact r
  | own c => exact r
structure Su (X : Cx) (g : Gi) (B : Bg) : Prop where
  ex : ∃ (X0 : Cx) (oe : Obj) (pn : List (Addr × Obj)), X = X0.suite B.xa ((B.xa, oe) :: pn) ∧ Zc (.ref (g.ca B.xcl)) (some B.xd) oe ∧ (∃ vs, oe.data = .fields vs)
  G : GiOk g
  K : g.K = X.K
structure XcOk (g : Gi) (xs : Nat → Bool) (no : Nat → Str → Bool) : Prop where
  xf : ∀ c, xs c = true → XfC g.K (g.ca c) ∧ L2.ExcC g.K (g.ca c)
  no : ∀ c f, no c f = true → PySem.W.findIn g.K (.ref (g.ca c)) f = some none
def mIsX (g : Gi) (xs : Nat → Bool) (t : Ty) (i : Nat) : ME := fun env h => match env[i]? with
  | some (some (.xc c _)) => if xs c then (match g.isi (.own c) t with
    | some b => .ok (.d (.bl b)) h
    | none => .stuck) else .stuck
  | _ => .stuck
def mXf (xs : Nat → Bool) (no : Nat → Str → Bool) (f : Str) (i : Nat) : ME := fun env h => match env[i]? with
  | some (some (.xc c fs)) => if xs c && no c f then (match fs.lookup f with
    | some d => .ok (.d d) h
    | none => .stuck) else .stuck
  | _ => .stuck
section
variable {X : Cx} {g : Gi} {B : Bg} {W : WXv} {pos p : Pos} {x : Str} {xs : Nat → Bool} {no : Nat → Str → Bool} {c : Expr}
theorem isx_call (S : Su X g B) (T : L2.ExcC X.K (g.ca B.xcl)) {σ : L2.St} {H : Hp} {s : Shared} {pins : List (Addr × Obj)} {Q : VK} {v : L2.V} {cv : Value} {us : List Value} {b : Bool} (I : Inv X pins σ H s) (r : Vals [.ref B.xa, v] us) (hcv : ∀ u, RelV v u → u = cv)
    {vs : List (Str × L2.V)} (hd : H B.xd = some (.xd vs)) (e : PySem.W.kitOne X.K (.ref (g.ca B.xcl)) cv = some b) (q : Q (.bl b) H) : wpAny (model X.prog X.w) X.A (PySem.call (.builtin "isinstance") us) (EP X pins σ Q) X.xe s := by
  obtain ⟨X0, oe, pn, rfl, hz, hv⟩ := S.ex
  cases r with
  | cons rx rr =>
    cases rr with
    | cons rt rr =>
      cases rr
      cases rx
      have ec := hcv _ rt
      subst ec
      obtain ⟨hget, _⟩ := I.pin (B.xa, oe) (List.mem_append.mpr (.inl List.mem_cons_self))
      obtain ⟨ws, hw⟩ := hv
      have hx : ObjOk X0.prog X0.w H s.heap B.xd (.xd vs) := I.hok _ _ hd
      obtain ⟨mA, hns, hr⟩ := hx
      obtain ⟨oD, ho, _⟩ := lookIn_ns hns
      have J : PySem.W.InstAt s.heap B.xa oe (g.ca B.xcl) (some oD) := ⟨hget, hz.1, by unfold PySem.W.notCls; rw [hw] <;> rfl, by rw [hz.2]; exact ho⟩
      exact PySem.W.kia_one (kit_exc T) I.kIn J e (fun z => nomatch z) fun tk => ⟨.bl b, H, I.kept (t' := tk) fun _ _ z => z, rfl, q⟩
theorem ve_isx (S : Su X g B) (o : XcOk g xs no) (t : Ty) (i : Nat) (hN : X.N[i]? = some x) (hv : Vis X.env.scope x) (hg : Gl X "isinstance") (hm : X.mg "isinstance" = none) (hc : PE X c (tC (t.v g)))
    (hd : (x == ("__debug__" : Str)) = false := by decide) (hcd : (x == ("__classdict__" : Str)) = false := by decide)
    (hs : starEach [.Name x p, c] X.env = (false, eval (.Name x p) X.env) :: starEach [c] X.env := by rfl) (hpl : (backTo pos (starEach [c] X.env)).any (·.1) = false := by rfl) (hs2 : starEach [c] X.env = (false, eval c X.env) :: starEach [] X.env := by rfl) :
    PE X (.Call (.Name "isinstance" p1) [.Name x p, c] [] pos) (tE g B W (mIsX g xs t i)) := by
  have call : CallR X (.builtin "isinstance") (fun ws H Q => ∃ (v : L2.V) (cv : Value) (b : Bool) (vs : List (Str × L2.V)), ws = [.ref B.xa, v] ∧ (∀ u, RelV v u → u = cv) ∧ L2.ExcC X.K (g.ca B.xcl) ∧ H B.xd = some (.xd vs) ∧ PySem.W.kitOne X.K (.ref (g.ca B.xcl)) cv = some b ∧ Q (.bl b) H) := by
    intro pins s σ H ws us Q I r ⟨v, cv, b, vs, e1, e2, T, e3, e4, q⟩
    subst e1
    exact isx_call S T I r e2 e3 e4 q
  refine pe_imp (pe_callB call hg hm (by decide +kernel) (pa_cons (pe_var hN hv hd hcd) (pa_cons hc pa_nil hs2) hs) (by decide) (by decide) hs hpl) fun σ H Q ⟨env, s, sr, pp⟩ => ?_
  unfold mIsX at pp
  split at pp
  · next c' fs he =>
    split at pp
    · next hx =>
      split at pp
      · next b hb =>
        obtain ⟨v, h1, h2⟩ := sr.slot i _ he
        obtain ⟨rfl, rfl, vs, h3, h4, h5⟩ := h2
        exact ⟨_, h1, t.v g, t.val g, b, vs, rfl, ty_val t, S.K ▸ (o.xf _ hx).2, h3, S.K ▸ S.G.isi _ _ _ hb, PostE.pure sr pp rfl⟩
      · exact pp.elim
    · exact pp.elim
  · exact pp.elim
theorem ve_xf (S : Su X g B) (o : XcOk g xs no) (f : Str) (i : Nat) (hN : X.N[i]? = some x) (hv : Vis X.env.scope x) (hd : (x == ("__debug__" : Str)) = false := by decide) (hcd : (x == ("__classdict__" : Str)) = false := by decide)
    (hb : attributeBase (.Name x p) f X.env (eval (.Name x p) X.env) = eval (.Name x p) X.env := by rfl) : PE X (.Attribute (.Name x p) f pos) (tE g B W (mXf xs no f i)) := by
  obtain ⟨X0, oe, pn, rfl, hz, hw⟩ := S.ex
  refine ⟨fun pins s σ H Q I h => ?_⟩
  obtain ⟨env, st, sr, pp⟩ := h
  unfold mXf at pp
  split at pp
  · next c' fs he =>
    split at pp
    · next hx =>
      obtain ⟨hx1, hx2⟩ := Bool.and_eq_true_iff.mp hx
      split at pp
      · next d hl =>
        obtain ⟨v, h1, h2⟩ := sr.slot i _ he
        obtain ⟨rfl, rfl, vs, h3, h4, h5⟩ := h2
        obtain ⟨w, w1, w2⟩ := h5.lookup hl
        exact (pe_xf (cls := .ref (g.ca B.xcl)) (d := some B.xd) (S.K ▸ (o.xf _ hx1).1) (S.K ▸ o.no _ _ hx2) hz hw (pe_var hN hv hd hcd) hb).run pins s σ H Q I ⟨.ref B.xa, h1, rfl, rfl, B.xd, vs, w, rfl, h3, w1, PostE.pure sr pp w2⟩
      · exact pp.elim
    · exact pp.elim
  · exact pp.elim
end
end Vi
namespace Vi
open PySem L2 PyProof.Rows
def noX (env : Env) : Bool := env.all fun o => match o with
  | some (.xc _ _) => false
  | _ => true
def unX (i : Nat) : RS → RS
  | .nx env h => if noX (env.set i none) then .nx (env.set i none) h else .stuck
  | .brk env h => if noX (env.set i none) then .brk (env.set i none) h else .stuck
  | .cnt env h => if noX (env.set i none) then .cnt (env.set i none) h else .stuck
  | .ret d h => .ret d h
  | .exc _ _ _ => .stuck
  | .stuck => .stuck
def mTry (i : Nat) (cat : Nat → Option Bool) (mb ms : MS) : MS := fun env h => match mb env h with
  | .exc env' (.obj c fs) h' => (match cat c with
    | some true => if noX (env'.set i none) && decide (i < env'.length) then unX i (ms (env'.set i (some (.xc c fs))) h') else .stuck
    | some false => .exc env' (.obj c fs) h'
    | none => .stuck)
  | .exc _ _ _ => .stuck
  | r => r
theorem noX_get {env : Env} (h : noX env = true) {i : Nat} {sl : Sl} (e : env[i]? = some (some sl)) : ∀ c fs, sl ≠ .xc c fs := fun c fs q => by
  subst q
  have m := List.mem_of_getElem? e
  have z := List.all_eq_true.mp h _ m
  cases z
section
variable {g : Gi} {B : Bg} {W : WXv} {env : Env} {s s' : Sta} {σ : L2.St} {H H' : Hp} {i : Nat}
abbrev Bg.catch (B : Bg) (a d : Addr) (c : Nat) : Bg := { B with xa := a, xd := d, xcl := c }
theorem SlRep.bg {a d : Addr} {c : Nat} {sl : Sl} {v : L2.V} (n : ∀ c fs, sl ≠ .xc c fs) : SlRep g B s H sl v ↔ SlRep g (B.catch a d c) s H sl v := by
  cases sl with
  | d x => exact Iff.rfl
  | ol xs => exact ⟨fun ⟨a, vs, h1, h2, h3, h4⟩ => ⟨a, vs, h1, h2, ⟨h3.f, h3.al, h3.new⟩, h4⟩, fun ⟨a, vs, h1, h2, h3, h4⟩ => ⟨a, vs, h1, h2, ⟨h3.f, h3.al, h3.new⟩, h4⟩⟩
  | oi c fs => exact ⟨fun ⟨a, dx, vs, h1, h2, h3, h4⟩ => ⟨a, dx, vs, h1, h2, ⟨h3.f, h3.al, h3.new⟩, h4⟩, fun ⟨a, dx, vs, h1, h2, h3, h4⟩ => ⟨a, dx, vs, h1, h2, ⟨h3.f, h3.al, h3.new⟩, h4⟩⟩
  | xc c fs => exact absurd rfl (n c fs)
theorem SR.unset (sr : SR g B env s σ H) : SR g B (env.set i none) s (σ.set i none) H := by
  have f : ∀ {j : Nat} {sl : Sl}, (env.set i none)[j]? = some (some sl) → i ≠ j ∧ env[j]? = some (some sl) := fun {j sl} h => by
    by_cases e : i = j
    · subst e
      by_cases hi : i < env.length
      · rw [List.getElem?_set_self hi] at h
        cases h
      · rw [List.getElem?_eq_none (by rw [List.length_set]; omega)] at h
        cases h
    · rw [List.getElem?_set_ne e] at h
      exact ⟨e, h⟩
  refine ⟨sr.good, sr.evo, by rw [List.length_set, List.length_set]; exact sr.len, fun j sl h => ?_, fun j k sl1 sl2 u hjk h1 h2 o1 o2 h3 h4 => ?_⟩
  · obtain ⟨e, h⟩ := f h
    rw [List.getElem?_set_ne e]
    exact sr.slot j sl h
  · obtain ⟨e1, h1⟩ := f h1
    obtain ⟨e2, h2⟩ := f h2
    rw [List.getElem?_set_ne e1] at h3
    rw [List.getElem?_set_ne e2] at h4
    exact sr.sep j k sl1 sl2 u hjk h1 h2 o1 o2 h3 h4
theorem SR.bg {a d : Addr} {c : Nat} (n : noX env = true) (sr : SR g B env s σ H) : SR g (B.catch a d c) env s σ H :=
  ⟨sr.good, sr.evo, sr.len, fun j sl h => by
    obtain ⟨v, h1, h2⟩ := sr.slot j sl h
    exact ⟨v, h1, (SlRep.bg (noX_get n h)).mp h2⟩, sr.sep⟩
theorem SR.unbg {a d : Addr} {c : Nat} (n : noX env = true) (sr : SR g (B.catch a d c) env s σ H) : SR g B env s σ H :=
  ⟨sr.good, sr.evo, sr.len, fun j sl h => by
    obtain ⟨v, h1, h2⟩ := sr.slot j sl h
    exact ⟨v, h1, (SlRep.bg (noX_get n h)).mpr h2⟩, sr.sep⟩
theorem SR.setX {c : Nat} {fs : List (Str × D)} {v : L2.V} (hi : i < env.length) (sr : SR g B (env.set i none) s (σ.set i none) H) (r : SlRep g B s H (.xc c fs) v) : SR g B (env.set i (some (.xc c fs))) s (σ.set i (some v)) H := by
  have f : ∀ {j : Nat} {sl : Sl}, i ≠ j → (env.set i (some (.xc c fs)))[j]? = some (some sl) → (env.set i none)[j]? = some (some sl) := fun {j sl} e h => by
    rw [List.getElem?_set_ne e] at h
    rw [List.getElem?_set_ne e]
    exact h
  have hl : (env.set i none).length = (σ.set i none).length := sr.len
  rw [List.length_set, List.length_set] at hl
  refine ⟨sr.good, sr.evo, by rw [List.length_set, List.length_set]; exact hl, fun j sl h => ?_, fun j k sl1 sl2 u hjk h1 h2 o1 o2 h3 h4 => ?_⟩
  · by_cases e : i = j
    · subst e
      rw [List.getElem?_set_self hi] at h
      cases h
      exact ⟨v, List.getElem?_set_self (hl ▸ hi), r⟩
    · have z := sr.slot j sl (f e h)
      rw [List.getElem?_set_ne e] at z
      rw [List.getElem?_set_ne e]
      exact z
  · have ne : ∀ {j : Nat} {sl : Sl}, (env.set i (some (.xc c fs)))[j]? = some (some sl) → sl.own = true → i ≠ j := fun {j sl} h o e => by
      subst e
      rw [List.getElem?_set_self hi] at h
      cases h
      cases o
    have n1 := ne h1 o1
    have n2 := ne h2 o2
    refine sr.sep j k sl1 sl2 u hjk (f n1 h1) (f n2 h2) o1 o2 ?_ ?_
    · rw [List.getElem?_set_ne n1] at h3
      rw [List.getElem?_set_ne n1]
      exact h3
    · rw [List.getElem?_set_ne n2] at h4
      rw [List.getElem?_set_ne n2]
      exact h4
end
structure Catch (X : Cx) (g : Gi) (x : Str) (cat : Nat → Option Bool) : Prop where
  ex : ∃ cv : Value, Names X x cv ∧ ∀ c b, cat c = some b → PySem.W.exmOne X.K (.ref (g.ca c)) cv = some b
section
variable {X : Cx} {g : Gi} {B : Bg} {W : WXv} {x n : Str} {i : Nat} {body suite : List Stmt} {b₀ : Stmt} {np pos pos' : Pos} {mb ms : MS} {cat : Nat → Option Bool}
end
end Vi
namespace Vi
open PySem L2 PyProof.Rows
def gtF (g : Gi) (i : Nat) (f : Str) : TgF := fun d env => match env[i]? with
  | some (some (.oi c fs)) => if g.fld c f && decide (fs.length < 1000) then some (env.set i (some (.oi c (putD f d fs)))) else none
  | _ => none
def gAttr (K : PySem.W.Frag) (f : Str) (to : TE) : TG := fun y σ H Q => to σ H fun x H1 => ∃ (a C dx : Addr) (fs : List (Str × L2.V)), x = .ref a ∧ H1 a = some (.ins C dx fs) ∧ Cls K C ∧ NoAttr K C f ∧ fs.length < 1000 ∧ Q σ (upd H1 a (.ins C dx (putF f y fs)))
section
variable {X : Cx} {g : Gi} {pos : Pos} {o : Expr} {to : TE} {f : Str}
end
end Vi
namespace Vi
open PySem L2 PyProof.Rows
structure VOp (X : Cx) (g : Gi) (c : Nat) (name : Str) (n : Nat) (F : Fn) : Prop where
  ex : ∃ (k : Nat) (f : Addr) (fd : FuncData) (ps : List Str), FnG X.prog X.w X.K X.mg X.base k f fd ps (spD g ps.length F) ∧ Room (k + 1) X.A ∧ PySem.W.findIn X.K (.ref (g.ca c)) name = some (some (.ref f)) ∧ PySem.W.isFn X.K (.ref f) = true ∧ Binds X.K fd ps [] ∧ ps.length = n ∧ PySem.W.fnIn X.K f = true
  sf : PySem.W.selfFirst X.K (g.ca c) = true
abbrev Tbl := Nat → Option Fn
def VOps (X : Cx) (g : Gi) (name : Str) (n : Nat) (T : Tbl) : Prop := ∀ c F, T c = some F → VOp X g c name n F
def NNI (v : L2.V) : Prop := ∀ u, RelV v u → u ≠ .notImplemented
section
variable {X : Cx} {g : Gi} {B : Bg} {W : WXv} {env : Env} {st : Sta} {σ : L2.St} {H : Hp} {s : Shared} {pins : List (Addr × Obj)} {c n : Nat} {name : Str} {F : Fn} {Q : VK}
end
def OpW (X : Cx) (g : Gi) (W : WXv) (f : Value → Value → Sem Value) (F : Vl → Vl → Hc → R Vl) : Prop :=
  ∀ (B : Bg) (env : Env) (st : Sta) (σ : L2.St) (H : Hp) (s : Shared) (pins : List (Addr × Obj)) (x y : Vl) (v w : L2.V) (u1 u2 : Value) (Q : VK), Inv X pins σ H s → RelV v u1 → RelV w u2 → SR g B env st σ H → VlRep g B env σ st H x v → VlRep g B env σ st H y w →
    PostE g B W env st σ H (F x y st.h) Q → wpAny (model X.prog X.w) X.A (f u1 u2) (EP X pins σ Q) X.xe s
theorem OpV.w {X : Cx} {g : Gi} {W : WXv} {f : Value → Value → Sem Value} {F : Vl → Vl → Hc → R Vl} (h : OpV X g f F) : OpW X g W f F := by
  obtain ⟨r, h1, h2⟩ := h
  intro B env st σ H s pins x y v w u1 u2 Q I r1 r2 sr rx ry p
  exact h1 pins s σ H v w u1 u2 Q I r1 r2 (h2 B W env st σ H x y v w Q sr rx ry p)
def fOps (T : Tbl) (F0 : Vl → Vl → Hc → R Vl) (x y : Vl) (h : Hc) : R Vl := match x with
  | .d (.obj c fs) => (match T c, y with
    | some F, .d (.obj c2 gs) => if c2 = c then (F [.obj c fs, .obj c2 gs] h).bind fun d h' => .ok (.d d) h' else .stuck
    | _, _ => .stuck)
  | _ => F0 x y h
def fEqs (g : Gi) (T : Tbl) (nf : Nat → Ty → Bool) (F0 : Vl → Vl → Hc → R Vl) (x y : Vl) (h : Hc) : R Vl := match x with
  | .d (.obj c fs) => (match T c, y with
    | some F, .d yd => (match yd.ty g with
      | some t => if nf c t then (F [.obj c fs, yd] h).bind fun d h' => .ok (.d d) h' else .stuck
      | none => .stuck)
    | _, _ => .stuck)
  | _ => F0 x y h
section
variable {X : Cx} {g : Gi} {W : WXv} {T : Tbl}
end
section
variable {X : Cx} {g : Gi} {B : Bg} {W : WXv} {pos : Pos} {a b : Expr} {ma mb : ME}
def fNegs (T : Tbl) (x : Vl) (h : Hc) : R Vl := match x with
  | .d (.obj c fs) => (match T c with
    | some F => (F [.obj c fs] h).bind fun d h' => .ok (.d d) h'
    | none => .stuck)
  | _ => fNeg x h
def fAbss (T : Tbl) (xs : List Vl) (h : Hc) : R Vl := match xs with
  | [.d (.obj c fs)] => (match T c with
    | some F => (F [.obj c fs] h).bind fun d h' => .ok (.d d) h'
    | none => .stuck)
  | _ => fAbs xs h
end
end Vi
namespace Vi
open PySem L2 PyProof.Rows
structure VCMet (X : Cx) (g : Gi) (c : Nat) (m : Str) (n : Nat) (dd : List D) (F : Fn) : Prop where
  ex : ∃ (k : Nat) (p f : Addr) (mc : Value) (fd : FuncData) (ps : List Str) (dvs : List L2.V) (ds : List Value), FnG X.prog X.w X.K X.mg X.base k f fd ps (spD g ps.length F) ∧ Room k X.A ∧ ClX.CRead X.K (g.ca c) mc ∧ ClX.CMet X.K (g.ca c) mc m p f ∧
    Binds X.K fd ps ds ∧ Vals dvs ds ∧ (∀ F al, Reps g F al dd dvs) ∧ (n + 1) + dvs.length = ps.length
def mCMet (c : Nat) (n : Nat) (F : Fn) (dd : List D) (o : ME) (a : MA) : ME := fun env h => (o env h).bind fun x h1 => match x with
  | .d (.cls c') => if c' = c then (a env h1).bind fun xs h2 => (if xs.length = n then (match datas xs with
    | some ds => (F (.cls c :: (ds ++ dd)) h2).bind fun d h' => .ok (.d d) h'
    | none => .stuck) else .stuck) else .stuck
  | _ => .stuck
section
variable {X : Cx} {g : Gi} {B : Bg} {W : WXv} {pos p apos : Pos} {e o : Expr} {es : List Expr} {A : MA} {F : Fn} {dd : List D} {n c : Nat} {x m : Str} {mo : ME}
def mMakeL (i c n : Nat) (F : FnI) (dd : List D) (a : MA) : ME := fun env h => match env[i]? with
  | some (some (.d (.cls c'))) => if c' = c then (a env h).bind (fMake c n F dd) else .stuck
  | _ => .stuck
end
end Vi
namespace Vi
open PySem L2 PyProof.Rows
def shwB (d : PyData) : Bool := d.showable && (decide (d.depth ≤ 60) && decide (d.shown.length ≤ sizeLine))
mutual
theorem hasDict_toP : ∀ d : D, (toP d).hasDict = false
  | .non => by simp only [toP, PyData.hasDict]
  | .bl _ => by simp only [toP, PyData.hasDict]
  | .int _ => by simp only [toP, PyData.hasDict]
  | .str _ => by simp only [toP, PyData.hasDict]
  | .tup xs => by simp only [toP, PyData.hasDict]; exact hasDict_toPs xs
  | .xtup xs => by simp only [toP, PyData.hasDict]; exact hasDict_toPs xs
  | .lst xs => by simp only [toP, PyData.hasDict]; exact hasDict_toPs xs
  | .kl xs => by simp only [toP, PyData.hasDict]; exact hasDict_toPs xs
  | .ref _ => by simp only [toP, PyData.hasDict]
  | .obj _ _ => by simp only [toP, PyData.hasDict]
  | .cls _ => by simp only [toP, PyData.hasDict]
  | .dK _ => by simp only [toP, PyData.hasDict]
  | .dT _ => by simp only [toP, PyData.hasDict]
theorem hasDict_toPs : ∀ d : List D, PyData.hasDictAll (toPs d) = false
  | [] => by simp only [toPs, PyData.hasDictAll]
  | x :: r => by simp only [toPs, PyData.hasDictAll, hasDict_toP x, hasDict_toPs r, Bool.or_false]
end
def fRepr (xs : List Vl) (h : Hc) : R Vl := match xs with
  | [x] => (match x.dat? with
    | some d => if shwB (toP d) then .ok (.d (.str (toP d).shown)) h else .stuck
    | none => .stuck)
  | _ => .stuck
def rRepr (K : PySem.W.Frag) : List L2.V → Hp → VK → Prop := fun xs H Q => ∃ (v : L2.V) (d : PyData), xs = [v] ∧ Dp K H v d ∧ d.hasDict = false ∧ shwB d = true ∧ Q (.str d.shown) H
end Vi
namespace Vi
open PySem L2 PyProof.Rows
def wipeE (env : Env) : List Nat → Env
  | [] => env
  | v :: vs => (wipeE env vs).set v none
theorem wipe_set {σ : L2.St} {i : Nat} {o : Option L2.V} : ∀ {vs : List Nat}, i ∈ vs → wipe (σ.set i o) vs = wipe σ vs := fun {vs} => by
  have key : ∀ vs : List Nat, wipe (σ.set i o) vs = if i ∈ vs then wipe σ vs else (wipe σ vs).set i o := fun vs => by
    induction vs with
    | nil => rw [if_neg (by simp)]; rfl
    | cons v vs ih =>
      show (wipe (σ.set i o) vs).set v none = _
      rw [ih]
      by_cases e : i = v
      · subst e
        rw [if_pos (List.mem_cons_self ..)]
        by_cases h : i ∈ vs
        · rw [if_pos h]; rfl
        · rw [if_neg h, List.set_set]; rfl
      · by_cases h : i ∈ vs
        · rw [if_pos h, if_pos (List.mem_cons_of_mem _ h)]; rfl
        · have h2 : i ∉ v :: vs := fun z => by
            rcases List.mem_cons.mp z with z | z
            · exact e z
            · exact h z
          rw [if_neg h, if_neg h2]
          show ((wipe σ vs).set i o).set v none = ((wipe σ vs).set v none).set i o
          rw [List.set_comm _ _ e]
  intro h
  rw [key vs, if_pos h]
def CgQ (g : Gi) (own : List Nat) (t : TG) (T : TgF) : Prop :=
  ∀ (B : Bg) (env env' : Env) (s : Sta) (σ : L2.St) (H : Hp) (d : D) (v : L2.V) (Q : L2.St → Hp → Prop), SR g B env s σ H → Rep g s.F s.al d v → T d env = some env' → (∀ σ', wipe σ' own = wipe σ own → SR g B env' s σ' H → Q σ' H) → t v σ H Q
def CgsQ (g : Gi) (own : List Nat) (t : TGs) (T : List D → Env → Option Env) : Prop :=
  ∀ (B : Bg) (env env' : Env) (s : Sta) (σ : L2.St) (H : Hp) (ds : List D) (vs : List L2.V) (Q : L2.St → Hp → Prop), SR g B env s σ H → Reps g s.F s.al ds vs → T ds env = some env' → (∀ σ', wipe σ' own = wipe σ own → SR g B env' s σ' H → Q σ' H) → t vs σ H Q
section
variable {g : Gi} {own : List Nat}
theorem cg_name {i : Nat} (ho : i ∈ own) : CgQ g own (gName i) (gtN i) :=
  fun B env env' s σ H d v Q sr r e k => by
    have e : env.set i (some (.d d)) = env' := Option.some.inj e
    exact k _ (wipe_set ho) (e ▸ sr.set r)
end
section
variable {g : Gi} {B : Bg} {env : Env} {s s' s1 : Sta} {σ : L2.St} {H H' H1 : Hp}
theorem SR.wipe (sr : SR g B env s σ H) : ∀ vs : List Nat, SR g B (wipeE env vs) s (L2.wipe σ vs) H
  | [] => sr
  | v :: vs => (SR.wipe sr vs).unset
theorem Good.updO {p : Addr} {o : HO} (gd : Good g s H) (hf : s.F p = none) (hn : ∀ n, s.al n ≠ some p) : Good g s (upd H p o) := by
  refine ⟨fun a u h => ?_, gd.inj, fun n a h => ?_, fun n c h => ?_, gd.zed.keep rfl rfl (fun _ _ h => h) fun n a o h1 h2 => by rw [upd_ne (fun e => hn n (by rw [← e]; exact h1))]; exact h2⟩
  · have ne : a ≠ p := fun e => by rw [e, hf] at h; cases h
    rw [upd_ne ne]
    exact gd.fle a u h
  · obtain ⟨h1, h2, u, h3⟩ := gd.dom n a h
    have ne : a ≠ p := fun e => hn n (by rw [← e]; exact h)
    exact ⟨h1, h2, u, by rw [upd_ne ne]; exact h3⟩
  · obtain ⟨a, h1, h2⟩ := gd.cell n c h
    have ne : a ≠ p := fun e => hn n (by rw [← e]; exact h1)
    refine ⟨a, h1, ?_⟩
    exact h2.mv (fun o h3 => by rw [upd_ne ne]; exact h3) (fun _ _ h => h) fun _ _ h => h
theorem Evo.updO {p : Addr} {o : HO} (e : Evo s1 H1 s H) (hp : H1 p = none) : Evo s1 H1 s (upd H p o) := ⟨e.f, e.al, fun a u h n => by
  obtain ⟨h1, h2, h3⟩ := e.oth a u h n
  exact ⟨by rw [upd_ne (ne_of_none h hp)]; exact h1, h2, h3⟩, e.len, e.z⟩
def Src (K : PySem.W.Frag) (b : Bool) (a : Addr) (vs : List L2.V) (s : Sta) (H : Hp) : Prop := match b with
  | true => StL K s a vs ∨ (H a = some (.lst vs) ∧ ∀ n, s.al n ≠ some a)
  | false => SqT K s.F a vs
theorem Src.evo {K : PySem.W.Frag} {b : Bool} {a : Addr} {vs : List L2.V} (e : Evo s H s' H') (h : Src K b a vs s H) : Src K b a vs s' H' := by
  cases b with
  | true =>
    rcases h with h | ⟨h1, h2⟩
    · exact .inl (h.le e.le)
    · obtain ⟨g1, _, g3⟩ := e.oth _ _ h1 h2
      exact .inr ⟨g1, g3⟩
  | false => exact sqT_mono e.f h
end
def compL (o : Bool) (T : TgF) (mt : MB) (me : ME) : List D → List D → Env → Hc → R Vl
  | [], acc, _, h => .ok (Vl.ofL o acc) h
  | x :: r, acc, env, h => match T x env with
    | none => .stuck
    | some env1 => (match mt env1 h with
      | .ok b h1 => if b then (match me env1 h1 with
        | .ok (.d y) h2 => if acc.length < 16000000 then compL o T mt me r (acc ++ [y]) env h2 else .stuck
        | _ => .stuck) else compL o T mt me r acc env h1
      | _ => .stuck)
def mYes : MB := fun _ h => .ok true h
section
variable {X : Cx} {g : Gi} {B : Bg}
theorem vts_nil : PTs X [] (tT g B (fun _ _ _ _ => False) mYes) := ⟨fun pins s σ H Q I ⟨env, st, sr, p⟩ => (pts_nil (X := X)).run pins s σ H Q I (PostB.pure sr p)⟩
theorem vts_one {c : Expr} {m : MB} (h : PT X c (tT g B (fun _ _ _ _ => False) m)) : PTs X [c] (tT g B (fun _ _ _ _ => False) m) := pts_one h
end
def CInv (g : Gi) (B : Bg) (W : WXv) (env : Env) (s1 : Sta) (σ : L2.St) (H1 : Hp) (own : List Nat) (o : Bool) (T : TgF) (mt : MB) (me : ME) (Q : VK) (Dn : Addr) (rest : List D) (H : Hp) : Prop :=
  ∃ (s' : Sta) (acc : List D) (vs : List L2.V), Good g s' H ∧ Evo s1 H1 s' H ∧ H Dn = some (.lst vs) ∧ s'.F Dn = none ∧ (∀ n, s'.al n ≠ some Dn) ∧ Reps g s'.F s'.al acc vs ∧ PostE g B W env s1 σ H1 (compL o T mt me rest acc (wipeE env own) s'.h) Q
section
variable {g : Gi} {B : Bg} {W : WXv} {env : Env} {s1 : Sta} {σ : L2.St} {H1 H : Hp} {own : List Nat} {o : Bool} {T : TgF} {mt : MB} {me : ME} {Q : VK} {Dn : Addr}
theorem comp_start {xs : List D} (sr : SR g B env s1 σ H1) (hD : H1 Dn = none) (p : PostE g B W env s1 σ H1 (compL o T mt me xs [] (wipeE env own) s1.h) Q) : CInv g B W env s1 σ H1 own o T mt me Q Dn xs (upd H1 Dn (.lst [])) := by
  obtain ⟨gd, ev⟩ := sr.good.add (o := .lst []) hD
  obtain ⟨f, a⟩ := own_free sr.good hD
  exact ⟨s1, [], [], gd, ev, upd_same, f, a, Reps.nil, p⟩
theorem comp_end (sr : SR g B env s1 σ H1) (hD : H1 Dn = none) (c : CInv g B W env s1 σ H1 own o T mt me Q Dn [] H) : Q (.ref Dn) H := by
  obtain ⟨s', acc, vs, gd, ev, hH, hf, ha, rr, p⟩ := c
  have hb : B.H Dn = none := by
    cases e : B.H Dn with
    | none => rfl
    | some u =>
      by_cases hn : ∀ n, B.s.al n ≠ some Dn
      · have z := (sr.evo.oth Dn u e hn).1
        rw [hD] at z
        cases z
      · have hn2 : ∃ n, B.s.al n = some Dn := Classical.byContradiction fun h => hn fun n z => h ⟨n, z⟩
        obtain ⟨n, h⟩ := hn2
        obtain ⟨_, _, u2, h3⟩ := sr.good.dom n Dn (sr.evo.al n Dn h)
        rw [hD] at h3
        cases h3
  have p : PostE g B W env s1 σ H1 (.ok (Vl.ofL o acc) s'.h) Q := p
  have sr2 := sr.call ev gd
  cases o with
  | true =>
    refine p (.ref Dn) H s' rfl ev sr2 ⟨Dn, vs, rfl, hH, ⟨hf, ha, hb⟩, fun i sl h1 h2 h3 => ?_, rr⟩
    obtain ⟨v, e1, e2⟩ := sr.slot i sl h1
    obtain ⟨a, u, rfl, h4⟩ := e2.there h2
    rw [h3] at e1
    cases e1
    rw [hD] at h4
    cases h4
  | false =>
    have ev2 := ev.frz (o := .lst vs) hf ha hD
    refine p (.ref Dn) H (s'.frz Dn (.lst vs)) rfl ev2 (sr.call ev2 (gd.frz hH hf ha)) ⟨Dn, vs, rfl, upd_same, rr.mono (frz_le hf) fun _ _ z => z⟩
theorem comp_turn {t : TG} {d : D} {rest : List D} {v : L2.V} (q1 : CgQ g own t T)
    (sr : SR g B env s1 σ H1) (hD : H1 Dn = none) (c : CInv g B W env s1 σ H1 own o T mt me Q Dn (d :: rest) H) (rv : ∀ s', Evo s1 H1 s' H → Rep g s'.F s'.al d v) :
    t v (wipe σ own) H fun σ2 H2 => wipe σ2 own = wipe σ own ∧ tT g B (fun _ _ _ _ => False) mt σ2 H2 fun b H3 =>
      if b = true then tE g B (fun _ _ _ _ => False) me σ2 H3 fun y H4 => ∃ acc, H4 Dn = some (.lst acc) ∧ acc.length < sizeLine ∧ CInv g B W env s1 σ H1 own o T mt me Q Dn rest (upd H4 Dn (.lst (acc ++ [y])))
      else CInv g B W env s1 σ H1 own o T mt me Q Dn rest H3 := by
  obtain ⟨s', acc, vs, gd, ev, hH, hf, ha, rr, p⟩ := c
  have p : PostE g B W env s1 σ H1 (match T d (wipeE env own) with
    | none => .stuck
    | some env1 => (match mt env1 s'.h with
      | .ok b h1 => if b then (match me env1 h1 with
        | .ok (.d y) h2 => if acc.length < 16000000 then compL o T mt me rest (acc ++ [y]) (wipeE env own) h2 else .stuck
        | _ => .stuck) else compL o T mt me rest acc (wipeE env own) h1
      | _ => .stuck)) Q := p
  have ww : wipe (wipe σ own) own = wipe σ own := by
    have key : ∀ (l : List Nat), (∀ i ∈ l, i ∈ own) → wipe (wipe σ l) own = wipe σ own := fun l => by
      induction l with
      | nil => intro _; rfl
      | cons i l ih =>
        intro h
        show wipe ((wipe σ l).set i none) own = _
        rw [wipe_set (h i (List.mem_cons_self ..)), ih fun j hj => h j (List.mem_cons_of_mem _ hj)]
    exact key own fun _ h => h
  cases e1 : T d (wipeE env own) with
  | none => rw [e1] at p; exact p.elim
  | some env1 =>
    simp only [e1] at p
    refine q1 B (wipeE env own) env1 s' (wipe σ own) H d v _ ((sr.wipe own).call ev gd) (rv s' ev) e1 fun σ2 hw sr2 => ⟨hw.trans ww, env1, s', sr2, ?_⟩
    cases e2 : mt env1 s'.h with
    | ok b h1 =>
      simp only [e2] at p
      intro H3 s3 q3 ev3 sr3
      obtain ⟨k1, k2, k3⟩ := ev3.oth Dn _ hH ha
      cases b with
      | true =>
        rw [if_pos rfl] at p ⊢
        refine ⟨env1, s3, sr3, ?_⟩
        rw [q3]
        cases e3 : me env1 h1 with
        | ok y h2 =>
          rw [e3] at p
          cases y with
          | d y =>
            have p : PostE g B W env s1 σ H1 (if acc.length < 16000000 then compL o T mt me rest (acc ++ [y]) (wipeE env own) h2 else .stuck) Q := p
            by_cases hl : acc.length < 16000000
            · rw [if_pos hl] at p
              intro w H4 s4 q4 ev4 sr4 rw4
              obtain ⟨l1, l2, l3⟩ := ev4.oth Dn _ k1 k3
              have evA := (ev.trans ev3).trans ev4
              refine ⟨vs, l1, by rw [rr.length, sizeLine_eq]; omega, s4, acc ++ [y], vs ++ [w], sr4.good.updO (l2 (k2 hf (fun _ z => nomatch z)) (fun _ z => nomatch z)) l3, evA.updO hD, upd_same, l2 (k2 hf (fun _ z => nomatch z)) (fun _ z => nomatch z), l3, ?_, by rw [q4]; exact p⟩
              exact ((ev3.trans ev4).reps rr).append (Reps.cons (show Rep g s4.F s4.al y w from rw4) Reps.nil)
            · rw [if_neg hl] at p
              exact p.elim
          | _ => exact p.elim
        | exc x h => rw [e3] at p; exact p.elim
        | stuck => rw [e3] at p; exact p.elim
      | false =>
        simp only [Bool.false_eq_true, if_false] at p ⊢
        exact ⟨s3, acc, vs, sr3.good, ev.trans ev3, k1, k2 hf (fun _ z => nomatch z), k3, ev3.reps rr, by rw [q3]; exact p⟩
    | exc x h => simp only [e2] at p; exact p.elim
    | stuck => simp only [e2] at p; exact p.elim
end
theorem Bd.blk {X : Cx} {g : Gi} {W : WXv} {s : Shared} {H : Hp} {scope : Scope} {cenv : PySem.Env} {fp : List Addr} (b : Bd X g W) : Bd (X.blk s H scope cenv fp) g (fun _ _ _ _ => False) :=
  ⟨b.G, b.K, b.calm, b.gd, fun u s' ⟨_, _, _, _, _, _, _, _, _, _, _, _, _, _, _, _, w⟩ => w.elim, PassesOwn.never, b.un⟩
def seqC? (h : Hc) : Vl → Option (Bool × List D)
  | .d (.lst xs) => some (true, xs)
  | .d (.kl xs) => some (true, xs)
  | .d (.tup xs) => some (false, xs)
  | .d (.xtup xs) => some (false, xs)
  | .tl xs => some (true, xs)
  | .bl xs => some (true, xs)
  | .d (.ref n) => (match h[n]? with
    | some (.frz c) => (match c.bare with
      | .lst xs => some (true, xs)
      | _ => none)
    | _ => none)
  | _ => none
def mComp (o : Bool) (own : List Nat) (T : TgF) (mt : MB) (me src : ME) : ME := fun env h => (src env h).bind fun x h1 => match seqC? h1 x with
  | some (_, xs) => compL o T mt me xs [] (wipeE env own) h1
  | none => .stuck
def mCompR (o : Bool) (own : List Nat) (T : TgF) (mt : MB) (me : ME) (a : MA) : ME := fun env h => (a env h).bind fun xs h1 => match xs with
  | [.d (.int j)] => if -(2 ^ 62) ≤ j ∧ j < 2 ^ 62 then compL o T mt me (rangeD 0 j.toNat) [] (wipeE env own) h1 else .stuck
  | _ => .stuck
def mCompR2 (o : Bool) (own : List Nat) (T : TgF) (mt : MB) (me : ME) (a : MA) : ME := fun env h => (a env h).bind fun xs h1 => match xs with
  | [.d (.int i), .d (.int j)] => if -(2 ^ 62) ≤ i ∧ i < 2 ^ 62 ∧ -(2 ^ 62) ≤ j ∧ j < 2 ^ 62 then compL o T mt me (rangeD i (j - i).toNat) [] (wipeE env own) h1 else .stuck
  | _ => .stuck
theorem src_of {g : Gi} {B : Bg} {env : Env} {s1 : Sta} {σ : L2.St} {H1 : Hp} {x : Vl} {v : L2.V} {b : Bool} {xs : List D} (gd : Good g s1 H1) (r : VlRep g B env σ s1 H1 x v) (e : seqC? s1.h x = some (b, xs)) : ∃ a vs, v = .ref a ∧ Src g.K b a vs s1 H1 ∧ Reps g s1.F s1.al xs vs := by
  unfold seqC? at e
  split at e
  · cases e
    obtain ⟨a, vs, h1, h2, h3⟩ := r
    exact ⟨a, vs, h1, .inl (.inl (.of h2)), h3⟩
  · cases e
    obtain ⟨a, vs, h1, h2, h3⟩ := r
    exact ⟨a, vs, h1, .inl (.inl h2), h3⟩
  · cases e
    obtain ⟨a, vs, h1, h2, h3⟩ := r
    exact ⟨a, vs, h1, h2.sq, h3⟩
  · cases e
    obtain ⟨a, o, vs, h1, h2, _, h3⟩ := r
    exact ⟨a, vs, h1, .inl (.inr ⟨o, h2⟩), h3⟩
  · cases e
    obtain ⟨a, vs, h1, h2, h3, _, h4⟩ := r
    exact ⟨a, vs, h1, .inr ⟨h2, h3.al⟩, h4⟩
  · cases e
    obtain ⟨a, vs, h1, h2, h3, h4⟩ := r
    exact ⟨a, vs, h1, .inr ⟨h2, h3.al⟩, h4⟩
  · next n =>
    split at e
    · next c ec =>
      split at e
      · next ys eb =>
        cases e
        obtain ⟨a, vs, h1, h2, h3, h4⟩ := frz_lst gd r ec eb
        exact ⟨a, vs, h1, .inl (.inr ⟨n, h2, h3⟩), h4⟩
      · cases e
    · cases e
  · cases e
section
variable {X : Cx} {g : Gi} {B : Bg} {W : WXv} {own : List Nat} {o : Bool} {T : TgF} {mt : MB} {me m : ME} {t : TG} {σ : L2.St} {H : Hp} {Q : VK}
theorem lc_of (hK : g.K = X.K) (q1 : CgQ g own t T) (h : tE g B W (mComp o own T mt me m) σ H Q) :
    tLc (fun σ H R => iList X.K (tE g B W m) σ H R ∨ iTup X.K (tE g B W m) σ H R) t (tT g B (fun _ _ _ _ => False) mt) (tE g B (fun _ _ _ _ => False) me) own σ H Q := by
  obtain ⟨env, s, sr, p⟩ := h
  have p : PostE g B W env s σ H ((m env s.h).bind fun x h1 => match seqC? h1 x with
    | some (_, xs) => compL o T mt me xs [] (wipeE env own) h1
    | none => .stuck) Q := p
  cases em : m env s.h with
  | ok x h1 =>
    rw [em] at p
    have p : PostE g B W env s σ H (match seqC? h1 x with
      | some (_, xs) => compL o T mt me xs [] (wipeE env own) h1
      | none => .stuck) Q := p
    cases es : seqC? h1 x with
    | none => rw [es] at p; exact p.elim
    | some q =>
      obtain ⟨bb, xs⟩ := q
      rw [es] at p
      have p : PostE g B W env s σ H (compL o T mt me xs [] (wipeE env own) h1) Q := p
      cases bb with
      | true =>
        refine .inl ⟨env, s, sr, ?_⟩
        rw [em]
        intro v H1 s1 e1 ev sr1 vr
        obtain ⟨a, vs, rfl, hsrc, hr⟩ := src_of sr1.good vr (by rw [e1]; exact es)
        have sq : ∀ {s' : Sta} {H' : Hp}, Good g s' H' → Evo s1 H1 s' H' → SqL X.K H' a vs := fun gd e2 => by
          rcases hsrc.evo e2 with z | ⟨z, _⟩
          · exact hK ▸ z.sqL gd
          · exact .of z
        refine ⟨a, rfl, ⟨vs, sq sr1.good (Evo.refl _ _)⟩, fun Dn hD => lc_list (xs := vs) (fun i H => CInv g B W env s1 σ H1 own o T mt me Q Dn (xs.drop i) H) ?_ (fun i H _ c => ?_) (fun i y H hi c => ?_) (fun H c => ?_)⟩
        · exact comp_start sr1 hD (by rw [e1]; exact PostE.later ev p)
        · obtain ⟨s', _, _, gd, e2, _⟩ := c
          exact sq gd e2
        · have hl : i < xs.length := by
            rw [← hr.length]
            exact (List.getElem?_eq_some_iff.mp hi).1
          obtain ⟨y', ey, ry⟩ := hr.get (List.getElem?_eq_getElem hl)
          rw [hi] at ey
          cases ey
          rw [List.drop_eq_getElem_cons hl] at c
          exact comp_turn q1 sr1 hD c fun s' e2 => e2.rep ry
        · rw [hr.length, List.drop_length] at c
          exact comp_end sr1 hD c
      | false =>
        refine .inr ⟨env, s, sr, ?_⟩
        rw [em]
        intro v H1 s1 e1 ev sr1 vr
        obtain ⟨a, vs, rfl, hsrc, hr⟩ := src_of sr1.good vr (by rw [e1]; exact es)
        have sq : ∀ {s' : Sta} {H' : Hp}, Good g s' H' → Evo s1 H1 s' H' → SqT X.K H' a vs := fun gd e2 => hK ▸ gd.sqT (show SqT g.K _ a vs from hsrc.evo e2)
        refine ⟨a, rfl, ⟨vs, sq sr1.good (Evo.refl _ _)⟩, fun Dn hD => lc_tup (xs := vs) (fun i H => CInv g B W env s1 σ H1 own o T mt me Q Dn (xs.drop i) H) ?_ (fun i H _ c => ?_) (fun i y H hi c => ?_) (fun H c => ?_)⟩
        · exact comp_start sr1 hD (by rw [e1]; exact PostE.later ev p)
        · obtain ⟨s', _, _, gd, e2, _⟩ := c
          exact sq gd e2
        · have hl : i < xs.length := by
            rw [← hr.length]
            exact (List.getElem?_eq_some_iff.mp hi).1
          obtain ⟨y', ey, ry⟩ := hr.get (List.getElem?_eq_getElem hl)
          rw [hi] at ey
          cases ey
          rw [List.drop_eq_getElem_cons hl] at c
          exact comp_turn q1 sr1 hD c fun s' e2 => e2.rep ry
        · rw [hr.length, List.drop_length] at c
          exact comp_end sr1 hD c
  | exc x h1 =>
    rw [em] at p
    refine .inl ⟨env, s, sr, ?_⟩
    rw [em]
    exact p
  | stuck =>
    rw [em] at p
    exact p.elim
theorem lc_rangeOf {env : Env} {s1 : Sta} {lo : Int} {n : Nat} (q1 : CgQ g own t T) (sr1 : SR g B env s1 σ H) (p : PostE g B W env s1 σ H (compL o T mt me (rangeD lo n) [] (wipeE env own) s1.h) Q) (Dn : Addr) (hD : H Dn = none) :
    ∃ W' : Nat → Nat → Hp → Prop, (∃ m, W' 0 m (upd H Dn (.lst []))) ∧ ∀ i m H, W' i m H →
      ((Itr lo n).stop i H ∧ Q (.ref Dn) H) ∨ ((Itr lo n).go i H ∧ ∃ Nx : Hp → Prop, (∀ H', Nx H' → ∃ m', m' < m ∧ W' (i + 1) m' H') ∧ ∀ x H', (Itr lo n).yld i H x H' → t x (wipe σ own) H' fun σ2 H2 => wipe σ2 own = wipe σ own ∧ tT g B (fun _ _ _ _ => False) mt σ2 H2 fun b H3 =>
        if b = true then tE g B (fun _ _ _ _ => False) me σ2 H3 fun y H4 => ∃ acc, H4 Dn = some (.lst acc) ∧ acc.length < sizeLine ∧ Nx (upd H4 Dn (.lst (acc ++ [y]))) else Nx H3) := by
  refine lc_range (fun i H' => CInv g B W env s1 σ H own o T mt me Q Dn ((rangeD lo n).drop i) H') ?_ (fun i H' hi c => ?_) (fun H' c => ?_)
  · exact comp_start sr1 hD p
  · have hl : i < (rangeD lo n).length := by rw [rangeD_len]; exact hi
    rw [List.drop_eq_getElem_cons hl, rangeD_get] at c
    exact comp_turn q1 sr1 hD c fun s' e2 => (show Rep g s'.F s'.al (.int (lo + (i : Nat))) (.int (lo + (i : Nat))) from rfl)
  · rw [show (rangeD lo n).drop n = [] from List.drop_eq_nil_of_le (by rw [rangeD_len]; exact Nat.le_refl _)] at c
    exact comp_end sr1 hD c
end
section
variable {X : Cx} {g : Gi} {B : Bg} {W : WXv} {own : List (Str × Nat)} {o : Bool} {T : TgF} {mt : MB} {me m : ME} {t : TG} {elt tg iter : Expr} {ifs : List Expr} {scope : Scope} {pos p' rp : Pos} {ma : MA}
theorem vs_setLc (o : Bool) {i : Nat} {y : Str} {py spos : Pos} (b : Bd X g W) (hN : X.N.Nodup) (hy : X.N[i]? = some y) (hyl : X.env.scope.names.lookup y = some .local) (hsw : swapsWith (.ListComp elt [⟨tg, iter, ifs, 0⟩] scope pos) (some (.Name y py)) spos.line X.env = pure true)
    (he : PE X iter (tE g B W m)) (ok : BlkOk X.N X.env.scope scope own) (q1 : CgQ g (own.map (·.2)) t T)
    (hg : ∀ (s : Shared) (H : Hp) (C : Addr) (cl : List (Str × Addr)) (fp : List Addr), PG (X.blk s H scope (compEnvC scope cl C X.env) fp) tg t)
    (ht : ∀ (s : Shared) (H : Hp) (C : Addr) (cl : List (Str × Addr)) (fp : List Addr), PTs (X.blk s H scope (compEnvC scope cl C X.env) fp) ifs (tT g B (fun _ _ _ _ => False) mt))
    (hel : ∀ (s : Shared) (H : Hp) (C : Addr) (cl : List (Str × Addr)) (fp : List Addr), PE (X.blk s H scope (compEnvC scope cl C X.env) fp) elt (tE g B (fun _ _ _ _ => False) me)) (hs : ∀ x, foldedSetIterable iter X.env x = pure x := by intro _; rfl) :
    PS X (.Assign [.Name y py] (.ListComp elt [⟨tg, iter, ifs, 0⟩] scope pos) spos) (tS g B W (mSet i (mComp o (own.map (·.2)) T mt me m))) := by
  refine ps_imp (ps_setLc b.calm hN hy hyl hsw (pi_or (pi_list (tg := tg) he) (pi_tup he)) ok hg ht hel hs) fun N σ H ⟨env, s, sr, p⟩ => ?_
  refine lc_of (W := W) (o := o) b.K q1 ?_
  exact (bindS sr p).mono fun v H1 ⟨s1, x, sr1, l1, r1, p1⟩ => setPost sr1 r1 p1
theorem range1_of {σ : L2.St} {H : Hp} {Q : VK} (q1 : CgQ g (own.map (·.2)) t T) (h : tE g B W (mCompR o (own.map (·.2)) T mt me ma) σ H Q) :
    tLc (iRng1 (tA g B W ma)) t (tT g B (fun _ _ _ _ => False) mt) (tE g B (fun _ _ _ _ => False) me) (own.map (·.2)) σ H Q := by
  obtain ⟨env, s, sr, p⟩ := h
  refine (bindA (Q := Q) sr p).mono fun vs H1 ⟨s1, xs, sr1, _, r1, p1⟩ => ?_
  split at p1
  · next j =>
    obtain ⟨v, rfl, r⟩ := r1.one
    split at p1
    · next hj =>
      have r : v = .int j := r
      exact ⟨j, by rw [r], hj.1, hj.2, fun Dn hD => lc_rangeOf q1 sr1 p1 Dn hD⟩
    · exact p1.elim
  · exact p1.elim
theorem ve_lcR (o : Bool) {a : Expr} (b : Bd X g W) (hN : X.N.Nodup) (hgr : Gl X "range") (hm : X.mg "range" = none) (ha : PA X [a] (tA g B W ma)) (ok : BlkOk X.N X.env.scope scope own) (q1 : CgQ g (own.map (·.2)) t T)
    (hg : ∀ (s : Shared) (H : Hp) (C : Addr) (cl : List (Str × Addr)) (fp : List Addr), PG (X.blk s H scope (compEnvC scope cl C X.env) fp) tg t)
    (ht : ∀ (s : Shared) (H : Hp) (C : Addr) (cl : List (Str × Addr)) (fp : List Addr), PTs (X.blk s H scope (compEnvC scope cl C X.env) fp) ifs (tT g B (fun _ _ _ _ => False) mt))
    (hel : ∀ (s : Shared) (H : Hp) (C : Addr) (cl : List (Str × Addr)) (fp : List Addr), PE (X.blk s H scope (compEnvC scope cl C X.env) fp) elt (tE g B (fun _ _ _ _ => False) me))
    (hst : starEach [a] X.env = [(false, eval a X.env)] := by rfl) (hs : ∀ x, foldedSetIterable (.Call (.Name "range" p') [a] [] rp) X.env x = pure x := by intro _; rfl) :
    PE X (.ListComp elt [⟨tg, .Call (.Name "range" p') [a] [] rp, ifs, 0⟩] scope pos) (tE g B W (mCompR o (own.map (·.2)) T mt me ma)) :=
  pe_imp (pe_lc b.calm hN (pi_range1 (tg := tg) hgr hm ha hst) ok hg ht hel hs) fun σ H Q h => range1_of q1 h
theorem vs_setLcR (o : Bool) {i : Nat} {y : Str} {py spos : Pos} {a : Expr} (b : Bd X g W) (hN : X.N.Nodup) (hy : X.N[i]? = some y) (hyl : X.env.scope.names.lookup y = some .local) (hsw : swapsWith (.ListComp elt [⟨tg, .Call (.Name "range" p') [a] [] rp, ifs, 0⟩] scope pos) (some (.Name y py)) spos.line X.env = pure true)
    (hgr : Gl X "range") (hm : X.mg "range" = none) (ha : PA X [a] (tA g B W ma)) (ok : BlkOk X.N X.env.scope scope own) (q1 : CgQ g (own.map (·.2)) t T)
    (hg : ∀ (s : Shared) (H : Hp) (C : Addr) (cl : List (Str × Addr)) (fp : List Addr), PG (X.blk s H scope (compEnvC scope cl C X.env) fp) tg t)
    (ht : ∀ (s : Shared) (H : Hp) (C : Addr) (cl : List (Str × Addr)) (fp : List Addr), PTs (X.blk s H scope (compEnvC scope cl C X.env) fp) ifs (tT g B (fun _ _ _ _ => False) mt))
    (hel : ∀ (s : Shared) (H : Hp) (C : Addr) (cl : List (Str × Addr)) (fp : List Addr), PE (X.blk s H scope (compEnvC scope cl C X.env) fp) elt (tE g B (fun _ _ _ _ => False) me))
    (hst : starEach [a] X.env = [(false, eval a X.env)] := by rfl) (hs : ∀ x, foldedSetIterable (.Call (.Name "range" p') [a] [] rp) X.env x = pure x := by intro _; rfl) :
    PS X (.Assign [.Name y py] (.ListComp elt [⟨tg, .Call (.Name "range" p') [a] [] rp, ifs, 0⟩] scope pos) spos) (tS g B W (mSet i (mCompR o (own.map (·.2)) T mt me ma))) := by
  refine ps_imp (ps_setLc b.calm hN hy hyl hsw (pi_range1 (tg := tg) hgr hm ha hst) ok hg ht hel hs) fun N σ H ⟨env, s, sr, p⟩ => ?_
  refine range1_of (W := W) (o := o) q1 ?_
  exact (bindS sr p).mono fun v H1 ⟨s1, x, sr1, l1, r1, p1⟩ => setPost sr1 r1 p1
end
end Vi
namespace Vi
open PySem L2 PyProof.Rows
def mRetC (m : ME) : MS := fun env h => (m env h).thenS env fun x h1 => match x with
  | .tl xs => .ret (.ref h1.length) (h1 ++ [.lst xs])
  | _ => .stuck
def Sta.addC (s : Sta) (a : Addr) (c : Cell) : Sta := { F := s.F, al := fun n => if n = s.h.length then some a else s.al n, h := s.h ++ [c], z := s.z }
section
variable {g : Gi} {B : Bg} {W : WXv} {env : Env} {s : Sta} {σ : L2.St} {H : Hp}
theorem addC_le {a : Addr} {c : Cell} (gd : Good g s H) : Le s (s.addC a c) := ⟨fun _ _ h => h, fun n b h => by
  show (if n = s.h.length then some a else s.al n) = some b
  have := (gd.dom n b h).1
  rw [if_neg (by omega)]
  exact h, fun _ _ h => h⟩
theorem addC_at {a : Addr} {c d : Cell} {n : Nat} (h : (s.addC a c).h[n]? = some d) : (n < s.h.length ∧ s.h[n]? = some d) ∨ (n = s.h.length ∧ d = c) := by
  have h : (s.h ++ [c])[n]? = some d := h
  by_cases e : n < s.h.length
  · rw [List.getElem?_append_left e] at h
    exact .inl ⟨e, h⟩
  · rw [List.getElem?_append_right (by omega)] at h
    have e2 : n = s.h.length := by
      have := (List.getElem?_eq_some_iff.mp h).1
      simp at this
      omega
    subst e2
    rw [Nat.sub_self] at h
    cases h
    exact .inr ⟨rfl, rfl⟩
theorem addC_goodC {a : Addr} {c : Cell} (gd : Good g s H) (hc : CellRep g s H a c) (hx : ∃ o, H a = some o) (hf : s.F a = none) (hn : ∀ n, s.al n ≠ some a) (nf : ∀ c0, c ≠ .frz c0) : Good g (s.addC a c) H := by
  have le := addC_le (a := a) (c := c) gd
  have cases_ : ∀ {n : Nat} {b : Addr}, (s.addC a c).al n = some b → (n = s.h.length ∧ b = a) ∨ (n ≠ s.h.length ∧ s.al n = some b) := fun {n b} h => by
    have h : (if n = s.h.length then some a else s.al n) = some b := h
    by_cases e : n = s.h.length
    · rw [if_pos e] at h
      cases h
      exact .inl ⟨e, rfl⟩
    · rw [if_neg e] at h
      exact .inr ⟨e, h⟩
  have zed : ZOk (s.addC a c) H := ⟨fun m o h => by
      obtain ⟨b, c0, h1, h2, h3⟩ := gd.zed.at_ m o h
      refine ⟨b, c0, le.al _ _ h1, h2, ?_⟩
      show (s.h ++ [c])[m]? = _
      rw [List.getElem?_append_left (List.getElem?_eq_some_iff.mp h3).1]
      exact h3, fun m c0 h => by
      rcases addC_at h with ⟨_, h⟩ | ⟨_, h⟩
      · exact gd.zed.of m c0 h
      · exact absurd h.symm (nf _)⟩
  refine ⟨gd.fle, fun n m b h1 h2 => ?_, fun n b h => ?_, fun n d h => ?_, zed⟩
  · rcases cases_ h1 with ⟨e1, rfl⟩ | ⟨e1, k1⟩
    · rcases cases_ h2 with ⟨e2, _⟩ | ⟨_, k2⟩
      · rw [e1, e2]
      · exact absurd k2 (hn m)
    · rcases cases_ h2 with ⟨e2, rfl⟩ | ⟨_, k2⟩
      · exact absurd k1 (hn n)
      · exact gd.inj n m b k1 k2
  · have hl : (s.addC a c).h.length = s.h.length + 1 := by
      show (s.h ++ [c]).length = _
      rw [List.length_append]
      rfl
    rcases cases_ h with ⟨e1, rfl⟩ | ⟨_, k1⟩
    · exact ⟨by omega, hf, hx⟩
    · obtain ⟨h1, h2, h3⟩ := gd.dom n b k1
      exact ⟨by omega, h2, h3⟩
  · rcases addC_at h with ⟨_, h⟩ | ⟨rfl, rfl⟩
    · obtain ⟨b, h1, h2⟩ := gd.cell n d h
      exact ⟨b, le.al _ _ h1, h2.mv (fun _ z => z) le.f le.al⟩
    · exact ⟨a, if_pos rfl, hc.mv (fun _ z => z) le.f le.al⟩
theorem addC_good {a : Addr} {xs : List D} {vs : List L2.V} (gd : Good g s H) (ha : H a = some (.lst vs)) (hf : s.F a = none) (hn : ∀ n, s.al n ≠ some a) (r : Reps g s.F s.al xs vs) : Good g (s.addC a (.lst xs)) H :=
  addC_goodC gd ⟨vs, ha, r⟩ ⟨_, ha⟩ hf hn fun _ z => by cases z
theorem addC_evo {s0 : Sta} {H0 : Hp} {a : Addr} {c : Cell} (gd : Good g s H) (ev : Evo s0 H0 s H) (hb : H0 a = none) : Evo s0 H0 (s.addC a c) H := by
  have le := addC_le (a := a) (c := c) gd
  refine ⟨ev.f, fun n b h => le.al _ _ (ev.al n b h), fun b o h n => ?_, ?_, ?_⟩
  · obtain ⟨h1, h2, h3⟩ := ev.oth b o h n
    refine ⟨h1, h2, fun m z => ?_⟩
    have z : (if m = s.h.length then some a else s.al m) = some b := z
    by_cases e : m = s.h.length
    · rw [if_pos e] at z
      cases z
      rw [hb] at h
      cases h
    · rw [if_neg e] at z
      exact h3 m z
  · show _ ≤ (s.h ++ [c]).length
    rw [List.length_append]
    exact Nat.le_trans ev.len (Nat.le_add_right _ _)
  · exact ev.z
end
section
variable {X : Cx} {g : Gi} {B : Bg} {W : WXv} {pos : Pos} {e : Expr} {m : ME}
theorem vs_retC (he : PE X e (tE g B W m)) : PS X (.Return (some e) pos) (tS g B W (mRetC m)) := by
  refine ps_imp (ps_ret he) fun N σ H ⟨env, s, sr, p⟩ => ?_
  refine (bindS sr p).mono fun v H1 ⟨s1, x, sr1, l1, r1, p1⟩ => ?_
  cases x with
  | tl xs =>
    obtain ⟨a, vs, rfl, h1, h2, h3, h4⟩ := r1
    exact p1 (.ref a) H1 (s1.addC a (.lst xs)) rfl (addC_evo sr1.good sr1.evo h2.new) (addC_good sr1.good h1 h2.f h2.al h4) ⟨a, rfl, if_pos rfl⟩
  | d _ => exact p1.elim
  | bl _ => exact p1.elim
  | bi _ _ => exact p1.elim
end
def frzE (i : Nat) (env : Env) : Env := match env[i]? with
  | some (some (.ol xs)) => env.set i (some (.d (.lst xs)))
  | _ => env
section
variable {g : Gi} {B : Bg} {W : WXv} {env : Env} {s : Sta} {σ : L2.St} {H : Hp}
end
def mFrz (i : Nat) (m : MS) : MS := fun env h => m (frzE i env) h
def fSetIxO (i : Nat) (env : Env) (xs : List D) (x z : Vl) (h3 : Hc) : RS := match x, z with
  | .d d, .d (.int k) => (match ixN xs.length k with
    | some j => .nx (env.set i (some (.ol (xs.set j d)))) h3
    | none => .stuck)
  | _, _ => .stuck
def mSetIxO (i : Nat) (e k : ME) : MS := fun env h => match env[i]? with
  | some (some (.ol xs)) => (e env h).thenS env fun x h1 => (k env h1).thenS env fun z h3 => fSetIxO i env xs x z h3
  | _ => .stuck
section
variable {X : Cx} {g : Gi} {B : Bg} {W : WXv} {pos tpos : Pos} {e o k : Expr} {m mk : ME}
end
end Vi
namespace Vi
open PySem L2 PyProof.Rows
structure DefV where
  pth : PySem.W.Frag → Addr
  name : Str
  qual : Str
  params : Arguments
  body : List Stmt
  scope : Scope
  dfl : List He.Dv := []
def fnAt (K : PySem.W.Frag) (a : Addr) : He.FnW :=
  match K.lookup a with
  | some ⟨_, _, .func z, _⟩ =>
    some (z.name, z.qualname, z.params, z.body, z.scope, z.globals, z.closure, z.builtins)
  | _ => none
def DefV.want (d : DefV) : He.FnW :=
  some (d.name, d.qual, d.params, .stmts d.body, d.scope, mainGlobals, [], builtinsNs)
def DefV.dv (K : PySem.W.Frag) (d : DefV) : List L2.V :=
  d.dfl.map (He.Dv.v K)
def DefV.good (K : PySem.W.Frag) (d : DefV) : Bool :=
  PySem.W.keepIn K (.ref (d.pth K)) &&
  (match K.lookup (d.pth K) with
  | some ⟨_, _, .func z, _⟩ =>
    PySem.W.codeIn K z.code d.qual && He.dflB K z.defaults (d.dv K)
  | _ => false)
theorem DefV.fun_ {K : PySem.W.Frag} {d : DefV} (e : fnAt K (d.pth K) = d.want) (c : d.good K = true) : ∃ fd, FunD K d.name d.qual d.params d.body d.scope (d.dv K) [] (d.pth K) fd := by
  obtain ⟨kp, c2⟩ := Bool.and_eq_true_iff.mp c
  unfold fnAt at e
  cases q : K.lookup (d.pth K) with
  | none => rw [q] at c2; cases c2
  | some o =>
    obtain ⟨oc, od, dt, osl⟩ := o
    rw [q] at c2 e
    cases dt with
    | func z =>
      obtain ⟨z1, z2, z3, z4, z5, z6, z7, z8, z9, z10, z11, z12, z13, z14, z15⟩ := z
      have e2 : (some (z1, z2, z3, z4, z5, z6, z7, z15) : He.FnW) = d.want := e
      unfold DefV.want at e2
      simp only [Option.some.injEq, Prod.mk.injEq] at e2
      obtain ⟨p1, p2, p3, p4, p5, p6, p7, p8⟩ := e2
      subst p1 p2 p3 p4 p5 p6 p7 p8
      have c3 : (PySem.W.codeIn K z13 d.qual && He.dflB K z8 (d.dv K)) = true := c2
      obtain ⟨k1, k2⟩ := Bool.and_eq_true_iff.mp c3
      exact ⟨_, ⟨oc, od, z8, z9, z10, z11, z12, z13, z14, osl, rfl, q, k1, He.dflB_ok k2, .inl rfl⟩, kp⟩
    | _ => cases c2
def reach (g : Addr → Option Obj) (roots : List Addr) : Nat → List Addr
  | 0 => roots
  | n + 1 => He.growD g (reach g roots n)
abbrev AlV : Type := Bool × List He.FnW
def obsV (ck : List (PySem.W.Frag → Bool)) (fn : List DefV) (K : PySem.W.Frag) : AlV :=
  ((ck.all fun f => f K) && (fn.all fun d => d.good K), fn.map fun d => fnAt K (d.pth K))
def wantV (fn : List DefV) : AlV := (true, fn.map DefV.want)
def SaysV (ck : List (PySem.W.Frag → Bool)) (fn : List DefV) (K : PySem.W.Frag) : Prop := obsV ck fn K = wantV fn
def obsVG (n : Nat) (ck : List (PySem.W.Frag → Bool)) (fn : List DefV) (g : Addr → Option Obj) : AlV :=
  obsV ck fn (He.frG g (reach g [mainGlobals, cStatics] n))
def hookV (n : Nat) (ck : List (PySem.W.Frag → Bool)) (fn : List DefV) : PySem.W.Hook where
  α := AlV
  obs := fun s => obsVG n ck fn s.heap.get?
  val := fun _ => wantV fn
  says := fun _ h => ∃ K : PySem.W.Frag, K.In h ∧ SaysV ck fn K
  of := fun _ _ e => ⟨_, He.frG_in, e⟩
  keeps := fun _ _ _ ⟨K, i, c⟩ k => ⟨K, PySem.W.Frag.In.keeps i k, c⟩
section
variable {ck : List (PySem.W.Frag → Bool)} {fn : List DefV} {K : PySem.W.Frag}
theorem SaysV.fact (c : SaysV ck fn K) (i : Nat) {f : PySem.W.Frag → Bool} (h : ck[i]? = some f := by rfl) : f K = true := by
  have c1 := (Bool.and_eq_true_iff.mp (congrArg Prod.fst c)).1
  exact List.all_eq_true.mp c1 f (List.mem_of_getElem? h)
theorem SaysV.fun_ (c : SaysV ck fn K) (i : Nat) {d : DefV} (h : fn[i]? = some d := by rfl) : ∃ fd, FunD K d.name d.qual d.params d.body d.scope (d.dv K) [] (d.pth K) fd := by
  have c2 := (Bool.and_eq_true_iff.mp (congrArg Prod.fst c)).2
  have e : fn.map (fun d => fnAt K (d.pth K)) = fn.map DefV.want := congrArg Prod.snd c
  have e2 := congrArg (fun l => l[i]?) e
  simp only [List.getElem?_map, h, Option.map_some] at e2
  exact DefV.fun_ (Option.some.inj e2) (List.all_eq_true.mp c2 d (List.mem_of_getElem? h))
end
def recFn (K : PySem.W.Frag) (a : Addr) (n : String) : Addr := match PySem.W.recIn K a n with
  | some (.ref f :: _) => f
  | _ => 0
def eqv (a b : Option (Option Value)) : Bool := decide (a = b)
theorem eqv_ok {a b : Option (Option Value)} (h : eqv a b = true) : a = b := of_decide_eq_true h
abbrev pG (x : Str) : PySem.W.Frag → Addr := fun K => He.ga K x
abbrev pM (c m : Str) : PySem.W.Frag → Addr := fun K => He.ma K (He.ga K c) m
abbrev pP (c m : Str) : PySem.W.Frag → Addr := fun K => recFn K (He.ma K (He.ga K c) m) "property"
abbrev pC (c m : Str) : PySem.W.Frag → Addr := fun K => recFn K (He.ma K (He.ga K c) m) "classmethod"
def kIcls (c : Str) (K : PySem.W.Frag) : Bool :=
  (He.Fa.cls c).ok K && (eqv (PySem.W.findIn K (.ref (He.ga K c)) "__class__") (some (some (.builtin "object.__class__"))) &&
  (decide (PySem.W.mroIn K (He.ga K c) (.type "object") = some true) && PySem.W.selfFirst K (He.ga K c)))
theorem kIcls_ok {c : Str} {K : PySem.W.Frag} (h : kIcls c K = true) : ClsOk K (He.ga K c) ∧ PySem.W.selfFirst K (He.ga K c) = true := by
  obtain ⟨h1, h⟩ := Bool.and_eq_true_iff.mp h
  obtain ⟨h2, h⟩ := Bool.and_eq_true_iff.mp h
  obtain ⟨h3, h4⟩ := Bool.and_eq_true_iff.mp h
  exact ⟨⟨He.cls_ok h1, eqv_ok h2, of_decide_eq_true h3⟩, h4⟩
def kProp (c f : Str) (K : PySem.W.Frag) : Bool :=
  eqv (PySem.W.findIn K (.ref (He.ga K c)) f) (some (some (.ref (He.ma K (He.ga K c) f)))) &&
  (eqv (PySem.W.specialIn K (.ref (He.ma K (He.ga K c) f)) "__get__") (some (some (.builtin "property.__get__"))) &&
  (decide (PySem.W.takesIn K (.ref (He.ma K (He.ga K c) f)) = some true) &&
  (match PySem.W.recIn K (He.ma K (He.ga K c) f) "property" with
  | some (.ref _ :: _) => true
  | _ => false)))
def isGet (r : Option PySem.W.CFound) (g a o t : Value) : Bool := match r with
  | some (.get g' a' o' t') => decide (g' = g) && (decide (a' = a) && (decide (o' = o) && decide (t' = t)))
  | _ => false
def kCmet (c m : Str) (K : PySem.W.Frag) : Bool :=
  PySem.W.readsIn K (He.ga K c) (.type "type") && (eqv (PySem.W.specialIn K (.ref (He.ga K c)) "__getattribute__") (some (some (.builtin "type.__getattribute__"))) &&
  (isGet (PySem.W.findCls K (.ref (He.ga K c)) (.type "type") m) (.builtin "classmethod.__get__") (.ref (He.ma K (He.ga K c) m)) .none (.ref (He.ga K c)) &&
  (PySem.W.fnIn K (pC c m K) &&
  (match PySem.W.recIn K (He.ma K (He.ga K c) m) "classmethod" with
  | some (.ref _ :: _) => true
  | _ => false))))
def kOp (c m : Str) (K : PySem.W.Frag) : Bool := (He.Fa.meth c m).ok K
def kKit (t u : PySem.W.Frag → Value) (b : Bool) (K : PySem.W.Frag) : Bool := decide (PySem.W.kitOne K (t K) (u K) = some b)
def kNotFirst (c : Str) (t : PySem.W.Frag → Value) (K : PySem.W.Frag) : Bool := PySem.W.notFirst K (He.ga K c) (t K)
def kCatch (c x : Str) (b : Bool) (K : PySem.W.Frag) : Bool := decide (PySem.W.exmOne K (.ref (He.ga K c)) (.ref (He.ga K x)) = some b)
def kObjGet (K : PySem.W.Frag) : Bool :=
  eqv (PySem.W.specialIn K (.builtin "object.__class__") "__get__") (some (some (.builtin "getset_descriptor.__get__"))) &&
  decide (PySem.W.takesIn K (.builtin "object.__class__") = some true)
def kExo (c : Str) (K : PySem.W.Frag) : Bool :=
  (match K.lookup (He.ga K c) with
  | some ⟨.type "type", _, .cls cd, sl⟩ => (match cd.mro, sl.toList with
    | .ref C' :: bm, [_, _, _, _, some (.builtin n), _] =>
      C' == He.ga K c && (n == "ValueError.__new__" && (!cd.hasDel && (cd.hasDict && PySem.HandSPX.refsVE bm)))
    | _, _ => false)
  | _ => false) &&
  (eqv (PySem.W.findIn K (.ref (He.ga K c)) "__setattr__") (some (some (.builtin "object.__setattr__"))) &&
  (decide (PySem.W.subIn K (.ref (He.ga K c)) (.type "BaseException") = some true) &&
  (decide (PySem.W.typeIn K (.ref (He.ga K c)) = some (.type "type")) && PySem.W.keepIn K (.ref (He.ga K c)))))
theorem kExo_ok {c : Str} {K : PySem.W.Frag} (h : kExo c K = true) : OexC K (He.ga K c) := by
  obtain ⟨h1, h⟩ := Bool.and_eq_true_iff.mp h
  obtain ⟨h2, h⟩ := Bool.and_eq_true_iff.mp h
  obtain ⟨h3, h⟩ := Bool.and_eq_true_iff.mp h
  obtain ⟨h4, h5⟩ := Bool.and_eq_true_iff.mp h
  refine ⟨?_, eqv_ok h2, of_decide_eq_true h3, of_decide_eq_true h4, h5⟩
  split at h1
  · next dd cd sl ho =>
    split at h1
    · next C' bm k0 k1 k2 k3 n k5 hm hs =>
      simp only [Bool.and_eq_true, beq_iff_eq, Bool.not_eq_true'] at h1
      obtain ⟨rfl, rfl, hdel, hdic, hve⟩ := h1
      obtain ⟨nm, bs, mro, ns, qn, hd, sn, sub, ab, col, del⟩ := cd
      dsimp only at hm hdel hdic
      subst hdel hdic
      have hsl : sl = #[k0, k1, k2, k3, some (.builtin "ValueError.__new__"), k5] := by
        obtain ⟨l⟩ := sl
        simp only at hs
        rw [hs]
      subst hsl
      rw [hm] at ho
      exact ⟨nm, qn, ns, bs, bm, sn, sub, ab, col, dd, k0, k1, k2, k3, k5, ho, hve⟩
    · cases h1
  · cases h1
def kXc (c : Str) (K : PySem.W.Frag) : Bool :=
  xfB K (He.ga K c) && (eqv (PySem.W.findIn K (.ref (He.ga K c)) "__class__") (some (some (.builtin "object.__class__"))) &&
  (decide (PySem.W.mroIn K (He.ga K c) (.type "object") = some true) && kObjGet K))
theorem kXc_ok {c : Str} {K : PySem.W.Frag} (h : kXc c K = true) : XfC K (He.ga K c) ∧ L2.ExcC K (He.ga K c) := by
  obtain ⟨h1, h⟩ := Bool.and_eq_true_iff.mp h
  obtain ⟨h2, h⟩ := Bool.and_eq_true_iff.mp h
  obtain ⟨h3, h⟩ := Bool.and_eq_true_iff.mp h
  obtain ⟨h4, h5⟩ := Bool.and_eq_true_iff.mp h
  have x := xfB_ok h1
  exact ⟨x, x.ga, x.gg, x.exC, x.hdC, eqv_ok h2, eqv_ok h4, of_decide_eq_true h5, of_decide_eq_true h3⟩
end Vi
namespace Vi
open PySem L2 PyProof.Rows
structure PD where
  nm : List Str
  cls : List Nat
  fld : List (Nat × Str)
  isi : List ((Ty × Ty) × Bool)
  xcs : List Nat
  xno : List (Nat × Str)
  nf : List (Nat × Ty)
  kcs : List (List D)
mutual
def sameD : D → D → Bool
  | .non, .non => true
  | .bl a, .bl b => a == b
  | .int a, .int b => decide (a = b)
  | .str a, .str b => decide (a = b)
  | .tup xs, .tup ys => sameDs xs ys
  | _, _ => false
def sameDs : List D → List D → Bool
  | [], [] => true
  | x :: xs, y :: ys => sameD x y && sameDs xs ys
  | _, _ => false
end
def PD.ca (P : PD) (K : PySem.W.Frag) (c : Nat) : Addr := He.ga K (P.nm.getD c Str.empty)
def PD.val (P : PD) (K : PySem.W.Frag) : Ty → Value
  | .bt n => .type n
  | .own c => .ref (P.ca K c)
def PD.gi (P : PD) (K : PySem.W.Frag) : Gi where
  K := K
  ca := P.ca K
  isC := fun c => decide (c ∈ P.cls)
  fld := fun c f => decide ((c, f) ∈ P.fld)
  isi := fun t u => P.isi.lookup (t, u)
  kc := fun ds => P.kcs.any fun es => sameDs es ds
def PD.ok (P : PD) (K : PySem.W.Frag) : Bool :=
  (P.cls.all fun c => kIcls (P.nm.getD c Str.empty) K) && ((P.fld.all fun p => decide (p.1 ∈ P.cls) && eqv (PySem.W.findIn K (.ref (P.ca K p.1)) p.2) (some none)) &&
  (kObjGet K && ((P.isi.all fun e => decide (PySem.W.kitOne K (P.val K e.1.1) (P.val K e.1.2) = some e.2)) &&
  ((P.xcs.all fun c => kXc (P.nm.getD c Str.empty) K) && ((P.xno.all fun p => eqv (PySem.W.findIn K (.ref (P.ca K p.1)) p.2) (some none)) &&
  P.nf.all fun p => PySem.W.notFirst K (P.ca K p.1) (P.val K p.2))))))
theorem PD.val_eq {P : PD} {K : PySem.W.Frag} (t : Ty) : t.val (P.gi K) = P.val K t := by cases t <;> rfl
theorem mem_of_lookup {α β : Type} [BEq α] [LawfulBEq α] {a : α} {b : β} : ∀ {l : List (α × β)}, l.lookup a = some b → (a, b) ∈ l
  | [], h => by cases h
  | (c, d) :: r, h => by
    rw [List.lookup_cons] at h
    cases e : (a == c) with
    | true =>
      rw [e] at h
      cases h
      rw [eq_of_beq e]
      exact List.mem_cons_self ..
    | false =>
      rw [e] at h
      exact List.mem_cons_of_mem _ (mem_of_lookup h)
section
variable {P : PD} {K : PySem.W.Frag}
theorem PD.giOk (h : P.ok K = true) : GiOk (P.gi K) := by
  obtain ⟨h1, h⟩ := Bool.and_eq_true_iff.mp h
  obtain ⟨h2, h⟩ := Bool.and_eq_true_iff.mp h
  obtain ⟨h3, h⟩ := Bool.and_eq_true_iff.mp h
  obtain ⟨h4, h⟩ := Bool.and_eq_true_iff.mp h
  obtain ⟨k1, k2⟩ := Bool.and_eq_true_iff.mp h3
  refine ⟨fun c hc => (kIcls_ok (List.all_eq_true.mp h1 c (of_decide_eq_true hc))).1, fun c f hf => ?_, eqv_ok k1, of_decide_eq_true k2, fun t u b e => ?_⟩
  · obtain ⟨g1, g2⟩ := Bool.and_eq_true_iff.mp (List.all_eq_true.mp h2 (c, f) (of_decide_eq_true hf))
    exact ⟨g1, eqv_ok g2⟩
  · have z := of_decide_eq_true (List.all_eq_true.mp h4 _ (mem_of_lookup e))
    rw [PD.val_eq, PD.val_eq]
    exact z
theorem PD.sf (h : P.ok K = true) {c : Nat} (hc : c ∈ P.cls) : PySem.W.selfFirst K (P.ca K c) = true :=
  (kIcls_ok (List.all_eq_true.mp (Bool.and_eq_true_iff.mp h).1 c hc)).2
theorem PD.xcOk (h : P.ok K = true) : XcOk (P.gi K) (fun c => decide (c ∈ P.xcs)) (fun c f => decide ((c, f) ∈ P.xno)) := by
  obtain ⟨_, h⟩ := Bool.and_eq_true_iff.mp h
  obtain ⟨_, h⟩ := Bool.and_eq_true_iff.mp h
  obtain ⟨_, h⟩ := Bool.and_eq_true_iff.mp h
  obtain ⟨_, h⟩ := Bool.and_eq_true_iff.mp h
  obtain ⟨h5, h⟩ := Bool.and_eq_true_iff.mp h
  obtain ⟨h6, h⟩ := Bool.and_eq_true_iff.mp h
  exact ⟨fun c hc => kXc_ok (List.all_eq_true.mp h5 c (of_decide_eq_true hc)), fun c f hf => eqv_ok (List.all_eq_true.mp h6 (c, f) (of_decide_eq_true hf))⟩
end
structure Rdy (P : Program) (w : World) (K : PySem.W.Frag) (mg : Str → Option Value) (base : Heap) (g : Gi) (x : Str) (k n : Nat) (dd : List D) (F : Fn) : Prop where
  ex : ∃ (f : Addr) (fd : FuncData) (ps : List Str) (dvs : List L2.V) (ds : List Value), FnG P w K mg base k f fd ps (spD g ps.length F) ∧ mg x = some (.ref f) ∧ PySem.W.keepIn K (.ref f) = true ∧
    Binds K fd ps ds ∧ Vals dvs ds ∧ (∀ F al, Reps g F al dd dvs) ∧ n + dvs.length = ps.length
theorem Rdy.v {X : Cx} {g : Gi} {x : Str} {k j n : Nat} {dd : List D} {F : Fn} (h : Rdy X.prog X.w X.K X.mg X.base g x k n dd F) (hr : Room j X.A) (hj : k ≤ j) : VFn X g x n dd F := by
  obtain ⟨f, fd, ps, dvs, ds, h1, h2, h3, h4, h5, h6, h7⟩ := h.ex
  exact ⟨k, f, fd, ps, dvs, ds, h1, hr.mono hj, h2, h3, h4, h5, h6, h7⟩
structure RdyM (P : Program) (w : World) (K : PySem.W.Frag) (mg : Str → Option Value) (base : Heap) (g : Gi) (c : Nat) (m : Str) (k n : Nat) (dd : List D) (F : Fn) : Prop where
  ex : ∃ (f : Addr) (fd : FuncData) (ps : List Str) (dvs : List L2.V) (ds : List Value), FnG P w K mg base k f fd ps (spD g ps.length F) ∧ Meth K (g.ca c) m f ∧
    Binds K fd ps ds ∧ Vals dvs ds ∧ (∀ F al, Reps g F al dd dvs) ∧ (n + 1) + dvs.length = ps.length ∧ PySem.W.fnIn K f = true
  cl : g.isC c = true
theorem RdyM.v {X : Cx} {g : Gi} {c : Nat} {m : Str} {k j n : Nat} {dd : List D} {F : Fn} (h : RdyM X.prog X.w X.K X.mg X.base g c m k n dd F) (hr : Room j X.A) (hj : k ≤ j) : VMeth X g c m n dd F := by
  obtain ⟨f, fd, ps, dvs, ds, h1, h2, h3, h4, h5, h6, _⟩ := h.ex
  exact ⟨⟨k, f, fd, ps, dvs, ds, h1, hr.mono hj, h2, h3, h4, h5, h6⟩, h.cl⟩
theorem RdyM.op {X : Cx} {g : Gi} {c : Nat} {m : Str} {k j n : Nat} {F : Fn} (h : RdyM X.prog X.w X.K X.mg X.base g c m k n [] F) (sf : PySem.W.selfFirst X.K (g.ca c) = true) (hr : Room j X.A) (hj : k + 1 ≤ j) : VOp X g c m (n + 1) F := by
  obtain ⟨f, fd, ps, dvs, ds, h1, h2, h3, h4, h5, h6, h7⟩ := h.ex
  have z := h5 (fun _ => none) (fun _ => none)
  obtain rfl : dvs = [] := z
  cases h4
  exact ⟨⟨k, f, fd, ps, h1, hr.mono hj, h2.at_, h2.fn, h3, h6.symm, h7⟩, sf⟩
structure RdyP (P : Program) (w : World) (K : PySem.W.Frag) (mg : Str → Option Value) (base : Heap) (g : Gi) (c : Nat) (m : Str) (k : Nat) (F : Fn) : Prop where
  ex : ∃ (p q : Addr) (fd : FuncData) (ps : List Str), FnG P w K mg base k q fd ps (spD g ps.length F) ∧ PropOf K (g.ca c) m p q ∧ Binds K fd ps [] ∧ ps.length = 1
  cl : g.isC c = true
theorem RdyP.v {X : Cx} {g : Gi} {c : Nat} {m : Str} {k j : Nat} {F : Fn} (h : RdyP X.prog X.w X.K X.mg X.base g c m k F) (hr : Room j X.A) (hj : k + 1 ≤ j) : VProp X g c m F := by
  obtain ⟨p, q, fd, ps, h1, h2, h3, h4⟩ := h.ex
  exact ⟨⟨k, p, q, fd, ps, h1, hr.mono hj, h2, h3, h4⟩, h.cl⟩
structure RdyI (P : Program) (w : World) (K : PySem.W.Frag) (mg : Str → Option Value) (base : Heap) (g : Gi) (c : Nat) (k n : Nat) (dd : List D) (F : FnI) : Prop where
  ex : ∃ (f : Addr) (fd : FuncData) (ps : List Str) (q : Str) (dvs : List L2.V) (ds : List Value), FnG P w K mg base k f fd (q :: ps) (spI g c ps.length F) ∧ Mk K (g.ca c) f ∧
    Binds K fd (q :: ps) ds ∧ Vals dvs ds ∧ (∀ F al, Reps g F al dd dvs) ∧ n + dvs.length = ps.length
theorem RdyI.v {X : Cx} {g : Gi} {c : Nat} {k j n : Nat} {dd : List D} {F : FnI} (h : RdyI X.prog X.w X.K X.mg X.base g c k n dd F) (hr : Room j X.A) (hj : k + 1 ≤ j) : VMake X g c n dd F := by
  obtain ⟨f, fd, ps, q, dvs, ds, h1, h2, h3, h4, h5, h6⟩ := h.ex
  exact ⟨k, f, fd, ps, q, dvs, ds, h1, hr.mono hj, h2, h3, h4, h5, h6⟩
structure RdyC (P : Program) (w : World) (K : PySem.W.Frag) (mg : Str → Option Value) (base : Heap) (g : Gi) (c : Nat) (m : Str) (k n : Nat) (dd : List D) (F : Fn) : Prop where
  ex : ∃ (p f : Addr) (mc : Value) (fd : FuncData) (ps : List Str) (dvs : List L2.V) (ds : List Value), FnG P w K mg base k f fd ps (spD g ps.length F) ∧ ClX.CRead K (g.ca c) mc ∧ ClX.CMet K (g.ca c) mc m p f ∧
    Binds K fd ps ds ∧ Vals dvs ds ∧ (∀ F al, Reps g F al dd dvs) ∧ (n + 1) + dvs.length = ps.length
theorem RdyC.v {X : Cx} {g : Gi} {c : Nat} {m : Str} {k j n : Nat} {dd : List D} {F : Fn} (h : RdyC X.prog X.w X.K X.mg X.base g c m k n dd F) (hr : Room j X.A) (hj : k ≤ j) : VCMet X g c m n dd F := by
  obtain ⟨p, f, mc, fd, ps, dvs, ds, h1, h2, h3, h4, h5, h6, h7⟩ := h.ex
  exact ⟨k, p, f, mc, fd, ps, dvs, ds, h1, hr.mono hj, h2, h3, h4, h5, h6, h7⟩
structure RdyE (P : Program) (w : World) (K : PySem.W.Frag) (mg : Str → Option Value) (base : Heap) (g : Gi) (x : Str) (c k n : Nat) (mk : List D → List (Str × D)) : Prop where
  ex : ∃ (fI : Addr) (fd : FuncData) (ps : List Str) (fs : List L2.V → List (Str × L2.V)), OexC K (g.ca c) ∧ PySem.W.findIn K (.ref (g.ca c)) "__init__" = some (some (.ref fI)) ∧ PySem.W.typeIn K (.ref fI) = some (.type "function") ∧
    FnOk P w K mg base (L2.CX P w) k fI fd ps (spE (g.ca c) n fs) ∧ Binds K fd ps [] ∧ mg x = some (.ref (g.ca c)) ∧ n ≤ 1000 ∧
    (∀ F al ds ws, Reps g F al ds ws → ds.length = n → RepF g F al (mk ds) (fs ws))
theorem RdyE.v {X : Cx} {g : Gi} {x : Str} {c k j n : Nat} {mk : List D → List (Str × D)} (h : RdyE X.prog X.w X.K X.mg X.base g x c k n mk) (hr : Room j X.A) (hj : k + 1 ≤ j) : VExc X g x c n mk := by
  obtain ⟨fI, fd, ps, fs, h1, h2, h3, h4, h5, h6, h7, h8⟩ := h.ex
  exact ⟨k, fI, fd, ps, fs, h1, h2, h3, h4, hr.mono hj, h5, h6, h7, h8⟩
end Vi
namespace Vi
open PySem L2 PyProof.Rows
def Says1 (F : Fn) (n : Nat) : Prop := ∀ ns : List Int, ns.length ≤ n → ∃ h, F [.kl (ns.map D.int)] [] = .ok (.bl true) h
theorem reps_ints {g : Gi} {F : Hp} {al : Nat → Option Addr} : ∀ ns : List Int, Reps g F al (ns.map D.int) (ns.map L2.V.int)
  | [] => rfl
  | n :: r => ⟨_, _, rfl, rfl, reps_ints r⟩
theorem entry_sp {g : Gi} {K : PySem.W.Frag} (hK : g.K = K) {F : Fn} {n : Nat} {ns : List Int} {H : Hp} {a : Addr} (h : Says1 F n) (hl : ns.length ≤ n) (hS : SqL K H a (ns.map L2.V.int)) :
    spD g 1 F [.ref a] H (fun v _ => v = .bl true) (fun _ _ _ => False) := by
  obtain ⟨h', e⟩ := h ns hl
  refine ⟨⟨H, fun _ => none, [], fun _ => none⟩, [.kl (ns.map D.int)], rfl, ⟨fun _ _ z => z, fun _ _ _ z => (by cases z), fun _ _ z => (by cases z), fun n c z => (by cases z), ⟨fun _ _ z => (by cases z), fun _ _ z => (by cases z)⟩⟩, ⟨_, _, rfl, ⟨a, _, rfl, hK ▸ hS, reps_ints ns⟩, rfl⟩, ?_⟩
  rw [e]
  intro v H' s' _ _ _ r
  exact r
section
variable {P : Program} {w : World} {K : PySem.W.Frag} {mg mb : Str → Option Value} {k : Nat} {fa a : Addr} {fd : FuncData} {x : Str} {sp : Sp} {s1 : Shared} {vs : List Value} {ns : List Int}
theorem guards0 : callerA.guards = some [] := rfl
theorem run_law (KX : K.In s1.heap) (hns : s1.heap.Ns mainGlobals mg) (hb : s1.heap.Ns builtinsNs mb) (hbb : ∀ x : Str, x ≠ "__name__" → mb x = bootBuiltins x) (hlim : s1.heap.NoLimit) (hg : s1.gens = #[])
    (ha : s1.heap.get? a = some { cls := .type "list", data := .seq vs.toArray }) (hi : IntsAre vs ns) (hl : ns.length ≤ sizeLine) (hr : Room k callerA)
    (F : ∀ base : Heap, K.In base → base.Ns mainGlobals mg → FnG P w K mg base k fa fd [x] sp) (bd : ∀ (s : Shared) (u : Value), BindsTo s fd ⟨[u], []⟩ [(x, u)])
    (hsp : ∀ H : Hp, SqL K H a (ns.map L2.V.int) → sp [.ref a] H (fun v _ => v = .bl true) fun _ _ _ => False) :
    codeAny (model P w) callerA (.call (.ref fa) ⟨[.ref a], []⟩) (fun r s' => r = .ok (.ret (.bool true)) ∧ OldK s1.heap s'.heap ∧ s'.os = s1.os ∧ AllBare s'.gens) s1 := by
  have rv := vals_ints hi
  have lenV := hi.length
  have core : ∀ (H : Hp) (hO : Only H) (hS : SqL K H a (ns.map L2.V.int)) (ok : HOk P w H s1.heap) (only : ∀ b u, H b = some u → b = a) (nk : ∀ u, H a = some u → K.lookup a = none),
      codeAny (model P w) callerA (.call (.ref fa) ⟨[.ref a], []⟩) (fun r s' => r = .ok (.ret (.bool true)) ∧ OldK s1.heap s'.heap ∧ s'.os = s1.os ∧ AllBare s'.gens) s1 := by
    intro H hO hS ok only nk
    have below : ∀ {b : Addr} {o : Obj}, s1.heap.get? b = some o → H b = none → (hidT s1.heap H).get? b = some o := fun e n => hidT_get e n
    have free : ∀ {b : Addr} {o : Obj}, K.lookup b = some o → H b = none := fun {b o} e => by
      cases q : H b with
      | none => rfl
      | some u =>
        obtain rfl := only b u q
        rw [nk u q] at e
        cases e
    have noDict : ∀ {b : Addr} {o : Obj} {es : Array DictEntry} {ep : Nat}, s1.heap.get? b = some o → o.data = .dict es ep → H b = none := fun {b o es ep} e d => by
      cases q : H b with
      | none => rfl
      | some u =>
        obtain rfl := only b u q
        rw [ha] at e
        cases e
        cases (show Data.seq vs.toArray _ = Data.dict es ep from d)
    have ns' : ∀ {b : Addr} {m : Str → Option Value}, s1.heap.Ns b m → (hidT s1.heap H).Ns b m := fun ⟨o, es, ep, e, d, r⟩ => ⟨o, es, ep, below e (noDict e d), d, r⟩
    have kin : K.In (hidT s1.heap H) := fun b o e => below (KX b o e) (free e)
    have md : Mod K mg (hidT s1.heap H) := by
      refine ⟨kin, ns' hns, ⟨mb, ns' hb, hbb⟩, ?_⟩
      obtain ⟨mc, l1, l2⟩ := hlim
      exact ⟨mc, ns' l1, l2⟩
    have e0 : Env0 P w K mg (hidT s1.heap H) callerA [] s1 H :=
      ⟨rfl, md, fun b o e => of_hidT e, Nat.le_of_eq (hidT_size _ _), trivial, fun b z => (by cases z), ok, .of_eq hg⟩
    have go := (F _ kin (ns' hns)).run callerA [] s1 H ⟨[.ref a], []⟩ [.ref a] [.ref a] _ (fun _ _ _ => False) hr guards0 e0 (bd s1 (.ref a)) (.cons rfl .nil) (hsp H hS)
    refine codeAny_mono go fun r s' h => ?_
    cases r with
    | error e =>
      obtain ⟨_, _, _, _, _, _, _, _, _, _, _, _, z⟩ := h
      exact z.elim
    | ok fl =>
      cases fl with
      | next => exact h.elim
      | brk => exact h.elim
      | cont => exact h.elim
      | ret u =>
        obtain ⟨v, H', os, bare, un, ok', rr, q⟩ := h
        obtain rfl : v = .bl true := q
        obtain rfl : u = Value.bool true := rr
        refine ⟨rfl, OldK.of_keep fun b o e => ?_, os, bare⟩
        rcases hO b with z | ⟨ob, xs, z⟩
        · exact un.keep b o e z (fun y => (by cases y)) (fun y => (by cases y))
        · obtain ⟨e1, _⟩ := ok b _ z
          obtain ⟨e2, _⟩ := ok' b _ (un.frzs b ob _ z)
          rw [e] at e1
          cases e1
          exact e2
  cases hk : K.lookup a with
  | some o =>
    obtain rfl : o = { cls := .type "list", data := .seq vs.toArray } := Option.some.inj ((KX a o hk).symm.trans ha)
    refine core (fun _ => none) (fun _ => .inl rfl) (.inr ⟨_, vs.toArray, _, hk, rfl, rfl, rfl, ?_, by simpa using rv⟩) (fun b u z => (by cases z)) (fun b u z => (by cases z)) fun u z => (by cases z)
    rw [List.size_toArray, lenV]
    exact hl
  | none =>
    let o : HO := .frz { cls := .type "list", data := .seq vs.toArray } (.lst (ns.map L2.V.int))
    have at_ : ∀ {b : Addr} {u : HO}, (if b = a then some o else none) = some u → b = a ∧ u = o := fun {b u} z => by
      by_cases hb : b = a
      · rw [if_pos hb] at z
        exact ⟨hb, (Option.some.inj z).symm⟩
      · rw [if_neg hb] at z
        cases z
    refine core (fun b => if b = a then some o else none) (fun b => ?_) (.inl (.inr ⟨_, if_pos rfl⟩)) (fun b u z => ?_) (fun b u z => (at_ z).1) fun _ _ => hk
    · by_cases hb : b = a
      · exact .inr ⟨_, _, if_pos hb⟩
      · exact .inl (if_neg hb)
    · obtain ⟨rfl, rfl⟩ := at_ z
      exact ⟨ha, by rw [List.length_map]; exact hl, vs, _, rv, ha⟩
end
theorem walk_G {l : PySem.W.OpenLaw} {n k : Nat} {q : Program} {loose : List Str} {XP : (Str → Option Value) → Heap → Prop} {YP : World → Heap → Prop} {d : DefRec} {x : Str} {F : Fn}
    (hn : l.most = some n) (hn2 : n ≤ sizeLine) (hdf : d.params.defaults = []) (hr : Room k callerA) (says : Says1 F n)
    (T : ∀ (w : World) (mg : Str → Option Value) (fa : Addr) (h : Heap), YP w h → h.Ns mainGlobals mg → mg d.name = some (.ref fa) →
      ∃ (K : PySem.W.Frag) (fd : FuncData) (g : Gi), g.K = K ∧ K.In h ∧ (∀ (s : Shared) (u : Value), BindsTo s fd ⟨[u], []⟩ [(x, u)]) ∧
        ∀ base : Heap, K.In base → base.Ns mainGlobals mg → FnG l.prog w K mg base k fa fd [x] (spD g 1 F)) :
    PySem.W.WalkO q loose XP YP l.row.toRowW d [] (fun f vs => PySem.call f vs) := by
  refine Att.attach_call hn hdf fun w s0 s1 mg mb fa o pm cd doc a vs ns G Y ho hd hcd hmg hobj hints hlen hg => ?_
  obtain ⟨K, fd, g, hK, KX, bd, tf⟩ := T w mg fa _ Y G.T.g hmg
  exact run_law KX G.T.g G.T.b G.T.builtins G.T.nolimit hg hobj hints (Nat.le_trans hlen hn2) hr tf bd fun H hS => entry_sp hK says hlen hS
end Vi
namespace Vi
open PySem L2 PyProof.Rows
theorem bt_len : bootBuiltins "len" = some (.builtin "len") := by decide +kernel
theorem bt_abs : bootBuiltins "abs" = some (.builtin "abs") := by decide +kernel
theorem bt_sum : bootBuiltins "sum" = some (.builtin "sum") := by decide +kernel
theorem bt_min : bootBuiltins "min" = some (.builtin "min") := by decide +kernel
theorem bt_int : bootBuiltins "int" = some (.type "int") := by decide +kernel
theorem bt_bool : bootBuiltins "bool" = some (.type "bool") := by decide +kernel
theorem bt_str : bootBuiltins "str" = some (.type "str") := by decide +kernel
theorem bt_list : bootBuiltins "list" = some (.type "list") := by decide +kernel
theorem bt_tuple : bootBuiltins "tuple" = some (.type "tuple") := by decide +kernel
def kGlobB (x id : Str) (n : String) (K : PySem.W.Frag) : Bool := eqv (PySem.W.nsIn K mainGlobals x) (some (some (.builtin n)))
def mkE (f1 f2 lit : Str) : List D → List (Str × D) := fun ds => match ds with
  | [v] => [(f2, .str lit), (f1, v)]
  | _ => []
theorem mkE_ok {g : Gi} {f1 f2 lit : Str} : ∀ (F : Hp) (al : Nat → Option Addr) (ds : List D) (ws : List L2.V), Reps g F al ds ws → ds.length = 1 → RepF g F al (mkE f1 f2 lit ds) ((fun ws => match ws with
      | [v] => [(f2, .str lit), (f1, v)]
      | _ => ([] : List (Str × L2.V))) ws) := by
  intro F al ds ws r hl
  match ds, hl with
  | [d], _ =>
    obtain ⟨v, r', e1, e2, e3⟩ := r
    have e3 : r' = [] := e3
    subst e3
    subst e1
    exact ⟨.str lit, [(f1, v)], rfl, rfl, v, [], rfl, e2, rfl⟩
section
variable {P : Program} {w : World} {K : PySem.W.Frag} {mg : Str → Option Value} {base : Heap} {g : Gi}
structure Gnd (PDx : PD) (ck : List (PySem.W.Frag → Bool)) (fn : List DefV) (K : PySem.W.Frag) (mg : Str → Option Value) (base : Heap) : Prop where
  S : SaysV ck fn K
  X : K.In base
  G : base.Ns mainGlobals mg
  ok : PDx.ok K = true
theorem rdy_of {f : Addr} {x : Str} {fd : FuncData} {ps : List Str} {qual : Str} {params : Arguments} {body : List Stmt} {scope : Scope} {nm : Str} {k : Nat} {F : Fn} (FD : FunD K nm qual params body scope [] [] f fd) (FG : FnG P w K mg base k f fd ps (spD g ps.length F)) (hm : mg x = some (.ref f))
    (hb : ∀ (kV doc pm : Value) (an : Option Addr) (cdv ct : Value) (us : List Value), us.length = ps.length → bindArgs (PySem.W.fnOf nm qual params body scope .none kV doc pm an cdv ct) ⟨us, []⟩ = pure (ps.zip us)) {n : Nat} (hn : n = ps.length) : Rdy P w K mg base g x k n [] F :=
  ⟨f, fd, ps, [], [], FG, hm, FD.kp, FD.bindsN hb, .nil, fun _ _ => rfl, by rw [hn]; rfl⟩
theorem FunD.fnIn {f : Addr} {fd : FuncData} {qual : Str} {params : Arguments} {body : List Stmt} {scope : Scope} {nm : Str} (FD : FunD K nm qual params body scope [] [] f fd) : PySem.W.fnIn K f = true := by
  obtain ⟨oc, od, dV, kV, doc, pm, an, cdv, ct, osl, _, lk, _⟩ := FD.ex
  unfold PySem.W.fnIn
  rw [lk]
theorem rdyM_of {f : Addr} {c : Nat} {m : Str} {fd : FuncData} {ps : List Str} {qual : Str} {params : Arguments} {body : List Stmt} {scope : Scope} {nm : Str} {k : Nat} {F : Fn} (FD : FunD K nm qual params body scope [] [] f fd) (FG : FnG P w K mg base k f fd ps (spD g ps.length F)) (hm : Meth K (g.ca c) m f) (hc : g.isC c = true)
    (hb : ∀ (kV doc pm : Value) (an : Option Addr) (cdv ct : Value) (us : List Value), us.length = ps.length → bindArgs (PySem.W.fnOf nm qual params body scope .none kV doc pm an cdv ct) ⟨us, []⟩ = pure (ps.zip us)) {n : Nat} (hn : n + 1 = ps.length) : RdyM P w K mg base g c m k n [] F :=
  ⟨⟨f, fd, ps, [], [], FG, hm, FD.bindsN hb, .nil, fun _ _ => rfl, by rw [← hn]; rfl, Vi.FunD.fnIn FD⟩, hc⟩
end
end Vi
namespace Vi
open PySem L2
def RS.seq (r : RS) (b : MS) : RS := match r with
  | .nx e h => b e h
  | r => r
@[simp] theorem mSeq_eq (a b : MS) (env : Env) (h : Hc) : mSeq a b env h = (a env h).seq b := by
  unfold mSeq RS.seq
  cases a env h <;> rfl
@[simp] theorem RS.seq_nx (e : Env) (h : Hc) (b : MS) : (RS.nx e h).seq b = b e h := rfl
@[simp] theorem RS.seq_ret (d : D) (h : Hc) (b : MS) : (RS.ret d h).seq b = .ret d h := rfl
@[simp] theorem RS.seq_brk (e : Env) (h : Hc) (b : MS) : (RS.brk e h).seq b = .brk e h := rfl
@[simp] theorem RS.seq_cnt (e : Env) (h : Hc) (b : MS) : (RS.cnt e h).seq b = .cnt e h := rfl
@[simp] theorem RS.seq_exc (e : Env) (x : D) (h : Hc) (b : MS) : (RS.exc e x h).seq b = .exc e x h := rfl
@[simp] theorem RS.seq_stuck (b : MS) : RS.stuck.seq b = .stuck := rfl
class Kn (κ : Type) where k : κ
def ap {γ κ β : Type} (F : γ → κ → β) (r : γ) [i : Kn κ] : β := F r i.k
def RS.seqU (r : RS) (b : MS) (_ : Unit) : RS := r.seq b
@[simp ↓] theorem RS.seq_ap (r : RS) (b : MS) : r.seq b = @ap RS MS (Unit → RS) RS.seqU r ⟨b⟩ () := (rfl)
@[simp] theorem RS.seq_nx_ap (e : Env) (h : Hc) (b : MS) : @ap RS MS (Unit → RS) RS.seqU (.nx e h) ⟨b⟩ () = b e h := (rfl)
@[simp] theorem RS.seq_ret_ap (d : D) (h : Hc) (b : MS) : @ap RS MS (Unit → RS) RS.seqU (.ret d h) ⟨b⟩ () = .ret d h := (rfl)
@[simp] theorem RS.seq_brk_ap (e : Env) (h : Hc) (b : MS) : @ap RS MS (Unit → RS) RS.seqU (.brk e h) ⟨b⟩ () = .brk e h := (rfl)
@[simp] theorem RS.seq_cnt_ap (e : Env) (h : Hc) (b : MS) : @ap RS MS (Unit → RS) RS.seqU (.cnt e h) ⟨b⟩ () = .cnt e h := (rfl)
@[simp] theorem RS.seq_exc_ap (e : Env) (x : D) (h : Hc) (b : MS) : @ap RS MS (Unit → RS) RS.seqU (.exc e x h) ⟨b⟩ () = .exc e x h := (rfl)
@[simp] theorem RS.seq_stuck_ap (b : MS) : @ap RS MS (Unit → RS) RS.seqU .stuck ⟨b⟩ () = .stuck := (rfl)
@[simp] theorem R.thenS_ok {α : Type} (a : α) (h : Hc) (env : Env) (k : α → Hc → RS) : (R.ok a h).thenS env k = k a h := rfl
@[simp] theorem R.thenS_exc {α : Type} (x : D) (h : Hc) (env : Env) (k : α → Hc → RS) : (R.exc x h : R α).thenS env k = .exc env x h := rfl
@[simp] theorem R.thenS_stuck {α : Type} (env : Env) (k : α → Hc → RS) : (R.stuck : R α).thenS env k = .stuck := rfl
def R.thenU {α : Type} (r : R α) (p : Env × (α → Hc → RS)) (_ : Unit) : RS := r.thenS p.1 p.2
@[simp ↓] theorem R.thenS_ap {α : Type} (r : R α) (env : Env) (k : α → Hc → RS) : r.thenS env k = @ap (R α) (Env × (α → Hc → RS)) (Unit → RS) R.thenU r ⟨(env, k)⟩ () := (rfl)
@[simp] theorem R.thenS_ok_ap {α : Type} (a : α) (h : Hc) (env : Env) (k : α → Hc → RS) : @ap (R α) (Env × (α → Hc → RS)) (Unit → RS) R.thenU (.ok a h) ⟨(env, k)⟩ () = k a h := (rfl)
@[simp] theorem R.thenS_exc_ap {α : Type} (x : D) (h : Hc) (env : Env) (k : α → Hc → RS) : @ap (R α) (Env × (α → Hc → RS)) (Unit → RS) R.thenU (.exc x h) ⟨(env, k)⟩ () = .exc env x h := (rfl)
@[simp] theorem R.thenS_stuck_ap {α : Type} (env : Env) (k : α → Hc → RS) : @ap (R α) (Env × (α → Hc → RS)) (Unit → RS) R.thenU .stuck ⟨(env, k)⟩ () = .stuck := (rfl)
def R.bindU {α β : Type} (r : R α) (k : α → Hc → R β) (_ : Unit) : R β := r.bind k
@[simp ↓] theorem R.bind_ap {α β : Type} (r : R α) (k : α → Hc → R β) : r.bind k = @ap (R α) (α → Hc → R β) (Unit → R β) R.bindU r ⟨k⟩ () := (rfl)
@[simp] theorem R.bind_ok_ap {α β : Type} (a : α) (h : Hc) (k : α → Hc → R β) : @ap (R α) (α → Hc → R β) (Unit → R β) R.bindU (.ok a h) ⟨k⟩ () = k a h := (rfl)
@[simp] theorem R.bind_exc_ap {α β : Type} (x : D) (h : Hc) (k : α → Hc → R β) : @ap (R α) (α → Hc → R β) (Unit → R β) R.bindU (.exc x h) ⟨k⟩ () = .exc x h := (rfl)
@[simp] theorem R.bind_stuck_ap {α β : Type} (k : α → Hc → R β) : @ap (R α) (α → Hc → R β) (Unit → R β) R.bindU .stuck ⟨k⟩ () = .stuck := (rfl)
def RS.fin : RS → R D
  | .nx _ h => .ok .non h
  | .ret d h => .ok d h
  | .exc _ x h => .exc x h
  | _ => .stuck
theorem fnOf_eq (N n : Nat) (m : MS) (ds : List D) (h : Hc) (e : ds.length = n) : fnOf N n m ds h = (m (mkEnv N ds) h).fin := by
  unfold fnOf RS.fin
  refine (if_pos e).trans ?_
  cases m (mkEnv N ds) h <;> rfl
@[simp] theorem RS.fin_nx (e : Env) (h : Hc) : (RS.nx e h).fin = .ok .non h := rfl
@[simp] theorem RS.fin_ret (d : D) (h : Hc) : (RS.ret d h).fin = .ok d h := rfl
@[simp] theorem RS.fin_exc (e : Env) (x : D) (h : Hc) : (RS.exc e x h).fin = .exc x h := rfl
def pick {α : Type} (c : Bool) (a b : α) : α := if c then a else b
@[simp] theorem pick_t {α : Type} (a b : α) : pick true a b = a := rfl
@[simp] theorem pick_f {α : Type} (a b : α) : pick false a b = b := rfl
def pickU {α : Type} (c : Bool) (p : α × α) (_ : Unit) : α := pick c p.1 p.2
@[simp ↓] theorem pick_ap {α : Type} (c : Bool) (a b : α) : pick c a b = @ap Bool (α × α) (Unit → α) pickU c ⟨(a, b)⟩ () := (rfl)
@[simp] theorem pick_t_ap {α : Type} (a b : α) : @ap Bool (α × α) (Unit → α) pickU true ⟨(a, b)⟩ () = a := (rfl)
@[simp] theorem pick_f_ap {α : Type} (a b : α) : @ap Bool (α × α) (Unit → α) pickU false ⟨(a, b)⟩ () = b := (rfl)
section
variable (env : Env) (h : Hc)
@[simp] theorem mIfS_eq (c : MB) (a b : MS) : mIfS c a b env h = (c env h).thenS env fun x h1 => pick x (a env h1) (b env h1) := rfl
@[simp] theorem tAndM_eq (a b : MB) : tAndM a b env h = (a env h).bind fun x h1 => pick x (b env h1) (.ok false h1) := rfl
@[simp] theorem tOrM_eq (a b : MB) : tOrM a b env h = (a env h).bind fun x h1 => pick x (.ok true h1) (b env h1) := rfl
@[simp] theorem mIf_eq (c : MB) (a b : ME) : mIf c a b env h = (c env h).bind fun x h1 => pick x (a env h1) (b env h1) := rfl
end
@[simp] theorem mVar_d (i : Nat) (env : Env) (h : Hc) (x : D) (e : env[i]? = some (some (.d x))) : mVar i env h = .ok (.d x) h := by unfold mVar; rw [e]
@[simp] theorem mVar_o (i : Nat) (env : Env) (h : Hc) (x : List D) (e : env[i]? = some (some (.ol x))) : mVar i env h = .ok (.bl x) h := by unfold mVar; rw [e]
@[simp] theorem fEq_int (neg : Bool) (a b : Int) (h : Hc) : fEq neg (.d (.int a)) (.d (.int b)) h = .ok (.d (.bl (if neg then !decide (a = b) else decide (a = b)))) h := rfl
@[simp] theorem fLen_tup (xs : List D) (h : Hc) : fLen [.d (.tup xs)] h = .ok (.d (.int xs.length)) h := rfl
@[simp] theorem fLen_lst (xs : List D) (h : Hc) : fLen [.d (.lst xs)] h = .ok (.d (.int xs.length)) h := rfl
@[simp] theorem fIx_tup (xs : List D) (i : Int) (h : Hc) : fIx (.d (.tup xs)) (.d (.int i)) h = (match atI xs i with
  | some d => .ok (.d d) h
  | none => .stuck) := rfl
@[simp] theorem fIx_lst (xs : List D) (i : Int) (h : Hc) : fIx (.d (.lst xs)) (.d (.int i)) h = (match atI xs i with
  | some d => .ok (.d d) h
  | none => .stuck) := rfl
def RS.again (r : RS) (k : MS) : RS := match r with
  | .nx e h => k e h
  | .cnt e h => k e h
  | .brk e h => .nx e h
  | r => r
@[simp] theorem RS.again_nx (e : Env) (h : Hc) (k : MS) : (RS.nx e h).again k = k e h := rfl
@[simp] theorem RS.again_cnt (e : Env) (h : Hc) (k : MS) : (RS.cnt e h).again k = k e h := rfl
@[simp] theorem RS.again_brk (e : Env) (h : Hc) (k : MS) : (RS.brk e h).again k = .nx e h := rfl
@[simp] theorem RS.again_ret (d : D) (h : Hc) (k : MS) : (RS.ret d h).again k = .ret d h := rfl
@[simp] theorem RS.again_exc (e : Env) (x : D) (h : Hc) (k : MS) : (RS.exc e x h).again k = .exc e x h := rfl
def RS.againU (r : RS) (k : MS) (_ : Unit) : RS := r.again k
@[simp ↓] theorem RS.again_ap (r : RS) (k : MS) : r.again k = @ap RS MS (Unit → RS) RS.againU r ⟨k⟩ () := (rfl)
@[simp] theorem RS.again_nx_ap (e : Env) (h : Hc) (k : MS) : @ap RS MS (Unit → RS) RS.againU (.nx e h) ⟨k⟩ () = k e h := (rfl)
@[simp] theorem RS.again_cnt_ap (e : Env) (h : Hc) (k : MS) : @ap RS MS (Unit → RS) RS.againU (.cnt e h) ⟨k⟩ () = k e h := (rfl)
@[simp] theorem RS.again_brk_ap (e : Env) (h : Hc) (k : MS) : @ap RS MS (Unit → RS) RS.againU (.brk e h) ⟨k⟩ () = .nx e h := (rfl)
@[simp] theorem RS.again_ret_ap (d : D) (h : Hc) (k : MS) : @ap RS MS (Unit → RS) RS.againU (.ret d h) ⟨k⟩ () = .ret d h := (rfl)
@[simp] theorem RS.again_exc_ap (e : Env) (x : D) (h : Hc) (k : MS) : @ap RS MS (Unit → RS) RS.againU (.exc e x h) ⟨k⟩ () = .exc e x h := (rfl)
theorem mWhile_succ (n : Nat) (c : MB) (b : MS) (env : Env) (h : Hc) : mWhile (n + 1) c b env h = (c env h).thenS env fun x h1 => pick x ((b env h1).again (mWhile n c b)) (.nx env h1) := by
  show (c env h).thenS env _ = _
  congr 1
  funext x h1
  cases x with
  | false => rfl
  | true =>
    show (match b env h1 with
      | .nx e h2 => mWhile n c b e h2
      | .cnt e h2 => mWhile n c b e h2
      | .brk e h2 => .nx e h2
      | .ret d h2 => .ret d h2
      | .exc e x h2 => .exc e x h2
      | .stuck => .stuck) = (b env h1).again _
    cases b env h1 <;> rfl
theorem forL_cons (T : TgF) (b : MS) (x : D) (r : List D) (env : Env) (h : Hc) : forL T b (x :: r) env h = (match T x env with
    | none => .stuck
    | some env1 => (b env1 h).again (forL T b r)) := by
  show (match T x env with
    | none => RS.stuck
    | some env1 => (match b env1 h with
      | .nx e h2 => forL T b r e h2
      | .cnt e h2 => forL T b r e h2
      | .brk e h2 => .nx e h2
      | .ret d h2 => .ret d h2
      | .exc e x h2 => .exc e x h2
      | .stuck => .stuck)) = _
  cases T x env with
  | none => rfl
  | some env1 =>
    dsimp only
    cases b env1 h <;> rfl
@[simp] theorem fAdd_int (o : Bool) (a b : Int) (h : Hc) : fAdd o (.d (.int a)) (.d (.int b)) h = .ok (.d (.int (a + b))) h := rfl
@[simp] theorem fSum_kl (xs : List D) (h : Hc) : fSum [.d (.kl xs)] h = (match ints? xs with
      | some ns => .ok (.d (.int ns.sum)) h
      | none => .stuck) := rfl
@[simp] theorem fList_kl (o : Bool) (xs : List D) (h : Hc) : fList o [.d (.kl xs)] h = .ok (Vl.ofL o xs) h := rfl
@[simp] theorem ints_map : ∀ ns : List Int, ints? (ns.map D.int) = some ns
  | [] => rfl
  | n :: r => by
    show (ints? (r.map D.int)).map (n :: ·) = _
    rw [ints_map r]
    rfl
end Vi
namespace Vi
open PySem L2
def vOf : D → Option V
  | .non => some .non
  | .bl b => some (.bl b)
  | .int i => some (.int i)
  | .str x => some (.str x)
  | _ => none
def vOfs : List D → Option (List V)
  | [] => some []
  | x :: r => match vOf x, vOfs r with
    | some v, some vs => some (v :: vs)
    | _, _ => none
theorem vOf_rep {g : Gi} {F : Hp} {al : Nat → Option Addr} {d : D} {v u : V} (r : Rep g F al d v) (e : vOf d = some u) : v = u ∧ flatV u = true := by
  cases d <;> cases e <;> exact ⟨r, rfl⟩
theorem vOfs_reps {g : Gi} {F : Hp} {al : Nat → Option Addr} : ∀ {ds : List D} {vs us : List V}, Reps g F al ds vs → vOfs ds = some us → vs = us ∧ us.all flatV = true
  | [], vs, us, r, e => by
    cases e
    exact ⟨r, rfl⟩
  | d :: ds, vs, us, r, e => by
    obtain ⟨v, ws, rfl, r1, r2⟩ := r
    unfold vOfs at e
    split at e
    · next u us' e1 e2 =>
      cases e
      obtain ⟨rfl, f1⟩ := vOf_rep r1 e1
      obtain ⟨rfl, f2⟩ := vOfs_reps r2 e2
      exact ⟨rfl, by rw [List.all_cons, f1, f2]; rfl⟩
    · cases e
def hasSub (j i : PySem.Str) : Bool := !(Builtin.Str.occurrences j i 0 j.length 1).isEmpty
def seq? (h : Hc) (x : Vl) : Option (List D) := match lst? h x with
  | some xs => some xs
  | none => tup? x
def nB (neg b : Bool) : D := .bl (if neg then !b else b)
def fInS (neg : Bool) (x y : Vl) (h : Hc) : R Vl := match x, seq? h y with
  | .d d, some ys => (match vOf d, vOfs ys with
    | some u, some us => .ok (.d (nB neg (inV u us))) h
    | _, _ => (match x.dat?, y.dat? with
      | some d, some (.lst ds) => if shp d && shp (.lst ds) then .ok (.d (nB neg (ds.any fun z => eqD z d))) h else .stuck
      | _, _ => .stuck))
  | _, _ => .stuck
def fIn (neg : Bool) (x y : Vl) (h : Hc) : R Vl := match x, y with
  | .d (.str a), .d (.str b) => .ok (.d (nB neg (hasSub b a))) h
  | x, y => fInS neg x y h
theorem VlRep.seq {g : Gi} {B : Bg} {env : Env} {s : Sta} {σ : L2.St} {H : Hp} {x : Vl} {v : V} {xs : List D} (gd : Good g s H) (h : VlRep g B env σ s H x v) (e : seq? s.h x = some xs) : ∃ a vs, v = .ref a ∧ (SqL g.K H a vs ∨ SqT g.K H a vs) ∧ Reps g s.F s.al xs vs := by
  unfold seq? at e
  split at e
  · next ys e1 =>
    cases e
    obtain ⟨a, vs, h1, h2, h3⟩ := h.lst gd e1
    exact ⟨a, vs, h1, .inl h2, h3⟩
  · obtain ⟨a, vs, h1, h2, h3⟩ := h.tup gd e
    exact ⟨a, vs, h1, .inr h2, h3⟩
theorem toPs_map : ∀ ds : List D, toPs ds = ds.map toP
  | [] => by simp [toPs]
  | d :: ds => by simp [toPs, toPs_map ds]
theorem any_eqD (ds : List D) (d : D) : ((toPs ds).any fun z => PyData.eqv z (toP d)) = ds.any fun z => eqD z d := by
  rw [toPs_map, List.any_map]
  rfl
section
variable {X : Cx} {g : Gi}
theorem o_in (hK : g.K = X.K) (hu : X.A.units + 65 < cLine) : OpV X g (compareOp .In) (fIn false) := by
  refine ⟨_, OpR.or (OpR.or op_in_str op_in_seq) (op_inD hu), fun B W env s σ H x y v w Q sr r1 r2 p => ?_⟩
  unfold fIn at p
  split at p
  · next a b =>
    obtain rfl : v = .str a := r1
    obtain rfl : w = .str b := r2
    exact .inl (.inl ⟨a, b, rfl, rfl, PostE.pure sr p rfl⟩)
  · unfold fInS at p
    split at p
    · next d ys e1 _ =>
      split at p
      · next u us e2 e3 =>
        obtain ⟨a, vs, rfl, h1, h2⟩ := r2.seq sr.good e1
        obtain ⟨rfl, f1⟩ := vOf_rep r1 e2
        obtain ⟨rfl, f2⟩ := vOfs_reps h2 e3
        exact .inl (.inr ⟨a, _, rfl, hK ▸ h1, f1, f2, PostE.pure sr p rfl⟩)
      · split at p
        · next d' ds e4 e5 =>
          split at p
          · next hs =>
            obtain ⟨h1, h2⟩ := Bool.and_eq_true_iff.mp hs
            refine .inr ⟨_, toPs ds, hK ▸ r1.dp' sr.good e4, ?_, h1, ?_, ?_⟩
            · have q := r2.dp' sr.good e5
              simp only [toP] at q
              exact hK ▸ q
            · unfold shp at h2
              simp only [toP] at h2
              exact h2
            · rw [any_eqD]
              exact PostE.pure sr p rfl
          · exact p.elim
        · exact p.elim
    · exact p.elim
def fIsN (neg : Bool) (x y : Vl) (h : Hc) : R Vl := match y with
  | .d .non => (match x with
    | .d .non => .ok (.d (nB neg true)) h
    | .d (.cls _) => .stuck
    | _ => .ok (.d (nB neg false)) h)
  | _ => .stuck
theorem isN_val {g : Gi} {B : Bg} {env : Env} {s : Sta} {σ : L2.St} {H : Hp} {x : Vl} {v : V} (r : VlRep g B env σ s H x v) (n : x ≠ .d .non) : v ≠ .non := by
  intro e
  subst e
  cases x with
  | d d =>
    cases d with
    | non => exact n rfl
    | bl _ => cases r
    | int _ => cases r
    | str _ => cases r
    | tup _ => obtain ⟨_, _, h, _⟩ := r; cases h
    | xtup _ => obtain ⟨_, _, _, h, _⟩ := r; cases h
    | lst _ => obtain ⟨_, _, h, _⟩ := r; cases h
    | kl _ => obtain ⟨_, _, h, _⟩ := r; cases h
    | ref _ => obtain ⟨_, h, _⟩ := r; cases h
    | obj _ _ => obtain ⟨_, _, _, h, _⟩ := r; cases h
    | cls _ => cases r
    | dK _ => obtain ⟨_, _, h, _⟩ := r; cases h
    | dT _ => obtain ⟨_, _, h, _⟩ := r; cases h
  | tl _ => obtain ⟨_, _, h, _⟩ := r; cases h
  | bl _ => obtain ⟨_, _, h, _⟩ := r; cases h
  | bi _ _ => obtain ⟨_, _, _, h, _⟩ := r; cases h
theorem o_is : OpV X g (compareOp .Is) (fIsN false) := by
  refine ⟨_, op_isN, fun B W env s σ H x y v w Q sr r1 r2 p => ?_⟩
  unfold fIsN at p
  split at p
  · obtain rfl : w = .non := r2
    split at p
    · obtain rfl : v = .non := r1
      exact ⟨rfl, PostE.pure sr p rfl⟩
    · exact p.elim
    · next n1 n2 =>
      have := isN_val r1 n1
      refine ⟨rfl, ?_⟩
      rw [decide_eq_false this]
      exact PostE.pure sr p rfl
  · exact p.elim
theorem o_isnot : OpV X g (compareOp .IsNot) (fIsN true) := by
  refine ⟨_, op_notN, fun B W env s σ H x y v w Q sr r1 r2 p => ?_⟩
  unfold fIsN at p
  split at p
  · obtain rfl : w = .non := r2
    split at p
    · obtain rfl : v = .non := r1
      exact ⟨rfl, PostE.pure sr p rfl⟩
    · exact p.elim
    · next n1 n2 =>
      have := isN_val r1 n1
      refine ⟨rfl, ?_⟩
      rw [decide_eq_false this]
      exact PostE.pure sr p rfl
  · exact p.elim
def bools? : List D → Option (List Bool)
  | [] => some []
  | .bl b :: r => (bools? r).map (b :: ·)
  | _ => none
theorem Reps.bools {F : Hp} {al : Nat → Option Addr} : ∀ (ds : List D) {vs : List V} {bs : List Bool}, Reps g F al ds vs → bools? ds = some bs → vs = bs.map V.bl
  | [], vs, bs, r, e => by
    cases e
    exact r
  | d :: ds, vs, bs, r, e => by
    obtain ⟨v, ws, rfl, r1, r2⟩ := r
    cases d with
    | bl b =>
      unfold bools? at e
      cases e2 : bools? ds with
      | none => rw [e2] at e; cases e
      | some bs' =>
        rw [e2] at e
        cases e
        rw [Reps.bools ds r2 e2]
        obtain rfl : v = .bl b := r1
        rfl
    | _ => cases e
def fAll (any : Bool) (xs : List Vl) (h : Hc) : R Vl := match xs with
  | [x] => (match lst? h x with
    | some ys => (match bools? ys with
      | some bs => .ok (.d (.bl (if any then bs.any id else bs.all id))) h
      | none => .stuck)
    | none => .stuck)
  | _ => .stuck
end
end Vi
namespace Vi
open PySem L2 PyProof.Rows
abbrev MO := Env → Hc → R (Option Int)
@[simp] def moN : MO := fun _ h => .ok none h
@[simp] def moS (m : ME) : MO := fun env h => (m env h).bind fun x h1 => match x with
  | .d (.int i) => .ok (some i) h1
  | _ => .stuck
def cutL {α : Type} (xs : List α) (lo hi : Option Int) : List α := (xs.drop (HT.sIx xs.length 0 lo)).take (HT.sIx xs.length xs.length hi - HT.sIx xs.length 0 lo)
def fSl (o : Bool) (x : Vl) (lo hi : Option Int) (h : Hc) : R Vl := match lst? h x with
  | some xs => .ok (Vl.ofL o (cutL xs lo hi)) h
  | none => (match ptup? x with
    | some xs => .ok (.d (.tup (cutL xs lo hi))) h
    | none => (match x with
      | .d (.str z) => if z.length ≤ 100000 then .ok (.d (.str (Txt.slice z lo hi))) h else .stuck
      | _ => .stuck))
@[simp] def mSl (o : Bool) (m : ME) (lo hi : MO) : ME := fun env h => (m env h).bind fun x h1 => (lo env h1).bind fun l h2 => (hi env h2).bind fun u h3 => fSl o x l u h3
section
variable (g : Gi) (B : Bg) (W : WXv) (env : Env) (s : Sta) (σ : L2.St) (H : Hp)
def PostO : R (Option Int) → (Option Int → Hp → Prop) → Prop
  | .ok i h, Q => ∀ (H' : Hp) (s' : Sta), s'.h = h → Evo s H s' H' → SR g B env s' σ H' → Q i H'
  | .exc x h, _ => PostX g B W env s σ H x h
  | .stuck, _ => False
end
def tP (g : Gi) (B : Bg) (W : WXv) (m : MO) : TO := fun σ H Q => ∃ env s, SR g B env s σ H ∧ PostO g B W env s σ H (m env s.h) Q
section
variable {X : Cx} {g : Gi} {B : Bg} {W : WXv} {pos p2 : Pos} {e e1 e2 : Expr} {m ma mb : ME} {lo hi : Option Expr} {ml mh : MO}
theorem vo_none : PO X none (tP g B W moN) := ⟨fun pins s σ H Q I h => by
  obtain ⟨env, st, sr, p⟩ := h
  exact po_none.run pins s σ H Q I (p H st rfl (Evo.refl st H) sr)⟩
theorem po_imp {X : Cx} {e : Option Expr} {t t' : TO} (h : PO X e t) (i : ∀ σ H Q, t' σ H Q → t σ H Q) : PO X e t' := ⟨fun pins s σ H Q I q => h.run pins s σ H Q I (i σ H Q q)⟩
theorem vo_some (h : PE X e (tE g B W m)) : PO X (some e) (tP g B W (moS m)) := by
  refine po_imp (po_some h) fun σ H Q ⟨env, s, sr, p⟩ => ?_
  refine ⟨env, s, sr, ?_⟩
  unfold moS at p
  cases e1 : m env s.h with
  | ok x h1 =>
    rw [e1] at p
    intro v H1 s1 q1 ev1 sr1 r1
    cases x with
    | d d =>
      cases d with
      | int i => exact ⟨i, r1, p H1 s1 q1 ev1 sr1⟩
      | _ => exact p.elim
    | _ => exact p.elim
  | exc x h => rw [e1] at p; exact p
  | stuck => rw [e1] at p; exact p
theorem bindO {f : Vl → Option Int → Option Int → Hc → R Vl} {env : Env} {s : Sta} {σ : L2.St} {H : Hp} {Q : VK} (sr : SR g B env s σ H) (p : PostE g B W env s σ H ((m env s.h).bind fun x h1 => (ml env h1).bind fun l h2 => (mh env h2).bind fun u h3 => f x l u h3) Q) :
    tE g B W m σ H fun v H1 => tP g B W ml σ H1 fun l H2 => tP g B W mh σ H2 fun u H3 => ∃ s3 x, SR g B env s3 σ H3 ∧ Evo s H s3 H3 ∧ VlRep g B env σ s3 H3 x v ∧ PostE g B W env s3 σ H3 (f x l u s3.h) Q := by
  refine ⟨env, s, sr, ?_⟩
  cases e1 : m env s.h with
  | ok x h1 =>
    rw [e1] at p
    intro v H1 s1 q1 ev1 sr1 r1
    refine ⟨env, s1, sr1, ?_⟩
    rw [q1]
    have p : PostE g B W env s σ H ((ml env h1).bind fun l h2 => (mh env h2).bind fun u h3 => f x l u h3) Q := p
    cases e2 : ml env h1 with
    | ok l h2 =>
      rw [e2] at p
      intro H2 s2 q2 ev2 sr2
      refine ⟨env, s2, sr2, ?_⟩
      rw [q2]
      have p : PostE g B W env s σ H ((mh env h2).bind fun u h3 => f x l u h3) Q := p
      cases e3 : mh env h2 with
      | ok u h3 =>
        rw [e3] at p
        intro H3 s3 q3 ev3 sr3
        refine ⟨s3, x, sr3, (ev1.trans ev2).trans ev3, (r1.evo ev2).evo ev3, ?_⟩
        rw [q3]
        exact PostE.later ((ev1.trans ev2).trans ev3) p
      | exc y h =>
        rw [e3] at p
        intro cls dd H3 s3 q3 ev3 sr3 xr
        exact p cls dd H3 s3 q3 ((ev1.trans ev2).trans ev3) sr3 xr
      | stuck => rw [e3] at p; exact p
    | exc y h =>
      rw [e2] at p
      intro cls dd H2 s2 q2 ev2 sr2 xr
      exact p cls dd H2 s2 q2 (ev1.trans ev2) sr2 xr
    | stuck => rw [e2] at p; exact p
  | exc y h => rw [e1] at p; exact p
  | stuck => rw [e1] at p; exact p
theorem cutL_whole {α : Type} {xs : List α} {lo hi : Option Int} (h : HT.sIx xs.length 0 lo = 0 ∧ HT.sIx xs.length xs.length hi = xs.length) : cutL xs lo hi = xs := by
  unfold cutL
  rw [h.1, h.2, List.drop_zero]
  exact List.take_of_length_le (by omega)
def rRevL (K : PySem.W.Frag) : V → Hp → VK → Prop := fun x H Q => ∃ a xs, x = .ref a ∧ SqL K H a xs ∧ ∀ p, H p = none → Q (.ref p) (upd H p (.lst xs.reverse))
def fRev (o : Bool) (x : Vl) (h : Hc) : R Vl := match lst? h x with
  | some xs => .ok (Vl.ofL o xs.reverse) h
  | none => .stuck
theorem Reps.reverse {F : Hp} {al : Nat → Option Addr} : ∀ {ds : List D} {vs : List V}, Reps g F al ds vs → Reps g F al ds.reverse vs.reverse
  | [], vs, r => by
    cases r
    rfl
  | d :: ds, vs, r => by
    obtain ⟨v, ws, rfl, r1, r2⟩ := r
    rw [List.reverse_cons, List.reverse_cons]
    exact (Reps.reverse r2).append (Reps.cons r1 Reps.nil)
end
end Vi
namespace Vi
open PySem L2 PyProof.Rows
section
variable {g : Gi} {B : Bg} {W : WXv} {env : Env} {s : Sta} {σ : L2.St} {H : Hp}
theorem SR.addC {p : Addr} {o : HO} {c : Cell} (sr : SR g B env s σ H) (hp : H p = none) (hc : CellRep g s (upd H p o) p c) (nf : ∀ c0, c ≠ .frz c0) :
    SR g B env (s.addC p c) σ (upd H p o) ∧ Evo s H (s.addC p c) (upd H p o) := by
  obtain ⟨sr1, ev1⟩ := sr.new (o := o) hp
  have ow := sr.own_new hp
  have le := addC_le (a := p) (c := c) sr.good
  have gd := addC_goodC sr1.good hc ⟨o, upd_same⟩ ow.f ow.al nf
  refine ⟨⟨gd, addC_evo sr1.good sr1.evo ow.new, sr.len, fun i sl h => ?_, sr.sep⟩, addC_evo sr1.good ev1 hp⟩
  obtain ⟨v, h1, h2⟩ := sr.slot i sl h
  refine ⟨v, h1, ?_⟩
  have al' : ∀ {a : Addr} {u : HO}, H a = some u → (∀ n, s.al n ≠ some a) → ∀ n, (s.addC p c).al n ≠ some a := fun {a u} ha hn n z => by
    have z : (if n = s.h.length then some p else s.al n) = some a := z
    by_cases e : n = s.h.length
    · rw [if_pos e] at z
      cases z
      rw [hp] at ha
      cases ha
    · rw [if_neg e] at z
      exact hn n z
  cases sl with
  | d x => exact h2.mono le.f le.al
  | ol xs =>
    obtain ⟨a, vs, rfl, h3, h4, h5⟩ := h2
    exact ⟨a, vs, rfl, by rw [upd_ne (ne_of_none h3 hp)]; exact h3, ⟨h4.f, al' h3 h4.al, h4.new⟩, h5.mono le.f le.al⟩
  | oi c' fs =>
    obtain ⟨a, dx, vs, rfl, h3, h4, h5, h6⟩ := h2
    exact ⟨a, dx, vs, rfl, by rw [upd_ne (ne_of_none h3 hp)]; exact h3, ⟨h4.f, al' h3 h4.al, h4.new⟩, h5.mono le.f le.al, h6⟩
  | xc c' fs =>
    obtain ⟨h3, h4, vs, h5, h6, h7⟩ := h2
    exact ⟨h3, h4, vs, by rw [upd_ne (ne_of_none h5 hp)]; exact h5, al' h5 h6, h7.mono le.f le.al⟩
theorem PostE.newC {c : Cell} {o : HO} {p : Addr} {Q : VK} (sr : SR g B env s σ H) (h : PostE g B W env s σ H (.ok (.d (.ref s.h.length)) (s.h ++ [c])) Q) (hp : H p = none) (hc : CellRep g s (upd H p o) p c) (nf : ∀ c0, c ≠ .frz c0) : Q (.ref p) (upd H p o) := by
  obtain ⟨sr1, ev⟩ := sr.addC hp hc nf
  exact h _ _ _ rfl ev sr1 ⟨p, rfl, if_pos rfl⟩
end
@[simp] def mNewT : ME := fun _ h => .ok (.d (.ref h.length)) (h ++ [.dT []])
@[simp] def mNewK : ME := fun _ h => .ok (.d (.ref h.length)) (h ++ [.dK []])
section
variable {X : Cx} {g : Gi} {B : Bg} {W : WXv} {pos : Pos}
end
inductive DV where
  | k (kvs : List (Key × D)) | t (kvs : List (List Key × D))
def dv? (x : Vl) (h : Hc) : Option DV := match x with
  | .d (.dK kvs) => some (.k kvs)
  | .d (.dT kvs) => some (.t kvs)
  | .d (.ref n) => (match h[n]?.map Cell.bare with
    | some (.dK kvs) => some (.k kvs)
    | some (.dT kvs) => some (.t kvs)
    | some (.lk kvs) => some (.k kvs)
    | _ => none)
  | _ => none
def key? : D → Option Key
  | .int i => some (.inl i)
  | .str x => some (.inr x)
  | _ => none
def keys? : List D → Option (List Key)
  | [] => some []
  | x :: r => match key? x, keys? r with
    | some k, some ks => some (k :: ks)
    | _, _ => none
section
variable {κ : Type} [DecidableEq κ]
def getD' : List (κ × D) → κ → Option D
  | [], _ => none
  | (k, d) :: r, q => if k = q then some d else getD' r q
def putD' (kvs : List (κ × D)) (q : κ) (d : D) : List (κ × D) := match getD' kvs q with
  | some _ => kvs.map fun kv => if kv.1 = q then (kv.1, d) else kv
  | none => kvs ++ [(q, d)]
end
section
variable {g : Gi} {F : Hp} {al : Nat → Option Addr}
theorem RepK.get : ∀ {kvs : List (Key × D)} {vs : List (Key × V)} (q : Key), RepK g F al kvs vs → (match getD' kvs q with
    | some d => ∃ v, valV vs q = some v ∧ Rep g F al d v
    | none => valV vs q = none)
  | [], vs, q, r => by
    cases r
    rfl
  | (k, d) :: kvs, vs, q, r => by
    obtain ⟨v, ws, rfl, r1, r2⟩ := r
    unfold getD'
    by_cases e : k = q
    · rw [if_pos e]
      exact ⟨v, valV_pos (p := (k, v)) e, r1⟩
    · rw [if_neg e, valV_neg (p := (k, v)) e]
      exact RepK.get q r2
theorem RepT.get : ∀ {kvs : List (List Key × D)} {vs : List (List Key × V)} (q : List Key), RepT g F al kvs vs → (match getD' kvs q with
    | some d => ∃ v, valV vs q = some v ∧ Rep g F al d v
    | none => valV vs q = none)
  | [], vs, q, r => by
    cases r
    rfl
  | (k, d) :: kvs, vs, q, r => by
    obtain ⟨v, ws, rfl, r1, r2⟩ := r
    unfold getD'
    by_cases e : k = q
    · rw [if_pos e]
      exact ⟨v, valV_pos (p := (k, v)) e, r1⟩
    · rw [if_neg e, valV_neg (p := (k, v)) e]
      exact RepT.get q r2
theorem RepK.repl {q : Key} {d : D} {v : V} (rd : Rep g F al d v) : ∀ {kvs : List (Key × D)} {vs : List (Key × V)}, RepK g F al kvs vs → RepK g F al (kvs.map fun kv => if kv.1 = q then (kv.1, d) else kv) (vs.map fun kv => if kv.1 = q then (kv.1, v) else kv)
  | [], vs, r => by
    cases r
    rfl
  | (k, e) :: kvs, vs, r => by
    obtain ⟨u, ws, rfl, r1, r2⟩ := r
    rw [List.map_cons, List.map_cons]
    by_cases z : k = q
    · rw [if_pos z, if_pos z]
      exact ⟨v, _, rfl, rd, RepK.repl rd r2⟩
    · rw [if_neg z, if_neg z]
      exact ⟨u, _, rfl, r1, RepK.repl rd r2⟩
theorem RepT.repl {q : List Key} {d : D} {v : V} (rd : Rep g F al d v) : ∀ {kvs : List (List Key × D)} {vs : List (List Key × V)}, RepT g F al kvs vs → RepT g F al (kvs.map fun kv => if kv.1 = q then (kv.1, d) else kv) (vs.map fun kv => if kv.1 = q then (kv.1, v) else kv)
  | [], vs, r => by
    cases r
    rfl
  | (k, e) :: kvs, vs, r => by
    obtain ⟨u, ws, rfl, r1, r2⟩ := r
    rw [List.map_cons, List.map_cons]
    by_cases z : k = q
    · rw [if_pos z, if_pos z]
      exact ⟨v, _, rfl, rd, RepT.repl rd r2⟩
    · rw [if_neg z, if_neg z]
      exact ⟨u, _, rfl, r1, RepT.repl rd r2⟩
theorem RepK.snoc {q : Key} {d : D} {v : V} (rd : Rep g F al d v) : ∀ {kvs : List (Key × D)} {vs : List (Key × V)}, RepK g F al kvs vs → RepK g F al (kvs ++ [(q, d)]) (vs ++ [(q, v)])
  | [], vs, r => by
    cases r
    exact ⟨v, [], rfl, rd, rfl⟩
  | (k, e) :: kvs, vs, r => by
    obtain ⟨u, ws, rfl, r1, r2⟩ := r
    exact ⟨u, _, rfl, r1, RepK.snoc rd r2⟩
theorem RepT.snoc {q : List Key} {d : D} {v : V} (rd : Rep g F al d v) : ∀ {kvs : List (List Key × D)} {vs : List (List Key × V)}, RepT g F al kvs vs → RepT g F al (kvs ++ [(q, d)]) (vs ++ [(q, v)])
  | [], vs, r => by
    cases r
    exact ⟨v, [], rfl, rd, rfl⟩
  | (k, e) :: kvs, vs, r => by
    obtain ⟨u, ws, rfl, r1, r2⟩ := r
    exact ⟨u, _, rfl, r1, RepT.snoc rd r2⟩
theorem put_old {κ : Type} [DecidableEq κ] {kvs : List (κ × V)} {k : κ} {v w : V} (h : valV kvs k = some w) : putK kvs k v = kvs.map fun kv => if kv.1 = k then (kv.1, v) else kv := by
  have e := valV_any k kvs
  rw [h] at e
  unfold putK
  exact if_pos e
theorem RepK.put {q : Key} {d : D} {v : V} (rd : Rep g F al d v) {kvs : List (Key × D)} {vs : List (Key × V)} (r : RepK g F al kvs vs) : RepK g F al (putD' kvs q d) (putK vs q v) := by
  have e := r.get q
  unfold putD'
  split at e
  · next d' h =>
    obtain ⟨w, hw, _⟩ := e
    rw [put_old hw]
    exact r.repl rd
  · next h =>
    rw [putK_new v e]
    exact r.snoc rd
theorem RepT.put {q : List Key} {d : D} {v : V} (rd : Rep g F al d v) {kvs : List (List Key × D)} {vs : List (List Key × V)} (r : RepT g F al kvs vs) : RepT g F al (putD' kvs q d) (putK vs q v) := by
  have e := r.get q
  unfold putD'
  split at e
  · next d' h =>
    obtain ⟨w, hw, _⟩ := e
    rw [put_old hw]
    exact r.repl rd
  · next h =>
    rw [putK_new v e]
    exact r.snoc rd
theorem RepK.length : ∀ {kvs : List (Key × D)} {vs : List (Key × V)}, RepK g F al kvs vs → vs.length = kvs.length
  | [], vs, r => by
    cases r
    rfl
  | (k, d) :: kvs, vs, r => by
    obtain ⟨v, ws, rfl, r1, r2⟩ := r
    exact congrArg (· + 1) (RepK.length r2)
theorem RepT.length : ∀ {kvs : List (List Key × D)} {vs : List (List Key × V)}, RepT g F al kvs vs → vs.length = kvs.length
  | [], vs, r => by
    cases r
    rfl
  | (k, d) :: kvs, vs, r => by
    obtain ⟨v, ws, rfl, r1, r2⟩ := r
    exact congrArg (· + 1) (RepT.length r2)
end
end Vi
namespace Vi
open PySem L2 PyProof.Rows
def DvRep (g : Gi) (s : Sta) (H : Hp) (a : Addr) : DV → Prop
  | .k kvs => ∃ vs, Rd H a (.dK vs) ∧ RepK g s.F s.al kvs vs
  | .t kvs => ∃ vs, H a = some (.dT vs) ∧ RepT g s.F s.al kvs vs
section
variable {g : Gi} {B : Bg} {W : WXv} {env : Env} {s : Sta} {σ : L2.St} {H : Hp}
theorem VlRep.dv {x : Vl} {v : V} {d : DV} (gd : Good g s H) (r : VlRep g B env σ s H x v) (e : dv? x s.h = some d) : ∃ a, v = .ref a ∧ DvRep g s H a d := by
  unfold dv? at e
  split at e
  · cases e
    obtain ⟨a, vs, h1, h2, h3⟩ := r
    exact ⟨a, h1, vs, .inl (gd.fle _ _ h2), h3⟩
  · cases e
    obtain ⟨a, vs, h1, h2, h3⟩ := r
    exact ⟨a, h1, vs, gd.fle _ _ h2, h3⟩
  · next n =>
    obtain ⟨a, rfl, hal⟩ := r
    refine ⟨a, rfl, ?_⟩
    cases e1 : s.h[n]? with
    | none =>
      rw [e1] at e
      cases e
    | some c =>
      rw [e1] at e
      obtain ⟨b, g1, g2⟩ := gd.cell n c e1
      rw [hal] at g1
      cases g1
      have g3 := g2.bare
      have e : (match some c.bare with
        | some (.dK kvs) => some (DV.k kvs)
        | some (.dT kvs) => some (.t kvs)
        | some (.lk kvs) => some (.k kvs)
        | _ => none) = some d := e
      cases ec : c.bare with
      | dK kvs =>
        rw [ec] at e g3
        cases e
        obtain ⟨vs, h1, h2⟩ := g3
        exact ⟨vs, .inl h1, h2⟩
      | lk kvs =>
        rw [ec] at e g3
        cases e
        obtain ⟨od, vs, h1, h2⟩ := g3
        exact ⟨vs, .inr ⟨od, h1⟩, h2⟩
      | dT kvs =>
        rw [ec] at e g3
        cases e
        exact g3
      | _ =>
        rw [ec] at e
        cases e
  · cases e
end
def dGet (kc : List D → Bool) (dv : DV) (y : D) : Option (Option D) := match dv with
  | .k kvs => (key? y).map (getD' kvs)
  | .t kvs => (match y with
    | .tup ds => if kc ds then none else (keys? ds).map (getD' kvs)
    | _ => none)
section
variable {g : Gi} {B : Bg} {W : WXv} {env : Env} {s : Sta} {σ : L2.St} {H : Hp}
end
def fDIx (kc : List D → Bool) (x y : Vl) (h : Hc) : R Vl := match dv? x h, y with
  | some dv, .d y => (match dGet kc dv y with
    | some (some d) => .ok (.d d) h
    | _ => .stuck)
  | _, _ => .stuck
def fIxD (kc : List D → Bool) (x y : Vl) (h : Hc) : R Vl := if (dv? x h).isSome then fDIx kc x y h else fIx x y h
def fDIn (neg : Bool) (kc : List D → Bool) (x y : Vl) (h : Hc) : R Vl := match dv? y h, x with
  | some dv, .d x => (match dGet kc dv x with
    | some o => .ok (.d (nB neg o.isSome)) h
    | none => .stuck)
  | _, _ => .stuck
def fInD (neg : Bool) (kc : List D → Bool) (x y : Vl) (h : Hc) : R Vl := if (dv? y h).isSome then fDIn neg kc x y h else fIn neg x y h
section
variable {X : Cx} {g : Gi} {B : Bg} {W : WXv} {pos apos cpos tpos : Pos} {e a b o k : Expr} {m n1 n2 ma mb mo mk mx : ME}
def fDGet (kc : List D → Bool) (x y : Vl) (z : D) (h : Hc) : R Vl := match dv? x h, y with
  | some dv, .d y => (match dGet kc dv y with
    | some (some d) => .ok (.d d) h
    | some none => .ok (.d z) h
    | none => .stuck)
  | _, _ => .stuck
def mDGet1 (kc : List D → Bool) (mo mk : ME) : ME := fun env h => (mo env h).bind fun x h1 => if (dv? x h1).isSome then (mk env h1).bind fun y h2 => fDGet kc x y .non h2 else .stuck
def mDGet2 (kc : List D → Bool) (mo mk mx : ME) : ME := fun env h => (mo env h).bind fun x h1 => if (dv? x h1).isSome then (mk env h1).bind fun y h2 => (mx env h2).bind fun z h3 => match z with
  | .d z => fDGet kc x y z h3
  | _ => .stuck else .stuck
def dPut (kc : List D → Bool) (c : Cell) (y v : D) : Option Cell := match c with
  | .dK kvs => if kvs.length < 100000 then (key? y).map fun k => .dK (putD' kvs k v) else none
  | .dT kvs => (match y with
    | .tup ds => if kc ds then none else if kvs.length < 100000 then (keys? ds).map fun k => .dT (putD' kvs k v) else none
    | _ => none)
  | _ => none
def fDPut (kc : List D → Bool) (env : Env) (x y z : Vl) (h : Hc) : RS := match x, y, z with
  | .d v, .d (.ref n), .d k => (match h[n]? with
    | some c => (match dPut kc c k v with
      | some c' => .nx env (h.set n c')
      | none => .stuck)
    | none => .stuck)
  | _, _, _ => .stuck
def mDPut (kc : List D → Bool) (e o k : ME) : MS := fun env h => (e env h).thenS env fun x h1 => (o env h1).thenS env fun y h2 => (k env h2).thenS env fun z h3 => fDPut kc env x y z h3
end
end Vi
namespace Vi
open PySem L2 PyProof.Rows
def Cell.isF : Cell → Bool
  | .frz _ => true
  | _ => false
def ourZ (h : Hc) (n : Nat) : Bool := match h[n]? with
  | some c => n != 0 && !c.isF
  | none => false
def frzOne (i : Nat) (c : Cell) : Cell := if i != 0 && !c.isF then .frz c else c
def frzAll (h : Hc) : Hc := h.mapIdx frzOne
def thawOne (h : Hc) (i : Nat) (c : Cell) : Cell := if ourZ h i then c.bare else c
def thaw (h h2 : Hc) : Hc := h2.mapIdx (thawOne h)
def RS.mapH (f : Hc → Hc) : RS → RS
  | .nx e h => .nx e (f h)
  | .ret d h => .ret d (f h)
  | .brk e h => .brk e (f h)
  | .cnt e h => .cnt e (f h)
  | .exc e x h => .exc e x (f h)
  | .stuck => .stuck
def mFrzd (m : MS) : MS := fun env h => (m env (frzAll h)).mapH (thaw h)
theorem bare_isF : ∀ c : Cell, c.bare.isF = false
  | .lst _ => rfl
  | .ins _ _ => rfl
  | .dK _ => rfl
  | .dT _ => rfl
  | .lk _ => rfl
  | .frz c => bare_isF c
theorem ourZ_of {h : Hc} {n : Nat} {c : Cell} (e : h[n]? = some c) : ourZ h n = (n != 0 && !c.isF) := by
  unfold ourZ
  rw [e]
section
variable {g : Gi} {B : Bg} {W : WXv} {env : Env} {s : Sta} {σ : L2.St} {H : Hp}
def Sta.frzA (s : Sta) (H : Hp) : Sta := { s with h := frzAll s.h, z := fun n => if ourZ s.h n then (s.al n).bind H else s.z n }
def Sta.thawA (s0 s : Sta) : Sta := { s with h := thaw s0.h s.h, z := fun n => if ourZ s0.h n then none else s.z n }
theorem frzA_at {n : Nat} : (frzAll s.h)[n]? = (s.h[n]?).map (frzOne n) := by
  unfold frzAll
  rw [List.getElem?_mapIdx]
theorem zed_not {gd : Good g s H} {n : Nat} {o : HO} (h : s.z n = some o) : ourZ s.h n = false := by
  obtain ⟨a, c, _, _, h3⟩ := gd.zed.at_ n o h
  rw [ourZ_of h3]
  simp [Cell.isF]
theorem good_frzA (gd : Good g s H) : Good g (s.frzA H) H := by
  refine ⟨gd.fle, gd.inj, fun n a h => ?_, fun n c h => ?_, ⟨fun n o h => ?_, fun n c h => ?_⟩⟩
  · obtain ⟨h1, h2, h3⟩ := gd.dom n a h
    refine ⟨?_, h2, h3⟩
    show n < (frzAll s.h).length
    unfold frzAll
    rw [List.length_mapIdx]
    exact h1
  · have h : (frzAll s.h)[n]? = some c := h
    rw [frzA_at] at h
    obtain ⟨d, h1, rfl⟩ := Option.map_eq_some_iff.mp h
    obtain ⟨a, h2, h3⟩ := gd.cell n d h1
    refine ⟨a, h2, ?_⟩
    have h4 : CellRep g (s.frzA H) H a d := CellRep.mv (s := s) (s' := s.frzA H) (H := H) (fun _ z => z) (fun _ _ z => z) (fun _ _ z => z) h3
    unfold frzOne
    split
    · exact h4
    · exact h4
  · have h : (if ourZ s.h n then (s.al n).bind H else s.z n) = some o := h
    by_cases ho : ourZ s.h n = true
    · rw [if_pos ho] at h
      obtain ⟨a, h1, h2⟩ := Option.bind_eq_some_iff.mp h
      unfold ourZ at ho
      split at ho
      · next c hc =>
        refine ⟨a, c, h1, h2, ?_⟩
        show (frzAll s.h)[n]? = _
        rw [frzA_at, hc, Option.map_some]
        unfold frzOne
        rw [if_pos ho]
      · cases ho
    · rw [if_neg ho] at h
      obtain ⟨a, c, h1, h2, h3⟩ := gd.zed.at_ n o h
      refine ⟨a, c, h1, h2, ?_⟩
      show (frzAll s.h)[n]? = _
      rw [frzA_at, h3, Option.map_some]
      unfold frzOne
      simp [Cell.isF]
  · have h : (frzAll s.h)[n]? = some (.frz c) := h
    rw [frzA_at] at h
    obtain ⟨d, h1, h2⟩ := Option.map_eq_some_iff.mp h
    show ∃ o, (if ourZ s.h n then (s.al n).bind H else s.z n) = some o
    by_cases ho : ourZ s.h n = true
    · rw [if_pos ho]
      obtain ⟨a, h3, h4⟩ := gd.cell n d h1
      obtain ⟨_, _, o, h5⟩ := gd.dom n a h3
      exact ⟨o, by rw [h3]; exact h5⟩
    · rw [if_neg ho]
      have hf : ¬ (n != 0 && !d.isF) = true := by
        rw [ourZ_of h1] at ho
        exact ho
      unfold frzOne at h2
      rw [if_neg hf] at h2
      subst h2
      exact gd.zed.of n c h1
theorem evo_frzA {s0 : Sta} {H0 : Hp} (gd : Good g s H) (e : Evo s0 H0 s H) : Evo s0 H0 (s.frzA H) H := by
  refine ⟨e.f, e.al, e.oth, ?_, fun n o h => ?_⟩
  · show s0.h.length ≤ (frzAll s.h).length
    unfold frzAll
    rw [List.length_mapIdx]
    exact e.len
  · have h1 := e.z n o h
    show (if ourZ s.h n then (s.al n).bind H else s.z n) = some o
    rw [zed_not (gd := gd) h1]
    exact h1
theorem SR.frzA (sr : SR g B env s σ H) : SR g B env (s.frzA H) σ H :=
  ⟨good_frzA sr.good, evo_frzA sr.good sr.evo, sr.len, fun i sl h => by
    obtain ⟨v, h1, h2⟩ := sr.slot i sl h
    refine ⟨v, h1, ?_⟩
    cases sl with
    | d x => exact h2
    | ol xs => obtain ⟨a, vs, e1, e2, e3, e4⟩ := h2; exact ⟨a, vs, e1, e2, ⟨e3.f, e3.al, e3.new⟩, e4⟩
    | oi c fs => obtain ⟨a, dx, vs, e1, e2, e3, e4⟩ := h2; exact ⟨a, dx, vs, e1, e2, ⟨e3.f, e3.al, e3.new⟩, e4⟩
    | xc c fs => exact h2, sr.sep⟩
variable {s2 : Sta} {σ2 : L2.St} {H2 : Hp} {env2 : Env}
theorem thaw_at {n : Nat} : (thaw s.h s2.h)[n]? = (s2.h[n]?).map (thawOne s.h n) := by
  unfold thaw
  rw [List.getElem?_mapIdx]
theorem good_thaw (gd : Good g s2 H2) : Good g (s.thawA s2) H2 := by
  refine ⟨gd.fle, gd.inj, fun n a h => ?_, fun n c h => ?_, ⟨fun n o h => ?_, fun n c h => ?_⟩⟩
  · obtain ⟨h1, h2, h3⟩ := gd.dom n a h
    refine ⟨?_, h2, h3⟩
    show n < (thaw s.h s2.h).length
    unfold thaw
    rw [List.length_mapIdx]
    exact h1
  · have h : (thaw s.h s2.h)[n]? = some c := h
    rw [thaw_at] at h
    obtain ⟨d, h1, rfl⟩ := Option.map_eq_some_iff.mp h
    obtain ⟨a, h2, h3⟩ := gd.cell n d h1
    refine ⟨a, h2, ?_⟩
    have h4 : CellRep g (s.thawA s2) H2 a d := CellRep.mv (s := s2) (s' := s.thawA s2) (H := H2) (fun _ z => z) (fun _ _ z => z) (fun _ _ z => z) h3
    unfold thawOne
    split
    · exact h4.bare
    · exact h4
  · have h : (if ourZ s.h n then none else s2.z n) = some o := h
    by_cases ho : ourZ s.h n = true
    · rw [if_pos ho] at h
      cases h
    · rw [if_neg ho] at h
      obtain ⟨a, c, h1, h2, h3⟩ := gd.zed.at_ n o h
      refine ⟨a, c, h1, h2, ?_⟩
      show (thaw s.h s2.h)[n]? = _
      rw [thaw_at, h3, Option.map_some]
      unfold thawOne
      rw [if_neg ho]
  · have h : (thaw s.h s2.h)[n]? = some (.frz c) := h
    rw [thaw_at] at h
    obtain ⟨d, h1, h2⟩ := Option.map_eq_some_iff.mp h
    show ∃ o, (if ourZ s.h n then none else s2.z n) = some o
    unfold thawOne at h2
    by_cases ho : ourZ s.h n = true
    · rw [if_pos ho] at h2
      have := bare_isF d
      rw [h2] at this
      cases this
    · rw [if_neg ho] at h2 ⊢
      subst h2
      exact gd.zed.of n c h1
theorem evo_thaw {s0 : Sta} {H0 : Hp} (gd : Good g s H) (e0 : ∀ n o, s0.z n = some o → s.z n = some o) (e : Evo s0 H0 s2 H2) : Evo s0 H0 (s.thawA s2) H2 := by
  refine ⟨e.f, e.al, e.oth, ?_, fun n o h => ?_⟩
  · show s0.h.length ≤ (thaw s.h s2.h).length
    unfold thaw
    rw [List.length_mapIdx]
    exact e.len
  · show (if ourZ s.h n then none else s2.z n) = some o
    rw [zed_not (gd := gd) (e0 n o h)]
    exact e.z n o h
theorem SR.thawA (sr0 : SR g B env s σ H) (sr : SR g B env2 s2 σ2 H2) : SR g B env2 (s.thawA s2) σ2 H2 :=
  ⟨good_thaw sr.good, evo_thaw sr0.good sr0.evo.z sr.evo, sr.len, fun i sl h => by
    obtain ⟨v, h1, h2⟩ := sr.slot i sl h
    refine ⟨v, h1, ?_⟩
    cases sl with
    | d x => exact h2
    | ol xs => obtain ⟨a, vs, e1, e2, e3, e4⟩ := h2; exact ⟨a, vs, e1, e2, ⟨e3.f, e3.al, e3.new⟩, e4⟩
    | oi c fs => obtain ⟨a, dx, vs, e1, e2, e3, e4⟩ := h2; exact ⟨a, dx, vs, e1, e2, ⟨e3.f, e3.al, e3.new⟩, e4⟩
    | xc c fs => exact h2, sr.sep⟩
end
section
variable {X : Cx} {g : Gi} {B : Bg} {W : WXv} {st : Stmt} {m : MS}
end
end Vi
namespace Vi
open PySem L2 PyProof.Rows
section
variable {g : Gi} {B : Bg} {W : WXv} {env : Env} {s : Sta} {σ : L2.St} {H : Hp}
theorem Evo.cell {n : Nat} {c' : Cell} {a : Addr} {o : HO} (ha : s.al n = some a) : Evo s H { s with h := s.h.set n c' } (upd H a o) := by
  refine ⟨fun _ _ h => h, fun _ _ h => h, fun b u h hn => ?_, ?_, fun _ _ h => h⟩
  · have ne : b ≠ a := fun e => hn n (by rw [e]; exact ha)
    exact ⟨by rw [upd_ne ne]; exact h, fun z _ => z, hn⟩
  · show s.h.length ≤ (s.h.set n c').length
    rw [List.length_set]
    exact Nat.le_refl _
end
abbrev LM := List D → List D → Option (List D × D)
structure MetM (X : Cx) (g : Gi) (name : Str) (id : String) (f : LM) : Prop where
  slot : Slot "list" name id
  ty : typeOf (.builtin id) = pure (.type "method_descriptor")
  ex : ∃ r : V → List V → Hp → VK → Prop, MtR X id r ∧ ∀ (F : Hp) (al : Nat → Option Addr) (H : Hp) (l : Addr) (ws vs : List V) (xs ds xs' : List D) (d : D) (Q : VK), H l = some (.lst ws) → Reps g F al xs ws → Reps g F al ds vs → f xs ds = some (xs', d) →
    (∀ (ws' : List V) (v : V), Reps g F al xs' ws' → Rep g F al d v → Q v (upd H l (.lst ws'))) → r (.ref l) vs H Q
def isLc (h : Hc) : Vl → Option Nat
  | .d (.ref n) => (match h[n]? with
    | some (.lst _) => some n
    | _ => none)
  | _ => none
def fMet (f : LM) (n : Nat) (ys : List Vl) (h : Hc) : R Vl := match datas ys, h[n]? with
  | some ds, some (.lst xs) => (match f xs ds with
    | some (xs', d) => .ok (.d d) (h.set n (.lst xs'))
    | none => .stuck)
  | _, _ => .stuck
def mMetM (f : LM) (mo : ME) (ma : MA) : ME := fun env h => (mo env h).bind fun x h1 => match isLc h1 x with
  | some n => (ma env h1).bind fun ys h2 => fMet f n ys h2
  | none => .stuck
section
variable {X : Cx} {g : Gi} {B : Bg} {W : WXv} {env : Env} {s : Sta} {σ : L2.St} {H : Hp}
theorem isLc_at {x : Vl} {v : V} {n : Nat} (gd : Good g s H) (r : VlRep g B env σ s H x v) (e : isLc s.h x = some n) : ∃ a ws xs, v = .ref a ∧ s.al n = some a ∧ s.h[n]? = some (.lst xs) ∧ H a = some (.lst ws) ∧ Reps g s.F s.al xs ws := by
  unfold isLc at e
  split at e
  · next m =>
    split at e
    · next xs hx =>
      cases e
      obtain ⟨a, rfl, hal⟩ := r
      obtain ⟨b, g1, ws, g2, g3⟩ := gd.cell _ _ hx
      rw [hal] at g1
      cases g1
      exact ⟨a, ws, xs, rfl, hal, hx, g2, g3⟩
    · cases e
  · cases e
theorem fMet_post {name : Str} {id : String} {f : LM} {n : Nat} {a : Addr} {ys : List Vl} {vs : List V} {Q : VK} {r : V → List V → Hp → VK → Prop} (sr : SR g B env s σ H)
    (hr : ∀ (F : Hp) (al : Nat → Option Addr) (H : Hp) (l : Addr) (ws vs : List V) (xs ds xs' : List D) (d : D) (Q : VK), H l = some (.lst ws) → Reps g F al xs ws → Reps g F al ds vs → f xs ds = some (xs', d) →
      (∀ (ws' : List V) (v : V), Reps g F al xs' ws' → Rep g F al d v → Q v (upd H l (.lst ws'))) → r (.ref l) vs H Q)
    (ha : s.al n = some a) (ry : VlReps g B env σ s H ys vs) (p : PostE g B W env s σ H (fMet f n ys s.h) Q) : r (.ref a) vs H Q := by
  unfold fMet at p
  split at p
  · next ds xs e1 e2 =>
    split at p
    · next xs' d ef =>
      obtain ⟨b, g1, ws, g2, g3⟩ := sr.good.cell _ _ e2
      rw [ha] at g1
      cases g1
      refine hr s.F s.al H a ws vs xs ds xs' d Q g2 g3 (ry.datas e1) ef fun ws' v q1 q2 => ?_
      exact p v _ { s with h := s.h.set n (.lst xs') } rfl (Evo.cell ha) (sr.cell e2 ha (fun _ z => by cases z) (fun _ z => by cases z) ⟨ws', upd_same, q1⟩) q2
    · exact p.elim
  · exact p.elim
end
section
variable {X : Cx} {g : Gi} {B : Bg} {W : WXv} {pos apos cpos : Pos} {o e : Expr} {es : List Expr} {mo : ME} {ma : MA} {name : Str} {id : String} {f : LM}
theorem bindEA {b : MA} {env : Env} {s : Sta} {σ : L2.St} {H : Hp} {Q : VK} (sr : SR g B env s σ H) {kk : List Vl → Hc → R Vl} (p : PostE g B W env s σ H ((b env s.h).bind kk) Q) :
    tA g B W b σ H fun vs H2 => ∃ s2 xs, SR g B env s2 σ H2 ∧ Evo s H s2 H2 ∧ VlReps g B env σ s2 H2 xs vs ∧ PostE g B W env s2 σ H2 (kk xs s2.h) Q := by
  refine ⟨env, s, sr, ?_⟩
  cases e : b env s.h with
  | ok x h1 =>
    rw [e] at p
    intro v H1 s1 e1 ev sr1 vr
    refine ⟨s1, x, sr1, ev, vr, ?_⟩
    rw [e1]
    exact PostE.later ev p
  | exc x h1 =>
    rw [e] at p
    exact p
  | stuck =>
    rw [e] at p
    exact p
theorem ve_metM (hK : g.K = X.K) (hm : MetM X g name id f) (ho : PE X o (tE g B W mo)) (ha : PA X (e :: es) (tA g B W ma))
    (hbase : attributeBase o name X.env (eval o X.env) = eval o X.env := by rfl)
    (hfew : ((backTo cpos (starEach (e :: es) X.env)).all (fun x => !x.1) && (backToKw cpos (keywordEach [] X.env)).all (fun x => x.1.isSome) && decide ((e :: es).length + ([] : List Keyword).length + (if ([] : List Keyword).isEmpty then 0 else 1) < 30)) = true := by rfl)
    (hline : (apos.endLine == cpos.line) = true := by rfl) (hs : starEach (e :: es) X.env = (false, eval e X.env) :: starEach es X.env := by rfl) (hplain : (backTo cpos (starEach es X.env)).any (·.1) = false := by rfl) :
    PE X (.Call (.Attribute o name apos) (e :: es) [] cpos) (tE g B W (mMetM f mo ma)) := by
  obtain ⟨r, hr, hf⟩ := hm.ex
  refine pe_imp (pe_bm PySem.F.plainAttrs_list hm.slot hm.ty hr ho ha hbase hfew hline hs hplain) fun σ H Q ⟨env, s, sr, p⟩ => ?_
  refine (bindE (Q := Q) sr p).mono fun v H1 ⟨s1, x, sr1, ev1, r1, p1⟩ => ?_
  split at p1
  · next n en =>
    obtain ⟨a, ws, xs, rfl, hal, hx, h1, h2⟩ := isLc_at sr1.good r1 en
    refine ⟨.inl ⟨rfl, ws, .of h1⟩, ?_⟩
    refine (bindEA sr1 p1).mono fun vs H2 ⟨s2, ys, sr2, ev2, r2, p2⟩ => ?_
    exact fMet_post (name := name) (id := id) sr2 hf (ev2.al _ _ hal) r2 p2
  · exact p1.elim
theorem ve_metM0 (hK : g.K = X.K) (hm : MetM X g name id f) (ho : PE X o (tE g B W mo))
    (hbase : attributeBase o name X.env (eval o X.env) = eval o X.env := by rfl) (hline : (apos.endLine == cpos.line) = true := by rfl) :
    PE X (.Call (.Attribute o name apos) [] [] cpos) (tE g B W (mMetM f mo maNil)) := by
  obtain ⟨r, hr, hf⟩ := hm.ex
  refine pe_imp (pe_bm0 PySem.F.plainAttrs_list hm.slot hm.ty hr ho hbase hline) fun σ H Q ⟨env, s, sr, p⟩ => ?_
  refine (bindE (Q := Q) sr p).mono fun v H1 ⟨s1, x, sr1, ev1, r1, p1⟩ => ?_
  split at p1
  · next n en =>
    obtain ⟨a, ws, xs, rfl, hal, hx, h1, h2⟩ := isLc_at sr1.good r1 en
    refine ⟨.inl ⟨rfl, ws, .of h1⟩, ?_⟩
    exact fMet_post (name := name) (id := id) sr1 hf hal .nil p1
  · exact p1.elim
def lmAppend : LM := fun xs ds => match ds with
  | [d] => if xs.length < 100000 then some (xs ++ [d], .non) else none
  | _ => none
theorem mm_append : MetM X g "append" "list.append" lmAppend := ⟨PySem.F.slot_list_append, PySem.F.type_list_append, _, mt_append, fun F al H l ws vs xs ds xs' d Q h1 h2 h3 h4 q => by
  unfold lmAppend at h4
  split at h4
  · next y =>
    split at h4
    · next hl =>
      cases h4
      obtain ⟨v, r, rfl, r1, r2⟩ := h3
      cases r2
      exact ⟨l, ws, v, rfl, rfl, h1, by rw [h2.length]; exact size_lt hl, q _ _ (h2.append (Reps.cons r1 Reps.nil)) rfl⟩
    · cases h4
  · cases h4⟩
def lmClear : LM := fun _ ds => match ds with
  | [] => some ([], .non)
  | _ => none
def lmReverse : LM := fun xs ds => match ds with
  | [] => some (xs.reverse, .non)
  | _ => none
end
end Vi
namespace Vi
open PySem L2 PyProof.Rows
mutual
def refsD (L : Nat) : D → Bool
  | .ref n => decide (n < L)
  | .tup xs => refsDs L xs
  | .xtup xs => refsDs L xs
  | .lst xs => refsDs L xs
  | .kl xs => refsDs L xs
  | .obj _ fs => refsF L fs
  | .dK kvs => refsK L kvs
  | .dT kvs => refsT L kvs
  | _ => true
def refsDs (L : Nat) : List D → Bool
  | [] => true
  | d :: r => refsD L d && refsDs L r
def refsF (L : Nat) : List (Str × D) → Bool
  | [] => true
  | (_, d) :: r => refsD L d && refsF L r
def refsK (L : Nat) : List (Key × D) → Bool
  | [] => true
  | (_, d) :: r => refsD L d && refsK L r
def refsT (L : Nat) : List (List Key × D) → Bool
  | [] => true
  | (_, d) :: r => refsD L d && refsT L r
end
def alCut (L : Nat) (al : Nat → Option Addr) : Nat → Option Addr := fun n => if n < L then al n else none
section
variable {g : Gi} {F : Hp} {al : Nat → Option Addr} {L : Nat}
mutual
theorem Rep.cut : ∀ {d : D} {v : V}, refsD L d = true → Rep g F al d v → Rep g F (alCut L al) d v
  | .non, _, _, h => h
  | .bl _, _, _, h => h
  | .int _, _, _, h => h
  | .str _, _, _, h => h
  | .tup _, _, e, ⟨a, vs, h1, h2, h3⟩ => ⟨a, vs, h1, h2, Reps.cut (by simpa only [refsD] using e) h3⟩
  | .lst _, _, e, ⟨a, vs, h1, h2, h3⟩ => ⟨a, vs, h1, h2, Reps.cut (by simpa only [refsD] using e) h3⟩
  | .xtup _, _, e, ⟨a, o, vs, h1, h2, h3, h4⟩ => ⟨a, o, vs, h1, h2, h3, Reps.cut (by simpa only [refsD] using e) h4⟩
  | .kl _, _, e, ⟨a, vs, h1, h2, h3⟩ => ⟨a, vs, h1, h2, Reps.cut (by simpa only [refsD] using e) h3⟩
  | .ref n, _, e, ⟨a, h1, h2⟩ => ⟨a, h1, by
    have hn : n < L := of_decide_eq_true (by simpa only [refsD] using e)
    show (if n < L then al n else none) = some a
    rw [if_pos hn]
    exact h2⟩
  | .obj _ _, _, e, ⟨a, dx, vs, h1, h2, h3⟩ => ⟨a, dx, vs, h1, h2, RepF.cut (by simpa only [refsD] using e) h3⟩
  | .cls _, _, _, h => h
  | .dK _, _, e, ⟨a, vs, h1, h2, h3⟩ => ⟨a, vs, h1, h2, RepK.cut (by simpa only [refsD] using e) h3⟩
  | .dT _, _, e, ⟨a, vs, h1, h2, h3⟩ => ⟨a, vs, h1, h2, RepT.cut (by simpa only [refsD] using e) h3⟩
theorem Reps.cut : ∀ {d : List D} {v : List V}, refsDs L d = true → Reps g F al d v → Reps g F (alCut L al) d v
  | [], _, _, h => h
  | _ :: _, _, e, ⟨v, r, h1, h2, h3⟩ => by
    obtain ⟨e1, e2⟩ := Bool.and_eq_true_iff.mp (by simpa only [refsDs] using e)
    exact ⟨v, r, h1, Rep.cut e1 h2, Reps.cut e2 h3⟩
theorem RepF.cut : ∀ {d : List (Str × D)} {v : List (Str × V)}, refsF L d = true → RepF g F al d v → RepF g F (alCut L al) d v
  | [], _, _, h => h
  | (_, _) :: _, _, e, ⟨v, r, h1, h2, h3⟩ => by
    obtain ⟨e1, e2⟩ := Bool.and_eq_true_iff.mp (by simpa only [refsF] using e)
    exact ⟨v, r, h1, Rep.cut e1 h2, RepF.cut e2 h3⟩
theorem RepK.cut : ∀ {d : List (Key × D)} {v : List (Key × V)}, refsK L d = true → RepK g F al d v → RepK g F (alCut L al) d v
  | [], _, _, h => h
  | (_, _) :: _, _, e, ⟨v, r, h1, h2, h3⟩ => by
    obtain ⟨e1, e2⟩ := Bool.and_eq_true_iff.mp (by simpa only [refsK] using e)
    exact ⟨v, r, h1, Rep.cut e1 h2, RepK.cut e2 h3⟩
theorem RepT.cut : ∀ {d : List (List Key × D)} {v : List (List Key × V)}, refsT L d = true → RepT g F al d v → RepT g F (alCut L al) d v
  | [], _, _, h => h
  | (_, _) :: _, _, e, ⟨v, r, h1, h2, h3⟩ => by
    obtain ⟨e1, e2⟩ := Bool.and_eq_true_iff.mp (by simpa only [refsT] using e)
    exact ⟨v, r, h1, Rep.cut e1 h2, RepT.cut e2 h3⟩
end
end
def cellRefs (L : Nat) : Cell → Bool
  | .lst xs => refsDs L xs
  | .ins _ fs => refsF L fs
  | .dK kvs => refsK L kvs
  | .dT kvs => refsT L kvs
  | .lk kvs => refsK L kvs
  | .frz c => cellRefs L c
def cutH (L : Nat) (h : Hc) : Option Hc := if (h.take L).all (cellRefs L) then some (h.take L) else none
def RS.cut (L : Nat) : RS → RS
  | .nx e h => (match cutH L h with
    | some h2 => .nx (e.map fun _ => none) h2
    | none => .stuck)
  | .ret d h => if refsD L d then (match cutH L h with
    | some h2 => .ret d h2
    | none => .stuck) else .stuck
  | .exc e x h => if refsD L x then (match cutH L h with
    | some h2 => .exc (e.map fun _ => none) x h2
    | none => .stuck) else .stuck
  | _ => .stuck
def mCut (m : MS) : MS := fun env h => (m env h).cut h.length
section
variable {g : Gi} {B : Bg} {W : WXv} {env : Env} {s : Sta} {σ : L2.St} {H : Hp}
def Sta.cut (L : Nat) (s : Sta) : Sta := { F := s.F, al := alCut L s.al, h := s.h.take L, z := fun n => if n < L then s.z n else none }
theorem CellRep.cut {L : Nat} {a : Addr} : ∀ {c : Cell}, cellRefs L c = true → CellRep g s H a c → CellRep g (s.cut L) H a c
  | .lst _, e, ⟨vs, h1, h2⟩ => ⟨vs, h1, h2.cut e⟩
  | .ins _ _, e, ⟨dx, vs, h1, h2⟩ => ⟨dx, vs, h1, h2.cut e⟩
  | .dK _, e, ⟨vs, h1, h2⟩ => ⟨vs, h1, h2.cut e⟩
  | .dT _, e, ⟨vs, h1, h2⟩ => ⟨vs, h1, h2.cut e⟩
  | .lk _, e, ⟨od, vs, h1, h2⟩ => ⟨od, vs, h1, h2.cut e⟩
  | .frz c, e, h => CellRep.cut (c := c) e h
theorem alCut_some {L n : Nat} {al : Nat → Option Addr} {a : Addr} (h : alCut L al n = some a) : n < L ∧ al n = some a := by
  have h : (if n < L then al n else none) = some a := h
  by_cases e : n < L
  · rw [if_pos e] at h
    exact ⟨e, h⟩
  · rw [if_neg e] at h
    cases h
theorem take_some {L n : Nat} {h : Hc} {c : Cell} (e : (h.take L)[n]? = some c) : n < L ∧ h[n]? = some c := by
  by_cases hn : n < L
  · rw [List.getElem?_take_of_lt hn] at e
    exact ⟨hn, e⟩
  · rw [List.getElem?_take, if_neg hn] at e
    cases e
theorem good_cut {L : Nat} (gd : Good g s H) (hc : (s.h.take L).all (cellRefs L) = true) : Good g (s.cut L) H := by
  refine ⟨gd.fle, fun n m a h1 h2 => gd.inj n m a (alCut_some h1).2 (alCut_some h2).2, fun n a h => ?_, fun n c h => ?_, ⟨fun n o h => ?_, fun n c h => ?_⟩⟩
  · obtain ⟨e, h⟩ := alCut_some h
    obtain ⟨h1, h2, h3⟩ := gd.dom n a h
    refine ⟨?_, h2, h3⟩
    show n < (s.h.take L).length
    rw [List.length_take]
    omega
  · obtain ⟨e, h⟩ := take_some (show (s.h.take L)[n]? = some c from h)
    obtain ⟨a, h1, h2⟩ := gd.cell n c h
    have hm : c ∈ s.h.take L := List.mem_of_getElem? (by rw [List.getElem?_take_of_lt e]; exact h)
    refine ⟨a, ?_, h2.cut (List.all_eq_true.mp hc c hm)⟩
    show (if n < L then s.al n else none) = some a
    rw [if_pos e]
    exact h1
  · have h : (if n < L then s.z n else none) = some o := h
    by_cases e : n < L
    · rw [if_pos e] at h
      obtain ⟨a, c, h1, h2, h3⟩ := gd.zed.at_ n o h
      refine ⟨a, c, ?_, h2, ?_⟩
      · show (if n < L then s.al n else none) = some a
        rw [if_pos e]
        exact h1
      · show (s.h.take L)[n]? = _
        rw [List.getElem?_take_of_lt e]
        exact h3
    · rw [if_neg e] at h
      cases h
  · obtain ⟨e, h⟩ := take_some (show (s.h.take L)[n]? = some (.frz c) from h)
    obtain ⟨o, h1⟩ := gd.zed.of n c h
    exact ⟨o, by
      show (if n < L then s.z n else none) = some o
      rw [if_pos e]
      exact h1⟩
theorem evo_cut {s0 s2 : Sta} {H0 H2 : Hp} {L : Nat} (gd : Good g s H) (e0 : Evo s0 H0 s H) (hL : L = s.h.length) (e : Evo s0 H0 s2 H2) : Evo s0 H0 (s2.cut L) H2 := by
  refine ⟨e.f, fun n a h => ?_, fun a o h hn => ?_, ?_, fun n o h => ?_⟩
  · have hn := (gd.dom n a (e0.al n a h)).1
    show (if n < L then s2.al n else none) = some a
    rw [if_pos (by omega)]
    exact e.al n a h
  · obtain ⟨h1, h2, h3⟩ := e.oth a o h hn
    exact ⟨h1, h2, fun n z => h3 n (alCut_some z).2⟩
  · show s0.h.length ≤ (s2.h.take L).length
    rw [List.length_take]
    have := e.len
    have := e0.len
    omega
  · obtain ⟨a, c, h1, _, h3⟩ := gd.zed.at_ n o (e0.z n o h)
    have hn := (List.getElem?_eq_some_iff.mp h3).1
    show (if n < L then s2.z n else none) = some o
    rw [if_pos (by omega)]
    exact e.z n o h
theorem none_map {env : Env} {i : Nat} {sl : Sl} (h : (env.map fun _ => (none : Option Sl))[i]? = some (some sl)) : False := by
  rw [List.getElem?_map] at h
  cases e : env[i]? with
  | none => rw [e] at h; cases h
  | some x => rw [e] at h; cases h
theorem SR.cut {s2 : Sta} {σ2 : L2.St} {H2 : Hp} {env2 : Env} {L : Nat} (sr : SR g B env s σ H) (hL : L = s.h.length) (sr2 : SR g B env2 s2 σ2 H2) (hc : (s2.h.take L).all (cellRefs L) = true) : SR g B (env2.map fun _ => none) (s2.cut L) σ2 H2 :=
  ⟨good_cut sr2.good hc, evo_cut sr.good sr.evo hL sr2.evo, by rw [List.length_map]; exact sr2.len, fun i sl h => (none_map h).elim, fun i j sl sl' v _ h => (none_map h).elim⟩
theorem cutH_some {L : Nat} {h h2 : Hc} (e : cutH L h = some h2) : (h.take L).all (cellRefs L) = true ∧ h2 = h.take L := by
  unfold cutH at e
  split at e
  · next hc => cases e; exact ⟨hc, rfl⟩
  · cases e
theorem le_cut {s2 : Sta} {L : Nat} (gd : Good g s H) (hL : L = s.h.length) (l : Le s s2) : Le s (s2.cut L) := ⟨l.f, fun n a h => by
    have hn := (gd.dom n a h).1
    show (if n < L then s2.al n else none) = some a
    rw [if_pos (by omega)]
    exact l.al n a h, fun n o h => by
    obtain ⟨a, c, h1, _, h3⟩ := gd.zed.at_ n o h
    have hn := (List.getElem?_eq_some_iff.mp h3).1
    show (if n < L then s2.z n else none) = some o
    rw [if_pos (by omega)]
    exact l.z n o h⟩
theorem PostS.cut {N : Ends} (sr : SR g B env s σ H) : ∀ {r : RS}, PostS g B W s (r.cut s.h.length) N → PostS g B W s r N
  | .nx e h, p => fun σ2 H2 s2 eh l sr2 => by
    unfold RS.cut at p
    dsimp only at p
    split at p
    · next h2 hc =>
      rw [← eh] at hc
      obtain ⟨h1, rfl⟩ := cutH_some hc
      exact p σ2 H2 (s2.cut s.h.length) rfl (le_cut sr.good rfl l) (SR.cut sr rfl sr2 h1)
    · exact p.elim
  | .ret d h, p => fun v H2 s2 eh ev gd r => by
    unfold RS.cut at p
    dsimp only at p
    split at p
    · next hd =>
      split at p
      · next h2 hc =>
        rw [← eh] at hc
        obtain ⟨h1, rfl⟩ := cutH_some hc
        exact p v H2 (s2.cut s.h.length) rfl (evo_cut sr.good sr.evo rfl ev) (good_cut gd h1) (r.cut hd)
      · exact p.elim
    · exact p.elim
  | .exc e x h, p => fun c d σ2 H2 s2 eh l sr2 xr => by
    unfold RS.cut at p
    dsimp only at p
    split at p
    · next hd =>
      split at p
      · next h2 hc =>
        rw [← eh] at hc
        obtain ⟨h1, rfl⟩ := cutH_some hc
        refine p c d σ2 H2 (s2.cut s.h.length) rfl (le_cut sr.good rfl l) (SR.cut sr rfl sr2 h1) ?_
        cases x with
        | obj c' fs =>
          obtain ⟨d', vs, e1, e2, e3, e4, e5⟩ := xr
          exact ⟨d', vs, e1, e2, e3, fun n z => e4 n (alCut_some z).2, e5.cut (by simpa only [refsD] using hd)⟩
        | _ => exact xr.elim
      · exact p.elim
    · exact p.elim
  | .brk _ _, p => p.elim
  | .cnt _ _, p => p.elim
  | .stuck, p => p
end
section
variable {X : Cx} {g : Gi} {B : Bg} {W : WXv} {sts : List Stmt} {m : MS}
end
end Vi
namespace Vi
open PySem L2 PyProof.Rows
def isi2 (g : Gi) (u t1 t2 : Ty) : Option Bool := match g.isi u t1 with
  | some true => some true
  | some false => g.isi u t2
  | none => none
def fIsi2 (g : Gi) (t1 t2 : Ty) (x : Vl) (h : Hc) : R Vl := match x.ty g h with
  | some u => (match isi2 g u t1 t2 with
    | some b => .ok (.d (.bl b)) h
    | none => .stuck)
  | none => .stuck
section
variable {X : Cx} {g : Gi} {B : Bg} {W : WXv} {pos p p2 : Pos} {e c1 c2 : Expr} {m : ME} {k : Nat}
end
end Vi
namespace Vi
open PySem L2 PyProof.Rows
structure Tot {α : Type} (lt : α → α → Bool) : Prop where
  asym : ∀ x y, lt x y = true → lt y x = false
  tr : ∀ x y z, lt y x = false → lt z y = false → lt z x = false
  tri : ∀ x y, lt x y = false → lt y x = false → x = y
def sLt (a b : PySem.Str) : Bool := decide (a.cps.toList < b.cps.toList)
def kLt : Key → Key → Bool
  | .inl a, .inl b => decide (a < b)
  | .inr a, .inr b => sLt a b
  | .inl _, .inr _ => true
  | .inr _, .inl _ => false
def ksLt : List Key → List Key → Bool
  | [], [] => false
  | [], _ :: _ => true
  | _ :: _, [] => false
  | x :: xs, y :: ys => if x = y then ksLt xs ys else kLt x y
section
variable {α : Type} {lt : α → α → Bool}
def insL (lt : α → α → Bool) (x : α) : List α → List α
  | [] => [x]
  | y :: r => if lt y x then y :: insL lt x r else x :: y :: r
def sortL (lt : α → α → Bool) : List α → List α
  | [] => []
  | x :: r => insL lt x (sortL lt r)
end
end Vi
set_option maxHeartbeats 4000000
namespace Vi
open PySem L2 PyProof.Rows
def kKind : Key → Bool
  | .inl _ => true
  | .inr _ => false
def compat : List Key → List Key → Bool
  | x :: xs, y :: ys => (kKind x == kKind y) && (if x = y then compat xs ys else true)
  | _, _ => true
section
variable {prog : Program} {w : World} {A : Around} {E : Value → Shared → Prop} {s : Shared} {Q : Bool → Shared → Prop}
end
def TupK (h : Heap) (v : Value) (ks : List Key) : Prop := ∃ (a : Addr) (its : List Value), v = .ref a ∧ Vals (ks.map kV) its ∧ IsTup h a its.toArray
theorem TupK.keeps {h h' : Heap} {v : Value} {ks : List Key} (x : TupK h v ks) (k : ∀ b o, h.get? b = some o → o.cls = .type "tuple" → h'.get? b = some o) : TupK h' v ks := by
  obtain ⟨a, its, e, r, o, h1, h2, n, h3⟩ := x
  exact ⟨a, its, e, r, o, k a o h1 h2, h2, n, h3⟩
def compatAll (l : List (List Key)) : Bool := l.all fun x => !x.isEmpty && l.all fun y => compat x y
section
variable {prog : Program} {w : World} {A : Around} {E : Value → Shared → Prop} {s : Shared}
end
def rSrtK (K : PySem.W.Frag) : List V → Hp → VK → Prop := fun vs H Q => ∃ (a : Addr) (xs : List V) (k : V → List Key) (kd : Bool), vs = [.ref a] ∧ SqL K H a xs ∧ (∀ x ∈ xs, ∃ t, x = .ref t ∧ SqT K H t ((k x).map kV)) ∧
  (∀ x ∈ xs, ∃ y r, k x = y :: r ∧ kKind y = kd) ∧ (∀ x ∈ xs, ∀ y ∈ xs, compat (k x) (k y) = true) ∧
  ∀ ys p, SrtO.Srtd (fun v u => ksLt (k v) (k u)) ys → ys.Perm xs → H p = none → Q (.ref p) (upd H p (.lst ys))
section
variable {X : Cx}
end
end Vi
namespace Vi
open PySem L2 PyProof.Rows
section
variable {prog : Program} {w : World} {A : Around} {E : Value → Shared → Prop} {s : Shared}
def Colls (prog : Program) (w : World) (A : Around) (s : Shared) (x : Value) (vs : List Value) : Prop :=
  ∀ (E : Value → Shared → Prop) (R : List Value → Shared → Prop), (∀ (h' : Heap) (tk : Nat), (∀ b o, s.heap.get? b = some o → h'.get? b = some o) → R vs { s with heap := h', toks := tk }) → wpAny (model prog w) A (collect x) R E s
end
end Vi
namespace Vi
open PySem L2 PyProof.Rows
section
variable {prog : Program} {w : World} {A : Around} {s : Shared}
end
def bV (v : Value) : V := (absV v).getD .non
inductive Mode (K : PySem.W.Frag) (H : Hp) (k : V → List Key) (xs : List V) : Prop where
  | flat (kd : Bool) (h : ∀ x ∈ xs, ∃ y, x = kV y ∧ k x = [y] ∧ kKind y = kd)
  | tup (kd : Bool) (h1 : ∀ x ∈ xs, ∃ t, x = .ref t ∧ SqT K H t ((k x).map kV)) (h2 : ∀ x ∈ xs, ∃ y r, k x = y :: r ∧ kKind y = kd) (h3 : ∀ x ∈ xs, ∀ y ∈ xs, compat (k x) (k y) = true)
section
variable {prog : Program} {w : World} {A : Around} {s : Shared}
end
inductive SrcV (K : PySem.W.Frag) (H : Hp) (a : Addr) (xs : List V) : Prop where
  | lst (h : SqL K H a xs)
  | tup (h : SqT K H a xs)
def rSrt (K : PySem.W.Frag) : List V → Hp → VK → Prop := fun vs H Q => ∃ (a : Addr) (xs : List V) (k : V → List Key), vs = [.ref a] ∧ SrcV K H a xs ∧ Mode K H k xs ∧
  ∀ ys p, SrtO.Srtd (fun v u => ksLt (k v) (k u)) ys → ys.Perm xs → H p = none → Q (.ref p) (upd H p (.lst ys))
section
variable {X : Cx}
end
end Vi
namespace Vi
open PySem L2 PyProof.Rows
def dKey : Key → D
  | .inl i => .int i
  | .inr x => .str x
def tupD (ks : List Key) : D := .tup (ks.map dKey)
def sameKinds : List Key → Bool
  | [] => true
  | k :: r => r.all fun j => kKind j == kKind k
def tupKs? (kc : List D → Bool) : List D → Option (List (List Key))
  | [] => some []
  | .tup ds :: r => if kc ds then none else (match keys? ds, tupKs? kc r with
    | some ks, some kss => some (ks :: kss)
    | _, _ => none)
  | _ => none
def sortD? (kc : List D → Bool) (ds : List D) : Option (List D) := match keys? ds with
  | some ks => if sameKinds ks then some ((sortL kLt ks).map dKey) else none
  | none => (match tupKs? kc ds with
    | some kss => if compatAll kss then some ((sortL ksLt kss).map tupD) else none
    | none => none)
def fSorted (kc : List D → Bool) (o : Bool) (xs : List Vl) (h : Hc) : R Vl := match xs with
  | [x] => (match seq? h x with
    | some ds => (match sortD? kc ds with
      | some es => .ok (Vl.ofL o es) h
      | none => .stuck)
    | none => .stuck)
  | _ => .stuck
open Classical in
noncomputable def kOf (H : Hp) : V → List Key
  | .int i => [.inl i]
  | .str x => [.inr x]
  | .ref t => if h : ∃ ks : List Key, H t = some (.tup (ks.map kV)) then h.choose else []
  | _ => []
open Classical in
section
variable {g : Gi} {F : Hp} {al : Nat → Option Addr}
end
section
variable {X : Cx} {g : Gi}
end
end Vi
set_option maxHeartbeats 2000000
namespace Vi
open PySem L2 PyProof.Rows
def fLens (T : Tbl) (xs : List Vl) (h : Hc) : R Vl := match xs with
  | [.d (.obj c fs)] => (match T c with
    | some F => (F [.obj c fs] h).bind fun d h' => match d with
      | .int i => if 0 ≤ i ∧ i < 2 ^ 62 then .ok (.d (.int i)) h' else .stuck
      | _ => .stuck
    | none => .stuck)
  | _ => fLen xs h
def fIns (neg : Bool) (T : Tbl) (F0 : Vl → Vl → Hc → R Vl) (x y : Vl) (h : Hc) : R Vl := match y with
  | .d (.obj c fs) => (match T c, x with
    | some F, .d xd => (F [.obj c fs, xd] h).bind fun d h' => match d with
      | .bl b => .ok (.d (nB neg b)) h'
      | _ => .stuck
    | _, _ => .stuck)
  | _ => F0 x y h
def fOwnIx (T : Tbl) (x y : Vl) (h : Hc) : R Vl := match x, y with
  | .d (.obj c fs), .d yd => (match T c with
    | some F => (F [.obj c fs, yd] h).bind fun d h' => .ok (.d d) h'
    | none => .stuck)
  | _, _ => .stuck
def isObj? : Vl → Bool
  | .d (.obj _ _) => true
  | _ => false
def fIxs (T : Tbl) (F0 : Vl → Vl → Hc → R Vl) (x y : Vl) (h : Hc) : R Vl := if isObj? x then fOwnIx T x y h else F0 x y h
section
variable {X : Cx} {g : Gi} {B : Bg} {W : WXv} {pos p : Pos} {a b : Expr} {ma mb : ME} {A : MA}
end
end Vi
namespace Vi
open PySem L2 PyProof.Rows
section
variable {X : Cx} {g : Gi} {B : Bg} {W : WXv} {pos p : Pos} {a b : Expr} {m ma mb : ME} {A : MA}
end
end Vi
namespace Vi
open PySem L2 PyProof.Rows
theorem un65 {A : Around} {j : Nat} (hr : Room j A) : A.units + 65 < cLine := by
  have h := hr.un
  omega
end Vi
namespace Vi
open PySem L2 PyProof.Rows
def txts? : List D → Option (List Str)
  | [] => some []
  | .str a :: r => (txts? r).map (a :: ·)
  | _ => none
def fSplit (o : Bool) (a : Str) (y : Vl) (h : Hc) : R Vl := match y with
  | .d (.str b) => if b.length ≠ 0 ∧ a.length + 2 ≤ sizeLine then .ok (Vl.ofL o ((Txt.split a b).map D.str)) h else .stuck
  | _ => .stuck
def fJoin (a : Str) (y : Vl) (h : Hc) : R Vl := match (seq? h y).bind txts? with
  | some ys => if (ys.map (·.length)).sum + ys.length * a.length ≤ 16777216 then .ok (.d (.str (Txt.join a ys))) h else .stuck
  | none => .stuck
def mStr1 (f : Str → Vl → Hc → R Vl) (mo me : ME) : ME := fun env h => (mo env h).bind fun x h1 => match x with
  | .d (.str a) => (me env h1).bind fun y h2 => f a y h2
  | _ => .stuck
section
variable {X : Cx} {g : Gi} {B : Bg} {W : WXv} {apos pos : Pos} {o e : Expr} {mo me : ME}
theorem reps_txts {F : Hp} {al : Nat → Option Addr} : ∀ ys : List Str, Reps g F al (ys.map D.str) (ys.map V.str)
  | [] => rfl
  | _ :: r => ⟨_, _, rfl, rfl, reps_txts r⟩
theorem str1E {a : ME} {f : Str → Vl → Hc → R Vl} {env : Env} {s : Sta} {σ : L2.St} {H : Hp} {Q : VK} (sr : SR g B env s σ H) (p : PostE g B W env s σ H (mStr1 f mo me env s.h) Q) :
    tE g B W mo σ H fun v H1 => ∃ a, v = .str a ∧ tE g B W me σ H1 fun w H2 => ∃ s2 y, SR g B env s2 σ H2 ∧ VlRep g B env σ s2 H2 y w ∧ PostE g B W env s2 σ H2 (f a y s2.h) Q := by
  refine (bindE (Q := Q) sr p).mono fun v H1 ⟨s1, x, sr1, _, r1, p1⟩ => ?_
  split at p1
  · next a =>
    cases r1
    refine ⟨a, rfl, (bindE (Q := Q) sr1 p1).mono fun w H2 ⟨s2, y, sr2, _, r2, p2⟩ => ⟨s2, y, sr2, r2, p2⟩⟩
  · exact p1.elim
end
end Vi
namespace Vi
open PySem L2 PyProof.Rows
def ItT (l it : Addr) : HO := .ext fun h => h.IsTupleIter it l 0
def rIterT (K : PySem.W.Frag) (n : Nat) : List L2.V → Hp → VK → Prop := fun xs H Q => ∃ (l : Addr) (zs : List L2.V), xs = [.ref l] ∧ SqT K H l zs ∧ ∀ it, H it = none → n ≤ it → Q (.ref it) (upd H it (ItT l it))
def tIterF (n : Nat) (g : Gi) (B : Bg) (W : WXv) (m : ME) : TS := fun N σ H => tE g B W m σ H fun v H1 => ∃ (l : Addr) (zs : List L2.V), v = .ref l ∧ SqT g.K H1 l zs ∧ ∀ it, H1 it = none → n ≤ it → N.rt (.ref it) (upd H1 it (ItT l it))
def PostIt (b : Nat) (g : Gi) (s : Sta) (H : Hp) : R Vl → VK → Prop
  | .ok (.d (.tup xs)) h, Q => ∀ (l it : Addr) (zs : List L2.V) (H' : Hp) (s' : Sta), s'.h = h → Evo s H s' H' → Good g s' H' → SqT g.K s'.F l zs → Reps g s'.F s'.al xs zs → H' it = none → b ≤ it → Q (.ref it) (upd H' it (ItT l it))
  | _, _ => False
def spIt (g : Gi) (N n : Nat) (m : ME) (b : Nat) : Sp := fun vs H Q _ => ∃ (s : Sta) (ds : List D), vs.length = n ∧ Good g s H ∧ Reps g s.F s.al ds vs ∧ PostIt b g s H (m (mkEnv N ds) s.h) Q
structure FnGS (P : Program) (w : World) (K : PySem.W.Frag) (mg : Str → Option Value) (base : Heap) (k : Nat) (f : Addr) (fd : FuncData) (ps : List Str) (sp : Nat → Sp) : Prop where
  len : ∀ b vs H Q E, sp b vs H Q E → vs.length = ps.length
  run : ∀ (A : Around) (outer : List PySem.Env) (s : Shared) (H : Hp) (args : Args) (us : List Value) (vs : List V) (Q : VK) (E : XK), Room k A → A.guards = some [] → Env0 P w K mg base A outer s H → BindsTo s fd args (ps.zip us) → Vals vs us → sp s.heap.objs.size vs H Q E →
    codeAny (model P w) A (.call (.ref f) args) (CR (L2.CX P w) outer P w H s Q E) s
structure VIter (X : Cx) (g : Gi) (c : Nat) (m : ME) : Prop where
  ex : ∃ (k : Nat) (f : Addr) (fd : FuncData) (ps : List Str), FnGS X.prog X.w X.K X.mg X.base k f fd ps (spIt g 1 1 m) ∧ Room (k + 4) X.A ∧ PySem.W.findIn X.K (.ref (g.ca c)) "__iter__" = some (some (.ref f)) ∧ PySem.W.isFn X.K (.ref f) = true ∧ Binds X.K fd ps []  ∧ ps.length = 1
abbrev TblI := Nat → Option ME
def VIters (X : Cx) (g : Gi) (T : TblI) : Prop := ∀ c m, T c = some m → VIter X g c m
structure AOk (X : Cx) (A : Around) : Prop where
  fr : A.frames = X.A.frames
  gd : A.guards = some []
section
variable {X : Cx} {g : Gi} {B : Bg} {env : Env} {st : Sta} {σ : L2.St} {H : Hp} {s : Shared} {pins : List (Addr × Obj)}
end
end Vi
namespace Vi
open PySem L2 PyProof.Rows
def itemsO (T : TblI) (x : Vl) (h : Hc) (k : List D → Hc → R Vl) : R Vl := match x with
  | .d (.obj c fs) => (match T c with
    | some m => (match m [some (.d (.obj c fs))] h with
      | .ok (.d (.tup xs)) h1 => k xs h1
      | _ => .stuck)
    | none => .stuck)
  | _ => .stuck
def mCompO (o : Bool) (own : List Nat) (I : TblI) (T : TgF) (mt : MB) (me src : ME) : ME := fun env h => (src env h).bind fun x h1 => itemsO I x h1 fun xs h2 => compL o T mt me xs [] (wipeE env own) h2
def iOwn (K : PySem.W.Frag) (g : Gi) (B : Bg) (W : WXv) (T : TblI) (src : ME) : TI := fun σ H R => tE g B W src σ H fun v H1 => ∃ (env : Env) (st : Sta) (c : Nat) (m : ME) (fs : List (Str × D)) (xs : List D) (h1 : Hc), SR g B env st σ H1 ∧ VlRep g B env σ st H1 (.d (.obj c fs)) v ∧ T c = some m ∧ m [some (.d (.obj c fs))] st.h = .ok (.d (.tup xs)) h1 ∧
  ∀ (l : Addr) (zs : List L2.V) (H' : Hp) (st' : Sta), st'.h = h1 → Evo st H1 st' H' → SR g B env st' σ H' → SqT g.K st'.F l zs → Reps g st'.F st'.al xs zs → R (Itt K l) H'
section
variable {X : Cx} {g : Gi} {B : Bg} {W : WXv}
end
section
variable {X : Cx} {g : Gi} {B : Bg} {W : WXv} {own : List Nat} {o : Bool} {I : TblI} {T : TgF} {mt : MB} {me m : ME} {t : TG} {σ : L2.St} {H : Hp} {Q : VK}
end
section
variable {X : Cx} {g : Gi} {B : Bg} {W : WXv} {own : List (Str × Nat)} {o : Bool} {I : TblI} {T : TgF} {mt : MB} {me m : ME} {t : TG} {elt tg iter : Expr} {ifs : List Expr} {scope : Scope} {pos p' rp : Pos} {ma : MA}
end
section
variable {X : Cx} {g : Gi} {B : Bg} {env : Env} {st : Sta} {σ : L2.St} {H : Hp} {s : Shared} {pins : List (Addr × Obj)}
end
end Vi
namespace Vi
open PySem L2 PyProof.Rows
theorem Good.drop {g : Gi} {s : Sta} {H : Hp} {p : Addr} (gd : Good g s H) (hf : s.F p = none) (hn : ∀ n, s.al n ≠ some p) : Good g s (ItX.dropH H p) := by
  refine ⟨fun a u h => ?_, gd.inj, fun n a h => ?_, fun n c h => ?_, gd.zed.keep rfl rfl (fun _ _ h => h) fun n a o h1 h2 => by rw [ItX.dropH_ne (fun e => hn n (by rw [← e]; exact h1))]; exact h2⟩
  · have ne : a ≠ p := fun e => by rw [e, hf] at h; cases h
    rw [ItX.dropH_ne ne]
    exact gd.fle a u h
  · obtain ⟨h1, h2, u, h3⟩ := gd.dom n a h
    have ne : a ≠ p := fun e => hn n (by rw [← e]; exact h)
    exact ⟨h1, h2, u, by rw [ItX.dropH_ne ne]; exact h3⟩
  · obtain ⟨a, h1, h2⟩ := gd.cell n c h
    have ne : a ≠ p := fun e => hn n (by rw [← e]; exact h1)
    refine ⟨a, h1, ?_⟩
    exact h2.mv (fun o h3 => by rw [ItX.dropH_ne ne]; exact h3) (fun _ _ h => h) fun _ _ h => h
structure VOp4 (X : Cx) (g : Gi) (c : Nat) (name : Str) (n : Nat) (F : Fn) : Prop where
  ex : ∃ (k : Nat) (f : Addr) (fd : FuncData) (ps : List Str), FnG X.prog X.w X.K X.mg X.base k f fd ps (spD g ps.length F) ∧ Room (k + 4) X.A ∧ PySem.W.findIn X.K (.ref (g.ca c)) name = some (some (.ref f)) ∧ PySem.W.isFn X.K (.ref f) = true ∧ Binds X.K fd ps [] ∧ ps.length = n
def VOps4 (X : Cx) (g : Gi) (name : Str) (n : Nat) (T : Tbl) : Prop := ∀ c F, T c = some F → VOp4 X g c name n F
section
variable {X : Cx} {g : Gi} {B : Bg} {W : WXv} {env : Env} {st : Sta} {σ : L2.St} {H : Hp} {s : Shared} {pins : List (Addr × Obj)} {Q : VK}
end
def fListO (o : Bool) (T : TblI) (TL : Tbl) (xs : List Vl) (h : Hc) : R Vl := match xs with
  | [.d (.obj c fs)] => itemsO T (.d (.obj c fs)) h fun ys h1 => (match TL c with
    | some F => (match F [.obj c fs] h1 with
      | .ok (.int k) h2 => if 0 ≤ k ∧ k ≤ 100000 ∧ ys.length ≤ 100000 then .ok (Vl.ofL o ys) h2 else .stuck
      | _ => .stuck)
    | none => .stuck)
  | _ => fList o xs h
section
variable {X : Cx} {g : Gi} {B : Bg} {W : WXv} {pos p : Pos} {a : Expr} {A : MA}
end
end Vi
namespace PySem.W
open PySem PySem.Calls PyProof.Rows Builtin
section
variable {prog : Program} {w : World} {A : Around} {E : Value → Shared → Prop} {s : Shared} {K : Frag} {x C f : Addr} {ox : Obj} {od : Option Obj} {b tb : Value}
end
end PySem.W
set_option maxHeartbeats 4000000
namespace Vi
open PySem L2 PyProof.Rows
def ndS (acc : List Str) (x : Str) : List Str := if x ∈ acc then acc else acc ++ [x]
def nd (xs : List Str) : List Str := xs.foldl ndS []
section
variable {prog : Program} {w : World} {A : Around} {R : Result → Shared → Prop} {I : Addr} {fp wr : List Addr} {G : Array GenState → Array GenState → Prop} {n : Nat} {P : Nat → Value → Prop} {St : Nat → Shared → Prop}
end
section
variable {prog : Program} {w : World} {A : Around} {E : Value → Shared → Prop} {s : Shared}
end
def strs? : List D → Option (List Str)
  | [] => some []
  | .str x :: r => (strs? r).map (x :: ·)
  | _ :: _ => none
def fLenSet (x : Vl) (h : Hc) : R Vl := match (match lst? h x with
    | some ys => some ys
    | none => tup? x) with
  | some ys => (match strs? ys with
    | some xs => if xs.length ≤ 4000 then .ok (.d (.int (nd xs).length)) h else .stuck
    | none => .stuck)
  | none => .stuck
section
variable {X : Cx} {g : Gi} {B : Bg} {W : WXv} {a : Expr} {m : ME} {p p2 q pos : Pos}
end
end Vi
set_option maxHeartbeats 2000000
namespace Vi
open PySem L2 PyProof.Rows
def fNes (g : Gi) (T : Tbl) (nf : Nat → Ty → Bool) (F0 : Vl → Vl → Hc → R Vl) (x y : Vl) (h : Hc) : R Vl := match x with
  | .d (.obj c fs) => (match T c, y with
    | some F, .d yd => (match yd.ty g with
      | some t => if nf c t then (F [.obj c fs, yd] h).bind fun d h' => (match d with
        | .bl k => .ok (.d (.bl (!k))) h'
        | _ => .stuck) else .stuck
      | none => .stuck)
    | _, _ => .stuck)
  | _ => F0 x y h
section
variable {X : Cx} {g : Gi} {W : WXv} {T : Tbl}
end
def fListC (xs : List Vl) (h : Hc) : R Vl := match xs with
  | [x] => (match lst? h x with
    | some ys => .ok (.d (.ref h.length)) (h ++ [.lst ys])
    | none => (match tup? x with
      | some ys => .ok (.d (.ref h.length)) (h ++ [.lst ys])
      | none => .stuck))
  | _ => .stuck
section
variable {X : Cx} {g : Gi}
end
def deref1 (h : Hc) : D → D
  | .ref n => (match h[n]?.map Cell.bare with
    | some (.lst xs) => .lst xs
    | _ => .ref n)
  | d => d
def derefV (h : Hc) : Vl → Vl
  | .d (.lst xs) => .d (.lst (xs.map (deref1 h)))
  | x => x
def fReprC (xs : List Vl) (h : Hc) : R Vl := match xs with
  | [.d (.lst ys)] => (match (Vl.d (.lst (ys.map (deref1 h)))).dat? with
    | some d => if shwB (toP d) then .ok (.d (.str (toP d).shown)) h else .stuck
    | none => .stuck)
  | _ => fRepr xs h
section
variable {X : Cx} {g : Gi} {s : Sta} {H : Hp}
end
end Vi
namespace Vi
open PySem L2 PyProof.Rows
def chD (z : Str) : List D := z.cps.toList.map fun c => .str ⟨#[c]⟩
theorem chD_get? (z : Str) (i : Nat) : (chD z)[i]? = (z.cps[i]?).map fun c => D.str ⟨#[c]⟩ := by
  unfold chD
  rw [List.getElem?_map, Array.getElem?_toList]
def mCompS (o : Bool) (own : List Nat) (T : TgF) (mt : MB) (me src : ME) : ME := fun env h => (src env h).bind fun x h1 => match x with
  | .d (.str z) => compL o T mt me (chD z) [] (wipeE env own) h1
  | _ => .stuck
section
variable {X : Cx} {g : Gi} {B : Bg} {W : WXv} {own : List Nat} {o : Bool} {T : TgF} {mt : MB} {me m : ME} {t : TG} {σ : L2.St} {H : Hp} {Q : VK}
end
section
variable {X : Cx} {g : Gi} {B : Bg} {W : WXv} {own : List (Str × Nat)} {o : Bool} {T : TgF} {mt : MB} {me m : ME} {t : TG} {elt tg iter : Expr} {ifs : List Expr} {scope : Scope} {pos : Pos}
end
structure RdyIt (P : Program) (w : World) (K : PySem.W.Frag) (mg : Str → Option Value) (base : Heap) (g : Gi) (c k : Nat) (m : ME) : Prop where
  ex : ∃ (f : Addr) (fd : FuncData) (ps : List Str), FnGS P w K mg base k f fd ps (spIt g 1 1 m) ∧ Meth K (g.ca c) "__iter__" f ∧ Binds K fd ps [] ∧ ps.length = 1
theorem RdyIt.v {X : Cx} {g : Gi} {c k j : Nat} {m : ME} (h : RdyIt X.prog X.w X.K X.mg X.base g c k m) (hr : Room j X.A) (hj : k + 4 ≤ j) : VIter X g c m := by
  obtain ⟨f, fd, ps, h1, h2, h3, h4⟩ := h.ex
  exact ⟨⟨k, f, fd, ps, h1, hr.mono hj, h2.at_, h2.fn, h3, h4⟩⟩
def kGlobI (x : Str) (i : Int) (K : PySem.W.Frag) : Bool := match PySem.W.nsIn K mainGlobals x with
  | some (some (.int j _)) => decide (j = i)
  | _ => false
def kGlobS (x : Str) (y : Str) (K : PySem.W.Frag) : Bool := match PySem.W.nsIn K mainGlobals x with
  | some (some (.str z _)) => decide (z = y)
  | _ => false
theorem gd_int {X : Cx} {g : Gi} {x : Str} {i : Int} (kin : X.K.In X.base) (gn : X.base.Ns mainGlobals X.mg) (h : kGlobI x i X.K = true) : GlobD X g x (.int i) := by
  unfold kGlobI at h
  split at h
  · next j t e =>
    obtain rfl : j = i := of_decide_eq_true h
    exact ⟨.int j, .int j t, PySem.W.mg_of kin gn e, ⟨t, rfl⟩, fun _ _ => rfl⟩
  · cases h
theorem gd_str {X : Cx} {g : Gi} {x : Str} {y : Str} (kin : X.K.In X.base) (gn : X.base.Ns mainGlobals X.mg) (h : kGlobS x y X.K = true) : GlobD X g x (.str y) := by
  unfold kGlobS at h
  split at h
  · next z t e =>
    obtain rfl : z = y := of_decide_eq_true h
    exact ⟨.str z, .str z t, PySem.W.mg_of kin gn e, ⟨t, rfl⟩, fun _ _ => rfl⟩
  · cases h
section
variable {X : Cx} {g : Gi} {B : Bg} {W : WXv} {pos : Pos} {a b c : Expr} {ma mb mc : ME}
end
end Vi
namespace Vi
open PySem L2 PyProof.Rows
def zipD : List D → List D → List D
  | x :: xs, y :: ys => .tup [x, y] :: zipD xs ys
  | _, _ => []
theorem zipD_get : ∀ (xs ys : List D) (i : Nat) (x y : D), xs[i]? = some x → ys[i]? = some y → (zipD xs ys)[i]? = some (.tup [x, y])
  | x :: xs, y :: ys, 0, a, b, h1, h2 => by
    cases h1
    cases h2
    rfl
  | x :: xs, y :: ys, i + 1, a, b, h1, h2 => zipD_get xs ys i a b h1 h2
  | [], _, _, _, _, h1, _ => by cases h1
  | _ :: _, [], _, _, _, _, h2 => by cases h2
def mForZ (T : TgF) (a : MA) (b : MS) : MS := fun env h => (a env h).thenS env fun xs h1 => match xs with
  | [x, y] => (match seqD? h1 x, seqD? h1 y with
    | some (true, xs), some (true, ys) => forL T b (zipD xs ys) env h1
    | some (false, xs), some (false, ys) => forL T b (zipD xs ys) env h1
    | _, _ => .stuck)
  | _ => .stuck
section
variable {X : Cx} {g : Gi} {B : Bg} {W : WXv} {env : Env} {s : Sta} {σ : L2.St} {H : Hp}
structure ZipIt (I : It) (P Q : Hp → List V → Prop) : Prop where
  go : ∀ {i : Nat} {H : Hp} {xs ys : List V} {x y : V}, P H xs → Q H ys → xs[i]? = some x → ys[i]? = some y → I.go i H
  stop : ∀ {i : Nat} {H : Hp} {xs ys : List V}, P H xs → Q H ys → i ≤ xs.length → i ≤ ys.length → xs.length ≤ i ∨ ys.length ≤ i → I.stop i H
  yld : ∀ {i : Nat} {H H' : Hp} {v : V} {xs ys : List V}, P H xs → Q H ys → I.yld i H v H' → ∃ T x y, v = .ref T ∧ H T = none ∧ H' = upd H T (.tup [x, y]) ∧ xs[i]? = some x ∧ ys[i]? = some y
end
section
variable {X : Cx} {g : Gi} {B : Bg} {W : WXv} {pos : Pos} {body : List Stmt} {mb : MS} {T : TgF}
end
end Vi
set_option maxHeartbeats 4000000
namespace Vi
open PySem L2 PyProof.Rows
def Sta.frzT (s : Sta) (H : Hp) : Sta := { s with F := fun a => match s.F a with
  | some o => some o
  | none => (match H a with
    | some (.tup ws) => some (.tup ws)
    | _ => none) }
section
variable {g : Gi} {s : Sta} {H : Hp}
end
section
variable {X : Cx} {pins : List (Addr × Obj)} {σ : L2.St} {H : Hp} {s : Shared} {a : Addr} {Q : VK}
def rSrtT (K : PySem.W.Frag) : List V → Hp → VK → Prop := fun vs H Q => ∃ (a : Addr) (kvs : List (List Key × V)), vs = [.ref a] ∧ H a = some (.dT kvs) ∧
  ∀ ts : List Addr, Paired (fun kv t => H t = some (.tup (kv.1.map kV))) kvs ts → ∃ k : V → List Key, Mode K H k (ts.map V.ref) ∧
    ∀ ys p, SrtO.Srtd (fun v u => ksLt (k v) (k u)) ys → ys.Perm (ts.map V.ref) → H p = none → Q (.ref p) (upd H p (.lst ys))
end
end Vi
namespace Vi
open PySem L2 PyProof.Rows
def fSortedD (kc : List D → Bool) (o : Bool) (xs : List Vl) (h : Hc) : R Vl := match xs with
  | [x] => (match dv? x h with
    | some (.t kvs) => if compatAll (kvs.map (·.1)) then .ok (Vl.ofL o ((sortL ksLt (kvs.map (·.1))).map tupD)) h else .stuck
    | _ => fSorted kc o [x] h)
  | _ => .stuck
section
variable {g : Gi} {F : Hp} {al : Nat → Option Addr}
end
section
variable {X : Cx} {g : Gi}
end
end Vi
namespace Vi
open PySem L2 PyProof.Rows
section
variable {X : Cx} {g : Gi}
def fTupleX (xs : List Vl) (h : Hc) : R Vl := match xs with
  | [x] => (match lst? h x with
    | some ys => .ok (.d (.xtup ys)) h
    | none => .stuck)
  | _ => .stuck
end
def pairsT? (kc : List D → Bool) : List D → Option (List (List Key × D))
  | [] => some []
  | .tup [.tup ks, d] :: r => if kc ks then none else (match keys? ks, pairsT? kc r with
    | some k, some kvs => some ((k, d) :: kvs)
    | _, _ => none)
  | _ => none
def allT (kvs : List (List Key × D)) : List (List Key × D) := kvs.foldl (fun acc kv => putD' acc kv.1 kv.2) []
def fDictX (kc : List D → Bool) (xs : List Vl) (h : Hc) : R Vl := match xs with
  | [.d (.xtup ds)] => (match pairsT? kc ds with
    | some kvs => if kvs.length ≤ 100000 then .ok (.d (.dT (allT kvs))) h else .stuck
    | none => .stuck)
  | _ => .stuck
def putAll (kvs : List (List Key × V)) : List (List Key × V) := kvs.foldl (fun acc kv => putK acc kv.1 kv.2) []
def PrT (K : PySem.W.Frag) (H : Hp) (p : Addr) (kv : List Key × V) : Prop := ∃ b, SqT K H p [.ref b, kv.2] ∧ H b = some (.tup (kv.1.map kV))
section
variable {X : Cx} {pins : List (Addr × Obj)} {σ : L2.St} {H : Hp} {s : Shared}
end
section
variable {X : Cx} {g : Gi}
end
end Vi
namespace Vi
open PySem L2 PyProof.Rows
def tupAt0 (K : PySem.W.Frag) (a : Addr) : Bool := match K.lookup a with
  | some ⟨.type c, _, .seq its _, _⟩ => decide (c = "tuple") && decide (its.size = 0)
  | _ => false
end Vi
set_option maxHeartbeats 2000000
namespace PySem.W
open PySem PySem.Calls PyProof.Rows Builtin
section
variable {prog : Program} {w : World} {A : Around} {E : Value → Shared → Prop} {s : Shared} {K : Frag} {x C f : Addr} {ox : Obj} {od : Option Obj} {b : Value}
end
end PySem.W
namespace Vi
open PySem L2 PyProof.Rows
def fOpsX (T : Tbl) (F0 : Vl → Vl → Hc → R Vl) (x y : Vl) (h : Hc) : R Vl := match x, y with
  | .d (.obj c fs), .d (.tup ds) => (match T c with
    | some F => (F [.obj c fs, .tup ds] h).bind fun d h' => .ok (.d d) h'
    | none => .stuck)
  | x, y => fOps T F0 x y h
section
variable {X : Cx} {g : Gi} {W : WXv} {T : Tbl}
end
end Vi
namespace Vi
open PySem L2 PyProof.Rows
section
variable {g : Gi} {B : Bg} {W : WXv} {env : Env} {s1 : Sta} {σ : L2.St} {H1 H : Hp} {own : List Nat} {o : Bool} {T : TgF} {mt : MB} {me : ME} {Q : VK} {Dn : Addr}
end
def mCompZ (o : Bool) (own : List Nat) (T : TgF) (mt : MB) (me : ME) (a : MA) : ME := fun env h => (a env h).bind fun xs h1 => match xs with
  | [x, y] => (match seqC? h1 x, seqC? h1 y with
    | some (true, xs), some (true, ys) => compL o T mt me (zipD xs ys) [] (wipeE env own) h1
    | some (false, xs), some (false, ys) => compL o T mt me (zipD xs ys) [] (wipeE env own) h1
    | _, _ => .stuck)
  | _ => .stuck
section
variable {X : Cx} {g : Gi} {B : Bg} {W : WXv} {own : List Nat} {o : Bool} {T : TgF} {mt : MB} {me : ME} {ma : MA} {t : TG} {σ : L2.St} {H : Hp} {Q : VK}
end
section
variable {X : Cx} {g : Gi} {B : Bg} {W : WXv} {own : List (Str × Nat)} {o : Bool} {T : TgF} {mt : MB} {me : ME} {t : TG} {elt a b : Expr} {elts : List Expr} {kk : Nat} {ifs : List Expr} {scope : Scope} {pos p' rp tpos : Pos} {ma : MA}
end
end Vi
namespace Vi
open PySem L2 PyProof.Rows
section
variable {prog : Program} {w : World} {A : Around} {E : Value → Shared → Prop} {s : Shared}
end
def ItnT (K : PySem.W.Frag) (a : Addr) : It where
  go := fun i H => ∃ (xs : List V) (x : V), SqT K H a xs ∧ xs[i]? = some x
  yld := fun i H v H' => ∃ T x, v = .ref T ∧ H T = none ∧ H' = upd H T (.tup [.int (i : Nat), x]) ∧ ∀ xs, SqT K H a xs → xs[i]? = some x
  stop := fun i H => ∃ xs : List V, SqT K H a xs ∧ xs.length = i
def iEnT (K : PySem.W.Frag) (ta : TA) : TI := fun σ H R => ta σ H fun vs H1 => ∃ a xs, vs = [.ref a] ∧ SqT K H1 a xs ∧ R (ItnT K a) H1
end Vi
namespace Vi
open PySem L2 PyProof.Rows
def iEnA (K : PySem.W.Frag) (ta : TA) : TI := fun σ H R => ta σ H fun vs H1 => ∃ a xs, vs = [.ref a] ∧ ((SqL K H1 a xs ∧ R (Ite K a) H1) ∨ (SqT K H1 a xs ∧ R (ItnT K a) H1))
def enumD : Nat → List D → List D
  | _, [] => []
  | k, x :: r => .tup [.int k, x] :: enumD (k + 1) r
def mForE (T : TgF) (a : MA) (b : MS) : MS := fun env h => (a env h).thenS env fun xs h1 => match xs with
  | [x] => (match seqD? h1 x with
    | some (_, xs) => forL T b (enumD 0 xs) env h1
    | none => .stuck)
  | _ => .stuck
structure EnIt (I : It) (P : Hp → List V → Prop) : Prop where
  go : ∀ {i : Nat} {H : Hp} {xs : List V} {x : V}, P H xs → xs[i]? = some x → I.go i H
  stop : ∀ {i : Nat} {H : Hp} {xs : List V}, P H xs → xs.length = i → I.stop i H
  yld : ∀ {i : Nat} {H H' : Hp} {v : V} {xs : List V}, P H xs → I.yld i H v H' → ∃ T x, v = .ref T ∧ H T = none ∧ H' = upd H T (.tup [.int (i : Nat), x]) ∧ xs[i]? = some x
section
variable {X : Cx} {g : Gi} {B : Bg} {W : WXv} {env : Env} {s : Sta} {σ : L2.St} {H : Hp}
end
section
variable {X : Cx} {g : Gi} {B : Bg} {W : WXv} {pos : Pos} {body : List Stmt} {mb : MS} {T : TgF}
end
end Vi
namespace Vi
open PySem L2 PyProof.Rows
section
variable {g : Gi} {B : Bg} {W : WXv} {env : Env} {s : Sta} {σ : L2.St} {H : Hp}
theorem VlReps.app {xs ys : List Vl} {vs ws : List V} (h : VlReps g B env σ s H xs vs) (h2 : VlReps g B env σ s H ys ws) : VlReps g B env σ s H (xs ++ ys) (vs ++ ws) := by
  induction h with
  | nil => exact h2
  | cons a b ih => exact .cons a ih
end
@[simp] def maStar (m : ME) (a : MA) : MA := fun env h => (m env h).bind fun x h1 => match seqC? h1 x with
  | some (_, ds) => (a env h1).bind fun xs h2 => .ok (ds.map Vl.d ++ xs) h2
  | none => .stuck
section
variable {X : Cx} {g : Gi} {B : Bg} {W : WXv} {pos p : Pos} {e : Expr} {es : List Expr} {m : ME} {a : MA}
end
def fIndexX (x y : Vl) (h : Hc) : R Vl := match x, y with
  | .d (.xtup ds), .d (.str z) => (match txts? ds with
    | some ys => if z ∈ ys then .ok (.d (.int (ys.idxOf z : Nat))) h else .stuck
    | none => .stuck)
  | _, _ => .stuck
section
variable {X : Cx} {g : Gi} {B : Bg} {W : WXv} {apos cpos : Pos} {o e : Expr} {mo me : ME} {to : TE} {t : TA}
end
end Vi
namespace Vi
open PySem L2 PyProof.Rows
def fLtS (x y : Vl) (h : Hc) : R Vl := match x, y with
  | .d (.str a), .d (.str b) => .ok (.d (.bl (sLt a b))) h
  | x, y => fLt x y h
section
variable {X : Cx} {g : Gi}
def fIsB (neg : Bool) (x y : Vl) (h : Hc) : R Vl := match x, y with
  | .d (.bl a), .d (.bl b) => .ok (.d (.bl (if neg then !decide (a = b) else decide (a = b)))) h
  | _, _ => .stuck
def intz? : List D → Option (List Int)
  | [] => some []
  | .int i :: r => (intz? r).map (i :: ·)
  | _ :: _ => none
def minI : Int → List Int → Int
  | m, [] => m
  | m, x :: r => minI (if x < m then x else m) r
def fMinL (xs : List Vl) (h : Hc) : R Vl := match xs with
  | [x] => (match lst? h x with
    | some ds => (match intz? ds with
      | some (i :: r) => .ok (.d (.int (minI i r))) h
      | _ => .stuck)
    | none => .stuck)
  | _ => .stuck
def fDictK (xs : List Vl) (h : Hc) : R Vl := match xs with
  | [x] => (match dv? x h with
    | some (.k kvs) => .ok (.d (.ref h.length)) (h ++ [.dK kvs])
    | _ => .stuck)
  | _ => .stuck
end
@[simp] def mIndexX (mo me : ME) : ME := fun env h => (mo env h).bind fun x h1 => match x with
  | .d (.xtup ds) => (me env h1).bind fun y h2 => fIndexX (.d (.xtup ds)) y h2
  | _ => .stuck
section
variable {X : Cx} {g : Gi} {B : Bg} {W : WXv} {apos cpos : Pos} {o e : Expr} {mo me : ME}
end
end Vi
namespace Vi
open PySem L2 PyProof.Rows
def ItzM (K : PySem.W.Frag) (a b : Addr) : It where
  go := fun i H => ∃ (xs ys : List V) (x y : V), SqL K H a xs ∧ SqT K H b ys ∧ xs[i]? = some x ∧ ys[i]? = some y
  yld := fun i H v H' => ∃ T x y, v = .ref T ∧ H T = none ∧ H' = upd H T (.tup [x, y]) ∧ (∀ l, SqL K H a l → l[i]? = some x) ∧ ∀ l, SqT K H b l → l[i]? = some y
  stop := fun i H => ∃ xs ys : List V, SqL K H a xs ∧ SqT K H b ys ∧ i ≤ xs.length ∧ i ≤ ys.length ∧ (xs.length ≤ i ∨ ys.length ≤ i)
def five (z TI TO i1 i2 : Addr) : List Addr := [z, TI, TO, i1, i2]
def iZipM (K : PySem.W.Frag) (ta : TA) : L2.TI := fun σ H R => ta σ H fun vs H1 => ∃ a b xs ys, vs = [.ref a, .ref b] ∧ SqL K H1 a xs ∧ SqT K H1 b ys ∧ R (ItzM K a b) H1
def mForZM (T : TgF) (a : MA) (b : MS) : MS := fun env h => (a env h).thenS env fun xs h1 => match xs with
  | [x, y] => (match seqD? h1 x, seqD? h1 y with
    | some (true, xs), some (false, ys) => forL T b (zipD xs ys) env h1
    | _, _ => .stuck)
  | _ => .stuck
section
variable {X : Cx} {g : Gi} {B : Bg} {W : WXv} {pos : Pos} {body : List Stmt} {mb : MS} {T : TgF}
end
end Vi
namespace Vi
open PySem L2 PyProof.Rows
inductive HitsV (K : PySem.W.Frag) (H : Hp) (ls : List (Key × V)) : List (Key × V) → Bool → Prop
  | nil : HitsV K H ls [] true
  | miss {k : Key} {v : V} {r : List (Key × V)} : valV ls k = none → HitsV K H ls ((k, v) :: r) false
  | hit {k : Key} {v w : V} {r : List (Key × V)} {d e : PyData} {b : Bool} : valV ls k = some w → Dp K H v d → Dp K H w e → SeqAt.shaped d = true → SeqAt.shaped e = true → HitsV K H ls r b → HitsV K H ls ((k, v) :: r) (PyData.eqv d e && b)
section
variable {X : Cx} {pins : List (Addr × Obj)} {σ : L2.St} {H : Hp} {s : Shared}
def rEqN (K : PySem.W.Frag) : R2 := fun x y H Q => ∃ a b ks ls r, x = .ref a ∧ y = .ref b ∧ H a = some (.dK ks) ∧ H b = some (.dK ls) ∧ (ks.length = ls.length → HitsV K H ls ks r) ∧ Q (.bl (ks.length == ls.length && r)) H
end
def hitsD (ls : List (Key × D)) : List (Key × D) → Option Bool
  | [] => some true
  | (k, d) :: r => match getD' ls k with
    | none => some false
    | some e => if dat d && (dat e && (shp d && shp e)) then (hitsD ls r).map (eqD d e && ·) else none
def dvN? (x : Vl) (h : Hc) : Option DV := match x with
  | .d (.dK kvs) => some (.k kvs)
  | .d (.dT kvs) => some (.t kvs)
  | .d (.ref n) => (match h[n]?.map Cell.bare with
    | some (.dK kvs) => some (.k kvs)
    | some (.dT kvs) => some (.t kvs)
    | _ => none)
  | _ => none
def fEqDK (x y : Vl) (h : Hc) : R Vl := match dvN? x h, dvN? y h with
  | some (.k ks), some (.k ls) => if ks.length = ls.length then (match hitsD ls ks with
    | some b => .ok (.d (.bl b)) h
    | none => .stuck) else .ok (.d (.bl false)) h
  | _, _ => fEq false x y h
section
variable {g : Gi} {F H : Hp} {al : Nat → Option Addr}
end
section
variable {X : Cx} {g : Gi}
end
end Vi
set_option maxHeartbeats 4000000
namespace Vi
open PySem PySem.Spec L2 PyProof.Rows
section
variable {X : Cx}
def rRep01 (K : PySem.W.Frag) : R2 := fun x y H Q => ∃ l xs, x = .ref l ∧ SqT K H l xs ∧ xs ≠ [] ∧ ((y = .int 1 ∧ Q (.ref l) H) ∨ (y = .int 0 ∧ ∀ p, H p = none → Q (.ref p) (upd H p (.tup []))))
end
def fMulT (x y : Vl) (h : Hc) : R Vl := match x, y with
  | .d (.tup xs), .d (.int k) => if xs.isEmpty = false ∧ 0 ≤ k ∧ k ≤ 1000 ∧ xs.length ≤ 1000 then .ok (.d (.tup (List.replicate k.toNat xs).flatten)) h else .stuck
  | x, y => fMul x y h
section
variable {X : Cx} {g : Gi}
end
end Vi
set_option maxHeartbeats 2000000
namespace Vi
open PySem PySem.Spec L2 PyProof.Rows
def txtKs? : List (Key × D) → Option (List Str)
  | [] => some []
  | (.inr x, _) :: r => (txtKs? r).map (x :: ·)
  | _ :: _ => none
def fSortedK (kc : List D → Bool) (o : Bool) (xs : List Vl) (h : Hc) : R Vl := match xs with
  | [x] => (match dv? x h with
    | some (.k kvs) => (match txtKs? kvs with
      | some ks => if ks.length < 64 then .ok (Vl.ofL o ((sortL sLt ks).map D.str)) h else .stuck
      | none => .stuck)
    | _ => fSorted kc o [x] h)
  | _ => .stuck
section
variable {X : Cx} {g : Gi}
def rSrtTx (X : Cx) : List V → Hp → VK → Prop := fun vs H Q => ∃ (a : Addr) (kvs : List (Key × V)) (ks : List Str), vs = [.ref a] ∧ Rd H a (.dK kvs) ∧ kvs.map (·.1) = ks.map Sum.inr ∧ ks.length < 64 ∧
      ∀ ys p, ys.Perm ks → sortedS ys = true → H p = none → Q (.ref p) (upd H p (.lst (ys.map V.str)))
end
end Vi
namespace Vi
open PySem L2 PyProof.Rows
structure BdQ (g : Gi) (X : Cx) : Prop where
  G : GiOk g
  K : g.K = X.K
structure FnQ (P : Program) (w : World) (K : PySem.W.Frag) (mg : Str → Option Value) (base : Heap) (k : Nat) (f : Addr) (fd : FuncData) (ps : List Str) (sp : Sp) : Prop where
  len : ∀ vs H Q E, sp vs H Q E → vs.length = ps.length
  run : ∀ (A : Around) (outer : List PySem.Env) (s : Shared) (H : Hp) (args : Args) (us : List Value) (vs : List V) (Q : VK) (E : XK) (p : Addr × Obj), L2H.RoomH k A → L2H.PinOk outer H s p → Env0 P w K mg base A outer s H → BindsTo s fd args (ps.zip us) → Vals vs us → sp vs H Q E →
    codeAny (model P w) A (.call (.ref f) args) (CR (L2.CX P w) outer P w H s Q E) s
theorem fn_Q {P : Program} {w : World} {K : PySem.W.Frag} {mg : Str → Option Value} {base : Heap} {x qual : Str} {params : Arguments} {body : List Stmt} {scope : Scope} {dvs : List V} {kws : List (Str × V)} {f : Addr} {fd : FuncData} {N ps : List Str} {k : Nat} {sp : Sp}
    (F : FunD K x qual params body scope dvs kws f fd) (S : FnScope N ps scope) (len : ∀ vs H Q E, sp vs H Q E → vs.length = ps.length)
    (hbody : ∀ (cdv : Value) (A : Around) (outer : List PySem.Env) (s : Shared) (H : Hp) (vs : List V) (Q : VK) (E : XK) (p : Addr × Obj), sp vs H Q E →
      ∃ t, PSs (L2H.cxH (L2.CX P w) P w K mg base N qual scope f cdv A outer s H E p) body t ∧ t { nx := fun _ H' => Q .non H', rt := Q } (start N vs) H) : FnQ P w K mg base (k + 1) f fd ps sp := by
  obtain ⟨oc, od, dV, kV, doc, pm, an, cdv, ct, osl, rfl, lk, hcd, _, _⟩ := F.ex
  refine ⟨len, ?_⟩
  intro A outer s H args us vs Q E p room hpin e0 bnd rv want
  have many := len _ _ _ _ want
  have inK : K.In s.heap := e0.mod.kin.keeps fun b o e => (e0.bs b o e).1
  have free : s.heap.NoLimit := e0.mod.nolimit.keeps fun b o e => (e0.bs b o e).1
  have kinds : ∀ y ∈ ps.zip us, scope.names.lookup y.1 = some .local ∨ (scope.names.lookup y.1 = some .cell ∧ ((cellsFrom (s.heap.objs.size + 1) scope.names []).lookup y.1).isSome = true) := by
    rintro ⟨n, v⟩ hy
    rcases S.par n (List.of_mem_zip hy).1 with q | q
    · exact .inl q
    · exact .inr ⟨q, PySem.W.cellsFrom_some _ _ _ (.inl q)⟩
  refine codeAny_call_function room.depth (inK _ _ lk) rfl S.co S.gen rfl (PySem.W.codeRec_of inK hcd) (bnd _ _ _ _ ?_)
  refine wpAny_newFunctionEnv_cells S.kind kinds ?_
  intro env he s1 x
  subst he
  refine ⟨free.keeps x.toInCall.keep, codeAny_func ?_⟩
  obtain ⟨t, ht, hq⟩ := hbody cdv A outer s H vs Q E p want
  have I : Inv (L2H.cxH (L2.CX P w) P w K mg base N qual scope f cdv A outer s H E p) [] (start N vs) H s1 := L2H.inv_startH S hpin e0 many rv x
  have fin : ∀ {s' : Shared} {σ' : L2.St} {H' : Hp} {v : V} {u : Value}, Inv (L2H.cxH (L2.CX P w) P w K mg base N qual scope f cdv A outer s H E p) [] σ' H' s' → RelV v u → Q v H' → CE outer P w H s Q u s' := by
    intro s' σ' H' v u J r q
    exact ⟨v, H', J.os, J.bare, J.base, J.hok, r, q⟩
  refine wpAny_mono (ht.run [] s1 (start N vs) H _ I hq) ?_ fun e s' hs => hs
  intro fl s' hs
  cases fl with
  | ret u =>
    obtain ⟨v, σ', H', J, r, q⟩ := hs
    exact fin J r q
  | next =>
    obtain ⟨σ', H', J, q⟩ := hs
    exact fin (v := V.non) (u := Value.none) J rfl q
  | brk => exact (hs.choose_spec.choose_spec.2).elim
  | cont => exact (hs.choose_spec.choose_spec.2).elim
theorem fn_DQ {P : Program} {w : World} {g : Gi} {mg : Str → Option Value} {base : Heap} {x qual : Str} {params : Arguments} {body : List Stmt} {scope : Scope} {dvs : List V} {kws : List (Str × V)} {f : Addr} {fd : FuncData} {N ps : List Str} {k : Nat} {m : MS}
    (G : GiOk g) (F : FunD g.K x qual params body scope dvs kws f fd) (S : FnScope N ps scope)
    (hbody : ∀ (cdv : Value) (A : Around) (outer : List PySem.Env) (s : Shared) (H : Hp) (E : XK) (p : Addr × Obj) (B : Bg), BdQ g (L2H.cxH (L2.CX P w) P w g.K mg base N qual scope f cdv A outer s H E p) →
      PSs (L2H.cxH (L2.CX P w) P w g.K mg base N qual scope f cdv A outer s H E p) body (tS g B (fun cls d _ H => E cls d H) m)) :
    FnQ P w g.K mg base (k + 1) f fd ps (spD g ps.length (fnOf N.length ps.length m)) := by
  refine fn_Q F S (fun vs H Q E h => ?_) ?_
  · obtain ⟨_, _, hl, _⟩ := h
    exact hl
  · intro cdv A outer s H vs Q E p0 h
    obtain ⟨st, ds, hl, gd, r, p⟩ := h
    have hb := hbody cdv A outer s H E p0 ⟨st, H, 0, 0, 0, 0⟩ ⟨G, rfl⟩
    refine ⟨_, hb, mkEnv N.length ds, st, start_sr gd r, ?_⟩
    have hl2 : ds.length = ps.length := by rw [← r.length]; exact hl
    unfold fnOf at p
    rw [if_pos hl2] at p
    cases e : m (mkEnv N.length ds) st.h with
    | nx env h =>
      rw [e] at p
      intro σ' H' s' e1 _ sr
      exact p .non H' s' e1 sr.evo sr.good rfl
    | ret d h =>
      rw [e] at p
      intro v H' s' e1 ev gd' rr
      exact p v H' s' e1 ev gd' rr
    | exc env x h =>
      rw [e] at p
      intro cls dd σ' H' s' e1 _ sr xr
      exact p cls dd H' s' e1 sr.evo sr.good xr
    | brk env h => rw [e] at p; exact p.elim
    | cnt env h => rw [e] at p; exact p.elim
    | stuck => rw [e] at p; exact p.elim
structure RdyQ (P : Program) (w : World) (K : PySem.W.Frag) (mg : Str → Option Value) (base : Heap) (g : Gi) (x : Str) (k n : Nat) (F : Fn) : Prop where
  ex : ∃ (f : Addr) (fd : FuncData) (ps : List Str), FnQ P w K mg base k f fd ps (spD g ps.length F) ∧ mg x = some (.ref f) ∧ PySem.W.keepIn K (.ref f) = true ∧ Binds K fd ps [] ∧ n = ps.length
section
variable {X X0 : Cx} {g : Gi} {B : Bg} {pos p : Pos} {e : Expr} {es : List Expr} {A : MA} {F : Fn} {n k j : Nat} {x : Str}
theorem ve_callQ {a : Addr} {pn : List (Addr × Obj)} {q : Addr × Obj} (V : RdyQ X0.prog X0.w X0.K X0.mg X0.base g x k n F) (hr : Room j X0.A) (hj : k ≤ j) (hg : Gl (X0.suite a (q :: pn)) x) (ha : PA (X0.suite a (q :: pn)) (e :: es) (tA g B (fun _ _ _ _ => False) A)) (hdb : (x == ("__debug__" : Str)) = false := by decide)
    (he : starEach (e :: es) X0.env = (false, eval e X0.env) :: starEach es X0.env := by rfl) (hpl : (backTo pos (starEach es X0.env)).any (·.1) = false := by rfl) :
    PE (X0.suite a (q :: pn)) (.Call (.Name x p) (e :: es) [] pos) (tE g B (fun _ _ _ _ => False) (mA1 (fCallN n F []) A)) := by
  obtain ⟨f, fd, ps, FQ, hm, hk, hb, hn⟩ := V.ex
  have hr2 : L2H.RoomH k (X0.suite a (q :: pn)).A := by
    have r := (hr.mono hj)
    exact ⟨r.dp, r.un⟩
  refine ⟨fun pins s σ H Q I h => ?_⟩
  refine wpAny_Call_Name_kw (ld_glob I hg hm ?_ hdb)
  obtain ⟨env, st, sr, pp⟩ := h
  have hA := (bindA (Q := Q) sr pp)
  refine PySem.W.callWith_K (h₀ := X0.base) I.ok.mod.kin hk (thn (ha.run pos pins s σ H _ I hA) fun us s1 ⟨vs, H1, I1, r, st1, xs, sr1, ev1, r1, p1⟩ => ⟨I1.kIn, ?_⟩) he hpl
  unfold fCallN at p1
  by_cases hl : xs.length = n
  · rw [if_pos hl] at p1
    unfold fCall at p1
    cases e1 : datas xs with
    | none => rw [e1] at p1; exact p1.elim
    | some dl =>
      rw [e1] at p1
      have rr := (r1.datas e1)
      simp only [List.append_nil] at p1
      have sp := spD_of (n := ps.length) sr1 (by rw [r1.length, hl]; exact hn) rr p1
      have hul : us.length = ps.length := by rw [← r.length]; exact FQ.len _ _ _ _ sp
      have b := hb s1 us I1.kIn (by rw [List.append_nil]; exact hul)
      rw [List.append_nil] at b
      have P1 := I1.pin q (List.mem_append_left _ (List.mem_cons_self ..))
      have hpin : L2H.PinOk (X0.suite a (q :: pn)).stack H1 s1 q := ⟨P1.1, P1.2.1, fun hm => (List.mem_cons.mp (I1.stkSub q.1 hm)).elim P1.2.2.1 P1.2.2.2.1, P1.2.2.2.2⟩
      refine wpAny_call (codeAny_mono (FQ.run (X0.suite a (q :: pn)).A (X0.suite a (q :: pn)).stack s1 H1 ⟨us, []⟩ us vs Q _ q hr2 hpin I1.env0 b r sp) fun r s' hq => ?_)
      cases r with
      | error e =>
        obtain ⟨_, _, _, _, _, _, _, _, _, _, _, _, w⟩ := hq
        exact w.elim
      | ok fl =>
        cases fl with
        | ret u => exact I1.after hq
        | next => exact False.elim hq
        | brk => exact False.elim hq
        | cont => exact False.elim hq
  · rw [if_neg hl] at p1
    exact p1.elim
end
end Vi
namespace Vi
open PySem L2 PyProof.Rows
theorem rdyQ_of {P : Program} {w : World} {K : PySem.W.Frag} {mg : Str → Option Value} {base : Heap} {g : Gi} {f : Addr} {x : Str} {fd : FuncData} {ps : List Str} {qual : Str} {params : Arguments} {body : List Stmt} {scope : Scope} {nm : Str} {k : Nat} {F : Fn} (FD : FunD K nm qual params body scope [] [] f fd) (FG : FnQ P w K mg base k f fd ps (spD g ps.length F)) (hm : mg x = some (.ref f))
    (hb : ∀ (kV doc pm : Value) (an : Option Addr) (cdv ct : Value) (us : List Value), us.length = ps.length → bindArgs (PySem.W.fnOf nm qual params body scope .none kV doc pm an cdv ct) ⟨us, []⟩ = pure (ps.zip us)) {n : Nat} (hn : n = ps.length) : RdyQ P w K mg base g x k n F :=
  ⟨f, fd, ps, FG, hm, FD.kp, FD.bindsN hb, hn⟩
end Vi
namespace Vi
open PySem L2 PyProof.Rows
def rInTD (K : PySem.W.Frag) (neg : Bool) : R2 := fun x y H Q => ∃ d ds, Dp K H x d ∧ Dp K H y (.tuple ds) ∧ SeqAt.shaped d = true ∧ SeqAt.shaped (.tuple ds) = true ∧ Q (.bl (if neg then !(ds.any fun z => PyData.eqv z d) else ds.any fun z => PyData.eqv z d)) H
section
variable {X : Cx} {g : Gi}
end
def fInT (neg : Bool) (x y : Vl) (h : Hc) : R Vl := match x.dat?, y.dat? with
  | some d, some (.tup ds) => if shp d && shp (.tup ds) then .ok (.d (nB neg (ds.any fun z => eqD z d))) h else .stuck
  | _, _ => .stuck
section
variable {X : Cx} {g : Gi}
end
end Vi
namespace Vi
open PySem PySem.Spec L2 PyProof.Rows
def dropD (kvs : List (Key × D)) (k : Key) : List (Key × D) := kvs.filter fun kv => decide (kv.1 ≠ k)
theorem RepK.drop {g : Gi} {F : Hp} {al : Nat → Option Addr} {q : Key} : ∀ {kvs : List (Key × D)} {vs : List (Key × V)}, RepK g F al kvs vs → RepK g F al (dropD kvs q) (dropK vs q)
  | [], vs, r => by
    cases r
    exact rfl
  | (k, d) :: kvs, vs, r => by
    obtain ⟨v, ws, rfl, r1, r2⟩ := r
    have ih := RepK.drop (q := q) r2
    by_cases e : k = q
    · have e1 : dropD ((k, d) :: kvs) q = dropD kvs q := by
        unfold dropD
        rw [List.filter_cons_of_neg (by simp [e])]
      have e2 : dropK ((k, v) :: ws) q = dropK ws q := by
        unfold dropK
        rw [List.filter_cons_of_neg (by simp [e])]
      rw [e1, e2]
      exact ih
    · have e1 : dropD ((k, d) :: kvs) q = (k, d) :: dropD kvs q := by
        unfold dropD
        rw [List.filter_cons_of_pos (by simp [e])]
      have e2 : dropK ((k, v) :: ws) q = (k, v) :: dropK ws q := by
        unfold dropK
        rw [List.filter_cons_of_pos (by simp [e])]
      rw [e1, e2]
      exact ⟨v, _, rfl, r1, ih⟩
def fDDel (env : Env) (y z : Vl) (h : Hc) : RS := match y, z with
  | .d (.ref n), .d k => (match h[n]? with
    | some (.dK kvs) => (match key? k with
      | some kk => if (getD' kvs kk).isSome then .nx env (h.set n (.dK (dropD kvs kk))) else .stuck
      | none => .stuck)
    | _ => .stuck)
  | _, _ => .stuck
def mDDel (o k : ME) : MS := fun env h => (o env h).thenS env fun y h2 => (k env h2).thenS env fun z h3 => fDDel env y z h3
section
variable {X : Cx} {g : Gi} {B : Bg} {W : WXv} {pos tpos : Pos} {o k : Expr} {mo mk : ME}
end
end Vi
namespace Vi
open PySem PySem.Spec L2 PyProof.Rows
structure SeqIt (J : It) (Sq : Hp → List V → Prop) : Prop where
  go : ∀ {i : Nat} {H : Hp} {xs : List V} {x : V}, Sq H xs → xs[i]? = some x → J.go i H
  stop : ∀ {i : Nat} {H : Hp} {xs : List V}, Sq H xs → xs.length ≤ i → J.stop i H
  yld : ∀ {i : Nat} {H H' : Hp} {xs : List V} {x : V}, Sq H xs → J.yld i H x H' → H' = H ∧ xs[i]? = some x
def compD (T : TgF) (mt : MB) (mk mv : ME) : List D → List (Key × D) → Env → Hc → R Vl
  | [], acc, _, h => .ok (.d (.ref h.length)) (h ++ [.dK acc])
  | x :: r, acc, env, h => match T x env with
    | none => .stuck
    | some env1 => (match mt env1 h with
      | .ok b h1 => if b then (match mk env1 h1 with
        | .ok (.d k) h2 => (match mv env1 h2 with
          | .ok (.d y) h3 => (match key? k with
            | some kk => if acc.length < 100000 then compD T mt mk mv r (putD' acc kk y) env h3 else .stuck
            | none => .stuck)
          | _ => .stuck)
        | _ => .stuck) else compD T mt mk mv r acc env h1
      | _ => .stuck)
def mCompD (own : List Nat) (T : TgF) (mt : MB) (mk mv src : ME) : ME := fun env h => (src env h).bind fun x h1 => match seqC? h1 x with
  | some (_, xs) => compD T mt mk mv xs [] (wipeE env own) h1
  | none => .stuck
def CInvD (g : Gi) (B : Bg) (W : WXv) (env : Env) (s1 : Sta) (σ : L2.St) (H1 : Hp) (own : List Nat) (T : TgF) (mt : MB) (mk mv : ME) (Q : VK) (Dn : Addr) (rest : List D) (H : Hp) : Prop :=
  ∃ (s' : Sta) (acc : List (Key × D)) (ws : List (Key × V)), Good g s' H ∧ Evo s1 H1 s' H ∧ H Dn = some (.dK ws) ∧ s'.F Dn = none ∧ (∀ n, s'.al n ≠ some Dn) ∧ RepK g s'.F s'.al acc ws ∧ PostE g B W env s1 σ H1 (compD T mt mk mv rest acc (wipeE env own) s'.h) Q
theorem RepK.evo {g : Gi} {s s' : Sta} {H H' : Hp} (e : Evo s H s' H') : ∀ {kvs : List (Key × D)} {ws : List (Key × V)}, RepK g s.F s.al kvs ws → RepK g s'.F s'.al kvs ws
  | [], ws, r => by
    cases r
    exact rfl
  | (k, d) :: kvs, ws, r => by
    obtain ⟨v, vr, rfl, r1, r2⟩ := r
    exact ⟨v, vr, rfl, e.rep r1, RepK.evo e r2⟩
section
variable {g : Gi} {B : Bg} {W : WXv} {env : Env} {s1 : Sta} {σ : L2.St} {H1 H : Hp} {own : List Nat} {T : TgF} {mt : MB} {mk mv : ME} {Q : VK} {Dn : Addr}
end
section
variable {X : Cx} {g : Gi} {B : Bg} {W : WXv} {own : List Nat} {T : TgF} {mt : MB} {mk mv m : ME} {t : TG} {σ : L2.St} {H : Hp} {Q : VK}
end
section
variable {X : Cx} {g : Gi} {B : Bg} {W : WXv} {T : TgF} {mt : MB} {mk mv m : ME} {t : TG} {kx vx tg iter : Expr} {ifs : List Expr} {scope : Scope} {own : List (Str × Nat)} {pos : Pos}
end
end Vi
namespace Vi
open PySem PySem.Spec L2 PyProof.Rows
def mCompDO (own : List Nat) (I : TblI) (T : TgF) (mt : MB) (mk mv src : ME) : ME := fun env h => (src env h).bind fun x h1 => itemsO I x h1 fun xs h2 => compD T mt mk mv xs [] (wipeE env own) h2
section
variable {X : Cx} {g : Gi} {B : Bg} {W : WXv} {own : List Nat} {I : TblI} {T : TgF} {mt : MB} {mk mv m : ME} {t : TG} {σ : L2.St} {H : Hp} {Q : VK}
end
section
variable {X : Cx} {g : Gi} {B : Bg} {W : WXv} {I : TblI} {T : TgF} {mt : MB} {mk mv m : ME} {t : TG} {kx vx tg iter : Expr} {ifs : List Expr} {scope : Scope} {own : List (Str × Nat)} {pos : Pos}
end
end Vi
namespace Vi
open PySem L2 PyProof.Rows
section
variable {P : Program} {w : World} {A : Around} {E : Value → Shared → Prop} {s : Shared}
end
section
variable {X : Cx} {g : Gi} {B : Bg} {W : WXv} {env : Env} {st : Sta} {σ : L2.St} {H : Hp} {s : Shared} {pins : List (Addr × Obj)} {Q : VK}
theorem Good.newF {p : Addr} {o : HO} (gd : Good g st H) (hp : H p = none) : Good g (st.frz p o) (upd H p o) ∧ Evo st H (st.frz p o) (upd H p o) := by
  have ne : ∀ {a : Addr} {u : HO}, H a = some u → a ≠ p := fun h => ne_of_none h hp
  have neF : ∀ {a : Addr} {u : HO}, st.F a = some u → a ≠ p := fun h => ne (gd.fle _ _ h)
  have ev : Evo st H (st.frz p o) (upd H p o) := ⟨fun a u h => by
      show upd st.F p o a = some u
      rw [upd_ne (neF h)]; exact h, fun _ _ h => h, fun a u h n => ⟨by rw [upd_ne (ne h)]; exact h, fun z _ => by
      show upd st.F p o a = none
      rw [upd_ne (ne h)]; exact z, n⟩, Nat.le_refl _, fun _ _ h => h⟩
  refine ⟨⟨fun a u h => ?_, gd.inj, fun n a h => ?_, fun n c h => ?_, gd.zed.keep rfl rfl (fun _ _ h => h) fun n a o _ h => by rw [upd_ne (ne h)]; exact h⟩, ev⟩
  · have h : upd st.F p o a = some u := h
    by_cases q : a = p
    · subst q
      rw [upd_same] at h ⊢
      exact h
    · rw [upd_ne q] at h ⊢
      exact gd.fle a u h
  · obtain ⟨h1, h2, u, h3⟩ := gd.dom n a h
    refine ⟨h1, ?_, u, by rw [upd_ne (ne h3)]; exact h3⟩
    show upd st.F p o a = none
    rw [upd_ne (ne h3)]; exact h2
  · obtain ⟨a, h1, h2⟩ := gd.cell n c h
    refine ⟨a, h1, ?_⟩
    exact h2.mv (fun o h3 => by rw [upd_ne (ne h3)]; exact h3) ev.f ev.al
def LZ (g : Gi) (st0 : Sta) (H0 : Hp) (q : Addr) (zs : List D) (i : Nat) (vs : List L2.V) (H : Hp) : Prop :=
  ∃ st : Sta, Good g st H ∧ Evo st0 H0 st H ∧ st.h = st0.h ∧ H q = some (.lst vs) ∧ st.F q = none ∧ (∀ n, st.al n ≠ some q) ∧ vs.length = i ∧ Reps g st.F st.al (zs.take i) vs
theorem LZ.next {st0 : Sta} {H0 : Hp} {p q : Addr} {ds es : List D} {xs ys vs : List L2.V} {i : Nat} {x y : L2.V} (hq0 : H0 q = none) (rx : Reps g st0.F st0.al ds xs) (ry : Reps g st0.F st0.al es ys) (c : LZ g st0 H0 q (zipD ds es) i vs H)
    (hp : H p = none) (hx : xs[i]? = some x) (hy : ys[i]? = some y) : LZ g st0 H0 q (zipD ds es) (i + 1) (vs ++ [.ref p]) (upd (upd H p (.tup [x, y])) q (.lst (vs ++ [.ref p]))) := by
  obtain ⟨st, gd, ev, eh, hq, hf, ha, hl, rr⟩ := c
  obtain ⟨gd1, ev1⟩ := gd.newF (o := .tup [x, y]) hp
  have qp : q ≠ p := ne_of_none hq hp
  have f1 : (st.frz p (.tup [x, y])).F q = none := by
    show upd st.F p _ q = none
    rw [upd_ne qp]; exact hf
  have evA := ev.trans ev1
  refine ⟨st.frz p (.tup [x, y]), gd1.updO f1 ha, evA.updO hq0, eh, upd_same, f1, ha, by rw [List.length_append, hl]; rfl, ?_⟩
  have l1 : i < ds.length := by
    rw [← rx.length]
    exact (List.getElem?_eq_some_iff.mp hx).1
  have l2 : i < es.length := by
    rw [← ry.length]
    exact (List.getElem?_eq_some_iff.mp hy).1
  obtain ⟨x', ex, r1⟩ := rx.get (List.getElem?_eq_getElem l1)
  obtain ⟨y', ey, r2⟩ := ry.get (List.getElem?_eq_getElem l2)
  rw [hx] at ex
  cases ex
  rw [hy] at ey
  cases ey
  rw [List.take_succ, zipD_get ds es i _ _ (List.getElem?_eq_getElem l1) (List.getElem?_eq_getElem l2)]
  exact (ev1.reps rr).append (Reps.cons ⟨p, [x, y], rfl, .inl upd_same, Reps.cons (evA.rep r1) (Reps.cons (evA.rep r2) Reps.nil)⟩ Reps.nil)
def ZSt (z TI TO i1 i2 : Addr) (H : Hp) (h : Heap) : Prop := IsPair h TI (.ref i1) (.ref i2) ∧ (∃ o, h.get? TO = some o) ∧ ((IsZip h z TI TO .none ∧ ∃ x y, IsPair h TO x y) ∨ ∃ T f ws, IsZipHeld h z TI TO T f ∧ H T = some (.tup ws))
end
end Vi
namespace Vi
open PySem L2 PyProof.Rows
section
variable {X : Cx} {g : Gi} {B : Bg} {W : WXv} {env : Env} {st : Sta} {σ : L2.St} {H : Hp} {s : Shared} {pins : List (Addr × Obj)} {Q : VK}
end
def mListZ (o : Bool) (a : MA) : ME := fun env h => (a env h).bind fun xs h1 => match xs with
  | [x, y] => (match seqD? h1 x, seqD? h1 y with
    | some (false, ds), some (false, es) => if min ds.length es.length ≤ 100000 then .ok (Vl.ofL o (zipD ds es)) h1 else .stuck
    | _, _ => .stuck)
  | _ => .stuck
section
variable {X : Cx} {g : Gi} {B : Bg} {W : WXv} {pos pos' p p' : Pos} {a b : Expr} {A : MA}
end
end Vi
namespace Vi
open PySem L2 PyProof.Rows
mutual
def dAt (K : PySem.W.Frag) : D → Value → Bool
  | .non, .none => true
  | .bl b, .bool c => b == c
  | .int i, .int j _ => decide (i = j)
  | .str x, .str y _ => decide (x = y)
  | .tup ds, .ref a => (match K.lookup a with
    | some ⟨.type c, _, .seq its _, _⟩ => decide (c = "tuple") && (decide (its.size ≤ sizeLine) && dsAt K ds its.toList)
    | _ => false)
  | _, _ => false
def dsAt (K : PySem.W.Frag) : List D → List Value → Bool
  | [], [] => true
  | d :: ds, u :: us => dAt K d u && dsAt K ds us
  | _, _ => false
end
mutual
def kcD (kc : List D → Bool) : D → Bool
  | .tup ds => kc ds && kcDs kc ds
  | _ => true
def kcDs (kc : List D → Bool) : List D → Bool
  | [] => true
  | d :: ds => kcD kc d && kcDs kc ds
end
section
variable {g : Gi} {K : PySem.W.Frag}
mutual
theorem dAt_rep (hK : g.K = K) : ∀ {d : D} {u : Value}, dAt K d u = true → kcD g.kc d = true → ∃ v, RelV v u ∧ ∀ F al, Rep g F al d v
  | .non, u, h, _ => by
    cases u <;> first | exact ⟨.non, rfl, fun _ _ => rfl⟩ | (simp [dAt] at h)
  | .bl b, u, h, _ => by
    cases u <;> first | (obtain rfl : b = _ := by simpa [dAt] using h
                         exact ⟨.bl _, rfl, fun _ _ => rfl⟩) | (simp [dAt] at h)
  | .int i, u, h, _ => by
    cases u <;> first | (obtain rfl : i = _ := by simpa [dAt] using h
                         exact ⟨.int _, ⟨_, rfl⟩, fun _ _ => rfl⟩) | (simp [dAt] at h)
  | .str x, u, h, _ => by
    cases u <;> first | (obtain rfl : x = _ := by simpa [dAt] using h
                         exact ⟨.str _, ⟨_, rfl⟩, fun _ _ => rfl⟩) | (simp [dAt] at h)
  | .tup ds, u, h, hk => by
    cases u with
    | ref a =>
      have h1 : (match K.lookup a with
        | some ⟨.type c, _, .seq its _, _⟩ => decide (c = "tuple") && (decide (its.size ≤ sizeLine) && dsAt K ds its.toList)
        | _ => false) = true := by rw [dAt] at h; exact h
      rw [kcD] at hk
      obtain ⟨k1, k2⟩ := Bool.and_eq_true_iff.mp hk
      split at h1
      · next c dd its n sl ho =>
        obtain ⟨h2, h3⟩ := Bool.and_eq_true_iff.mp h1
        obtain ⟨h4, h5⟩ := Bool.and_eq_true_iff.mp h3
        obtain rfl := of_decide_eq_true h2
        obtain ⟨vs, r, q⟩ := dsAt_rep hK h5 k2
        exact ⟨.ref a, rfl, fun F al => ⟨a, vs, rfl, .inr ⟨k1, .inr ⟨_, its, n, hK ▸ ho, rfl, rfl, of_decide_eq_true h4, r⟩⟩, q F al⟩⟩
      · cases h1
    | _ => simp [dAt] at h
  | .lst _, u, h, _ => by cases u <;> simp [dAt] at h
  | .kl _, u, h, _ => by cases u <;> simp [dAt] at h
  | .xtup _, u, h, _ => by cases u <;> simp [dAt] at h
  | .ref _, u, h, _ => by cases u <;> simp [dAt] at h
  | .obj _ _, u, h, _ => by cases u <;> simp [dAt] at h
  | .cls _, u, h, _ => by cases u <;> simp [dAt] at h
  | .dK _, u, h, _ => by cases u <;> simp [dAt] at h
  | .dT _, u, h, _ => by cases u <;> simp [dAt] at h
theorem dsAt_rep (hK : g.K = K) : ∀ {ds : List D} {us : List Value}, dsAt K ds us = true → kcDs g.kc ds = true → ∃ vs, Vals vs us ∧ ∀ F al, Reps g F al ds vs
  | [], [], _, _ => ⟨[], .nil, fun _ _ => rfl⟩
  | [], _ :: _, h, _ => by simp [dsAt] at h
  | _ :: _, [], h, _ => by simp [dsAt] at h
  | d :: ds, u :: us, h, hk => by
    rw [dsAt] at h
    rw [kcDs] at hk
    obtain ⟨h1, h2⟩ := Bool.and_eq_true_iff.mp h
    obtain ⟨k1, k2⟩ := Bool.and_eq_true_iff.mp hk
    obtain ⟨v, r1, q1⟩ := dAt_rep hK h1 k1
    obtain ⟨vs, r2, q2⟩ := dsAt_rep hK h2 k2
    exact ⟨v :: vs, .cons r1 r2, fun F al => ⟨v, vs, rfl, q1 F al, q2 F al⟩⟩
end
end
def kCon (x : Str) (d : D) (K : PySem.W.Frag) : Bool := match PySem.W.nsIn K mainGlobals x with
  | some (some u) => dAt K d u
  | _ => false
abbrev TabV : Type := Str × List (Str × D)
def kTab (t : TabV) (K : PySem.W.Frag) : Bool := t.2.all fun q => match PySem.W.nsIn K (He.ga K t.1) q.1 with
  | some (some u) => dAt K q.2 u
  | _ => false
def tabsIn (ts : List TabV) (K : PySem.W.Frag) : List (Option (List (Option (Str × Int)))) := ts.map fun t => He.dicW K (He.ga K t.1)
def tabsWant (ts : List TabV) (w : World) : List (Option (List (Option (Str × Int)))) := ts.map fun t => some (He.keysIn w.params (t.2.map Prod.fst))
structure KTab (X : Cx) (g : Gi) (x : Str) (tb : List (Str × D)) : Prop where
  ex : ∃ (a : Addr) (es : Array DictEntry) (n : Nat), X.mg x = some (.ref a) ∧ KDict X.K X.w a es n ∧ (∀ k d, tb.lookup k = some d → ∃ u v, PySem.W.nsIn X.K a k = some (some u) ∧ RelV v u ∧ ∀ F al, Rep g F al d v) ∧
    ∀ k, tb.lookup k = none → PySem.W.nsIn X.K a k = some none
theorem keyOf_str {e : DictEntry} {k : Str} {q : Int} (h : He.keyOf e = some (k, q)) : ∃ t, e.key = .str k t := by
  unfold He.keyOf at h
  split at h
  · next x t ek =>
    cases h
    exact ⟨t, ek⟩
  · cases h
theorem keys_miss {P : Params} {k : Str} : ∀ {l : List DictEntry} {ks : List Str}, l.map He.keyOf = He.keysIn P ks → k ∉ ks → l.find? (·.key.isStr k) = none ∧ l.any (·.refKey) = false
  | [], [], _, _ => ⟨rfl, rfl⟩
  | [], _ :: _, h, _ => by cases h
  | _ :: _, [], h, _ => by cases h
  | e :: l, y :: ks, h, hn => by
    have h1 : He.keyOf e :: l.map He.keyOf = some (y, PyData.keyHash P y) :: He.keysIn P ks := h
    injection h1 with h2 h3
    obtain ⟨g1, g2⟩ := keys_miss h3 fun z => hn (List.mem_cons_of_mem _ z)
    obtain ⟨t, ek⟩ := keyOf_str h2
    have ne : y ≠ k := fun z => hn (by rw [z]; exact List.mem_cons_self ..)
    refine ⟨?_, ?_⟩
    · rw [List.find?_cons, ek]
      have z : (Value.str y t).isStr k = false := by
        simp [Value.isStr, ne]
      rw [z]
      exact g1
    · rw [List.any_cons, g2]
      simp [DictEntry.refKey, ek]
theorem lookup_none {α : Type} {k : Str} : ∀ {l : List (Str × α)}, l.lookup k = none → k ∉ l.map Prod.fst
  | [], _, h => nomatch h
  | (y, d) :: l, e, h => by
    rw [List.lookup_cons] at e
    by_cases z : k = y
    · subst z
      simp at e
    · have nb : (k == y) = false := beq_eq_false_iff_ne.mpr z
      rw [nb] at e
      rcases List.mem_cons.mp h with q | q
      · exact z q
      · exact lookup_none e q
theorem ktab_of {X : Cx} {g : Gi} {ts : List TabV} {t : TabV} (hK : g.K = X.K) (h : tabsIn ts X.K = tabsWant ts X.w) (i : Nat) (hi : ts[i]? = some t) (hv : kTab t X.K = true) (hm : X.mg t.1 = some (.ref (He.ga X.K t.1))) (hk : t.2.all (fun q => kcD g.kc q.2) = true) : KTab X g t.1 t.2 := by
  have h2 := congrArg (fun l => l[i]?) h
  simp only [tabsIn, tabsWant, List.getElem?_map, hi, Option.map_some] at h2
  have h3 : He.dicW X.K (He.ga X.K t.1) = some (He.keysIn X.w.params (t.2.map Prod.fst)) := Option.some.inj h2
  obtain ⟨es, n, D⟩ := He.dicW_ok h3
  refine ⟨_, es, n, hm, D, fun k d e => ?_, fun k e => ?_⟩
  · have m := mem_of_lookup e
    have z := List.all_eq_true.mp hv (k, d) m
    have zk := List.all_eq_true.mp hk (k, d) m
    dsimp only at z zk
    split at z
    · next u eu =>
      obtain ⟨v, r, q⟩ := dAt_rep hK z zk
      exact ⟨u, v, eu, r, q⟩
    · cases z
  · have h4 : es.toList.map He.keyOf = He.keysIn X.w.params (t.2.map Prod.fst) := by
      unfold He.dicW at h3
      rw [D.at_] at h3
      dsimp only at h3
      split at h3
      · exact Option.some.inj h3
      · cases h3
    obtain ⟨g1, g2⟩ := keys_miss h4 (lookup_none e)
    unfold PySem.W.nsIn
    rw [D.at_]
    simp only [g1, g2]
    rfl
def mTIx (tb : List (Str × D)) (mb : ME) : ME := fun env h => (mb env h).bind fun y h1 => match y with
  | .d (.str k) => (match tb.lookup k with
    | some d => .ok (.d d) h1
    | none => .stuck)
  | _ => .stuck
def mTIn (neg : Bool) (tb : List (Str × D)) (ma : ME) : ME := fun env h => (ma env h).bind fun y h1 => match y with
  | .d (.str k) => .ok (.d (nB neg (tb.lookup k).isSome)) h1
  | _ => .stuck
section
variable {X : Cx} {g : Gi} {B : Bg} {W : WXv} {pos p : Pos} {x : Str} {a b : Expr} {ma mb : ME} {tb : List (Str × D)}
theorem ix_kd {d : Addr} {es : Array DictEntry} {n : Nat} (D : KDict X.K X.w d es n) : IxR X (fun x y H Q => ∃ (z : Str) (u0 : Value) (v0 : V), x = .ref d ∧ y = .str z ∧ PySem.W.nsIn X.K d z = some (some u0) ∧ RelV v0 u0 ∧ Q v0 H) := by
  intro value slice pins s σ H x y v u Q I rx ry h hs
  have go := op_item_kd D pins s σ H x y v u Q I rx ry h
  obtain ⟨z, u0, v0, rfl, rfl, _⟩ := h
  cases rx
  have hT := kd_type D I
  unfold subscriptTail
  refine wpAny_bind ?_
  rw [getitemInPython_of_ne hT.not_modules]
  refine wpAny_bind (wpAny_specialOf hT PySem.F.slot_dict_getitem.lookup ?_)
  have fin : wpAny (model X.prog X.w) X.A (subscripted slice false (.ref d) u) (fun r s3 => wpAny (model X.prog X.w) X.A (letTemporaryGo value (.ref d) r >>= fun _ => pure r) (EP X pins σ Q) X.xe s3) X.xe s := by
    rw [hs]
    exact wpAny_operating (wpAny_mono go (fun r s3 h3 => wpAny_bind (wpAny_letTemporaryGo (wpAny_pure h3))) fun _ _ x => x)
  first
    | exact wpAny_pure (wpAny_bind fin)
    | exact wpAny_bind (wpAny_pure (wpAny_bind fin))
    | exact wpAny_bind fin
theorem ve_tix (T : KTab X g x tb) (hg : Gl X x) (hb : PE X b (tE g B W mb)) (hs : PlainIx b) (hd : (x == ("__debug__" : Str)) = false := by decide) : PE X (.Subscript (.Name x p) b pos) (tE g B W (mTIx tb mb)) := by
  obtain ⟨d, es, n, hm, D, h1, h2⟩ := T.ex
  refine pe_imp (pe_ix (ix_kd D) (pe_glob (v := .ref d) hg hm rfl hd) hb hs) fun σ H Q ⟨env, s, sr, p⟩ => ?_
  refine (bindE (Q := Q) sr p).mono fun w H1 ⟨s1, y, sr1, ev1, r1, p1⟩ => ?_
  split at p1
  · next k =>
    split at p1
    · next dd e =>
      obtain ⟨u, v, e1, e2, e3⟩ := h1 k dd e
      obtain rfl : w = .str k := r1
      exact ⟨k, u, v, rfl, rfl, e1, e2, PostE.pure sr1 p1 (e3 _ _)⟩
    · exact p1.elim
  · exact p1.elim
end
abbrev AlW : Type := AlV × List (Option (List (Option (Str × Int))))
def SaysW (ck : List (PySem.W.Frag → Bool)) (fn : List DefV) (ts : List TabV) (w : World) (K : PySem.W.Frag) : Prop := SaysV ck fn K ∧ tabsIn ts K = tabsWant ts w
def obsWG (n : Nat) (ck : List (PySem.W.Frag → Bool)) (fn : List DefV) (ts : List TabV) (g : Addr → Option Obj) : AlW :=
  (obsVG n ck fn g, tabsIn ts (He.frG g (reach g [mainGlobals, cStatics] n)))
def hookW (n : Nat) (ck : List (PySem.W.Frag → Bool)) (fn : List DefV) (ts : List TabV) : PySem.W.Hook where
  α := AlW
  obs := fun s => obsWG n ck fn ts s.heap.get?
  val := fun w => (wantV fn, tabsWant ts w)
  says := fun w h => ∃ K : PySem.W.Frag, K.In h ∧ SaysW ck fn ts w K
  of := fun _ _ e => ⟨_, He.frG_in, congrArg Prod.fst e, congrArg Prod.snd e⟩
  keeps := fun _ _ _ ⟨K, i, c⟩ k => ⟨K, PySem.W.Frag.In.keeps i k, c⟩
structure GndW (PDx : PD) (ck : List (PySem.W.Frag → Bool)) (fn : List DefV) (ts : List TabV) (w : World) (K : PySem.W.Frag) (mg : Str → Option Value) (base : Heap) : Prop extends Gnd PDx ck fn K mg base where
  T : tabsIn ts K = tabsWant ts w
end Vi
namespace Vi
open PySem L2 PyProof.Rows
def fMakeC (c n : Nat) (F : FnI) (dd : List D) (xs : List Vl) (h : Hc) : R Vl := if xs.length = n then (match datas xs with
  | some ds => (F (ds ++ dd) h).bind fun fs h' => .ok (.d (.ref h'.length)) (h' ++ [.ins c fs])
  | none => .stuck) else .stuck
section
variable {X : Cx} {g : Gi} {B : Bg} {W : WXv} {pos p : Pos} {e : Expr} {es : List Expr} {A : MA} {F : FnI} {dd : List D} {n c : Nat} {x : Str}
theorem run_makeC {pins : List (Addr × Obj)} {σ : L2.St} {H : Hp} {s : Shared} {Q : VK} {us : List Value} {ws : List V} {env : Env} {st : Sta} {dl : List D} (b : Bd X g W) (V : VMake X g c n dd F) (I : Inv X pins σ H s) (r : Vals ws us)
    (sr : SR g B env st σ H) (rr : Reps g st.F st.al dl ws) (hl : ws.length = n) (p1 : PostE g B W env st σ H ((F (dl ++ dd) st.h).bind fun fs h' => .ok (.d (.ref h'.length)) (h' ++ [.ins c fs])) Q) :
    wpAny (model X.prog X.w) X.A (call (.ref (g.ca c)) us) (EP X pins σ Q) X.xe s := by
  obtain ⟨k, f, fd, ps, q, dvs, ds, FG, hr, M, hb, hd, hdd, hn⟩ := V.ex
  have nx : H (s.heap.objs.size + 1) = none := I.hok.fresh (Nat.le_succ _)
  have nd : H s.heap.objs.size = none := I.hok.fresh (Nat.le_refl _)
  have nn : s.heap.objs.size ≠ s.heap.objs.size + 1 := Nat.ne_of_lt (Nat.lt_succ_self _)
  have I2 := Inv.made (C := g.ca c) I
  have r2 : Vals (L2.V.ref (s.heap.objs.size + 1) :: (ws ++ dvs)) (Value.ref (s.heap.objs.size + 1) :: (us ++ ds)) := .cons rfl (r.append hd)
  have hsp : spI g c ps.length F (L2.V.ref (s.heap.objs.size + 1) :: (ws ++ dvs)) (upd (upd H s.heap.objs.size (.own (s.heap.objs.size + 1))) (s.heap.objs.size + 1) (.ins (g.ca c) s.heap.objs.size []))
      (fun v H2 => v = .non ∧ Q (.ref (s.heap.objs.size + 1)) H2) (fun cls d H' => W cls d σ H') := by
    refine ⟨st, dl ++ dd, H, _, _, ws ++ dvs, rfl, by rw [List.length_append, hl]; exact hn, nx, nd, nn, rfl, sr.good, rr.append (hdd _ _), ?_⟩
    cases eF : F (dl ++ dd) st.h with
    | ok fs h =>
      rw [eF] at p1
      rintro H' s' e1 ev gd ⟨dx, vs, g1, g2, g3, g4⟩
      refine ⟨rfl, ?_⟩
      have gd2 : Good g (s'.addC (s.heap.objs.size + 1) (.ins c fs)) H' := addC_goodC gd ⟨dx, vs, g1, g4⟩ ⟨_, g1⟩ g2 g3 fun _ z => nomatch z
      have le := addC_le (a := s.heap.objs.size + 1) (c := .ins c fs) gd
      have ev2 : Evo st H (s'.addC (s.heap.objs.size + 1) (.ins c fs)) H' := ⟨fun a o z => le.f _ _ (ev.f a o z), fun n a z => le.al _ _ (ev.al n a z), fun a o z n => by
        obtain ⟨y1, y2, y3⟩ := ev.oth a o z n
        refine ⟨y1, y2, fun m => ?_⟩
        show (if m = s'.h.length then some (s.heap.objs.size + 1) else s'.al m) ≠ some a
        by_cases em : m = s'.h.length
        · rw [if_pos em]
          intro q
          have q := Option.some.inj q
          rw [← q, nx] at z
          cases z
        · rw [if_neg em]
          exact y3 m, by
        show st.h.length ≤ (s'.h ++ [Cell.ins c fs]).length
        rw [List.length_append]
        exact Nat.le_trans ev.len (Nat.le_add_right _ _), fun n o z => le.z _ _ (ev.z n o z)⟩
      subst e1
      exact p1 (.ref (s.heap.objs.size + 1)) H' (s'.addC (s.heap.objs.size + 1) (.ins c fs)) rfl ev2 (sr.call ev2 gd2) ⟨s.heap.objs.size + 1, rfl, if_pos rfl⟩
    | exc y h =>
      rw [eF] at p1
      intro cls dd' H' s' e1 ev gd xr
      exact p1 cls dd' H' s' e1 ev (sr.call ev gd) xr
    | stuck =>
      rw [eF] at p1
      exact p1
  have hl2 : (Value.ref (s.heap.objs.size + 1) :: us ++ ds).length = (q :: ps).length := by
    have e := r2.length
    rw [FG.len _ _ _ _ hsp] at e
    exact e.symm
  refine wpAny_call (make_map (f := f) I.kIn M.makes M.init (beq_iff_eq.mp M.fn) (codeAny_mono (FG.run _ X.stack _ _ ⟨Value.ref (s.heap.objs.size + 1) :: us, []⟩ (Value.ref (s.heap.objs.size + 1) :: (us ++ ds)) _ _ _ (hr.make (g.ca c) us [])
    (under_guards.trans b.gd) (I2.env0.make (g.ca c) us []) (hb _ (Value.ref (s.heap.objs.size + 1) :: us) I2.kIn hl2) r2 hsp) ?_))
  intro res s' hq
  cases res with
  | error e => exact passAt b.tk σ pins _ _ e s' I2 hq
  | ok fl =>
    cases fl with
    | ret u =>
      obtain ⟨v, H', I3, rv, ev, q3⟩ := I2.after hq
      subst ev
      exact ⟨rv, ⟨L2.V.ref (s.heap.objs.size + 1), H', I3, rfl, q3⟩⟩
    | next => exact False.elim hq
    | brk => exact False.elim hq
    | cont => exact False.elim hq
theorem ve_makeC (b : Bd X g W) (V : VMake X g c n dd F) (hg : Gl X x) (hm : X.mg x = some (.ref (g.ca c))) (ha : PA X (e :: es) (tA g B W A)) (hdb : (x == ("__debug__" : Str)) = false := by decide)
    (he : starEach (e :: es) X.env = (false, eval e X.env) :: starEach es X.env := by rfl) (hpl : (backTo pos (starEach es X.env)).any (·.1) = false := by rfl) :
    PE X (.Call (.Name x p) (e :: es) [] pos) (tE g B W (mA1 (fMakeC c n F dd) A)) := by
  have kp : PySem.W.keepIn X.K (.ref (g.ca c)) = true := by
    obtain ⟨k, f, fd, ps, q, dvs, ds, FG, hr, M, _⟩ := V.ex
    exact M.kp
  refine ⟨fun pins s σ H Q I h => ?_⟩
  refine wpAny_Call_Name_kw (ld_glob I hg hm ?_ hdb)
  obtain ⟨env, st, sr, pp⟩ := h
  refine PySem.W.callWith_K (h₀ := X.base) I.ok.mod.kin kp (thn (ha.run pos pins s σ H _ I (bindA (Q := Q) sr pp)) fun us s1 ⟨vs, H1, I1, r, st1, xs, sr1, ev1, r1, p1⟩ => ⟨I1.kIn, ?_⟩) he hpl
  unfold fMakeC at p1
  by_cases hl : xs.length = n
  · rw [if_pos hl] at p1
    cases e1 : datas xs with
    | none => rw [e1] at p1; exact p1.elim
    | some dl =>
      rw [e1] at p1
      exact run_makeC b V I1 r sr1 (r1.datas e1) (by rw [r1.length, hl]) p1
  · rw [if_neg hl] at p1
    exact p1.elim
end
def mSetFldC (g : Gi) (i : Nat) (f : Str) (e : ME) : MS := fun env h => (e env h).thenS env fun x h1 => match x, env[i]? with
  | .d d, some (some (.d (.ref n))) => (match h1[n]? with
    | some (.ins c fs) => if g.fld c f && decide (fs.length < 1000) then .nx env (h1.set n (.ins c (putD f d fs))) else .stuck
    | _ => .stuck)
  | _, _ => .stuck
section
variable {X : Cx} {g : Gi} {B : Bg} {W : WXv} {pos tpos : Pos} {o e : Expr} {m : ME}
end
def mForO (I : TblI) (T : TgF) (m : ME) (b : MS) : MS := fun env h => (m env h).thenS env fun x h1 => match x with
  | .d (.obj c fs) => (match I c with
    | some mi => (match mi [some (.d (.obj c fs))] h1 with
      | .ok (.d (.tup xs)) h2 => forL T b xs env h2
      | _ => .stuck)
    | none => .stuck)
  | _ => .stuck
section
variable {X : Cx} {g : Gi} {B : Bg} {W : WXv} {pos : Pos} {e tg : Expr} {body : List Stmt} {m : ME} {mb : MS} {T : TgF} {I : TblI}
end
end Vi
namespace Vi
open PySem L2 PyProof.Rows
abbrev ZipF (h : Heap) (z TI TO : Addr) (v : Value) (f : Bool) : Prop :=
  h.get? z = some { cls := .type "zip", dict := none, data := .fields #[v, .bool f, .bool false, .ref TI, .ref TO], slots := #[] }
def ZN (h : Heap) (z TI TO : Addr) : Prop := ∃ v f, ZipF h z TI TO v f ∧ (v = .none ∨ ∃ T : Addr, v = rawInt T)
section
variable {P : Program} {w : World} {A : Around} {E : Value → Shared → Prop} {s : Shared} {z TI TO i1 i2 : Addr} {fa fb : List Addr} {n1 n2 i : Nat} {P1 P2 : Nat → Value → Prop} {S1 S2 : Nat → Heap → Prop} {a1 a2 : Value}
end
end Vi
namespace Vi
open PySem L2 PyProof.Rows
def mCompZN (o : Bool) (own : List Nat) (T : TgF) (mt : MB) (me : ME) (a : MA) : ME := fun env h => (a env h).bind fun xs h1 => match xs with
  | [x, y] => (match seqC? h1 x, seqC? h1 y with
    | some (true, xs), some (false, ys) => compL o T mt me (zipD xs ys) [] (wipeE env own) h1
    | _, _ => .stuck)
  | _ => .stuck
section
variable {X : Cx} {g : Gi} {B : Bg} {W : WXv} {own : List Nat} {o : Bool} {T : TgF} {mt : MB} {me : ME} {ma : MA} {t : TG} {σ : L2.St} {H : Hp} {Q : VK}
end
section
variable {X : Cx} {g : Gi} {B : Bg} {W : WXv} {own : List (Str × Nat)} {o : Bool} {T : TgF} {mt : MB} {me : ME} {t : TG} {elt a b : Expr} {nm : Str} {ifs : List Expr} {scope : Scope} {pos p' rp tpos : Pos} {ma : MA}
end
end Vi
namespace Vi
open PySem L2 PyProof.Rows
section
variable {X : Cx} {g : Gi} {B : Bg} {W : WXv} {pos p : Pos} {x : Str} {a : Expr} {ma : ME} {tb : List (Str × D)}
theorem vt_tin (T : KTab X g x tb) (hg : Gl X x) (ha : PE X a (tE g B W ma)) (hd : (x == ("__debug__" : Str)) = false := by decide) (hm' : behindInMarks .In (.Name x p) = false := by rfl) : PT X (.Compare a [.In] [.Name x p] pos) (tT g B W (asB (mTIn false tb ma))) := by
  obtain ⟨d, es, n, hm, D, h1, h2⟩ := T.ex
  refine pt_imp (pt_cmpR (op_in_kd D) ha (pe_glob (v := .ref d) hg hm rfl hd) hm') fun σ H Q h => ?_
  obtain ⟨env, s, sr, p⟩ := tE_asB h
  refine (bindE sr p).mono fun w H1 ⟨s1, y, sr1, ev1, r1, p1⟩ => ?_
  split at p1
  · next k =>
    obtain rfl : w = .str k := r1
    cases e : tb.lookup k with
    | none =>
      rw [e] at p1
      exact ⟨k, none, rfl, rfl, h2 k e, PostE.pure sr1 p1 rfl⟩
    | some dd =>
      obtain ⟨u, v, e1, e2, e3⟩ := h1 k dd e
      rw [e] at p1
      exact ⟨k, some u, rfl, rfl, e1, PostE.pure sr1 p1 rfl⟩
  · exact p1.elim
end
end Vi
namespace Vi
open PySem L2 PyProof.Rows
def mPar (i j : Nat) (a : MA) : MS := fun env h => (a env h).thenS env fun xs h1 => match xs with
  | [.d x, .d y] => .nx ((env.set i (some (.d x))).set j (some (.d y))) h1
  | _ => .stuck
section
variable {X : Cx} {g : Gi} {B : Bg} {W : WXv} {pos : Pos}
end
end Vi
namespace Vi
open PySem L2 PyProof.Rows
def asT (m : ME) : MB := fun env h => (m env h).bind fun x h1 => match x with
  | .d (.bl b) => .ok b h1
  | _ => (match tup? x with
    | some xs => .ok (!xs.isEmpty) h1
    | none => .stuck)
section
variable {X : Cx} {g : Gi} {B : Bg} {W : WXv} {a : Expr} {m : ME}
end
def fLenD (xs : List Vl) (h : Hc) : R Vl := match xs with
  | [x] => (match dvN? x h with
    | some (.k kvs) => .ok (.d (.int kvs.length)) h
    | some (.t kvs) => .ok (.d (.int kvs.length)) h
    | none => fLen [x] h)
  | _ => .stuck
section
variable {X : Cx} {g : Gi}
end
end Vi
namespace Vi
open PySem L2 PyProof.Rows
def obsWL (as : List Addr) (ck : List (PySem.W.Frag → Bool)) (fn : List DefV) (ts : List TabV) (g : Addr → Option Obj) : AlW := (obsV ck fn (He.frG g as), tabsIn ts (He.frG g as))
def hookL (as : List Addr) (ck : List (PySem.W.Frag → Bool)) (fn : List DefV) (ts : List TabV) : PySem.W.Hook where
  α := AlW
  obs := fun s => obsWL as ck fn ts s.heap.get?
  val := fun w => (wantV fn, tabsWant ts w)
  says := fun w h => ∃ K : PySem.W.Frag, K.In h ∧ SaysW ck fn ts w K
  of := fun _ _ e => ⟨_, He.frG_in, congrArg Prod.fst e, congrArg Prod.snd e⟩
  keeps := fun _ _ _ ⟨K, i, c⟩ k => ⟨K, PySem.W.Frag.In.keeps i k, c⟩
theorem obsWL_eq {as : List Addr} {ck : List (PySem.W.Frag → Bool)} {fn : List DefV} {ts : List TabV} {g : Addr → Option Obj} {s : Shared} (h : ∀ a, g a = s.heap.get? a) : obsWL as ck fn ts g = (hookL as ck fn ts).obs s := by
  rw [show g = s.heap.get? from funext h] <;> rfl
end Vi
namespace Vi
open PySem L2 PyProof.Rows
def Sta.lockK (s : Sta) (n : Nat) (o : HO) (kvs : List (Key × D)) : Sta := { s with h := s.h.set n (.frz (.lk kvs)), z := fun m => if m = n then some o else s.z m }
def Sta.openK (s : Sta) (n : Nat) (kvs : List (Key × D)) : Sta := { s with h := s.h.set n (.dK kvs), z := fun m => if m = n then none else s.z m }
section
variable {g : Gi} {B : Bg} {W : WXv} {env : Env} {s : Sta} {σ : L2.St} {H : Hp} {n : Nat} {a : Addr} {od : Obj} {kvs : List (Key × D)} {vs : List (Key × V)}
theorem good_lockK (gd : Good g s H) (hc : s.h[n]? = some (.dK kvs)) (ha : s.al n = some a) (hr : RepK g s.F s.al kvs vs) : Good g (s.lockK n (.frz od (.dK vs)) kvs) (upd H a (.frz od (.dK vs))) := by
  obtain ⟨hn, hf, u0, hu0⟩ := gd.dom n a ha
  refine ⟨fun b u h => ?_, gd.inj, fun m b h => ?_, fun m d h => ?_, ⟨fun m u h => ?_, fun m c0 h => ?_⟩⟩
  · have h : s.F b = some u := h
    have ne : b ≠ a := fun e => by rw [e, hf] at h; cases h
    rw [upd_ne ne]
    exact gd.fle b u h
  · obtain ⟨h1, h2, u, h3⟩ := gd.dom m b h
    refine ⟨by show m < (s.h.set n _).length; rw [List.length_set]; exact h1, h2, ?_⟩
    by_cases e : b = a
    · subst e
      exact ⟨_, upd_same⟩
    · exact ⟨u, by rw [upd_ne e]; exact h3⟩
  · have h : (s.h.set n (.frz (.lk kvs)))[m]? = some d := h
    by_cases e : n = m
    · subst e
      rw [List.getElem?_set_self hn] at h
      cases h
      exact ⟨a, ha, od, vs, upd_same, hr⟩
    · rw [List.getElem?_set_ne e] at h
      obtain ⟨b, h1, h2⟩ := gd.cell m d h
      have ne : b ≠ a := fun q => e (gd.inj n m a ha (by rw [← q]; exact h1))
      refine ⟨b, h1, ?_⟩
      exact CellRep.mv (s := s) (s' := s.lockK n (.frz od (.dK vs)) kvs) (H := H) (fun o h3 => by rw [upd_ne ne]; exact h3) (fun _ _ h => h) (fun _ _ h => h) h2
  · have h : (if m = n then some (HO.frz od (.dK vs)) else s.z m) = some u := h
    by_cases e : m = n
    · rw [if_pos e] at h
      cases h
      subst e
      exact ⟨a, .lk kvs, ha, upd_same, List.getElem?_set_self hn⟩
    · rw [if_neg e] at h
      obtain ⟨b, c0, h1, h2, h3⟩ := gd.zed.at_ m u h
      have ne : b ≠ a := fun q => e (gd.inj m n a (by rw [← q]; exact h1) ha)
      refine ⟨b, c0, h1, by rw [upd_ne ne]; exact h2, ?_⟩
      show (s.h.set n _)[m]? = _
      rw [List.getElem?_set_ne (fun z => e z.symm)]
      exact h3
  · have h : (s.h.set n (.frz (.lk kvs)))[m]? = some (.frz c0) := h
    show ∃ o, (if m = n then some (HO.frz od (.dK vs)) else s.z m) = some o
    by_cases e : m = n
    · exact ⟨_, if_pos e⟩
    · rw [List.getElem?_set_ne (fun z => e z.symm)] at h
      rw [if_neg e]
      exact gd.zed.of m c0 h
theorem z_none (gd : Good g s H) (hc : s.h[n]? = some (.dK kvs)) : s.z n = none := by
  cases e : s.z n with
  | none => rfl
  | some o =>
    obtain ⟨_, c, _, _, h3⟩ := gd.zed.at_ n o e
    rw [hc] at h3
    cases h3
theorem slot_upd {s' : Sta} {o : HO} (ef : s'.F = s.F) (ea : s'.al = s.al) (ha : s.al n = some a) {sl1 : Sl} {v : V} (h : SlRep g B s H sl1 v) : SlRep g B s' (upd H a o) sl1 v := by
  cases sl1 with
  | d x =>
    show Rep g s'.F s'.al x v
    rw [ef, ea]
    exact h
  | ol xs =>
    obtain ⟨b, vs, rfl, h2, h3, h4⟩ := h
    have ne : b ≠ a := fun e => h3.al n (by rw [e]; exact ha)
    exact ⟨b, vs, rfl, by rw [upd_ne ne]; exact h2, ⟨by rw [ef]; exact h3.f, by rw [ea]; exact h3.al, h3.new⟩, by rw [ef, ea]; exact h4⟩
  | oi c fs =>
    obtain ⟨b, dx, vs, rfl, h2, h3, h4, h5⟩ := h
    have ne : b ≠ a := fun e => h3.al n (by rw [e]; exact ha)
    exact ⟨b, dx, vs, rfl, by rw [upd_ne ne]; exact h2, ⟨by rw [ef]; exact h3.f, by rw [ea]; exact h3.al, h3.new⟩, by rw [ef, ea]; exact h4, h5⟩
  | xc c fs =>
    obtain ⟨h1, h2, vs, h3, h4, h5⟩ := h
    have ne : B.xd ≠ a := fun e => h4 n (by rw [e]; exact ha)
    exact ⟨h1, h2, vs, by rw [upd_ne ne]; exact h3, by rw [ea]; exact h4, by rw [ef, ea]; exact h5⟩
theorem SR.lockK (sr : SR g B env s σ H) (hc : s.h[n]? = some (.dK kvs)) (ha : s.al n = some a) (hr : RepK g s.F s.al kvs vs) : SR g B env (s.lockK n (.frz od (.dK vs)) kvs) σ (upd H a (.frz od (.dK vs))) := by
  refine ⟨good_lockK sr.good hc ha hr, ⟨sr.evo.f, sr.evo.al, fun b u h nn => ?_, by show _ ≤ (s.h.set n _).length; rw [List.length_set]; exact sr.evo.len, fun m o h => ?_⟩, sr.len, fun i sl h => ?_, sr.sep⟩
  · obtain ⟨h1, h2, h3⟩ := sr.evo.oth b u h nn
    have ne : b ≠ a := fun e => h3 n (by rw [e]; exact ha)
    exact ⟨by rw [upd_ne ne]; exact h1, h2, h3⟩
  · have h1 := sr.evo.z m o h
    show (if m = n then some _ else s.z m) = some o
    have e : m ≠ n := fun e => by
      rw [e, z_none sr.good hc] at h1
      cases h1
    rw [if_neg e]
    exact h1
  · obtain ⟨v, h1, h2⟩ := sr.slot i sl h
    exact ⟨v, h1, slot_upd (s := s) (s' := s.lockK n (.frz od (.dK vs)) kvs) rfl rfl ha h2⟩
theorem good_openK (gd : Good g s H) (hz : s.z n = some (.frz od (.dK vs))) (ha : s.al n = some a) (hr : RepK g s.F s.al kvs vs) : Good g (s.openK n kvs) (upd H a (.dK vs)) := by
  obtain ⟨hn, hf, u0, hu0⟩ := gd.dom n a ha
  refine ⟨fun b u h => ?_, gd.inj, fun m b h => ?_, fun m d h => ?_, ⟨fun m u h => ?_, fun m c0 h => ?_⟩⟩
  · have h : s.F b = some u := h
    have ne : b ≠ a := fun e => by rw [e, hf] at h; cases h
    rw [upd_ne ne]
    exact gd.fle b u h
  · obtain ⟨h1, h2, u, h3⟩ := gd.dom m b h
    refine ⟨by show m < (s.h.set n _).length; rw [List.length_set]; exact h1, h2, ?_⟩
    by_cases e : b = a
    · subst e
      exact ⟨_, upd_same⟩
    · exact ⟨u, by rw [upd_ne e]; exact h3⟩
  · have h : (s.h.set n (.dK kvs))[m]? = some d := h
    by_cases e : n = m
    · subst e
      rw [List.getElem?_set_self hn] at h
      cases h
      exact ⟨a, ha, vs, upd_same, hr⟩
    · rw [List.getElem?_set_ne e] at h
      obtain ⟨b, h1, h2⟩ := gd.cell m d h
      have ne : b ≠ a := fun q => e (gd.inj n m a ha (by rw [← q]; exact h1))
      refine ⟨b, h1, ?_⟩
      exact CellRep.mv (s := s) (s' := s.openK n kvs) (H := H) (fun o h3 => by rw [upd_ne ne]; exact h3) (fun _ _ h => h) (fun _ _ h => h) h2
  · have h : (if m = n then none else s.z m) = some u := h
    by_cases e : m = n
    · rw [if_pos e] at h
      cases h
    · rw [if_neg e] at h
      obtain ⟨b, c0, h1, h2, h3⟩ := gd.zed.at_ m u h
      have ne : b ≠ a := fun q => e (gd.inj m n a (by rw [← q]; exact h1) ha)
      refine ⟨b, c0, h1, by rw [upd_ne ne]; exact h2, ?_⟩
      show (s.h.set n _)[m]? = _
      rw [List.getElem?_set_ne (fun z => e z.symm)]
      exact h3
  · have h : (s.h.set n (.dK kvs))[m]? = some (.frz c0) := h
    show ∃ o, (if m = n then none else s.z m) = some o
    by_cases e : m = n
    · subst e
      rw [List.getElem?_set_self hn] at h
      cases h
    · rw [List.getElem?_set_ne (fun z => e z.symm)] at h
      rw [if_neg e]
      exact gd.zed.of m c0 h
theorem evo_openK {s0 : Sta} {H0 : Hp} (e : Evo s0 H0 s H) (h0 : s0.z n = none) (ha : s.al n = some a) : Evo s0 H0 (s.openK n kvs) (upd H a (.dK vs)) := by
  refine ⟨e.f, e.al, fun b u h nn => ?_, by show _ ≤ (s.h.set n _).length; rw [List.length_set]; exact e.len, fun m o h => ?_⟩
  · obtain ⟨h1, h2, h3⟩ := e.oth b u h nn
    have ne : b ≠ a := fun e => h3 n (by rw [e]; exact ha)
    exact ⟨by rw [upd_ne ne]; exact h1, h2, h3⟩
  · show (if m = n then none else s.z m) = some o
    have ne : m ≠ n := fun q => by
      rw [q, h0] at h
      cases h
    rw [if_neg ne]
    exact e.z m o h
theorem SR.openK (sr : SR g B env s σ H) (hz : s.z n = some (.frz od (.dK vs))) (h0 : B.s.z n = none) (ha : s.al n = some a) (hr : RepK g s.F s.al kvs vs) : SR g B env (s.openK n kvs) σ (upd H a (.dK vs)) := by
  refine ⟨good_openK sr.good hz ha hr, evo_openK sr.evo h0 ha, sr.len, fun i sl h => ?_, sr.sep⟩
  obtain ⟨v, h1, h2⟩ := sr.slot i sl h
  exact ⟨v, h1, slot_upd (s := s) (s' := s.openK n kvs) rfl rfl ha h2⟩
end
def RS.mapK (f : Hc → Hc) : RS → RS
  | .nx e h => .nx e (f h)
  | .brk e h => .brk e (f h)
  | .cnt e h => .cnt e (f h)
  | _ => .stuck
def fForK (n : Nat) (kvs : List (Key × D)) (T : TgF) (b : MS) (env : Env) (x : Vl) (h2 : Hc) : RS := match x with
  | .d (.ref n') => if n' = n then forL T b (kvs.map fun p => dKey p.1) env h2 else .stuck
  | _ => .stuck
def mForK (T : TgF) (m : ME) (b : MS) : MS := fun env h => match m env h with
  | .ok (.d (.ref n)) _ => (match h[n]? with
    | some (.dK kvs) => ((m env (h.set n (.frz (.lk kvs)))).thenS env fun x h2 => fForK n kvs T b env x h2).mapK fun h3 => h3.set n (.dK kvs)
    | _ => .stuck)
  | _ => .stuck
section
variable {X : Cx} {g : Gi} {B : Bg} {W : WXv} {pos : Pos} {e tg : Expr} {body : List Stmt} {m : ME} {mb : MS} {T : TgF}
abbrev openN (N : Ends) (a : Addr) (od : Obj) (vs : List (Key × V)) : Ends := ⟨fun σ' H' => H' a = some (.frz od (.dK vs)) ∧ N.nx σ' (upd H' a (.dK vs)), fun v H' => H' a = some (.frz od (.dK vs)) ∧ N.rt v (upd H' a (.dK vs)), fun σ' H' => H' a = some (.frz od (.dK vs)) ∧ N.bk σ' (upd H' a (.dK vs)), fun σ' H' => H' a = some (.frz od (.dK vs)) ∧ N.ct σ' (upd H' a (.dK vs))⟩
end
end Vi
namespace Vi
open PySem L2 PyProof.Rows
def fLstC (xs : List Vl) (h : Hc) : R Vl := match datas xs with
  | some ds => if ds.length ≤ 100000 then .ok (.d (.ref h.length)) (h ++ [.lst ds]) else .stuck
  | none => .stuck
section
variable {X : Cx} {g : Gi} {B : Bg} {W : WXv} {pos : Pos}
theorem ve_lstC {es : List Expr} {a : MA} (h : PA X es (tA g B W a)) : PE X (.List es pos) (tE g B W (mA1 fLstC a)) := by
  refine pe_imp (pe_lst h) fun σ H Q ⟨env, s, sr, p⟩ => ?_
  refine (bindA (Q := Q) sr p).mono fun vs H1 ⟨s2, ys, sr2, ev2, vr2, p2⟩ => ?_
  unfold fLstC at p2
  cases e2 : datas ys with
  | none => rw [e2] at p2; exact p2.elim
  | some ds =>
    rw [e2] at p2
    by_cases hl : ds.length ≤ 100000
    · simp only [if_pos hl] at p2
      have rr := vr2.datas e2
      exact ⟨by rw [rr.length]; exact size_of hl, fun p hp => PostE.newC sr2 p2 hp ⟨vs, upd_same, rr⟩ fun _ z => by cases z⟩
    · simp only [if_neg hl] at p2
      exact p2.elim
end
def Sta.hold (s : Sta) (n : Nat) (o : HO) (c : Cell) : Sta := { s with h := s.h.set n (.frz c), z := fun m => if m = n then some o else s.z m }
def Sta.loose (s : Sta) (n : Nat) (c : Cell) : Sta := { s with h := s.h.set n c, z := fun m => if m = n then none else s.z m }
section
variable {g : Gi} {B : Bg} {W : WXv} {env : Env} {s : Sta} {σ : L2.St} {H : Hp} {n : Nat} {a : Addr} {o : HO} {c : Cell}
theorem slot_keep {s' : Sta} (ef : s'.F = s.F) (ea : s'.al = s.al) {sl1 : Sl} {v : V} (h : SlRep g B s H sl1 v) : SlRep g B s' H sl1 v := by
  cases sl1 with
  | d x =>
    show Rep g s'.F s'.al x v
    rw [ef, ea]
    exact h
  | ol xs =>
    obtain ⟨b, vs, rfl, h2, h3, h4⟩ := h
    exact ⟨b, vs, rfl, h2, ⟨by rw [ef]; exact h3.f, by rw [ea]; exact h3.al, h3.new⟩, by rw [ef, ea]; exact h4⟩
  | oi c fs =>
    obtain ⟨b, dx, vs, rfl, h2, h3, h4, h5⟩ := h
    exact ⟨b, dx, vs, rfl, h2, ⟨by rw [ef]; exact h3.f, by rw [ea]; exact h3.al, h3.new⟩, by rw [ef, ea]; exact h4, h5⟩
  | xc c fs =>
    obtain ⟨h1, h2, vs, h3, h4, h5⟩ := h
    exact ⟨h1, h2, vs, h3, by rw [ea]; exact h4, by rw [ef, ea]; exact h5⟩
theorem good_hold (gd : Good g s H) (hc : s.h[n]? = some c) (ha : s.al n = some a) (hH : H a = some o) : Good g (s.hold n o c) H := by
  obtain ⟨hn, hf, u0, hu0⟩ := gd.dom n a ha
  refine ⟨gd.fle, gd.inj, fun m b h => ?_, fun m d h => ?_, ⟨fun m u h => ?_, fun m c0 h => ?_⟩⟩
  · obtain ⟨h1, h2, h3⟩ := gd.dom m b h
    exact ⟨by show m < (s.h.set n _).length; rw [List.length_set]; exact h1, h2, h3⟩
  · have h : (s.h.set n (.frz c))[m]? = some d := h
    by_cases e : n = m
    · subst e
      rw [List.getElem?_set_self hn] at h
      cases h
      obtain ⟨b, h1, h2⟩ := gd.cell n c hc
      exact ⟨b, h1, CellRep.mv (s := s) (s' := s.hold n o c) (H := H) (fun _ z => z) (fun _ _ z => z) (fun _ _ z => z) h2⟩
    · rw [List.getElem?_set_ne e] at h
      obtain ⟨b, h1, h2⟩ := gd.cell m d h
      exact ⟨b, h1, CellRep.mv (s := s) (s' := s.hold n o c) (H := H) (fun _ z => z) (fun _ _ z => z) (fun _ _ z => z) h2⟩
  · have h : (if m = n then some o else s.z m) = some u := h
    by_cases e : m = n
    · rw [if_pos e] at h
      cases h
      subst e
      exact ⟨a, c, ha, hH, List.getElem?_set_self hn⟩
    · rw [if_neg e] at h
      obtain ⟨b, c0, h1, h2, h3⟩ := gd.zed.at_ m u h
      refine ⟨b, c0, h1, h2, ?_⟩
      show (s.h.set n _)[m]? = _
      rw [List.getElem?_set_ne (fun z => e z.symm)]
      exact h3
  · have h : (s.h.set n (.frz c))[m]? = some (.frz c0) := h
    show ∃ o', (if m = n then some o else s.z m) = some o'
    by_cases e : m = n
    · exact ⟨_, if_pos e⟩
    · rw [List.getElem?_set_ne (fun z => e z.symm)] at h
      rw [if_neg e]
      exact gd.zed.of m c0 h
theorem z_none' (gd : Good g s H) (hc : s.h[n]? = some c) (nf : c.isF = false) : s.z n = none := by
  cases e : s.z n with
  | none => rfl
  | some o =>
    obtain ⟨_, c0, _, _, h3⟩ := gd.zed.at_ n o e
    rw [hc] at h3
    rw [Option.some.inj h3] at nf
    cases nf
theorem SR.hold (sr : SR g B env s σ H) (hc : s.h[n]? = some c) (nf : c.isF = false) (ha : s.al n = some a) (hH : H a = some o) : SR g B env (s.hold n o c) σ H := by
  refine ⟨good_hold sr.good hc ha hH, ⟨sr.evo.f, sr.evo.al, sr.evo.oth, by show _ ≤ (s.h.set n _).length; rw [List.length_set]; exact sr.evo.len, fun m o' h => ?_⟩, sr.len, fun i sl h => ?_, sr.sep⟩
  · have h1 := sr.evo.z m o' h
    show (if m = n then some o else s.z m) = some o'
    have e : m ≠ n := fun e => by
      rw [e, z_none' sr.good hc nf] at h1
      cases h1
    rw [if_neg e]
    exact h1
  · obtain ⟨v, h1, h2⟩ := sr.slot i sl h
    exact ⟨v, h1, slot_keep (s := s) (s' := s.hold n o c) rfl rfl h2⟩
theorem good_loose (gd : Good g s H) (nf : c.isF = false) (ha : s.al n = some a) (hr : CellRep g s H a c) : Good g (s.loose n c) H := by
  obtain ⟨hn, hf, u0, hu0⟩ := gd.dom n a ha
  refine ⟨gd.fle, gd.inj, fun m b h => ?_, fun m d h => ?_, ⟨fun m u h => ?_, fun m c0 h => ?_⟩⟩
  · obtain ⟨h1, h2, h3⟩ := gd.dom m b h
    exact ⟨by show m < (s.h.set n _).length; rw [List.length_set]; exact h1, h2, h3⟩
  · have h : (s.h.set n c)[m]? = some d := h
    by_cases e : n = m
    · subst e
      rw [List.getElem?_set_self hn] at h
      cases h
      exact ⟨a, ha, CellRep.mv (s := s) (s' := s.loose n c) (H := H) (fun _ z => z) (fun _ _ z => z) (fun _ _ z => z) hr⟩
    · rw [List.getElem?_set_ne e] at h
      obtain ⟨b, h1, h2⟩ := gd.cell m d h
      exact ⟨b, h1, CellRep.mv (s := s) (s' := s.loose n c) (H := H) (fun _ z => z) (fun _ _ z => z) (fun _ _ z => z) h2⟩
  · have h : (if m = n then none else s.z m) = some u := h
    by_cases e : m = n
    · rw [if_pos e] at h
      cases h
    · rw [if_neg e] at h
      obtain ⟨b, c0, h1, h2, h3⟩ := gd.zed.at_ m u h
      refine ⟨b, c0, h1, h2, ?_⟩
      show (s.h.set n _)[m]? = _
      rw [List.getElem?_set_ne (fun z => e z.symm)]
      exact h3
  · have h : (s.h.set n c)[m]? = some (.frz c0) := h
    show ∃ o', (if m = n then none else s.z m) = some o'
    by_cases e : m = n
    · subst e
      rw [List.getElem?_set_self hn] at h
      rw [Option.some.inj h] at nf
      cases nf
    · rw [List.getElem?_set_ne (fun z => e z.symm)] at h
      rw [if_neg e]
      exact gd.zed.of m c0 h
theorem SR.loose (sr : SR g B env s σ H) (h0 : B.s.z n = none) (nf : c.isF = false) (ha : s.al n = some a) (hr : CellRep g s H a c) : SR g B env (s.loose n c) σ H := by
  refine ⟨good_loose sr.good nf ha hr, ⟨sr.evo.f, sr.evo.al, sr.evo.oth, by show _ ≤ (s.h.set n _).length; rw [List.length_set]; exact sr.evo.len, fun m o' h => ?_⟩, sr.len, fun i sl h => ?_, sr.sep⟩
  · show (if m = n then none else s.z m) = some o'
    have e : m ≠ n := fun e => by
      rw [e, h0] at h
      cases h
    rw [if_neg e]
    exact sr.evo.z m o' h
  · obtain ⟨v, h1, h2⟩ := sr.slot i sl h
    exact ⟨v, h1, slot_keep (s := s) (s' := s.loose n c) rfl rfl h2⟩
end
def mHold (m : ME) (st : MS) : MS := fun env h => match m env h with
  | .ok (.d (.ref n)) _ => (match h[n]? with
    | some c => if c.isF then st env h else (st env (h.set n (.frz c))).mapK fun h3 => h3.set n c
    | none => .stuck)
  | _ => st env h
section
variable {X : Cx} {g : Gi} {B : Bg} {W : WXv} {st : Stmt} {m : ME} {ms : MS}
end
def mForA (T : TgF) (m : ME) (b : MS) : MS := fun env h => match m env h with
  | .ok (.d (.ref n)) _ => (match h[n]? with
    | some (.dK _) => mForK T m b env h
    | _ => mHold m (mFor T m b) env h)
  | _ => mHold m (mFor T m b) env h
section
variable {X : Cx} {g : Gi} {B : Bg} {W : WXv} {pos : Pos} {e tg : Expr} {body : List Stmt} {m : ME} {mb : MS} {T : TgF}
end
end Vi
namespace Vi
open PySem L2 PyProof.Rows
def mPutA (kc : List D → Bool) (me mo mk : ME) : MS := fun env h => match mo env h with
  | .ok (.d (.ref n)) _ => (match h[n]? with
    | some (.lst _) => mSetIx me mo mk env h
    | _ => mDPut kc me mo mk env h)
  | _ => mDPut kc me mo mk env h
section
variable {X : Cx} {g : Gi} {B : Bg} {W : WXv} {st : Stmt} {kc : List D → Bool} {me mo mk : ME}
end
end Vi
namespace Vi
open PySem L2 PyProof.Rows
def compLC (o : Bool) (T : TgF) (mt : MB) (me : ME) : List D → List D → Env → Hc → R Vl
  | [], acc, _, h => .ok (.d (.ref h.length)) (h ++ [.lst acc])
  | x :: r, acc, env, h => match T x env with
    | none => .stuck
    | some env1 => (match mt env1 h with
      | .ok b h1 => if b then (match me env1 h1 with
        | .ok (.d y) h2 => if acc.length < 16000000 then compLC o T mt me r (acc ++ [y]) env h2 else .stuck
        | _ => .stuck) else compLC o T mt me r acc env h1
      | _ => .stuck)
def CInvC (g : Gi) (B : Bg) (W : WXv) (env : Env) (s1 : Sta) (σ : L2.St) (H1 : Hp) (own : List Nat) (o : Bool) (T : TgF) (mt : MB) (me : ME) (Q : VK) (Dn : Addr) (rest : List D) (H : Hp) : Prop :=
  ∃ (s' : Sta) (acc : List D) (vs : List L2.V), Good g s' H ∧ Evo s1 H1 s' H ∧ H Dn = some (.lst vs) ∧ s'.F Dn = none ∧ (∀ n, s'.al n ≠ some Dn) ∧ Reps g s'.F s'.al acc vs ∧ PostE g B W env s1 σ H1 (compLC o T mt me rest acc (wipeE env own) s'.h) Q
section
variable {g : Gi} {B : Bg} {W : WXv} {env : Env} {s1 : Sta} {σ : L2.St} {H1 H : Hp} {own : List Nat} {o : Bool} {T : TgF} {mt : MB} {me : ME} {Q : VK} {Dn : Addr}
end
def mCompC (o : Bool) (own : List Nat) (T : TgF) (mt : MB) (me src : ME) : ME := fun env h => (src env h).bind fun x h1 => match seqC? h1 x with
  | some (_, xs) => compLC o T mt me xs [] (wipeE env own) h1
  | none => .stuck
section
variable {X : Cx} {g : Gi} {B : Bg} {W : WXv} {own : List Nat} {o : Bool} {T : TgF} {mt : MB} {me m : ME} {t : TG} {σ : L2.St} {H : Hp} {Q : VK}
end
section
variable {X : Cx} {g : Gi} {B : Bg} {W : WXv} {own : List (Str × Nat)} {o : Bool} {T : TgF} {mt : MB} {me m : ME} {t : TG} {elt tg iter : Expr} {ifs : List Expr} {scope : Scope} {pos p' rp : Pos} {ma : MA}
end
end Vi
namespace Vi
open PySem PySem.Spec PySem.Calls L2 PyProof.Rows
section
variable {prog : Program} {w : World} {A : Around} {E : Value → Shared → Prop} {s : Shared} {d : Addr} {vs : List (Key × Value)} {ep : Nat}
end
def rTupD : List V → Hp → VK → Prop := fun xs H Q => ∃ (a : Addr) (kvs : List (Key × V)), xs = [.ref a] ∧ Rd H a (.dK kvs) ∧ ∀ p, H p = none → Q (.ref p) (upd H p (.tup (kvs.map fun kv => kV kv.1)))
section
variable {X : Cx} {g : Gi}
def fTupleK (xs : List Vl) (h : Hc) : R Vl := match xs with
  | [x] => (match dv? x h with
    | some (.k kvs) => .ok (.d (.tup (kvs.map fun p => dKey p.1))) h
    | _ => fTuple [x] h)
  | _ => .stuck
end
end Vi
namespace Vi
open PySem L2 PyProof.Rows
def fInsC (neg : Bool) (T : Tbl) (F0 : Vl → Vl → Hc → R Vl) (x y : Vl) (h : Hc) : R Vl := match y with
  | .d (.ref n) => (match h[n]? with
    | some (.ins c fs) => (match T c, x with
      | some F, .d xd => (F [.ref n, xd] h).bind fun d h' => match d with
        | .bl b => .ok (.d (nB neg b)) h'
        | _ => .stuck
      | _, _ => .stuck)
    | _ => F0 x y h)
  | _ => F0 x y h
section
variable {X : Cx} {g : Gi} {B : Bg} {W : WXv} {env : Env} {st : Sta} {σ : L2.St} {H : Hp} {s : Shared} {pins : List (Addr × Obj)} {c n : Nat}
end
section
variable {X : Cx} {g : Gi} {W : WXv}
end
end Vi
namespace Vi
open PySem L2 PyProof.Rows
section
variable {g : Gi} {B : Bg} {W : WXv} {env : Env} {s : Sta} {σ : L2.St} {H : Hp} {n : Nat} {a : Addr} {od : Obj} {kvs : List (Key × D)} {vs : List (Key × V)}
end
def mLockE (m me : ME) : ME := fun env h => match m env h with
  | .ok (.d (.ref n)) _ => (match h[n]? with
    | some (.dK kvs) => (match me env (h.set n (.frz (.lk kvs))) with
      | .ok x h2 => .ok x (h2.set n (.dK kvs))
      | _ => .stuck)
    | _ => .stuck)
  | _ => .stuck
section
variable {X : Cx} {g : Gi} {B : Bg} {W : WXv} {e : Expr} {m me : ME}
end
end Vi
namespace Vi
open PySem L2 PyProof.Rows
def elK (p : Key × D) : D := dKey p.1
def elV (p : Key × D) : D := p.2
def elI (p : Key × D) : D := .tup [dKey p.1, p.2]
def cmpK (el : Key × D → D) (o : Bool) (own : List Nat) (T : TgF) (mt : MB) (me : ME) (env : Env) (x : Vl) (h1 : Hc) : R Vl := match x with
  | .d (.ref n) => (match h1[n]? with
    | some (.frz (.lk kvs)) => compL o T mt me (kvs.map el) [] (wipeE env own) h1
    | _ => .stuck)
  | _ => .stuck
def mCompK (el : Key × D → D) (o : Bool) (own : List Nat) (T : TgF) (mt : MB) (me m : ME) : ME := fun env h => (m env h).bind fun x h1 => cmpK el o own T mt me env x h1
section
variable {X : Cx} {g : Gi} {B : Bg} {W : WXv} {own : List Nat} {o : Bool} {T : TgF} {mt : MB} {me m : ME} {t : TG} {σ : L2.St} {H : Hp} {Q : VK} {el : Key × D → D}
end
section
variable {X : Cx} {g : Gi} {B : Bg} {W : WXv} {own : List (Str × Nat)} {T : TgF} {mt : MB} {me m : ME} {t : TG} {elt tg e : Expr} {ifs : List Expr} {scope : Scope} {pos apos cpos tpos : Pos} {elts : List Expr} {kk : Nat}
end
end Vi
namespace Vi
open PySem L2 PyProof.Rows
section
variable {X : Cx}
def rCountD (K : PySem.W.Frag) : V → List V → Hp → VK → Prop := fun x xs H Q => ∃ (a : Addr) (y : V) (d : PyData) (ds : List PyData), x = V.ref a ∧ xs = [y] ∧ Dp K H (V.ref a) (.list ds) ∧ Dp K H y d ∧
  SeqAt.shaped (.list ds) = true ∧ SeqAt.shaped d = true ∧ Q (.int ((ds.countP fun z => PyData.eqv z d : Nat) : Int)) H
end
def lqA (f : List D → D → Option Int) (ds : List D) (ys : List Vl) (h2 : Hc) : R Vl := match ys with
  | [y] => (match y.dat? with
    | some d => if shp (.lst ds) && shp d then (match f ds d with
      | some i => .ok (.d (.int i)) h2
      | none => .stuck) else .stuck
    | none => .stuck)
  | _ => .stuck
def lqK (f : List D → D → Option Int) (ma : MA) (env : Env) (x : Vl) (h1 : Hc) : R Vl := match x.dat? with
  | some (.lst ds) => (ma env h1).bind (lqA f ds)
  | _ => .stuck
def mLQ (f : List D → D → Option Int) (mo : ME) (ma : MA) : ME := fun env h => (mo env h).bind fun x h1 => lqK f ma env x h1
section
variable {X : Cx} {g : Gi} {B : Bg} {W : WXv} {apos cpos : Pos} {o e : Expr} {mo : ME} {ma : MA} {name : Str} {id : String} {f : List D → D → Option Int} {r : V → List V → Hp → VK → Prop}
end
def lqIndex (ds : List D) (d : D) : Option Int := (ds.findIdx? fun z => eqD z d).map fun j : Nat => (j : Int)
def lqCount (ds : List D) (d : D) : Option Int := some ((ds.countP fun z => eqD z d : Nat) : Int)
section
variable {X : Cx} {g : Gi} {B : Bg} {W : WXv} {apos cpos : Pos} {o e : Expr} {mo : ME} {ma : MA}
end
end Vi
namespace Vi
open PySem L2 PyProof.Rows
def unN : RS → RS
  | .nx env h => if noX env then .nx env h else .stuck
  | .brk env h => if noX env then .brk env h else .stuck
  | .cnt env h => if noX env then .cnt env h else .stuck
  | .ret d h => .ret d h
  | .exc _ _ _ => .stuck
  | .stuck => .stuck
def mTryN (cat : Nat → Option Bool) (mb ms : MS) : MS := fun env h => match mb env h with
  | .exc env' (.obj c fs) h' => (match cat c with
    | some true => if noX env' then unN (ms env' h') else .stuck
    | some false => .exc env' (.obj c fs) h'
    | none => .stuck)
  | .exc _ _ _ => .stuck
  | r => r
section
variable {X : Cx} {g : Gi} {B : Bg} {W : WXv} {x : Str} {body suite : List Stmt} {b₀ : Stmt} {np pos pos' : Pos} {mb ms : MS} {cat : Nat → Option Bool}
end
end Vi
namespace Vi
open PySem L2 PyProof.Rows
section
variable {X : Cx}
def rRemD (K : PySem.W.Frag) : V → List V → Hp → VK → Prop := fun x xs H Q => ∃ (a : Addr) (y : V) (d : PyData) (ds : List PyData) (ws : List V) (j : Nat) (z : PyData), x = V.ref a ∧ xs = [y] ∧ H a = some (.lst ws) ∧ DpAll K H ws ds ∧ Dp K H y d ∧
  SeqAt.shaped (.list ds) = true ∧ SeqAt.shaped d = true ∧ ds[j]? = some z ∧ PyData.eqv z d = true ∧ (∀ (m : Nat) (z' : PyData), m < j → ds[m]? = some z' → PyData.eqv z' d = false) ∧ Q .non (upd H a (.lst (ws.eraseIdx j)))
end
def lmRemove : LM := fun xs ds => match ds with
  | [.str z] => (match txts? xs with
    | some zs => if shp (.lst xs) && shp (.str z) && decide (z ∈ zs) then some ((zs.eraseIdx (zs.idxOf z)).map D.str, .non) else none
    | none => none)
  | _ => none
end Vi
namespace Vi
open PySem PySem.Spec L2 PyProof.Rows
abbrev zoT (h : Heap) (i1 : Addr) (o2 : Obj) : Heap := (h.push o2).push { cls := .type "tuple", data := .seq #[.ref i1, .ref h.objs.size] }
abbrev zoO (h : Heap) (i1 : Addr) (o2 : Obj) : Heap := (zoT h i1 o2).push { cls := .type "tuple", data := .seq #[.none, .none] }
abbrev zoZ (h : Heap) (i1 : Addr) (o2 : Obj) : Heap := (zoO h i1 o2).push { cls := .type "zip", data := .fields #[.none, .bool false, .bool false, .ref (h.push o2).objs.size, .ref (zoT h i1 o2).objs.size] }
abbrev itO (b : Addr) : Obj := { cls := .type "tuple_iterator", data := .fields #[.ref b, .int 0 0] }
def iZipO (K : PySem.W.Frag) (g : Gi) (B : Bg) (W : WXv) (T : TblI) (ma : MA) : L2.TI := fun σ H R => tA g B W ma σ H fun vs H1 => ∃ (env : Env) (st : Sta) (c : Nat) (m : ME) (fs : List (Str × D)) (xs : List D) (h1 : Hc) (v : L2.V) (b : Addr) (ys : List L2.V), vs = [v, .ref b] ∧ SR g B env st σ H1 ∧ VlRep g B env σ st H1 (.d (.obj c fs)) v ∧ T c = some m ∧ m [some (.d (.obj c fs))] st.h = .ok (.d (.tup xs)) h1 ∧ SqT g.K st.F b ys ∧
  ∀ (l : Addr) (zs : List L2.V) (H' : Hp) (st' : Sta), st'.h = h1 → Evo st H1 st' H' → SR g B env st' σ H' → SqT g.K st'.F l zs → Reps g st'.F st'.al xs zs → R (RZ.ItzT K l b) H'
end Vi
namespace Vi
open PySem PySem.Spec L2 PyProof.Rows
section
variable {g : Gi} {B : Bg} {W : WXv} {env : Env} {s1 : Sta} {σ : L2.St} {H1 H : Hp} {own : List Nat} {T : TgF} {mt : MB} {mk mv : ME} {Q : VK} {Dn : Addr}
end
def mCompDZO (own : List Nat) (I : TblI) (T : TgF) (mt : MB) (mk mv : ME) (a : MA) : ME := fun env h => (a env h).bind fun xs h1 => match xs with
  | [x, y] => (match seqC? h1 y with
    | some (false, ys) => itemsO I x h1 fun xs h2 => compD T mt mk mv (zipD xs ys) [] (wipeE env own) h2
    | _ => .stuck)
  | _ => .stuck
section
variable {X : Cx} {g : Gi} {B : Bg} {W : WXv} {own : List Nat} {I : TblI} {T : TgF} {mt : MB} {mk mv : ME} {ma : MA} {t : TG} {σ : L2.St} {H : Hp} {Q : VK}
end
section
variable {X : Cx} {g : Gi} {B : Bg} {W : WXv} {I : TblI} {T : TgF} {mt : MB} {mk mv : ME} {ma : MA} {t : TG} {kx vx a b : Expr} {ifs : List Expr} {scope : Scope} {own : List (Str × Nat)} {pos p' rp tpos : Pos} {elts : List Expr} {kk : Nat}
end
end Vi
namespace Vi
open PySem L2 PyProof.Rows
section
variable {X : Cx} {g : Gi} {B : Bg} {W : WXv} {pos p apos : Pos} {e o : Expr} {es : List Expr} {A : MA} {dd : List D} {n c : Nat} {x m : Str}
def mMakeLC (i c n : Nat) (F : FnI) (dd : List D) (a : MA) : ME := fun env h => match env[i]? with
  | some (some (.d (.cls c'))) => if c' = c then (a env h).bind (fMakeC c n F dd) else .stuck
  | _ => .stuck
end
end Vi
namespace Vi
open PySem L2 PyProof.Rows
def fEqC (g : Gi) (T : Tbl) (nf : Nat → Ty → Bool) (F0 : Vl → Vl → Hc → R Vl) (x y : Vl) (h : Hc) : R Vl := match x with
  | .d (.ref n) => (match h[n]? with
    | some (.ins c fs) => (match T c, y with
      | some F, .d yd => (match (Vl.d yd).ty g h with
        | some t => if nf c t then (F [.ref n, yd] h).bind fun d h' => .ok (.d d) h' else .stuck
        | none => .stuck)
      | _, _ => .stuck)
    | _ => F0 x y h)
  | _ => F0 x y h
section
variable {X : Cx} {g : Gi} {W : WXv}
end
end Vi
namespace Vi
open PySem L2 PyProof.Rows
section
variable {X : Cx} {g : Gi} {B : Bg} {W : WXv} {own : List (Str × Nat)} {o : Bool} {T : TgF} {mt : MB} {me m : ME} {t : TG} {elt tg iter : Expr} {ifs : List Expr} {scope : Scope} {pos p' rp : Pos} {ma : MA}
end
end Vi
namespace Vi
open PySem L2 PyProof.Rows
section
variable {X : Cx} {g : Gi} {B : Bg} {W : WXv} {own : List (Str × Nat)} {o : Bool} {T : TgF} {mt : MB} {me m : ME} {t : TG} {elt tg iter : Expr} {ifs : List Expr} {scope : Scope} {pos p' rp : Pos} {ma : MA}
end
end Vi
namespace Vi
open PySem L2 PyProof.Rows
def fMulL (x y : Vl) (h : Hc) : R Vl := match x, y with
  | .d (.lst xs), .d (.int k) => if 0 ≤ k ∧ k ≤ 1000 ∧ xs.length ≤ 1000 then .ok (.d (.lst (List.replicate k.toNat xs).flatten)) h else .stuck
  | x, y => fMul x y h
end Vi
namespace Vi
open PySem PySem.Spec L2 PyProof.Rows
abbrev stp (t : SetTable) (H : Int) (c : Nat) : SetTable.Probe := nth t.mask (t.probeStart H) c
section
variable {t : SetTable} {hs : List Int} {H : Int} {K c : Nat} {hashAt : Nat → Int}
end
abbrev tKey (P : Program) (w : World) (h : Heap) (k : List PySem.Str) (a : Addr) : Prop := IsTupleKey (strKind P w) h k a
abbrev tHash (P : Program) (w : World) (k : List PySem.Str) : Int := tupleKeyHash (strKind P w) k
section
variable {P : Program} {w : World} {A : Around} {E : Value → Shared → Prop} {s : Shared}
theorem items_txt {k : List PySem.Str} {vs : List Value} (h : ItemsAre (strKind P w) k vs) : ∀ v ∈ vs, ∃ x t, v = Value.str x t := by
  induction h with
  | nil => exact fun v hv => by cases hv
  | @cons k0 v' ks vs h1 _ ih =>
    intro v hv
    rcases List.mem_cons.mp hv with e | hv
    · obtain ⟨t, e2⟩ := Value.isStrOf_shape h1
      exact ⟨k0, t, e.trans e2⟩
    · exact ih v hv
theorem key_cls {k : List PySem.Str} {b : Addr} {Q : Bool → Shared → Prop} (hk : tKey P w s.heap k b) (h : Q false s) : wpAny (model P w) A (ofAClassStatement 8 (.ref b)) Q E s := by
  have hT := hk.typeIs
  obtain ⟨o, items, n, ho, _, hd, hi⟩ := hk
  unfold ofAClassStatement
  refine wpAny_bind (wpAny_typeOf hT ?_)
  dsimp only
  rw [show (("tuple" : String) == "tuple") = true by decide]
  simp only [if_true, Bool.not_true, Bool.false_eq_true, if_false]
  try refine wpAny_bind (wpAny_pure ?_)
  try simp only [Bool.not_true, Bool.false_eq_true, if_false]
  refine wpAny_bind (wpAny_seqItems ho hd ?_)
  dsimp only
  refine wpAny_bind ?_
  show wpAny _ _ (forIn items _ _) _ _ s
  rw [← Array.forIn_toList]
  refine wpAny_forIn_list _ (fun rest r s' => r.1 = none ∧ s' = s ∧ ∀ v ∈ rest, ∃ x t, v = Value.str x t) _ (fun v rest r s' => ?_) (fun r s' => ?_) _ _ ⟨rfl, rfl, items_txt hi⟩
  · rintro ⟨hr, rfl, hall⟩
    obtain ⟨x, t, rfl⟩ := hall v List.mem_cons_self
    refine wpAny_bind (wpAny_pure ?_)
    simp only [Bool.false_eq_true, if_false]
    exact wpAny_pure ⟨rfl, rfl, fun u hu => hall u (List.mem_cons_of_mem _ hu)⟩
  · obtain ⟨r1, r2⟩ := r
    rintro ⟨hr, rfl, _⟩
    obtain rfl : r1 = none := hr
    exact wpAny_pure h
end
end Vi
namespace Vi
open PySem PySem.Spec L2 PyProof.Rows
abbrev tRow (P : Program) (w : World) (p : Addr × List PySem.Str) : Int × Value := (tHash P w p.2, .ref p.1)
structure SetP (P : Program) (w : World) (h : Heap) (a : Addr) (L : List (Addr × List PySem.Str)) (es : Array (Int × Value)) (ep : Nat) (t : SetTable) : Prop where
  ob : ∃ o, h.get? a = some o ∧ o.ExactSet ∧ o.data = .set es ep t
  rows : es.toList = L.map (tRow P w)
  tab : TabOk t (L.map fun p => tHash P w p.2)
  nd : (L.map (·.2)).Nodup
  key : ∀ p ∈ L, tKey P w h p.2 p.1
  led : w.params.followText "set-order" = true ∨ t.led = true
  room : L.length * 5 < t.mask * 3
  few : L.length < 64
section
variable {P : Program} {w : World} {A : Around} {E : Value → Shared → Prop} {s : Shared} {a : Addr} {L : List (Addr × List PySem.Str)} {es : Array (Int × Value)} {ep : Nat} {t : SetTable}
theorem rows_sz (e : es.toList = L.map (tRow P w)) : es.size = L.length := by
  rw [← Array.length_toList, e, List.length_map]
theorem fits_of (h1 : t.place.size = es.size) (h2 : t.dummies = #[]) (h3 : es.size ≤ t.mask) : t.fits es.size = true := by
  unfold SetTable.fits SetTable.fill
  rw [h2, Bool.and_eq_true, beq_iff_eq, decide_eq_true_eq]
  show t.place.size = es.size ∧ t.place.size + 0 ≤ t.mask
  omega
theorem SetP.fits (R : SetP P w s.heap a L es ep t) : t.fits es.size = true := by
  have h1 := R.tab.sz
  rw [List.length_map] at h1
  have h2 := rows_sz R.rows
  have h3 := R.room
  exact fits_of (by omega) R.tab.dm (by omega)
theorem SetP.row (R : SetP P w s.heap a L es ep t) {i : Nat} {p : Addr × List PySem.Str} (h : L[i]? = some p) : es[i]? = some (tRow P w p) := by
  rw [← Array.getElem?_toList, R.rows, List.getElem?_map, h]
  rfl
theorem quiet {k : List PySem.Str} {b : Addr} {Q : Bool → Shared → Prop} (hk : tKey P w s.heap k b) {ys : List Value} (hy : ∀ y ∈ ys, ∃ k' c, y = Value.ref c ∧ tKey P w s.heap k' c) (h : Q false s) :
    wpAny (model P w) A (searchCouldBeSeen (.ref b) ys) Q E s := by
  unfold searchCouldBeSeen
  refine wpAny_bind (wpAny_forIn_list _ (fun rest r s' => r.1 = none ∧ s' = s ∧ ∀ y ∈ rest, ∃ k' c, y = Value.ref c ∧ tKey P w s.heap k' c) _ (fun v rest r s' => ?_) (fun r s' => ?_) _ _ ⟨rfl, rfl, hy⟩)
  · rintro ⟨hr, rfl, hall⟩
    obtain ⟨k', c, rfl, hc⟩ := hall v List.mem_cons_self
    have go : ∀ y ∈ rest, ∃ k' c, y = Value.ref c ∧ tKey P w s'.heap k' c := fun u hu => hall u (List.mem_cons_of_mem _ hu)
    dsimp only
    by_cases hv : (b == c || (carriedByValue (.ref b) && carriedByValue (.ref c))) = true
    · exact wp_if_pos hv (wpAny_pure ⟨rfl, rfl, go⟩)
    · refine wp_if_neg hv (wpAny_bind (wpAny_eqIsQuiet_tuple hk ?_))
      simp only [Bool.not_true, Bool.false_eq_true, if_false]
      refine wpAny_bind (wpAny_eqIsQuiet_tuple hc ?_)
      simp only [Bool.not_true, Bool.false_eq_true, if_false]
      refine wpAny_bind (key_cls hk ?_)
      simp only [Bool.false_eq_true, if_false]
      refine wpAny_bind (key_cls hc ?_)
      simp only [Bool.false_eq_true, if_false]
      exact wpAny_pure ⟨rfl, rfl, go⟩
  · obtain ⟨r1, r2⟩ := r
    rintro ⟨hr, rfl, _⟩
    obtain rfl : r1 = none := hr
    exact wpAny_pure h
end
end Vi
namespace Vi
open PySem PySem.Spec L2 PyProof.Rows
section
variable {P : Program} {w : World} {A : Around} {E : Value → Shared → Prop} {s : Shared} {a : Addr} {L : List (Addr × List PySem.Str)} {es : Array (Int × Value)} {ep : Nat} {t : SetTable}
end
end Vi
namespace Vi
open PySem PySem.Spec L2 PyProof.Rows
structure SetP0 (P : Program) (w : World) (h : Heap) (a : Addr) (L : List (Addr × List PySem.Str)) : Prop where
  ex : ∃ (es : Array (Int × Value)) (ep : Nat) (t : SetTable), (∃ o, h.get? a = some o ∧ o.ExactSet ∧ o.data = .set es ep t) ∧ es.toList = L.map (tRow P w) ∧ TabOk t (L.map fun p => tHash P w p.2) ∧ (L.map (·.2)).Nodup ∧
    (w.params.followText "set-order" = true ∨ t.led = true) ∧ L.length * 5 < t.mask * 3 ∧ L.length < 64
def SetPO (P : Program) (w : World) (a : Addr) (L : List (Addr × List PySem.Str)) : HO := .ext fun h => SetP0 P w h a L
section
variable {P : Program} {w : World} {h : Heap} {a : Addr} {L : List (Addr × List PySem.Str)} {es : Array (Int × Value)} {ep : Nat} {t : SetTable}
theorem SetP.p0 (R : SetP P w h a L es ep t) : SetP0 P w h a L := ⟨es, ep, t, R.ob, R.rows, R.tab, R.nd, R.led, R.room, R.few⟩
end
section
variable {prog : Program} {w : World} {A : Around} {E : Value → Shared → Prop} {s : Shared}
end
def rSrtS (K : PySem.W.Frag) (P : Program) (w : World) : List V → Hp → VK → Prop := fun vs H Q => ∃ (a : Addr) (L : List (Addr × List PySem.Str)), vs = [.ref a] ∧ H a = some (SetPO P w a L) ∧ (∀ p ∈ L, SqT K H p.1 (p.2.map V.str)) ∧
  ((L.map (·.2)).Nodup → L.length < 64 → (∀ p ∈ L, ∀ q ∈ L, p.1 = q.1 → p.2 = q.2) → ∃ k : V → List Key, Mode K H k (L.map fun q => V.ref q.1) ∧
    ∀ ys p, SrtO.Srtd (fun v u => ksLt (k v) (k u)) ys → ys.Perm (L.map fun q => V.ref q.1) → H p = none → Q (.ref p) (upd H p (.lst ys)))
section
variable {X : Cx}
end
end Vi
set_option maxHeartbeats 4000000
namespace Vi
open PySem PySem.Spec L2 PyProof.Rows
section
variable {X : Cx}
def tIn (K : PySem.W.Frag) (P : Program) (w : World) (D : Addr) (wi2 : TI) (g2 : TG) (te : TE) (vs : List Nat) (σ : L2.St) (H : Hp) (Nx : Hp → Prop) : Prop := wi2 σ H fun J H3 => ∃ W : Nat → Nat → Hp → Prop, (∃ m, W 0 m H3) ∧ ∀ j m H, W j m H →
  (J.stop j H ∧ Nx H) ∨ (J.go j H ∧ ∃ Nx2 : Hp → Prop, (∀ H', Nx2 H' → ∃ m', m' < m ∧ W (j + 1) m' H') ∧ ∀ y H', J.yld j H y H' → g2 y (wipe σ vs) H' fun σ3 H4 => wipe σ3 vs = wipe σ vs ∧ te σ3 H4 fun z H5 =>
    ∃ (x : Addr) (k : List PySem.Str) (L : List (Addr × List PySem.Str)), z = .ref x ∧ SqT K H5 x (k.map V.str) ∧ H5 D = some (SetPO P w D L) ∧ (∀ p ∈ L, SqT K H5 p.1 (p.2.map V.str)) ∧ L.length + 1 < 64 ∧
      ∀ L', (k ∈ L.map (·.2) → L' = L) → (k ∉ L.map (·.2) → L'.Perm ((x, k) :: L)) → Nx2 (upd H5 D (SetPO P w D L')))
end
end Vi
namespace Vi
open PySem PySem.Spec L2 PyProof.Rows
abbrev sc2 (elt t1 i1 t2 i2 : Expr) (scope : Scope) (pos : Pos) : Expr := .SetComp elt [⟨t1, i1, [], 0⟩, ⟨t2, i2, [], 0⟩] scope pos
section
variable {prog : Program} {w : World} {A : Around} {R : Result → Shared → Prop} {s : Shared} {env : PySem.Env} {elt t1 i1 t2 i2 : Expr} {scope : Scope} {pos : Pos} {it acc : Value}
end
section
variable {X : Cx}
end
end Vi
namespace Vi
open PySem PySem.Spec L2 PyProof.Rows
def tSc2 (K : PySem.W.Frag) (P : Program) (w : World) (wi : TI) (g : TG) (wi2 : TI) (g2 : TG) (te : TE) (vs : List Nat) : TE := fun σ H Q => wi σ H fun J H1 => ∀ D, H1 D = none → ∃ W : Nat → Nat → Hp → Prop, (∃ m, W 0 m (upd H1 D (SetPO P w D []))) ∧ ∀ i m H, W i m H →
  (J.stop i H ∧ Q (.ref D) H) ∨ (J.go i H ∧ ∃ Nx : Hp → Prop, (∀ H', Nx H' → ∃ m', m' < m ∧ W (i + 1) m' H') ∧ ∀ x H', J.yld i H x H' → g x (wipe σ vs) H' fun σ2 H2 => wipe σ2 vs = wipe σ vs ∧ tIn K P w D wi2 g2 te vs σ2 H2 Nx)
section
variable {X : Cx}
end
end Vi
namespace Vi
open PySem L2 PyProof.Rows
def tks? : List D → Option (List Str)
  | [] => some []
  | .str x :: r => (tks? r).map (x :: ·)
  | _ :: _ => none
def addK (L : List (List Str)) (k : List Str) : List (List Str) := if k ∈ L then L else k :: L
def sKey (k : List Str) : List Key := k.map Sum.inr
def seqS? (h : Hc) : Vl → Option (Bool × List D)
  | .d x => seqC? h (.d x)
  | _ => none
def gatI (T2 : TgF) (me : ME) (env : Env) : List D → List (List Str) → Hc → R (List (List Str))
  | [], acc, h => .ok acc h
  | y :: r, acc, h => match T2 y env with
    | none => .stuck
    | some env1 => (match me env1 h with
      | .ok (.d (.tup ds)) h2 => (match tks? ds with
        | some k => if 0 < k.length ∧ acc.length < 60 then gatI T2 me env r (addK acc k) h2 else .stuck
        | none => .stuck)
      | _ => .stuck)
def gatO (T1 : TgF) (m2 : ME) (T2 : TgF) (me : ME) (env : Env) : List D → List (List Str) → Hc → R (List (List Str))
  | [], acc, h => .ok acc h
  | x :: r, acc, h => match T1 x env with
    | none => .stuck
    | some env1 => (match m2 env1 h with
      | .ok v h1 => (match seqS? h1 v with
        | some (_, ys) => (match gatI T2 me env ys acc h1 with
          | .ok acc2 h2 => gatO T1 m2 T2 me env r acc2 h2
          | _ => .stuck)
        | none => .stuck)
      | _ => .stuck)
def mSortS (o : Bool) (own : List Nat) (T1 : TgF) (m2 : ME) (T2 : TgF) (me m : ME) : ME := fun env h => (m env h).bind fun x h1 => match seqS? h1 x with
  | some (_, xs) => (match gatO T1 m2 T2 me (wipeE env own) xs [] h1 with
    | .ok acc h2 => .ok (Vl.ofL o ((sortL ksLt (acc.map sKey)).map tupD)) h2
    | _ => .stuck)
  | none => .stuck
structure JOk (J : It) (xs : List V) (H : Hp) : Prop where
  stop : ∀ i, xs.length ≤ i → J.stop i H
  go : ∀ i, i < xs.length → J.go i H
  yld : ∀ i x H', J.yld i H x H' → H' = H ∧ xs[i]? = some x
structure SIn (g : Gi) (P : Program) (w : World) (s1 : Sta) (H1 : Hp) (Dn : Addr) (acc : List (List Str)) (s' : Sta) (H : Hp) (L : List (Addr × List Str)) : Prop where
  gd : Good g s' H
  ev : Evo s1 H1 s' H
  at_ : H Dn = some (SetPO P w Dn L)
  nf : s'.F Dn = none
  na : ∀ n, s'.al n ≠ some Dn
  rp : ∀ p ∈ L, Rep g s'.F s'.al (.tup (p.2.map D.str)) (.ref p.1)
  pm : (L.map (·.2)).Perm acc
  ne : ∀ k ∈ acc, 0 < k.length
theorem ext_nt {P : Program} {w : World} {a : Addr} {L : List (Addr × List Str)} : ∀ ws, SetPO P w a L ≠ .tup ws := fun _ z => by cases z
section
variable {g : Gi} {P : Program} {w : World} {s1 s' s2 : Sta} {H1 H H2 : Hp} {Dn : Addr} {acc : List (List Str)} {L : List (Addr × List Str)}
theorem SIn.mv (S : SIn g P w s1 H1 Dn acc s' H L) (ev : Evo s' H s2 H2) (gd : Good g s2 H2) : SIn g P w s1 H1 Dn acc s2 H2 L := by
  obtain ⟨k1, k2, k3⟩ := ev.oth Dn _ S.at_ S.na
  exact ⟨gd, S.ev.trans ev, k1, k2 S.nf ext_nt, k3, fun p hp => ev.rep (S.rp p hp), S.pm, S.ne⟩
theorem SIn.add (S : SIn g P w s1 H1 Dn acc s' H L) (hD : H1 Dn = none) {x : Addr} {k : List Str} (rx : Rep g s'.F s'.al (.tup (k.map D.str)) (.ref x)) (k0 : 0 < k.length) {L' : List (Addr × List Str)} (c1 : k ∈ L.map (·.2) → L' = L) (c2 : k ∉ L.map (·.2) → L'.Perm ((x, k) :: L)) :
    SIn g P w s1 H1 Dn (addK acc k) s' (upd H Dn (SetPO P w Dn L')) L' := by
  refine ⟨S.gd.updO S.nf S.na, S.ev.updO hD, upd_same, S.nf, S.na, fun p hp => ?_, ?_, fun j hj => ?_⟩
  · by_cases hk : k ∈ L.map (·.2)
    · rw [c1 hk] at hp
      exact S.rp p hp
    · rcases List.mem_cons.mp ((c2 hk).mem_iff.mp hp) with e | e
      · rw [e]
        exact rx
      · exact S.rp p e
  · unfold addK
    by_cases hk : k ∈ L.map (·.2)
    · rw [if_pos (S.pm.mem_iff.mp hk), c1 hk]
      exact S.pm
    · rw [if_neg fun z => hk (S.pm.mem_iff.mpr z)]
      exact List.Perm.trans (List.Perm.map (fun p : Addr × List Str => p.2) (c2 hk)) (S.pm.cons k)
  · unfold addK at hj
    split at hj
    · exact S.ne j hj
    · rcases List.mem_cons.mp hj with e | e
      · rw [e]
        exact k0
      · exact S.ne j e
end
end Vi
namespace Vi
open PySem L2 PyProof.Rows
def kOfL (L : List (Addr × List Str)) : V → List Key
  | .ref t => (match L.find? (fun p => p.1 == t) with
    | some p => sKey p.2
    | none => [])
  | _ => []
section
variable {X : Cx} {g : Gi} {B : Bg} {W : WXv} {env : Env} {s1 s' : Sta} {σ : L2.St} {H1 H : Hp} {own : List Nat} {o : Bool} {T1 T2 : TgF} {m m2 me : ME} {t1 t2 : TG} {Q : VK} {Dn : Addr} {acc accF : List (List Str)} {hF : Hc} {L : List (Addr × List Str)}
end
end Vi
namespace Vi
open PySem L2 PyProof.Rows
section
variable {X : Cx} {g : Gi} {B : Bg} {W : WXv} {env : Env} {s1 s' : Sta} {σ : L2.St} {H1 H : Hp} {own : List Nat} {o : Bool} {T1 T2 : TgF} {m m2 me : ME} {t1 t2 : TG} {Q : VK} {Dn : Addr} {acc accF : List (List Str)} {hF : Hc} {L : List (Addr × List Str)}
abbrev wiS (K : PySem.W.Frag) (te : TE) : TI := fun σ H R => iList K te σ H R ∨ iTup K te σ H R
end
section
variable {X : Cx} {g : Gi} {B : Bg} {W : WXv} {own : List (Str × Nat)} {T1 T2 : TgF} {m m2 me : ME} {g1 g2 : TG} {elt t1 i1 t2 i2 : Expr} {scope : Scope} {pos p' sp : Pos}
end
end Vi
set_option maxHeartbeats 2000000
namespace Vi
open PySem L2 PyProof.Rows
def rLtX (K : PySem.W.Frag) : R2 := fun x y H Q => ∃ (a b : Addr) (k j : List Str), x = .ref a ∧ y = .ref b ∧ SqT K H a (k.map V.str) ∧ SqT K H b (j.map V.str) ∧ Q (.bl (ksLt (sKey k) (sKey j))) H
def fLtX (x y : Vl) (h : Hc) : R Vl := match x, y with
  | .d (.tup a), .d (.tup b) => (match tks? a, tks? b with
    | some k, some j => .ok (.d (.bl (ksLt (sKey k) (sKey j)))) h
    | _, _ => .stuck)
  | x, y => fLt x y h
section
variable {X : Cx} {g : Gi}
end
end Vi
namespace Vi
open PySem L2 PyProof.Rows
def fAddX (o : Bool) (x y : Vl) (h : Hc) : R Vl := match tup? x, tup? y with
  | some xs, some ys => if xs.length + ys.length ≤ 100000 then (if xs.isEmpty then .ok y h else if ys.isEmpty then .ok x h else .ok (.d (.tup (xs ++ ys))) h) else .stuck
  | _, _ => fAdd o x y h
def fSlX (o : Bool) (x : Vl) (lo hi : Option Int) (h : Hc) : R Vl := match tup? x with
  | some xs => if HT.sIx xs.length 0 lo = 0 ∧ HT.sIx xs.length xs.length hi = xs.length then .ok x h else .ok (.d (.tup (cutL xs lo hi))) h
  | none => fSl o x lo hi h
@[simp] def mSlX (o : Bool) (m : ME) (lo hi : MO) : ME := fun env h => (m env h).bind fun x h1 => (lo env h1).bind fun l h2 => (hi env h2).bind fun u h3 => fSlX o x l u h3
section
variable {X : Cx} {g : Gi} {B : Bg} {W : WXv}
end
section
variable {X : Cx} {g : Gi} {B : Bg} {W : WXv} {pos p2 : Pos} {e e1 e2 : Expr} {m ma mb : ME} {lo hi : Option Expr} {ml mh : MO}
end
end Vi
namespace Vi
open PySem PySem.Spec L2 PyProof.Rows
section
variable {prog : Program} {w : World} {A : Around} {E : Value → Shared → Prop} {s : Shared}
end
section
variable {X : Cx} {g : Gi} {B : Bg} {W : WXv} {pos p2 : Pos} {e : Expr} {m : ME}
def rRevT (K : PySem.W.Frag) : V → Hp → VK → Prop := fun x H Q => ∃ a xs, x = .ref a ∧ SqT K H a xs ∧ ∀ p, H p = none → Q (.ref p) (upd H p (.tup xs.reverse))
def fRevX (o : Bool) (x : Vl) (h : Hc) : R Vl := match tup? x with
  | some xs => .ok (.d (.tup xs.reverse)) h
  | none => fRev o x h
end
end Vi
namespace Vi
open PySem L2 PyProof.Rows RT
section
variable {X : Cx} {g : Gi} {B : Bg} {W : WXv}
def lmPop : LM := fun xs ds => match ds with
  | [] => (xs[xs.length - 1]?).map fun d => (xs.dropLast, d)
  | _ => none
theorem reps_dropLast {F : Hp} {al : Nat → Option Addr} {xs : List D} {ws : List L2.V} (r : Reps g F al xs ws) : Reps g F al xs.dropLast ws.dropLast := by
  rw [List.dropLast_eq_take, List.dropLast_eq_take, r.length]
  exact r.take _
theorem mm_pop : MetM X g "pop" "list.pop" lmPop := ⟨PySem.F.slot_list_pop, PySem.F.type_list_pop, _, mt_pop, fun F al H l ws vs xs ds xs' d Q h1 h2 h3 h4 q => by
  unfold lmPop at h4
  split at h4
  · cases h3
    obtain ⟨y, e1, e2⟩ := Option.map_eq_some_iff.mp h4
    cases e2
    obtain ⟨v, ev, rv⟩ := h2.get e1
    exact ⟨l, ws, v, rfl, rfl, h1, by rw [h2.length]; exact ev, q _ _ (reps_dropLast h2) rv⟩
  · cases h4⟩
structure MetF (X : Cx) (g : Gi) (name : Str) (id : String) (f : LM) : Prop where
  slot : Slot "list" name id
  ty : typeOf (.builtin id) = pure (.type "method_descriptor")
  ex : ∃ r : V → List V → Hp → VK → Prop, MtR X id r ∧ ∀ (F : Hp) (al : Nat → Option Addr) (H : Hp) (l : Addr) (ws vs : List V) (xs ds xs' : List D) (d : D) (Q : VK), (∀ a o, F a = some o → H a = some o) → H l = some (.lst ws) → Reps g F al xs ws → Reps g F al ds vs → f xs ds = some (xs', d) →
    (∀ (ws' : List V) (v : V), Reps g F al xs' ws' → Rep g F al d v → Q v (upd H l (.lst ws'))) → r (.ref l) vs H Q
def lmExtend : LM := fun xs ds => match ds with
  | [.lst ys] => if xs.length + ys.length < 100000 then some (xs ++ ys, .non) else none
  | _ => none
end
section
variable {X : Cx} {g : Gi} {B : Bg} {W : WXv} {env : Env} {s : Sta} {σ : L2.St} {H : Hp}
end
section
variable {X : Cx} {g : Gi} {B : Bg} {W : WXv} {pos apos cpos : Pos} {o e : Expr} {es : List Expr} {mo : ME} {ma : MA} {name : Str} {id : String} {f : LM}
theorem vss_stuck {sts : List Stmt} : PSs X sts (tS g B W (fun _ _ => .stuck)) := ⟨fun pins s σ H D I h => by
  obtain ⟨env, st, sr, p⟩ := h
  exact p.elim⟩
end
def mCompRv (o : Bool) (own : List Nat) (T : TgF) (mt : MB) (me src : ME) : ME := fun env h => (src env h).bind fun x h1 => match seqC? h1 x with
  | some (_, xs) => compL o T mt me xs.reverse [] (wipeE env own) h1
  | none => .stuck
def mCompRvC (o : Bool) (own : List Nat) (T : TgF) (mt : MB) (me src : ME) : ME := fun env h => (src env h).bind fun x h1 => match seqC? h1 x with
  | some (_, xs) => compLC o T mt me xs.reverse [] (wipeE env own) h1
  | none => .stuck
structure JOr (J : It) (xs : List V) (H : Hp) : Prop where
  stop : ∀ i, xs.length ≤ i → J.stop i H
  go : ∀ i, i < xs.length → J.go i H
  yld : ∀ i x H', i < xs.length → J.yld i H x H' → H' = H ∧ xs[i]? = some x
section
variable {X : Cx} {g : Gi} {B : Bg} {W : WXv} {own : List Nat} {o : Bool} {T : TgF} {mt : MB} {me m : ME} {t : TG} {σ : L2.St} {H : Hp} {Q : VK}
end
section
variable {X : Cx} {g : Gi} {B : Bg} {W : WXv} {own : List (Str × Nat)} {o : Bool} {T : TgF} {mt : MB} {me m : ME} {t : TG} {elt tg e : Expr} {ifs : List Expr} {scope : Scope} {pos p p2 : Pos}
end
end Vi
namespace Vi
open PySem L2 PyProof.Rows RT
def asTL (m : ME) : MB := fun env h => (m env h).bind fun x h1 => match lst? h1 x with
  | some xs => .ok (!xs.isEmpty) h1
  | none => .stuck
section
variable {X : Cx} {g : Gi} {B : Bg} {W : WXv} {a : Expr} {m : ME}
end
section
variable {X : Cx} {g : Gi} {B : Bg} {W : WXv} {own : List (Str × Nat)} {o : Bool} {T : TgF} {mt : MB} {me m : ME} {t : TG} {elt tg e : Expr} {ifs : List Expr} {scope : Scope} {pos p p2 : Pos}
end
end Vi
namespace Vi
open PySem L2 PyProof.Rows RT
def mAugFldC (g : Gi) (i : Nat) (f : Str) (e : ME) : MS := fun env h => match env[i]? with
  | some (some (.d (.ref n))) => (match h[n]? with
    | some (.ins c fs) => (match g.fld c f, fs.lookup f with
      | true, some (.int x) => (e env h).thenS env fun y h1 => (match y, h1[n]? with
        | .d (.int k), some (.ins c' fs') => if c' = c ∧ fs'.length < 1000 then .nx env (h1.set n (.ins c (putD f (.int (x + k)) fs'))) else .stuck
        | _, _ => .stuck)
      | _, _ => .stuck)
    | _ => .stuck)
  | _ => .stuck
section
variable {X : Cx} {g : Gi} {B : Bg} {W : WXv} {pos tpos : Pos} {o e : Expr} {m : ME}
theorem vs_augfldC {i : Nat} (G : GiOk g) (hK : g.K = X.K) {f : Str} (ho : PE X o (tVar i)) (he : PE X e (tE g B W m)) : PS X (.AugAssign (.Attribute o f tpos) .Add e pos) (tS g B W (mAugFldC g i f m)) := by
  refine ps_imp (ps_fldaug ho he in_add) fun N σ H ⟨env, s, sr, p⟩ => ?_
  unfold mAugFldC at p
  split at p
  · next n hx =>
    split at p
    · next c fs hn =>
      split at p
      · next x hc hl =>
        obtain ⟨w, h1, h2⟩ := sr.slot i _ hx
        obtain ⟨a, rfl, hal⟩ := h2
        obtain ⟨a2, g1, dx, vs, h3, h4⟩ := sr.good.cell _ _ hn
        rw [hal] at g1
        cases g1
        obtain ⟨k1, k2⟩ := G.fld c f hc
        obtain ⟨v, hv, rv⟩ := RepF.lookup h4 hl
        cases rv
        refine ⟨_, h1, a, g.ca c, dx, vs, _, rfl, h3, hK ▸ (G.cls c k1).cl, hK ▸ k2, hv, ?_⟩
        refine (bindS sr p).mono fun u H1 ⟨s1, y, sr1, l1, r1, p1⟩ => ?_
        split at p1
        · next k c' fs' hn1 =>
          split at p1
          · next hcl =>
            obtain ⟨rfl, hlen⟩ := hcl
            cases r1
            have hal1 := l1.al _ _ hal
            obtain ⟨a3, g3, dx', vs', h5, h6⟩ := sr1.good.cell _ _ hn1
            rw [hal1] at g3
            cases g3
            refine ⟨x, k, rfl, rfl, dx', vs', h5, by rw [h6.length]; exact hlen, ?_⟩
            exact p1 σ _ { s1 with h := s1.h.set _ _ } rfl ⟨fun _ _ z => z, fun _ _ z => z, fun _ _ z => z⟩ (sr1.cell hn1 hal1 (fun _ z => by cases z) (fun _ z => by cases z) ⟨dx', _, upd_same, h6.put (show Rep g s1.F s1.al (.int (x + k)) (L2.V.int (x + k)) from rfl)⟩)
          · exact p1.elim
        · exact p1.elim
      · exact p.elim
    · exact p.elim
  · exact p.elim
end
end Vi
namespace Vi
open PySem L2 PyProof.Rows RT
def fBAnd : Vl → Vl → Hc → R Vl := fI fun i j => .int (PySem.Builtin.bitAnd i j)
def fBOr : Vl → Vl → Hc → R Vl := fI fun i j => .int (PySem.Builtin.bitOr i j)
def fBXor : Vl → Vl → Hc → R Vl := fI fun i j => .int (PySem.Builtin.bitXor i j)
def cShl (i j : Int) : Bool := decide (0 ≤ j) && decide ((PySem.Builtin.Int.intBits i : Int) + j ≤ 2 ^ 27)
def fShl : Vl → Vl → Hc → R Vl := fIc cShl fun i j => .int (i * 2 ^ j.toNat)
def fShr : Vl → Vl → Hc → R Vl := fIc (fun _ j => decide (0 ≤ j)) fun i j => .int (i.fdiv (2 ^ j.toNat))
section
variable {X : Cx} {g : Gi}
end
end Vi
namespace Vi
open PySem L2 PyProof.Rows
def isiL (g : Gi) (u : Ty) : List Ty → Option Bool
  | [] => some false
  | t :: r => (match g.isi u t with
    | some true => some true
    | some false => isiL g u r
    | none => none)
def mIsXs (g : Gi) (xs : Nat → Bool) (ts : List Ty) (i : Nat) : ME := fun env h => match env[i]? with
  | some (some (.xc c _)) => if xs c then (match isiL g (.own c) ts with
    | some b => .ok (.d (.bl b)) h
    | none => .stuck) else .stuck
  | _ => .stuck
section
variable {X : Cx} {g : Gi} {B : Bg} {W : WXv} {pos p p2 : Pos} {x : Str} {xs : Nat → Bool} {no : Nat → Str → Bool} {c1 c2 c3 : Expr} {k : Nat}
end
end Vi
namespace Vi
open PySem L2 PyProof.Rows
def fStrS (xs : List Vl) (h : Hc) : R Vl := match xs with
  | [.d (.str a)] => .ok (.d (.str a)) h
  | xs => fStrOf xs h
def fIntS (xs : List Vl) (h : Hc) : R Vl := match xs with
  | [.d (.str a)] => (match PySem.intText? a with
    | some n => if a.length ≤ 640 then .ok (.d (.int n)) h else .stuck
    | none => .stuck)
  | xs => fIntOf xs h
section
variable {X : Cx} {g : Gi}
theorem c_intS : CallV X g (.type "int") fIntS := by
  obtain ⟨r0, c0, f0⟩ := c_int (X := X) (g := g)
  have c1 := call_int_str (X := X)
  refine ⟨fun vs H Q => r0 vs H Q ∨ ∃ a n, vs = [.str a] ∧ PySem.intText? a = some n ∧ a.length ≤ 640 ∧ Q (.int n) H, fun pins s σ H vs us Q I r q => ?_, fun B W env s σ H xs vs Q sr r p => ?_⟩
  · rcases q with q | q
    · exact c0 pins s σ H vs us Q I r q
    · exact c1 pins s σ H vs us Q I r q
  · unfold fIntS at p
    split at p
    · next a =>
      split at p
      · next n hn =>
        split at p
        · next hl =>
          obtain ⟨v, rfl, rr⟩ := r.one
          cases rr
          exact .inr ⟨_, _, rfl, hn, hl, PostE.pure sr p rfl⟩
        · exact p.elim
      · exact p.elim
    · exact .inl (f0 B W env s σ H xs vs Q sr r p)
end
end Vi
namespace Vi
open PySem L2 PyProof.Rows
def fMulS (x y : Vl) (h : Hc) : R Vl := match x, y with
  | .d (.str a), .d (.int k) => if 0 ≤ k ∧ k ≤ 10000 ∧ a.length ≤ 1000 then .ok (.d (.str (PySem.Txt.mul a k))) h else .stuck
  | x, y => fMul x y h
theorem op_mulS {X : Cx} : OpR X (binaryOp .Mult) (fun x y H Q => ∃ (a : Str) (k : Int), x = .str a ∧ y = .int k ∧ 0 ≤ k ∧ k ≤ 10000 ∧ a.length ≤ 1000 ∧ Q (.str (PySem.Txt.mul a k)) H) := by
  intro pins s σ H x y v u Q I rx ry ⟨a, k, e1, e2, h0, h1, hl, q⟩
  subst e1 e2
  obtain ⟨t, rfl⟩ := rx
  obtain ⟨t', rfl⟩ := ry
  exact PySem.SB.mul (mulOk_of 1000 10000 hl (by omega) (by omega) (by omega) (by omega)) fun t2 k2 => ⟨.str (PySem.Txt.mul a k), H, I.tok _, ⟨_, rfl⟩, q⟩
theorem o_mulS {X : Cx} {g : Gi} : OpV X g (binaryOp .Mult) fMulS := by
  obtain ⟨r0, c0, f0⟩ := o_mul (X := X) (g := g)
  refine ⟨_, OpR.or c0 op_mulS, fun B W env s σ H x y v w Q sr r1 r2 p => ?_⟩
  unfold fMulS at p
  split at p
  · next a k =>
    split at p
    · next hc =>
      obtain ⟨c2, c3, c4⟩ := hc
      obtain rfl : v = .str a := r1
      obtain rfl : w = .int k := r2
      exact .inr ⟨a, k, rfl, rfl, c2, c3, c4, PostE.pure sr p rfl⟩
    · exact p.elim
  · exact .inl (f0 B W env s σ H x y v w Q sr r1 r2 p)
end Vi
namespace Vi
open PySem L2 PyProof.Rows
def noDigK (K : PySem.W.Frag) : Bool := match K.lookup cStatics with
  | some o => (match o.data with
    | .dict es _ => es.all (fun e => match e.key with
      | .str _ _ => true
      | _ => false) && (nsFind es "sys.int_max_str_digits").isNone
    | _ => false)
  | none => false
theorem noDig {K : PySem.W.Frag} {h : Heap} (I : K.In h) (e : noDigK K = true) : h.NoDigits := by
  unfold noDigK at e
  split at e
  · next o ho =>
    have hg : h.get? cStatics = some o := I _ _ ho
    split at e
    · next es ep hd =>
      obtain ⟨e1, e2⟩ := Bool.and_eq_true_iff.mp e
      have x1 : h.isNs cStatics = true := by
        unfold Heap.isNs
        rw [hg]
        dsimp only
        rw [hd]
        exact e1
      refine ⟨_, .of_isNs x1, ?_⟩
      show h.nsMap cStatics "sys.int_max_str_digits" = none
      unfold Heap.nsMap
      rw [hg]
      dsimp only
      rw [hd]
      exact Option.isNone_iff_eq_none.mp e2
    · cases e
  · cases e
end Vi
set_option maxHeartbeats 4000000
namespace G75
open PySem L2 PyProof.Rows Vi
abbrev prog : Program := PySem.Challenge.pw_swornlots_k75_bad_plain_texts
def top (i : Nat) : Stmt := prog.main.body.getD i (.Pass ⟨0, 0, 0, 0⟩)
def clsB (s : Stmt) : List Stmt := match s with
  | .ClassDef (body := z) .. => z
  | _ => []
def sub (i j : Nat) : Stmt := (clsB (top i)).getD j (.Pass ⟨0, 0, 0, 0⟩)
def PDx : PD where
  nm := ["LotError", "BadLine", "BadText", "BadAct", "Refused", "PlainReader"]
  cls := [5]
  fld := [(5, "held"), (5, "place"), (5, "text_read")]
  isi := [((.bt "NoneType", .bt "str"), false), ((.bt "NoneType", .bt "int"), false), ((.bt "NoneType", .bt "bool"), false), ((.bt "NoneType", .bt "tuple"), false), ((.bt "NoneType", .bt "list"), false), ((.bt "bool", .bt "str"), false), ((.bt "bool", .bt "int"), true), ((.bt "bool", .bt "bool"), true), ((.bt "bool", .bt "tuple"), false), ((.bt "bool", .bt "list"), false), ((.bt "int", .bt "str"), false), ((.bt "int", .bt "int"), true), ((.bt "int", .bt "bool"), false), ((.bt "int", .bt "tuple"), false), ((.bt "int", .bt "list"), false), ((.bt "str", .bt "str"), true), ((.bt "str", .bt "int"), false), ((.bt "str", .bt "bool"), false), ((.bt "str", .bt "tuple"), false), ((.bt "str", .bt "list"), false), ((.bt "tuple", .bt "str"), false), ((.bt "tuple", .bt "int"), false), ((.bt "tuple", .bt "bool"), false), ((.bt "tuple", .bt "tuple"), true), ((.bt "tuple", .bt "list"), false), ((.bt "list", .bt "str"), false), ((.bt "list", .bt "int"), false), ((.bt "list", .bt "bool"), false), ((.bt "list", .bt "tuple"), false), ((.bt "list", .bt "list"), true), ((.own 2, .own 0), true), ((.own 2, .bt "ValueError"), true), ((.own 2, .own 2), true), ((.own 2, .own 1), false), ((.own 2, .own 3), false), ((.own 2, .own 4), false)]
  xcs := [2]
  xno := [(2, "place")]
  nf := []
  kcs := []
abbrev g0 : Gi := PDx.gi []
abbrev xsB : Nat → Bool := fun c => decide (c ∈ PDx.xcs)
abbrev xnB : Nat → Str → Bool := fun c f => decide ((c, f) ∈ PDx.xno)
abbrev nfB : Nat → Ty → Bool := fun c t => decide ((c, t) ∈ PDx.nf)
abbrev d_LETTERS : D := (.str "abcdefghijklmnopqrstuvwxyz")
abbrev d_SIGNS : D := (.str "abcdefghijklmnopqrstuvwxyz0123456789")
abbrev d_DIGITS : D := (.str "0123456789")
abbrev d_MOST_SIGNS : D := (.int 12)
abbrev d_MOST_PLAIN_DIGITS : D := (.int 4000)
abbrev d_MOST_TUPLES : D := (.int 60)
abbrev t_WORDS : List (Str × D) := [("yes", (.bl true)), ("no", (.bl false)), ("none", .non)]
def ts : List TabV := [("WORDS", t_WORDS)]
def r_BadLine_xinitx : DefV := ⟨pM "BadLine" "__init__", "__init__", "BadLine.__init__", defArgs (sub 2 0), defBody (sub 2 0), defScope (sub 2 0), []⟩
def r_BadText_xinitx : DefV := ⟨pM "BadText" "__init__", "__init__", "BadText.__init__", defArgs (sub 3 0), defBody (sub 3 0), defScope (sub 3 0), []⟩
def r_BadAct_xinitx : DefV := ⟨pM "BadAct" "__init__", "__init__", "BadAct.__init__", defArgs (sub 4 0), defBody (sub 4 0), defScope (sub 4 0), []⟩
def r_Refused_xinitx : DefV := ⟨pM "Refused" "__init__", "__init__", "Refused.__init__", defArgs (sub 5 0), defBody (sub 5 0), defScope (sub 5 0), []⟩
def r_PlainReader_xinitx : DefV := ⟨pM "PlainReader" "__init__", "__init__", "PlainReader.__init__", defArgs (sub 14 0), defBody (sub 14 0), defScope (sub 14 0), []⟩
def r_PlainReader_sign : DefV := ⟨pM "PlainReader" "sign", "sign", "PlainReader.sign", defArgs (sub 14 1), defBody (sub 14 1), defScope (sub 14 1), []⟩
def r_PlainReader_is_in : DefV := ⟨pM "PlainReader" "is_in", "is_in", "PlainReader.is_in", defArgs (sub 14 2), defBody (sub 14 2), defScope (sub 14 2), []⟩
def r_PlainReader_expect : DefV := ⟨pM "PlainReader" "expect", "expect", "PlainReader.expect", defArgs (sub 14 3), defBody (sub 14 3), defScope (sub 14 3), []⟩
def r_PlainReader_read_signs : DefV := ⟨pM "PlainReader" "read_signs", "read_signs", "PlainReader.read_signs", defArgs (sub 14 4), defBody (sub 14 4), defScope (sub 14 4), []⟩
def r_PlainReader_read_integer : DefV := ⟨pM "PlainReader" "read_integer", "read_integer", "PlainReader.read_integer", defArgs (sub 14 5), defBody (sub 14 5), defScope (sub 14 5), []⟩
def r_PlainReader_read_word : DefV := ⟨pM "PlainReader" "read_word", "read_word", "PlainReader.read_word", defArgs (sub 14 6), defBody (sub 14 6), defScope (sub 14 6), []⟩
def r_PlainReader_read_value : DefV := ⟨pM "PlainReader" "read_value", "read_value", "PlainReader.read_value", defArgs (sub 14 7), defBody (sub 14 7), defScope (sub 14 7), []⟩
def r_PlainReader_close : DefV := ⟨pM "PlainReader" "close", "close", "PlainReader.close", defArgs (sub 14 8), defBody (sub 14 8), defScope (sub 14 8), []⟩
def r_PlainReader_read_all : DefV := ⟨pM "PlainReader" "read_all", "read_all", "PlainReader.read_all", defArgs (sub 14 9), defBody (sub 14 9), defScope (sub 14 9), []⟩
def r_read_plain : DefV := ⟨pG "read_plain", "read_plain", "read_plain", defArgs (top 15), defBody (top 15), defScope (top 15), []⟩
def r__law_bag : DefV := ⟨pG "_law_bag", "_law_bag", "_law_bag", defArgs (top 17), defBody (top 17), defScope (top 17), []⟩
def r__law_mixed : DefV := ⟨pG "_law_mixed", "_law_mixed", "_law_mixed", defArgs (top 18), defBody (top 18), defScope (top 18), []⟩
def r__law_draw : DefV := ⟨pG "_law_draw", "_law_draw", "_law_draw", defArgs (top 19), defBody (top 19), defScope (top 19), []⟩
def r__law_pick : DefV := ⟨pG "_law_pick", "_law_pick", "_law_pick", defArgs (top 20), defBody (top 20), defScope (top 20), []⟩
def r__law_is_int : DefV := ⟨pG "_law_is_int", "_law_is_int", "_law_is_int", defArgs (top 21), defBody (top 21), defScope (top 21), []⟩
def r__law_p10_word : DefV := ⟨pG "_law_p10_word", "_law_p10_word", "_law_p10_word", defArgs (top 22), defBody (top 22), defScope (top 22), []⟩
def r__law_p10_number : DefV := ⟨pG "_law_p10_number", "_law_p10_number", "_law_p10_number", defArgs (top 23), defBody (top 23), defScope (top 23), []⟩
def r__law_p10_atom : DefV := ⟨pG "_law_p10_atom", "_law_p10_atom", "_law_p10_atom", defArgs (top 24), defBody (top 24), defScope (top 24), []⟩
def r__law_p10_value : DefV := ⟨pG "_law_p10_value", "_law_p10_value", "_law_p10_value", defArgs (top 25), defBody (top 25), defScope (top 25), []⟩
def r__law_p10_wrapped : DefV := ⟨pG "_law_p10_wrapped", "_law_p10_wrapped", "_law_p10_wrapped", defArgs (top 26), defBody (top 26), defScope (top 26), []⟩
def r__law_p10_text : DefV := ⟨pG "_law_p10_text", "_law_p10_text", "_law_p10_text", defArgs (top 27), defBody (top 27), defScope (top 27), []⟩
def r__law_p10_same : DefV := ⟨pG "_law_p10_same", "_law_p10_same", "_law_p10_same", defArgs (top 28), defBody (top 28), defScope (top 28), []⟩
def r__law_p10_step : DefV := ⟨pG "_law_p10_step", "_law_p10_step", "_law_p10_step", defArgs (top 29), defBody (top 29), defScope (top 29), []⟩
def r__law_p10_place : DefV := ⟨pG "_law_p10_place", "_law_p10_place", "_law_p10_place", defArgs (top 30), defBody (top 30), defScope (top 30), []⟩
def r__law_p10_read : DefV := ⟨pG "_law_p10_read", "_law_p10_read", "_law_p10_read", defArgs (top 31), defBody (top 31), defScope (top 31), []⟩
def r__law_p10_special : DefV := ⟨pG "_law_p10_special", "_law_p10_special", "_law_p10_special", defArgs (top 32), defBody (top 32), defScope (top 32), []⟩
def r__law_p10_spoilt : DefV := ⟨pG "_law_p10_spoilt", "_law_p10_spoilt", "_law_p10_spoilt", defArgs (top 33), defBody (top 33), defScope (top 33), []⟩
def r__law_p10_odd : DefV := ⟨pG "_law_p10_odd", "_law_p10_odd", "_law_p10_odd", defArgs (top 34), defBody (top 34), defScope (top 34), []⟩
def r__law_p10_any : DefV := ⟨pG "_law_p10_any", "_law_p10_any", "_law_p10_any", defArgs (top 35), defBody (top 35), defScope (top 35), []⟩
def r__law_p10_refused : DefV := ⟨pG "_law_p10_refused", "_law_p10_refused", "_law_p10_refused", defArgs (top 36), defBody (top 36), defScope (top 36), []⟩
def r_law : DefV := ⟨pG "law", "law", "law", defArgs (top 37), defBody (top 37), defScope (top 37), []⟩
def fn : List DefV := [r_BadLine_xinitx, r_BadText_xinitx, r_BadAct_xinitx, r_Refused_xinitx, r_PlainReader_xinitx, r_PlainReader_sign, r_PlainReader_is_in, r_PlainReader_expect, r_PlainReader_read_signs, r_PlainReader_read_integer, r_PlainReader_read_word, r_PlainReader_read_value, r_PlainReader_close, r_PlainReader_read_all, r_read_plain, r__law_bag, r__law_mixed, r__law_draw, r__law_pick, r__law_is_int, r__law_p10_word, r__law_p10_number, r__law_p10_atom, r__law_p10_value, r__law_p10_wrapped, r__law_p10_text, r__law_p10_same, r__law_p10_step, r__law_p10_place, r__law_p10_read, r__law_p10_special, r__law_p10_spoilt, r__law_p10_odd, r__law_p10_any, r__law_p10_refused, r_law]
def ck : List (PySem.W.Frag → Bool) := [PDx.ok,
  (He.Fa.glo "BadAct").ok,
  (He.Fa.glo "BadLine").ok,
  (He.Fa.glo "BadText").ok,
  (He.Fa.glo "LotError").ok,
  (He.Fa.glo "PlainReader").ok,
  (He.Fa.glo "Refused").ok,
  (He.Fa.glo "WORDS").ok,
  (He.Fa.glo "_law_bag").ok,
  (He.Fa.glo "_law_draw").ok,
  (He.Fa.glo "_law_is_int").ok,
  (He.Fa.glo "_law_mixed").ok,
  (He.Fa.glo "_law_p10_any").ok,
  (He.Fa.glo "_law_p10_atom").ok,
  (He.Fa.glo "_law_p10_number").ok,
  (He.Fa.glo "_law_p10_odd").ok,
  (He.Fa.glo "_law_p10_place").ok,
  (He.Fa.glo "_law_p10_read").ok,
  (He.Fa.glo "_law_p10_refused").ok,
  (He.Fa.glo "_law_p10_same").ok,
  (He.Fa.glo "_law_p10_special").ok,
  (He.Fa.glo "_law_p10_spoilt").ok,
  (He.Fa.glo "_law_p10_step").ok,
  (He.Fa.glo "_law_p10_text").ok,
  (He.Fa.glo "_law_p10_value").ok,
  (He.Fa.glo "_law_p10_word").ok,
  (He.Fa.glo "_law_p10_wrapped").ok,
  (He.Fa.glo "_law_pick").ok,
  (He.Fa.glo "law").ok,
  (He.Fa.glo "read_plain").ok,
  (He.Fa.free "abs").ok,
  (He.Fa.free "bool").ok,
  (He.Fa.free "int").ok,
  (He.Fa.free "isinstance").ok,
  (He.Fa.free "len").ok,
  (He.Fa.free "list").ok,
  (He.Fa.free "min").ok,
  (He.Fa.free "range").ok,
  (He.Fa.free "str").ok,
  (He.Fa.free "sum").ok,
  (He.Fa.free "tuple").ok,
  kTab ("WORDS", t_WORDS),
  kGlobS "LETTERS" "abcdefghijklmnopqrstuvwxyz",
  kGlobS "SIGNS" "abcdefghijklmnopqrstuvwxyz0123456789",
  kGlobS "DIGITS" "0123456789",
  kGlobI "MOST_SIGNS" 12,
  kGlobI "MOST_PLAIN_DIGITS" 4000,
  kGlobI "MOST_TUPLES" 60,
  kExo "BadText",
  (He.Fa.meth "BadText" "__init__").ok,
  (He.Fa.noat "BadText" "place").ok,
  (He.Fa.noat "BadText" "class_name").ok,
  (He.Fa.mkr "PlainReader").ok,
  (He.Fa.meth "PlainReader" "sign").ok,
  (He.Fa.meth "PlainReader" "is_in").ok,
  (He.Fa.meth "PlainReader" "expect").ok,
  (He.Fa.meth "PlainReader" "read_signs").ok,
  (He.Fa.meth "PlainReader" "read_integer").ok,
  (He.Fa.meth "PlainReader" "read_word").ok,
  (He.Fa.meth "PlainReader" "read_value").ok,
  (He.Fa.meth "PlainReader" "close").ok,
  (He.Fa.meth "PlainReader" "read_all").ok,
  kCatch "BadText" "BadText" true,
  kCatch "BadText" "LotError" true,
  noDigK]
end G75
set_option maxHeartbeats 0
namespace G75
open PySem L2 PyProof.Rows Vi
abbrev hR : PySem.W.OpenRow := PySem.W.OpenLaw.row PySem.Challenge.rw_swornlots_k75_bad_plain_texts
def as0 : List Addr := [3, 2, 6, 4, 24, 44, 63, 82, 101, 104, 184, 195, 202, 209, 216, 223, 230, 237, 244, 251, 256, 263, 270, 275, 282, 289, 296, 303, 310, 317, 324, 331, 336, 0, 23, 43, 62, 81, 100, 183,
  194, 201, 208, 215, 222, 229, 236, 243, 250, 255, 262, 269, 274, 281, 288, 295, 302, 309, 316, 323, 330, 335, 22, 25, 41, 42, 60, 61, 79, 80, 98, 99, 118, 125, 132, 139, 146, 153, 160, 167,
  174, 181, 182, 185, 186, 189, 190, 191, 192, 193, 196, 197, 198, 199, 200, 203, 204, 205, 206, 207, 210, 211, 212, 213, 214, 217, 218, 219, 220, 221, 224, 225, 226, 227, 228, 231, 232, 233, 234, 235,
  238, 239, 240, 241, 242, 245, 246, 247, 248, 249, 252, 253, 254, 257, 258, 259, 260, 261, 264, 265, 266, 267, 268, 271, 272, 273, 276, 277, 278, 279, 280, 283, 284, 285, 286, 287, 290, 291, 292, 293,
  294, 297, 298, 299, 300, 301, 304, 305, 306, 307, 308, 311, 312, 313, 314, 315, 318, 319, 320, 321, 322, 325, 326, 327, 328, 329, 332, 333, 334, 40, 59, 78, 97, 117, 124, 131, 138, 145, 152, 159,
  166, 173, 180, 35, 36, 37, 38, 39, 54, 55, 56, 57, 58, 73, 74, 75, 76, 77, 92, 93, 94, 95, 96, 112, 113, 114, 115, 116, 119, 120, 121, 122, 123, 126, 127, 128, 129, 130, 133, 134,
  135, 136, 137, 140, 141, 142, 143, 144, 147, 148, 149, 150, 151, 154, 155, 156, 157, 158, 161, 162, 163, 164, 165, 168, 169, 170, 171, 172, 175, 176, 177, 178, 179]
abbrev hk : PySem.W.Hook := hookL as0 ck fn ts
def ob (s : PySem.W.SharedT) : AlW := obsWL as0 ck fn ts (HeadRun.getT s)
theorem ob_eq (s : PySem.W.SharedT) : ob s = hk.obs s.abs := obsWL_eq (HeadRun.getT_eq s)
def nl0 : List Str := ["LotError", "BadLine", "BadText", "BadAct", "Refused", "LETTERS", "SIGNS", "DIGITS", "MOST_SIGNS", "MOST_PLAIN_DIGITS", "MOST_TUPLES", "WORDS", "PlainReader", "read_plain", "_law_bag", "_law_mixed", "_law_draw", "_law_pick", "_law_is_int", "_law_p10_word"]
def nl1 : List Str := ["_law_p10_number", "_law_p10_atom", "_law_p10_value", "_law_p10_wrapped", "_law_p10_text", "_law_p10_same", "_law_p10_step", "_law_p10_place", "_law_p10_read", "_law_p10_special", "_law_p10_spoilt", "_law_p10_odd", "_law_p10_any", "_law_p10_refused"]
section
open HeadRun PySem.W
def setF (w : World) (b : Bool) : World := { w with params := { w.params with followText := fun s => if s = "special-get-raises" then b else w.params.followText s } }
theorem setF_eq (w : World) : setF w (w.params.followText "special-get-raises") = w := by
  have e : (fun s => if s = "special-get-raises" then w.params.followText "special-get-raises" else w.params.followText s) = w.params.followText := by
    funext s
    by_cases h : s = "special-get-raises"
    · rw [if_pos h, h]
    · rw [if_neg h]
  unfold setF
  rw [e]
noncomputable abbrev WW (w : World) : Option (Shared × SharedT) := wholeF (fun p => stepQ (denQ tabQ) p w) fenceQ 20000 hR.prog
theorem joinD {α β γ δ : Type} {m : Option α} {A : α → β} {B : α → γ} {C : α → δ} {a : β} {b : γ} {c : δ} (h1 : m.map (fun x => (A x, B x)) = some (a, b)) (h2 : m.map C = some c) : m.map (fun x => (A x, B x, C x)) = some (a, b, c) := by
  cases m with
  | none => cases h1
  | some x =>
    have e1 : (A x, B x) = (a, b) := Option.some.inj h1
    have e2 : C x = c := Option.some.inj h2
    obtain ⟨e3, e4⟩ := Prod.mk.inj e1
    show some (A x, B x, C x) = _
    rw [e2, e3, e4]
theorem runtAB (w : World) : ((WW (setF w true)).map fun x => (looksF hR.prog x.1.heap x.2.abs, seenQ (PySem.W.view hR.prog [37]) (nl0 ++ nl1) (importedModules hR.prog.main.body) (fun s => xlAt (PySem.W.view hR.prog [37]) [] s && recOk hR.toRowW.records s) x.2.abs)) = some (true, openGood (PySem.W.view hR.prog [37]) (nl0 ++ nl1)) := by
  kernel_rfl
theorem runtO (w : World) : ((WW (setF w true)).map fun x => ob x.2) = some (wantV fn, tabsWant ts (setF w true)) := by
  kernel_rfl
theorem runt (w : World) : HeadRun.RunEqI hR (PySem.W.view hR.prog [37]) hk ob 20000 (nl0 ++ nl1) (setF w true) := joinD (runtAB w) (runtO w)
theorem runfAB (w : World) : ((WW (setF w false)).map fun x => (looksF hR.prog x.1.heap x.2.abs, seenQ (PySem.W.view hR.prog [37]) (nl0 ++ nl1) (importedModules hR.prog.main.body) (fun s => xlAt (PySem.W.view hR.prog [37]) [] s && recOk hR.toRowW.records s) x.2.abs)) = some (true, openGood (PySem.W.view hR.prog [37]) (nl0 ++ nl1)) := by
  kernel_rfl
theorem runfO (w : World) : ((WW (setF w false)).map fun x => ob x.2) = some (wantV fn, tabsWant ts (setF w false)) := by
  kernel_rfl
theorem runf (w : World) : HeadRun.RunEqI hR (PySem.W.view hR.prog [37]) hk ob 20000 (nl0 ++ nl1) (setF w false) := joinD (runfAB w) (runfO w)
theorem run (w : World) : HeadRun.RunEqI hR (PySem.W.view hR.prog [37]) hk ob 20000 (nl0 ++ nl1) w := by
  have key : ∀ b : Bool, HeadRun.RunEqI hR (PySem.W.view hR.prog [37]) hk ob 20000 (nl0 ++ nl1) (setF w b) := fun b => match b with
    | true => runt w
    | false => runf w
  have h := key (w.params.followText "special-get-raises")
  rw [setF_eq] at h
  exact h
end
end G75
set_option maxHeartbeats 2000000
namespace Vi
open PySem L2 PyProof.Rows PySem.Builtin
theorem meets_bigrepr {a : Int} {t : Tok} : Meets («int.__repr__» ⟨[.int a t], []⟩) (fun A R s => s.heap.NoDigits ∧ a.natAbs < 10 ^ 4300 ∧ R (.ok (.ret (.str (toString a) s.toks))) { s with toks := s.toks + 1 }) := by
  refine Meets.of_wp fun prog w A R s h => ?_
  obtain ⟨hn, hlt, h⟩ := h
  unfold «int.__repr__»
  show wpAny _ _ (do let r ← overDigitLimit? a; _) _ _ s
  refine wpAny_bind (overDigitLimit_any hn (fun _ => ?_) (fun hge => absurd hlt (Nat.not_lt.mpr hge)))
  exact wpAny_bind (wpAny_mkStr (wpAny_pure ⟨_, rfl, h⟩) (int_text_fits10 hlt))
section
variable {prog : Program} {w : World} {A : Around} {E : Value → Shared → Prop} {s : Shared}
theorem str_of_big {a : Int} {t : Tok} {Q : Value → Shared → Prop} (hu : A.units + 64 < cLine) (hn : s.heap.NoDigits) (ha : a.natAbs < 10 ^ 4300) (h : Q (.str (toString a) s.toks) { s with toks := s.toks + 1 }) : wpAny (model prog w) A (call (.type "str") [.int a t]) Q E s :=
  callType_new F.called_str (by decide) (F.typeCall_str_1 _) (F.newCall_str_1 _) (fun obj => F.args_object_init_2 obj _) F.entry_str_new
    (meets_str_new_slot rfl F.slot_int_str F.slot_int_repr F.entry_int_repr (F.args_int_repr_1 _) meets_bigrepr) ⟨typeIs_int s a t, by show A.units + 1 + 2 < cLine; omega, hn, ha, ⟨_, _, rfl, typeIs_str _ _ _, h⟩⟩
end
section
variable {X : Cx} {g : Gi}
theorem call_str_big (hK : noDigK X.K = true) (hu : X.A.units + 64 < cLine) : CallR X (.type "str") (fun xs H Q => ∃ i, xs = [.int i] ∧ i.natAbs < 10 ^ 4300 ∧ Q (.str (toString i)) H) := by
  intro pins s σ H xs us Q I r h
  obtain ⟨i, rfl, hz, q⟩ := h
  obtain ⟨u, rfl, t, rfl⟩ := vals1 r
  exact str_of_big hu (noDig I.kIn hK) hz ⟨.str _, H, I.tok _, ⟨_, rfl⟩, q⟩
def fStrB (xs : List Vl) (h : Hc) : R Vl := match xs with
  | [.d (.str a)] => .ok (.d (.str a)) h
  | [.d (.int i)] => if i.natAbs < 10 ^ 4300 then .ok (.d (.str (toString i))) h else .stuck
  | _ => .stuck
theorem c_strB (hK : noDigK X.K = true) (hu : X.A.units + 64 < cLine) : CallV X g (.type "str") fStrB := by
  have c0 := call_str_big hK hu
  have c1 := SkE.call_str_str (X := X)
  refine ⟨fun vs H Q => (∃ i, vs = [.int i] ∧ i.natAbs < 10 ^ 4300 ∧ Q (.str (toString i)) H) ∨ ∃ a, vs = [.str a] ∧ Q (.str a) H, fun pins s σ H vs us Q I r q => ?_, fun B W env s σ H xs vs Q sr r p => ?_⟩
  · rcases q with q | q
    · exact c0 pins s σ H vs us Q I r q
    · exact c1 pins s σ H vs us Q I r q
  · unfold fStrB at p
    split at p
    · next a =>
      obtain ⟨v, rfl, rr⟩ := r.one
      cases rr
      exact .inr ⟨_, rfl, PostE.pure sr p rfl⟩
    · next i =>
      split at p
      · next hl =>
        obtain ⟨v, rfl, rr⟩ := r.one
        cases rr
        exact .inl ⟨_, rfl, hl, PostE.pure sr p rfl⟩
      · exact p.elim
    · exact p.elim
end
end Vi
namespace Vi
open PySem L2 PyProof.Rows PySem.Builtin PySem.NumText
section
variable {M : Model} {A : Around} {E : Value → Shared → Prop} {s : Shared}
theorem maxDigits {Q : Nat → Shared → Prop} (hn : s.heap.NoDigits) (h : Q 4300 s) : wpAny M A intMaxStrDigits Q E s := by
  obtain ⟨mc, hns, hnone⟩ := hn
  unfold intMaxStrDigits
  refine wpAny_bind (wpAny_nsGet hns ?_)
  rw [hnone]
  exact wpAny_pure h
theorem wp_longText {Q : Value → Shared → Prop} {v : Value} {text : List Nat} {n : Int} (hn : s.heap.NoDigits) (hl : ¬ (text.takeWhile (· != 0)).length ≤ 640)
    (hr : (int_private% "readNumeral") 4300 10 (text.takeWhile (· != 0)) = (int_private% "Numeral.value") n) (ha : ((text.takeWhile (· != 0)).length == text.length) = true) (h : Q (.int n s.toks) { s with toks := s.toks + 1 }) :
    wpAny M A ((int_private% "intFromText") v text 10) Q E s := by
  show wpAny M A (do
    let limit ← if (text.takeWhile (· != 0)).length ≤ 640 then pure 0 else intMaxStrDigits
    _) Q E s
  rw [if_neg hl]
  refine wpAny_bind (maxDigits hn ?_)
  dsimp only
  rw [hr]
  dsimp only
  rw [if_pos ha]
  refine wpAny_bind ?_
  first
    | exact wpAny_fresh (wpAny_pure h)
    | exact wpAny_fresh h
    | exact wpAny_pure h
end
structure Hd (p : Prop) : Prop where
  out : p
set_option maxHeartbeats 4000000 in
theorem meets_longText {x : Str} {u : Tok} {n : Int} (hx : x.length ≤ 16777216) (h6 : ¬ (numSeenOf x).length ≤ 640) (hn : PySem.intText? x = some n) : Meets (Builtin.«int.__new__» ⟨[.type "int", .str x u], []⟩) (fun A R s => s.heap.NoDigits ∧ R (.ok (.ret (.int n s.toks))) { s with toks := s.toks + 1 }) := by
  refine Meets.of_wp fun prog w A R s h => ?_
  obtain ⟨hp, g, d, tk, os⟩ := s
  obtain ⟨hd0, hq⟩ := h
  have k1 := F.conv_sub_int; have k2 := F.madeHere_int; have k3 := PySem.W.KIN.str_int; have k4 := PySem.W.KIN.str_idx; have k5 := PySem.W.KIN.str_trunc
  have k6 : typeOf (.str x u) = pure (.type "str") := rfl
  have hr : (int_private% "readNumeral") 4300 10 (numSeenOf x) = (int_private% "Numeral.value") n ∧ ((numSeenOf x).length == (numTextOf x).length) = true := by
    rcases read4300 x (by rw [sizeLine_eq]; exact hx) with ⟨m, e1, e2, e3⟩ | ⟨e1, _⟩
    · rw [hn] at e1
      cases e1
      exact ⟨e3, e2⟩
    · rw [hn] at e1
      cases e1
  have hk := Hd.mk (And.intro h6 hr)
  clear h6 hr hn hx
  repeat (any_goals (first
    | assumption
    | ((with_reducible show wpAny _ _ ((int_private% "intFromText") _ _ _) _ _ _); refine wp_longText hd0 hk.out.1 hk.out.2.1 hk.out.2.2 ?_)
    | wp_step))
  all_goals first | exact ⟨_, rfl, hq⟩ | skip
end Vi
namespace Vi
open PySem L2 PyProof.Rows PySem.Builtin PySem.NumText PySem.Calls
section
variable {prog : Program} {w : World} {A : Around} {E : Value → Shared → Prop} {s : Shared}
theorem call_longText {x : Str} {t : Tok} {n : Int} {Q : Value → Shared → Prop} (hd : s.heap.NoDigits) (hx : x.length ≤ 16777216) (h6 : ¬ (numSeenOf x).length ≤ 640) (hn : PySem.intText? x = some n) (h : Q (.int n s.toks) { s with toks := s.toks + 1 }) : wpAny (model prog w) A (call (.type "int") [.str x t]) Q E s :=
  call_int_1 (meets_longText hx h6 hn) ⟨hd, rfl, h⟩
end
def fIntB (xs : List Vl) (h : Hc) : R Vl := match xs with
  | [.d (.str a)] => (match PySem.intText? a with
    | some n => if a.length ≤ 640 then .ok (.d (.int n)) h else if 640 < (numSeenOf a).length ∧ a.length ≤ 16777216 then .ok (.d (.int n)) h else .stuck
    | none => .stuck)
  | xs => fIntOf xs h
theorem intS_else {xs : List Vl} {h : Hc} (hx : ∀ a, xs ≠ [.d (.str a)]) : fIntS xs h = fIntOf xs h := by
  unfold fIntS
  split
  · next a => exact absurd rfl (hx a)
  · rfl
section
variable {X : Cx} {g : Gi}
theorem call_int_long (hK : noDigK X.K = true) : CallR X (.type "int") (fun xs H Q => ∃ a n, xs = [.str a] ∧ PySem.intText? a = some n ∧ 640 < (numSeenOf a).length ∧ a.length ≤ 16777216 ∧ Q (.int n) H) := by
  intro pins s σ H xs us Q I r h
  obtain ⟨a, n, rfl, hn, h6, hx, q⟩ := h
  obtain ⟨u, rfl, t, rfl⟩ := vals1 r
  exact call_longText (noDig I.kIn hK) hx (Nat.not_le.mpr h6) hn ⟨.int n, H, I.tok _, ⟨_, rfl⟩, q⟩
theorem c_intB (hK : noDigK X.K = true) : CallV X g (.type "int") fIntB := by
  obtain ⟨r0, c0, f0⟩ := c_intS (X := X) (g := g)
  have c1 := call_int_long hK
  refine ⟨fun vs H Q => r0 vs H Q ∨ ∃ a n, vs = [.str a] ∧ PySem.intText? a = some n ∧ 640 < (numSeenOf a).length ∧ a.length ≤ 16777216 ∧ Q (.int n) H, fun pins s σ H vs us Q I r q => ?_, fun B W env s σ H xs vs Q sr r p => ?_⟩
  · rcases q with q | q
    · exact c0 pins s σ H vs us Q I r q
    · exact c1 pins s σ H vs us Q I r q
  · unfold fIntB at p
    split at p
    · next a =>
      split at p
      · next n hn =>
        split at p
        · next hl =>
          refine .inl (f0 B W env s σ H _ vs Q sr r ?_)
          have ef : fIntS [.d (.str a)] s.h = .ok (.d (.int n)) s.h := by
            show (match PySem.intText? a with
              | some n => if a.length ≤ 640 then R.ok (Vl.d (.int n)) s.h else .stuck
              | none => .stuck) = _
            rw [hn]
            dsimp only
            rw [if_pos hl]
          rw [ef]
          exact p
        · split at p
          · next hl =>
            obtain ⟨v, rfl, rr⟩ := r.one
            cases rr
            exact .inr ⟨_, _, rfl, hn, hl.1, hl.2, PostE.pure sr p rfl⟩
          · exact p.elim
      · exact p.elim
    · next hx =>
      refine .inl (f0 B W env s σ H _ vs Q sr r ?_)
      rw [intS_else fun a e => hx a e]
      exact p
end
end Vi
namespace Vi
open PySem L2 PyProof.Rows
theorem size_ofT {n : Nat} (h : n ≤ 16777216) : n ≤ sizeLine := by rw [sizeLine_eq]; exact h
def fAddT (o : Bool) (x y : Vl) (h : Hc) : R Vl := match x, y with
  | .d (.str a), .d (.str b) => if a.length + b.length ≤ 16777216 then .ok (.d (.str (a ++ b))) h else .stuck
  | x, y => fAdd o x y h
theorem o_addT {X : Cx} {g : Gi} (o : Bool) (hK : g.K = X.K) : OpV X g (binaryOp .Add) (fAddT o) := by
  obtain ⟨r0, c0, f0⟩ := o_add (X := X) (g := g) o hK
  refine ⟨_, OpR.or c0 op_add_str, fun B W env s σ H x y v w Q sr r1 r2 p => ?_⟩
  unfold fAddT at p
  split at p
  · split at p
    · next hl => exact .inr ⟨_, _, r1, r2, size_ofT hl, PostE.pure sr p rfl⟩
    · exact p.elim
  · exact .inl (f0 B W env s σ H x y v w Q sr r1 r2 p)
def fSlT (o : Bool) (x : Vl) (lo hi : Option Int) (h : Hc) : R Vl := match x with
  | .d (.str z) => if z.length ≤ 16777216 then .ok (.d (.str (Txt.slice z lo hi))) h else .stuck
  | x => fSl o x lo hi h
@[simp] def mSlT (o : Bool) (m : ME) (lo hi : MO) : ME := fun env h => (m env h).bind fun x h1 => (lo env h1).bind fun l h2 => (hi env h2).bind fun u h3 => fSlT o x l u h3
section
variable {X : Cx} {g : Gi} {B : Bg} {W : WXv} {e : Expr} {lo hi : Option Expr} {pos p2 : Pos} {m : ME} {ml mh : MO}
theorem ve_sliceT (o : Bool) (hK : g.K = X.K) (he : PE X e (tE g B W m)) (hl : PO X lo (tP g B W ml)) (hh : PO X hi (tP g B W mh)) : PE X (.Subscript e (.Slice lo hi none p2) pos) (tE g B W (mSlT o m ml mh)) := by
  refine pe_imp (pe_slice (SlR.or (SlR.or sl_list sl_tupA) C8.sl_txt) he hl hh) fun σ H Q ⟨env, s, sr, p⟩ => ?_
  refine (bindO sr p).mono fun v H1 q1 => ?_
  obtain ⟨env1, s1, sr1, q1⟩ := q1
  refine ⟨env1, s1, sr1, ?_⟩
  revert q1
  cases ml env1 s1.h with
  | exc x h => exact fun q => q
  | stuck => exact fun q => q
  | ok l h =>
    intro q1 H2 s2 e2 ev2 sr2
    obtain ⟨env3, s3, sr3, q3⟩ := q1 H2 s2 e2 ev2 sr2
    refine ⟨env3, s3, sr3, ?_⟩
    revert q3
    cases mh env3 s3.h with
    | exc x h => exact fun q => q
    | stuck => exact fun q => q
    | ok u h =>
      intro q3 H4 s4 e4 ev4 sr4
      obtain ⟨s5, x, sr5, ev5, r5, p5⟩ := q3 H4 s4 e4 ev4 sr4
      unfold fSlT at p5
      split at p5
      · next z =>
        split at p5
        · next hz => exact .inr ⟨z, r5, size_ofT hz, PostE.pure sr5 p5 rfl⟩
        · exact p5.elim
      · unfold fSl at p5
        split at p5
        · next xs ex =>
          obtain ⟨a, vs, rfl, h1, h2⟩ := r5.lst sr5.good ex
          refine .inl (.inl ⟨a, vs, rfl, hK ▸ h1, fun q hq => ?_⟩)
          have hc : Reps g s5.F s5.al (cutL xs l u) (cutV vs l u) := by
            unfold cutL cutV
            rw [h2.length]
            exact (h2.drop _).take _
          exact PostE.newLO sr5 p5 hc hq
        · split at p5
          · next xs ex =>
            obtain ⟨a, vs, rfl, h1, h2⟩ := r5.tup sr5.good (ptup_tup ex)
            have hc : Reps g s5.F s5.al (cutL xs l u) (cutV vs l u) := by
              unfold cutL cutV
              rw [h2.length]
              exact (h2.drop _).take _
            refine .inl (.inr ⟨a, vs, rfl, hK ▸ h1, fun hw => ?_, fun hw q hq => PostE.newT sr5 p5 hc hq⟩)
            rw [h2.length] at hw
            rw [cutL_whole hw] at p5
            obtain rfl := tup?_eq ex
            exact PostE.pure sr5 p5 r5
          · split at p5
            · split at p5
              · next hz => exact .inr ⟨_, r5, size_of hz, PostE.pure sr5 p5 rfl⟩
              · exact p5.elim
            · exact p5.elim
end
end Vi
namespace Vi
open PySem L2 PyProof.Rows
def mTryF (i : Nat) (cat : Nat → Option Bool) (mb ms : MS) : MS := fun env h => match mb env h with
  | .exc env' (.obj c fs) h' => (match cat c with
    | some true => mTry i cat mb ms env h
    | _ => .stuck)
  | .exc _ _ _ => .stuck
  | r => r
section
variable {X : Cx} {x n : Str} {cv : Value} {i : Nat} {body su : List Stmt} {st0 : Stmt} {hds : List ExceptHandler} {np pos pos' : Pos} {tb : WX → TS} {ts : Addr → Value → Option Addr → TS}
abbrev gone (D : Ends) (i : Nat) : Ends := { nx := fun a b => D.nx (a.set i none) b, rt := D.rt, bk := fun a b => D.bk (a.set i none) b, ct := fun a b => D.ct (a.set i none) b }
def wOne (K : PySem.W.Frag) (cv : Value) (i : Nat) (ts : Addr → Value → Option Addr → TS) (D : Ends) : WX := fun cls d σ H => PySem.W.exmOne K cls cv = some true ∧ ∀ a, H a = none → ts a cls d (gone D i) (σ.set i (some (.ref a))) H
theorem ps_one (e1 : X.stack = X.env :: X.outer) (e2 : X.env.frame = some X.env.locals) (nd : X.N.Nodup) (hi : X.N[i]? = some n) (hn : X.env.kindOf n = some .local) (nm : Names X x cv)
    (hb : ∀ (W : WX) (pn : List (Addr × Obj)) (xe : Value → Shared → Prop), Takes (X.tr pn xe) W → PassesOwn (model X.prog X.w) X.A X.env xe → PSs (X.tr pn xe) body (tb W))
    (hsu : ∀ (a : Addr) (oe : Obj) (cls : Value) (d : Option Addr) (pn : List (Addr × Obj)), Zc cls d oe → (∃ vs, oe.data = .fields vs) → PSs (X.suite a ((a, oe) :: pn)) (st0 :: su) (ts a cls d)) :
    PS X (.Try body (.ExceptHandler (some (.Name x np)) (some n) (st0 :: su) pos' :: hds) [] [] pos) (fun D σ H => tb (wOne X.K cv i ts D) D σ H) := by
  refine ⟨fun pins s σ H D I h => wpAny_Try_except ?_⟩
  have fr := e1 ▸ I.ok.frames
  refine wpAny_mono ((hb (wOne X.K cv i ts D) (X.pn ++ pins) _ (fun u s' q => ?_) PassesOwn.looking).run [] s σ H D (I.toTry _) h) (fun f t q => ?_) (fun e t q => q)
  · obtain ⟨a, B, sI, p', σ', H', cls, d, rfl, J0, nb, up, sky, na, os, ag, m, k⟩ := q
    have J := J0.ofTry I.ok
    refine Sky.land Zc.steady (show X.A.frames = some (X.env :: X.outer) from fr) e2 (by rw [← e1]; exact sky) fun h1 fl up1 => ?_
    have J1 : Inv X pins σ' H' { s' with heap := h1 } := J.landed nb fl.1 (up.trans up1) os ag
    obtain ⟨oe, vs, g1, g2, g3⟩ := fl.there
    have no : ∀ {hh : Heap} {o : Obj} {us : Array Value}, hh.FunFrames B (X.env :: X.outer) → hh.get? a = some o → o.data = .fields us → a ∉ frs (X.env :: X.outer) := fun ff ge gd hm => by
      obtain ⟨_, _, ge', hnf⟩ := ff.mem hm
      cases ge.symm.trans ge'
      exact hnf _ gd
    have nf := no fl.2.2.1 g1 g3
    have n1 : a ≠ X.env.locals := fun z => nf (List.mem_filterMap.mpr ⟨_, List.mem_cons_self, by rw [e2, z]⟩)
    have n2 : a ∉ X.fs := fun hm => by
      obtain ⟨e, he, q⟩ := List.mem_filterMap.mp hm
      exact nf (List.mem_filterMap.mpr ⟨e, List.mem_cons_of_mem _ he, q⟩)
    have S1 := J1.suite g1 g3 na n1 n2
    refine wpAny_handleBy_cons (codeAny_handlers_test ?_) nofun
    have lk : PySem.W.Looks (model X.prog X.w) h1 (typeOf (.ref a)) cls := fun _ _ _ _ k q => wpAny_typeOf_ref (k _ _ g1) (by rw [g2.1]; exact q)
    have yes := PySem.W.exm_one (M := model X.prog X.w) J1.kIn lk m
    have name : ∀ {P E : Value → Shared → Prop}, P cv { s' with heap := h1 } → wpAny (model X.prog X.w) (X.A.mark (some (.ref a))) (eval (.Name x np) X.env) P E { s' with heap := h1 } := fun q => by
      obtain ⟨y1, y2, y3 | ⟨y3, y4, y5⟩⟩ := nm
      · exact ld_glob (X := X.suite a (_ :: (X.pn ++ pins))) S1 y1 y3 q y2
      · exact ld_blt (X := X.suite a (_ :: (X.pn ++ pins))) S1 y1 y3 y4 q y5 y2
    refine name (yes.here (codeAny_handlers_suite_as (HandSPX.lands_againZ fl fun h2 fl2 up2 => ?_)))
    have J2 : Inv X pins σ' H' { s' with heap := h2 } := J.landed nb fl2.1 ((up.trans up1).trans up2) os ag
    obtain ⟨o2, us, k1, k2, k3⟩ := fl2.there
    refine store_ok (X := X.suite a ((a, o2) :: (X.pn ++ pins))) (v := .ref a) (J2.suite k1 k3 na n1 n2) nd hi (.inl hn) rfl (fun t T => ?_) (.inr hn)
    refine wpAny_mono ((hsu a o2 cls d (X.pn ++ pins) k2 ⟨_, k3⟩).run [] t _ H' _ T (k a na)) (fun f w q => ?_) nofun
    have off : ∀ {τ : L2.St} {G : Hp} {P : Shared → Prop}, Inv (X.suite a ((a, o2) :: (X.pn ++ pins))) [] τ G w → (∀ v, Inv X pins (τ.set i none) G v → P v) → wpAny (model X.prog X.w) X.A (do bindName X.env n .none; unbindBehindTheSuite X.env n pos') (fun _ v => P v) X.xe w := fun T q => gone_ok (T.unsuite I.ok) nd hi hn q
    cases f with
    | ret u => exact q.elim fun v q => q.elim fun τ q => q.elim fun G q => off q.1 fun z Z => ⟨_, _, _, Z, q.2.1, q.2.2⟩
    | _ => exact q.elim fun τ q => q.elim fun G q => off q.1 fun z Z => ⟨_, _, Z, q.2⟩
  · cases f with
    | next => exact wpAny_execs_nil (q.elim fun τ q => q.elim fun G q => ⟨τ, G, q.1.ofTry I.ok, q.2⟩)
    | ret u => exact q.elim fun v q => q.elim fun τ q => q.elim fun G q => ⟨v, τ, G, q.1.ofTry I.ok, q.2⟩
    | _ => exact q.elim fun τ q => q.elim fun G q => ⟨τ, G, q.1.ofTry I.ok, q.2⟩
end
section
variable {X : Cx} {g : Gi} {B : Bg} {W : WXv} {x n : Str} {i : Nat} {body suite : List Stmt} {hds : List ExceptHandler} {b₀ : Stmt} {np pos pos' : Pos} {mb ms : MS} {cat : Nat → Option Bool}
theorem vs_tryF (b : Bd X g W) (hs : X.stack = X.env :: X.outer) (hf : X.env.frame = some X.env.locals) (hN : X.N.Nodup) (hi : X.N[i]? = some n) (hln : X.env.kindOf n = some .local) (C : Catch X g x cat)
    (hb : ∀ (W' : WXv) (pn : List (Addr × Obj)) (xe : Value → Shared → Prop), Bd (X.tr pn xe) g W' → PSs (X.tr pn xe) body (tS g B W' mb))
    (hsu : ∀ (a d : Addr) (c : Nat) (oe : Obj) (pn : List (Addr × Obj)), Su (X.suite a ((a, oe) :: pn)) g (B.catch a d c) → PSs (X.suite a ((a, oe) :: pn)) (b₀ :: suite) (tS g (B.catch a d c) (fun _ _ _ _ => False) ms)) :
    PS X (.Try body (.ExceptHandler (some (.Name x np)) (some n) (b₀ :: suite) pos' :: hds) [] [] pos) (tS g B W (mTryF i cat mb ms)) := by
  obtain ⟨cv, hc, hcat⟩ := C.ex
  refine ps_imp (ps_one (tb := fun W' => tS g B W' mb) (ts := fun a cls d N σ H => ∃ (c : Nat) (dd : Addr), cls = .ref (g.ca c) ∧ d = some dd ∧ tS g (B.catch a dd c) (fun _ _ _ _ => False) ms N σ H) hs hf hN hi hln hc
    (fun W' pn xe tk ps => hb W' pn xe ⟨b.G, b.K, b.calm, b.gd, tk, ps, b.un⟩) fun a oe cls d pn hz hv => ⟨fun pins s σ H N I h => ?_⟩) fun N σ H ⟨env, st, sr, pp⟩ => ⟨env, st, sr, ?_⟩
  · obtain ⟨c, dd, rfl, rfl, h⟩ := h
    exact (hsu a dd c oe pn ⟨⟨X, oe, pn, rfl, hz, hv⟩, b.G, b.K⟩).run pins s σ H N I h
  · unfold mTryF mTry at pp
    cases e : mb env st.h with
    | nx env' h => rw [e] at pp; exact pp
    | ret d h => rw [e] at pp; exact pp
    | brk env' h => rw [e] at pp; exact pp
    | cnt env' h => rw [e] at pp; exact pp
    | stuck => rw [e] at pp; exact pp.elim
    | exc env' y h =>
      rw [e] at pp
      cases y with
      | obj c fs =>
        intro cls dd σ' H' s' e1 le sr' xr
        obtain ⟨d, vs, rfl, rfl, hd, hal, hr⟩ := xr
        cases ec : cat c with
        | none => simp only [ec, e] at pp; exact pp.elim
        | some q =>
          cases q with
          | false => simp only [ec, e] at pp; exact pp.elim
          | true =>
            simp only [ec, e] at pp
            by_cases hq : (noX (env'.set i none) && decide (i < env'.length)) = true
            · rw [if_pos hq] at pp
              obtain ⟨q1, q2⟩ := Bool.and_eq_true_iff.mp hq
              refine ⟨hcat c true ec, fun a ha => ⟨c, d, rfl, rfl, ?_⟩⟩
              refine ⟨_, s', (sr'.unset.bg (a := a) (d := d) (c := c) q1).setX (of_decide_eq_true q2) ⟨rfl, rfl, vs, hd, hal, hr⟩, ?_⟩
              rw [e1]
              have back : ∀ {env2 : Env} {σ2 : L2.St} {H2 : Hp} {s2 : Sta}, noX (env2.set i none) = true → SR g (B.catch a d c) env2 s2 σ2 H2 → SR g B (env2.set i none) s2 (σ2.set i none) H2 := fun n2 sr2 => SR.unbg (a := a) (d := d) (c := c) n2 sr2.unset
              cases em : ms (env'.set i (some (.xc c fs))) h with
              | nx env2 h2 =>
                rw [em] at pp
                unfold unX at pp
                by_cases n2 : noX (env2.set i none) = true
                · simp only [if_pos n2] at pp
                  exact fun σ2 H2 s2 e2 le2 sr2 => pp (σ2.set i none) H2 s2 e2 (le.trans le2) (back n2 sr2)
                · simp only [if_neg n2] at pp
                  exact pp.elim
              | brk env2 h2 =>
                rw [em] at pp
                unfold unX at pp
                by_cases n2 : noX (env2.set i none) = true
                · simp only [if_pos n2] at pp
                  exact fun σ2 H2 s2 e2 le2 sr2 => pp (σ2.set i none) H2 s2 e2 (le.trans le2) (back n2 sr2)
                · simp only [if_neg n2] at pp
                  exact pp.elim
              | cnt env2 h2 =>
                rw [em] at pp
                unfold unX at pp
                by_cases n2 : noX (env2.set i none) = true
                · simp only [if_pos n2] at pp
                  exact fun σ2 H2 s2 e2 le2 sr2 => pp (σ2.set i none) H2 s2 e2 (le.trans le2) (back n2 sr2)
                · simp only [if_neg n2] at pp
                  exact pp.elim
              | ret dr h2 =>
                rw [em] at pp
                exact pp
              | exc env2 y2 h2 => rw [em] at pp; exact pp.elim
              | stuck => rw [em] at pp; exact pp.elim
            · rw [if_neg hq] at pp
              exact pp.elim
      | _ => exact pp.elim
end
end Vi
namespace Vi
open PySem L2 PyProof.Rows RT
def fPart (a : Str) (y : Vl) (h : Hc) : R Vl := match y with
  | .d (.str b) => if b.length ≠ 0 ∧ a.length ≤ 100000 then .ok (.d (.tup [.str (Txt.partition a b).1, .str (Txt.partition a b).2.1, .str (Txt.partition a b).2.2])) h else .stuck
  | _ => .stuck
def fFind (a : Str) (y : Vl) (h : Hc) : R Vl := match y with
  | .d (.str b) => .ok (.d (.int (Txt.find a b))) h
  | _ => .stuck
def fCountT (a : Str) (y : Vl) (h : Hc) : R Vl := match y with
  | .d (.str b) => .ok (.d (.int (Txt.count a b))) h
  | _ => .stuck
section
variable {X : Cx} {g : Gi} {B : Bg} {W : WXv} {apos pos : Pos} {o e : Expr} {mo me : ME}
end
def maL : List ME → MA
  | [] => maNil
  | m :: r => maCons m (maL r)
def mergeD (acc : List (Key × D)) (more : List (Str × D)) : List (Key × D) := more.foldl (fun acc p => putD' acc (.inr p.1) p.2) acc
def mDisp (ks : List Str) (ms : List ME) : ME := fun env h => (maL ms env (h ++ [.dK []])).bind fun xs h1 => match datas xs, h1[h.length]? with
  | some ds, some (.dK []) => if ks.length ≤ 15 then .ok (.d (.ref h.length)) (h1.set h.length (.dK (mergeD [] (ks.zip ds)))) else .stuck
  | _, _ => .stuck
section
variable {g : Gi} {B : Bg} {W : WXv}
abbrev dTrs (g : Gi) (B : Bg) (W : WXv) (ks : List Str) (ms : List ME) : List (TE × TE) := (ks.zip ms).map fun p => (tC (.str p.1), tE g B W p.2)
end
section
variable {X : Cx} {g : Gi} {B : Bg} {W : WXv} {pos : Pos}
end
section
variable {X : Cx} {g : Gi} {B : Bg} {W : WXv} {pos p p2 : Pos} {x : Str} {xs : Nat → Bool} {no : Nat → Str → Bool} {c1 c2 c3 c4 : Expr} {k : Nat}
end
section
variable {X : Cx} {g : Gi} {B : Bg} {W : WXv} {pos tpos : Pos} {o e : Expr} {m : ME}
def mAugFldE (g : Gi) (mo : ME) (f : Str) (e : ME) : MS := fun env h => (mo env h).thenS env fun z h0 => match z with
  | .d (.ref n) => (match h0[n]? with
    | some (.ins c fs) => (match g.fld c f, fs.lookup f with
      | true, some (.int x) => (e env h0).thenS env fun y h1 => (match y, h1[n]? with
        | .d (.int k), some (.ins c' fs') => if c' = c ∧ fs'.length < 1000 then .nx env (h1.set n (.ins c (putD f (.int (x + k)) fs'))) else .stuck
        | _, _ => .stuck)
      | _, _ => .stuck)
    | _ => .stuck)
  | _ => .stuck
end
end Vi
set_option maxHeartbeats 4000000
namespace Vi
open PySem L2 PyProof.Rows
section
variable {X : Cx} {g : Gi} {B : Bg} {W : WXv} {pos p p1 p2 : Pos} {x : Str} {xs : Nat → Bool} {no : Nat → Str → Bool} {c1 c2 c3 c4 c5 : Expr} {k : Nat}
end
end Vi
namespace Vi
open PySem L2 PyProof.Rows
def rangeC (lo c : Int) (n : Nat) : List D := (List.range n).map fun i : Nat => D.int (lo + (i : Nat) * c)
def mForR3 (T : TgF) (a : MA) (b : MS) : MS := fun env h => (a env h).thenS env fun xs h1 => match xs with
  | [.d (.int i), .d (.int j), .d (.int c)] => if c ≠ 0 ∧ c.natAbs < 1073741824 ∧ Builtin.Range.small i j c = true ∧ 0 ≤ Builtin.Range.rangeSize i j c then forL T b (rangeC i c (Builtin.Range.rangeSize i j c).toNat) env h1 else .stuck
  | _ => .stuck
section
variable {X : Cx} {g : Gi} {B : Bg} {W : WXv} {T : TgF} {mb : MS} {tg : Expr} {body : List Stmt} {pos : Pos}
end
end Vi
namespace Vi
open PySem L2 PyProof.Rows
structure SSta (K : PySem.W.Frag) (C : Addr) (mc : Value) (m : Str) (p f : Addr) : Prop where
  at_ : PySem.W.findCls K (.ref C) mc m = some (.get (.builtin "staticmethod.__get__") (.ref p) .none (.ref C))
  rc : ∃ rest, PySem.W.recIn K p "staticmethod" = some (.ref f :: rest)
structure VSMet (X : Cx) (g : Gi) (c : Nat) (m : Str) (n : Nat) (dd : List D) (F : Fn) : Prop where
  ex : ∃ (k : Nat) (p f : Addr) (mc : Value) (fd : FuncData) (ps : List Str) (dvs : List L2.V) (ds : List Value), FnG X.prog X.w X.K X.mg X.base k f fd ps (spD g ps.length F) ∧ Room k X.A ∧ ClX.CRead X.K (g.ca c) mc ∧ SSta X.K (g.ca c) mc m p f ∧ PySem.W.keepIn X.K (.ref f) = true ∧
    Binds X.K fd ps ds ∧ Vals dvs ds ∧ (∀ F al, Reps g F al dd dvs) ∧ n + dvs.length = ps.length
def mSMet (c : Nat) (n : Nat) (F : Fn) (dd : List D) (o : ME) (a : MA) : ME := fun env h => (o env h).bind fun x h1 => match x with
  | .d (.cls c') => if c' = c then (a env h1).bind fun xs h2 => fCallN n F dd xs h2 else .stuck
  | _ => .stuck
section
variable {X : Cx} {g : Gi} {B : Bg} {W : WXv} {pos p apos : Pos} {e o : Expr} {es : List Expr} {A : MA} {F : Fn} {dd : List D} {n c : Nat} {x m : Str} {mo : ME}
end
section
variable {P : Program} {w : World} {K : PySem.W.Frag} {mg : Str → Option Value} {base : Heap} {g : Gi}
structure RdyS (P : Program) (w : World) (K : PySem.W.Frag) (mg : Str → Option Value) (base : Heap) (g : Gi) (c : Nat) (m : Str) (k n : Nat) (dd : List D) (F : Fn) : Prop where
  ex : ∃ (p f : Addr) (mc : Value) (fd : FuncData) (ps : List Str) (dvs : List L2.V) (ds : List Value), FnG P w K mg base k f fd ps (spD g ps.length F) ∧ ClX.CRead K (g.ca c) mc ∧ SSta K (g.ca c) mc m p f ∧ PySem.W.keepIn K (.ref f) = true ∧
    Binds K fd ps ds ∧ Vals dvs ds ∧ (∀ F al, Reps g F al dd dvs) ∧ n + dvs.length = ps.length
theorem RdyS.v {X : Cx} {g : Gi} {c : Nat} {m : Str} {k j n : Nat} {dd : List D} {F : Fn} (h : RdyS X.prog X.w X.K X.mg X.base g c m k n dd F) (hr : Room j X.A) (hj : k ≤ j) : VSMet X g c m n dd F := by
  obtain ⟨p, f, mc, fd, ps, dvs, ds, h1, h2, h3, h4, h5, h6, h7, h8⟩ := h.ex
  exact ⟨k, p, f, mc, fd, ps, dvs, ds, h1, hr.mono hj, h2, h3, h4, h5, h6, h7, h8⟩
abbrev pS (c m : Str) : PySem.W.Frag → Addr := fun K => recFn K (He.ma K (He.ga K c) m) "staticmethod"
def kSmet (c m : Str) (K : PySem.W.Frag) : Bool :=
  PySem.W.readsIn K (He.ga K c) (.type "type") && (eqv (PySem.W.specialIn K (.ref (He.ga K c)) "__getattribute__") (some (some (.builtin "type.__getattribute__"))) &&
  (isGet (PySem.W.findCls K (.ref (He.ga K c)) (.type "type") m) (.builtin "staticmethod.__get__") (.ref (He.ma K (He.ga K c) m)) .none (.ref (He.ga K c)) &&
  (match PySem.W.recIn K (He.ma K (He.ga K c) m) "staticmethod" with
  | some (.ref _ :: _) => true
  | _ => false)))
end
end Vi
set_option maxHeartbeats 2000000
namespace Vi
open PySem L2 PyProof.Rows
def tryL (i : Nat) (env' : Env) (c : Nat) (fs : List (Str × D)) (h' : Hc) : List ((Nat → Option Bool) × MS) → RS
  | [] => .stuck
  | (cat, ms) :: r => (match cat c with
    | some true => if noX (env'.set i none) && decide (i < env'.length) then unX i (ms (env'.set i (some (.xc c fs))) h') else .stuck
    | some false => tryL i env' c fs h' r
    | none => .stuck)
def mTryL (i : Nat) (mb : MS) (l : List ((Nat → Option Bool) × MS)) : MS := fun env h => match mb env h with
  | .exc env' (.obj c fs) h' => tryL i env' c fs h' l
  | .exc _ _ _ => .stuck
  | r => r
section
variable {X : Cx} {n : Str} {i : Nat} {body : List Stmt} {h₀ : ExceptHandler} {hds : List ExceptHandler} {l : List (Value × (Addr → Value → Option Addr → TS))} {pos : Pos} {tb : WX → TS}
inductive HdsAs (X : Cx) (n : Str) : List ExceptHandler → List (Value × (Addr → Value → Option Addr → TS)) → Prop
  | nil {hds : List ExceptHandler} : HdsAs X n hds []
  | cons {x : Str} {c : Value} {ts : Addr → Value → Option Addr → TS} {st0 : Stmt} {su : List Stmt} {np pos' : Pos} {hds : List ExceptHandler} {l : List (Value × (Addr → Value → Option Addr → TS))} (hc : Names X x c)
      (hsu : ∀ (a : Addr) (oe : Obj) (cls : Value) (d : Option Addr) (pn : List (Addr × Obj)), Zc cls d oe → (∃ vs, oe.data = .fields vs) → PSs (X.suite a ((a, oe) :: pn)) (st0 :: su) (ts a cls d)) (r : HdsAs X n hds l) :
      HdsAs X n (.ExceptHandler (some (.Name x np)) (some n) (st0 :: su) pos' :: hds) ((c, ts) :: l)
def wAs (K : PySem.W.Frag) (i : Nat) (D : Ends) : List (Value × (Addr → Value → Option Addr → TS)) → WX
  | [] => fun _ _ _ _ => False
  | (cv, ts) :: l => fun cls d σ H => ∃ b, PySem.W.exmOne K cls cv = some b ∧ (b = true → ∀ a, H a = none → ts a cls d (gone D i) (σ.set i (some (.ref a))) H) ∧ (b = false → wAs K i D l cls d σ H)
end
section
variable {X : Cx} {g : Gi} {B : Bg} {W : WXv} {n : Str} {i : Nat} {body : List Stmt} {h₀ : ExceptHandler} {hds : List ExceptHandler} {pos : Pos} {mb : MS}
inductive HdsV (X : Cx) (g : Gi) (B : Bg) (n : Str) : List ExceptHandler → List ((Nat → Option Bool) × MS) → Prop
  | nil {hds : List ExceptHandler} : HdsV X g B n hds []
  | cons {x : Str} {cat : Nat → Option Bool} {ms : MS} {b₀ : Stmt} {suite : List Stmt} {np pos' : Pos} {hds : List ExceptHandler} {l : List ((Nat → Option Bool) × MS)} (C : Catch X g x cat)
      (hsu : ∀ (a d : Addr) (c : Nat) (oe : Obj) (pn : List (Addr × Obj)), Su (X.suite a ((a, oe) :: pn)) g (B.catch a d c) → PSs (X.suite a ((a, oe) :: pn)) (b₀ :: suite) (tS g (B.catch a d c) (fun _ _ _ _ => False) ms)) (r : HdsV X g B n hds l) :
      HdsV X g B n (.ExceptHandler (some (.Name x np)) (some n) (b₀ :: suite) pos' :: hds) ((cat, ms) :: l)
end
end Vi
namespace Vi
open PySem L2 PyProof.Rows
def PTT (X : Cx) (e : Expr) (t : TT) : Prop :=
  ∀ (pins : List (Addr × Obj)) (s : Shared) (σ : L2.St) (H : Hp) (Q : Bool → Hp → Prop), 1 ≤ s.toks → Inv X pins σ H s → t σ H Q → wpAny (model X.prog X.w) X.A (isTrue e X.env (eval e X.env)) (TP X pins σ Q) X.xe s
def PEt (X : Cx) (e : Expr) (t : TE) : Prop :=
  ∀ (pins : List (Addr × Obj)) (s : Shared) (σ : L2.St) (H : Hp) (Q : VK), Inv X pins σ H s → t σ H Q → wpAny (model X.prog X.w) X.A (eval e X.env) (fun v s' => 1 ≤ s'.toks ∧ EP X pins σ Q v s') X.xe s
section
variable {X : Cx} {e c : Expr} {es : List Expr} {a b rest : List Stmt} {st : Stmt} {te te' : TE} {tc tc' : TT} {ta ta' : TA} {t t' u : TS} {pos : Pos}
theorem pst_imp (h : PST X st t) (i : ∀ N σ H, t' N σ H → t N σ H) : PST X st t' := fun pins s σ H N h0 I q => h pins s σ H N h0 I (i N σ H q)
theorem psst_imp (h : PSsT X rest t) (i : ∀ N σ H, t' N σ H → t N σ H) : PSsT X rest t' := fun pins s σ H N h0 I q => h pins s σ H N h0 I (i N σ H q)
theorem pet_imp (h : PET X e te) (i : ∀ σ H Q, te' σ H Q → te σ H Q) : PET X e te' := fun pins s σ H Q h0 I q => h pins s σ H Q h0 I (i σ H Q q)
theorem ptt_imp (h : PTT X e tc) (i : ∀ σ H Q, tc' σ H Q → tc σ H Q) : PTT X e tc' := fun pins s σ H Q h0 I q => h pins s σ H Q h0 I (i σ H Q q)
theorem pat_imp (h : PAT X es ta) (i : ∀ σ H Q, ta' σ H Q → ta σ H Q) : PAT X es ta' := fun pos pins s σ H Q h0 I q => h pos pins s σ H Q h0 I (i σ H Q q)
theorem pEt_imp (h : PEt X e te) (i : ∀ σ H Q, te' σ H Q → te σ H Q) : PEt X e te' := fun pins s σ H Q I q => h pins s σ H Q I (i σ H Q q)
theorem pst_ifT (hc : PTT X c tc) (ha : PSsT X a t) (hb : PSsT X b u) : PST X (.If c a b pos) (tIfS tc t u) := by
  intro pins s σ H D h0 I h
  refine wpAny_If (wpAny_mono (PySem.wpAny_toks (hc pins s σ H _ h0 I h)) (fun d s1 q => ?_) fun _ _ z => z.2)
  obtain ⟨hk, H1, I1, q1⟩ := q
  cases d with
  | true => exact ha pins s1 σ H1 D (Nat.le_trans h0 hk) I1 q1
  | false => exact hb pins s1 σ H1 D (Nat.le_trans h0 hk) I1 q1
theorem ptt_not (ha : PTT X e tc) : PTT X (.UnaryOp .Not e pos) (tNot tc) := fun pins s σ H Q h0 I h => isTrue_not (ha pins s σ H (fun c H1 => Q (!c) H1) h0 I h)
theorem ptt_val (h : PET X e te) (he : ∀ whole, isTrue e X.env whole = (do let v ← whole; standAt e.pos; holding [v] (truthy v)) := by intro _; rfl) : PTT X e (tB te) := by
  intro pins s σ H Q h0 I hw
  refine isTrue_plain (thn (h pins s σ H _ h0 I hw) fun v s1 ⟨x, H1, I1, r1, q1⟩ => ?_) (he _)
  obtain ⟨d, rfl, q⟩ := q1
  cases r1
  exact wpAny_truthy_bool ⟨H1, I1, q⟩
theorem pEt_lst {i : Int} {j : Nat} {cp : Pos} (ha : PA X es ta) : PEt X (.List (.Constant (.int i) j cp :: es) pos) (tLst (tCons (tC (.int i)) ta)) := by
  intro pins s σ H Q I hq
  refine wpAny_List_spliced ?_
  show wpAny _ _ (spliced ((false, eval (.Constant (.int i) j cp) X.env) :: backTo pos (starEach es X.env))) _ _ _
  refine Calls.spliced_cons (wpAny_Constant_int ?_)
  refine wpAny_mono (PySem.wpAny_toks (ha.run pos pins _ σ H _ (I.tok _) hq)) (fun us s1 q => ?_) fun _ _ z => z.2
  obtain ⟨hk, xs, H1, I1, r, z, q⟩ := q
  have hk : s.toks + 1 ≤ s1.toks := hk
  have rr : Vals (.int i :: xs) (.int i s.toks :: us) := .cons ⟨s.toks, rfl⟩ r
  refine ⟨by rw [← rr.length]; exact z, ?_⟩
  have hf : H1 s1.heap.objs.size = none := I1.hok.fresh (Nat.le_refl _)
  refine ⟨by show 1 ≤ s1.toks; omega, .ref s1.heap.objs.size, upd H1 s1.heap.objs.size (.lst (.int i :: xs)), I1.laid (t' := s1.toks) (fun b u e => Heap.get?_push_of_some _ e) (Nat.le_refl _) ?_, rfl, q _ hf⟩
  exact ⟨z, _, 0, rr, Heap.get?_push_size _ rfl⟩
theorem pIt {tg iter : Expr} {te : TE} (hi : PEt X iter te) (pins : List (Addr × Obj)) (s : Shared) (σ : L2.St) (H : Hp) (R : It → Hp → Prop) (I : Inv X pins σ H s) (h : iList X.K te σ H R) :
    wpAny (model X.prog X.w) X.A (eval iter X.env) (fun v s1 => wpAny (model X.prog X.w) X.A (pyIter v) (fun itv s2 => 1 ≤ s2.toks ∧ PIE X pins σ tg R itv s2) X.xe s1) X.xe s := by
  refine thn (hi pins s σ H _ I h) fun v s1 ⟨hk1, h1⟩ => ?_
  obtain ⟨x, H1, I1, r1, q1⟩ := h1
  obtain ⟨a, e, ⟨xs, hq⟩, q⟩ := q1
  subst e
  cases r1
  obtain ⟨its, rv, p, hz⟩ := I1.list hq
  refine wpAny_pyIter_list p.isList ⟨hk1, ?_⟩
  refine ⟨s1.heap.objs.size, [s1.heap.objs.size], _, _, H1, rfl, I1.kept (t' := s1.toks) fun b o e => Heap.get?_push_of_some _ e, turn_list a _, ⟨_, Heap.get?_push_size _ rfl, rfl, rfl⟩, fun b hb => ?_, q⟩
  have e : b = s1.heap.objs.size := by simpa using hb
  subst e
  exact I1.fpOk (Nat.le_refl _) (I1.hok.fresh (Nat.le_refl _))
theorem ps_forT {tg iter : Expr} {body : List Stmt} {te : TE} {g : TG} {tb : TS} (hp : PassesOwn (model X.prog X.w) X.A X.env X.xe) (hc : X.calm = true) (hi : PEt X iter te) (hg : PG X tg g) (hb : PSsT X body tb)
    (hs : ∀ x, foldedSetIterable iter X.env x = pure x := by intro _; rfl) : PS X (.For tg iter body [] pos) (tFor (iList X.K te) g tb) := by
  refine ⟨fun pins s σ H D I h => ?_⟩
  refine wpAny_For (thn (pIt (tg := tg) hi pins s σ H _ I h) fun v s1 h1 => thn h1 fun itv s2 h2 => ?_) hs
  obtain ⟨hk2, it, fp, tn, J, H2, e, I2, T, st2, f2, W, ⟨m0, w0⟩, turn⟩ := h2
  subst e
  have stat : ∀ {H' : Hp}, (∀ b ∈ fp, H' b = none) → ∀ b ∈ fp, FpOk X pins H' b := fun hn b hb => ⟨hn b hb, (f2 b hb).2⟩
  refine codeAny_forLoop_any (fun n s' => 1 ≤ s'.toks ∧ ∃ i σ' H', Inv X pins σ' H' s' ∧ tn i s'.heap ∧ (∀ b ∈ fp, H' b = none) ∧ W i n σ' H') ?_ m0 ⟨hk2, 0, σ, H2, I2, st2, fun b hb => (f2 b hb).1, w0⟩
  rintro n s3 ⟨hk3, i, σ3, H3, I3, st3, fr3, w3⟩
  rcases turn i n σ3 H3 w3 with ⟨stop, qn⟩ | ⟨go, N, hN, step⟩
  · refine wpAny_passesOwn hp (thn (T.done X rfl rfl rfl hc i pins s3 σ3 H3 X.xe I3 (stat fr3) st3 stop) fun r s4 ⟨hr, I4⟩ => ?_)
    subst hr
    exact wpAny_execs_nil ⟨σ3, H3, I4, qn⟩
  · refine wpAny_passesOwn hp (wpAny_mono (PySem.wpAny_toks (T.item X rfl rfl rfl hc i pins s3 σ3 H3 X.xe I3 (stat fr3) st3 go)) (fun r s4 q => ?_) fun _ _ z => z.2)
    obtain ⟨hk4, u, hr, h4⟩ := q
    subst hr
    refine wpAny_passesOwn hp (wpAny_mono (PySem.wpAny_toks h4) (fun _ s5 q => ?_) fun _ _ z => z.2)
    obtain ⟨hk5, x, H5, I5, r5, y5, st5, fr5⟩ := q
    have I5' := I5.pinned (stat fr5) (T.obj _ _ st5)
    refine wpAny_passesOwn hp (wpAny_mono (PySem.wpAny_toks (hg.run _ s5 σ3 H5 x u _ I5' r5 (step x H5 y5))) (fun _ s6 q => ?_) fun _ _ z => z.2)
    obtain ⟨hk6, σ6, H6, I6, q6⟩ := q
    have k6 : 1 ≤ s6.toks := Nat.le_trans hk3 (Nat.le_trans hk4 (Nat.le_trans hk5 hk6))
    refine wpAny_passesOwn hp (wpAny_mono (PySem.wpAny_toks (hb _ s6 σ6 H6 _ k6 I6 q6)) (fun f s7 q => ?_) fun _ _ z => z.2)
    obtain ⟨hk7, q7⟩ := q
    have again : ∀ {σ7 : L2.St} {H7 : Hp}, Inv X (pins ++ pinsAt fp s5.heap) σ7 H7 s7 → N σ7 H7 → ∃ m, m < n ∧ (1 ≤ s7.toks ∧ ∃ i σ' H', Inv X pins σ' H' s7 ∧ tn i s7.heap ∧ (∀ b ∈ fp, H' b = none) ∧ W i m σ' H') := fun {σ7 H7} I7 n7 => by
      obtain ⟨m', hm, w7⟩ := hN σ7 H7 n7
      refine ⟨m', hm, Nat.le_trans k6 hk7, i + 1, σ7, H7, I7.unpinned, T.keep _ _ _ st5 fun b hb o e => (I7.pin (b, o) (List.mem_append_right _ (List.mem_append_right _ (mem_pinsAt hb e)))).1, fun b hb => ?_, w7⟩
      obtain ⟨o, e, d⟩ := T.obj _ _ st5 b hb
      exact (I7.pin (b, o) (List.mem_append_right _ (List.mem_append_right _ (mem_pinsAt hb e)))).2.1
    cases f with
    | next => obtain ⟨σ7, H7, I7, n7⟩ := q7; exact again I7 n7
    | cont => obtain ⟨σ7, H7, I7, n7⟩ := q7; exact again I7 n7
    | brk => obtain ⟨σ7, H7, I7, q7⟩ := q7; exact ⟨σ7, H7, I7.unpinned, q7⟩
    | ret v => obtain ⟨x7, σ7, H7, I7, r7, q7⟩ := q7; exact ⟨x7, σ7, H7, I7.unpinned, r7, q7⟩
end
end Vi
namespace Vi
open PySem L2 PyProof.Rows
section
variable {X : Cx} {g : Gi} {B : Bg} {W : WXv} {pos apos : Pos} {st : Stmt} {rest a b body : List Stmt} {ma mb : MS} {e c o tg : Expr} {es : List Expr} {m mo : ME} {mc : MB} {A : MA} {T : TgF}
theorem vs_consT (h1 : PST X st (tS g B W ma)) (h2 : PSsT X rest (tS g B W mb)) : PSsT X (st :: rest) (tS g B W (mSeq ma mb)) := by
  refine psst_imp (psst_cons h1 h2) fun N σ H ⟨env, s, sr, p⟩ => ⟨env, s, sr, ?_⟩
  unfold mSeq at p
  cases q : ma env s.h with
  | nx env' h' =>
    rw [q] at p
    intro σ' H' s' e l sr'
    exact ⟨env', s', sr', by rw [e]; exact PostS.later l p⟩
  | ret d h' => rw [q] at p; exact p
  | brk env' h' => rw [q] at p; exact p
  | cnt env' h' => rw [q] at p; exact p
  | exc env' x h' => rw [q] at p; exact p
  | stuck => rw [q] at p; exact p
theorem vs_oneT (h1 : PST X st (tS g B W ma)) : PSsT X [st] (tS g B W ma) := CwR.psst_one h1
theorem vs_ifT (hc : PTT X c (tT g B W mc)) (ha : PSsT X a (tS g B W ma)) (hb : PSsT X b (tS g B W mb)) : PST X (.If c a b pos) (tS g B W (mIfS mc ma mb)) := by
  refine pst_imp (pst_ifT hc ha hb) fun N σ H ⟨env, s, sr, p⟩ => ?_
  refine (bindSB sr p).mono fun v H1 ⟨s1, sr1, l1, p1⟩ => ?_
  cases v with
  | true => exact iteT ⟨env, s1, sr1, p1⟩
  | false => exact iteF ⟨env, s1, sr1, p1⟩
theorem PTT.of {t : TT} (h : PT X e t) : PTT X e t := fun pins s σ H Q _ I q => h.run pins s σ H Q I q
theorem PAT.of {t : TA} (h : PA X es t) : PAT X es t := fun pos pins s σ H Q _ I q => h.run pos pins s σ H Q I q
theorem PET.of' {t : TE} (h : PE X e t) : PET X e t := fun pins s σ H Q _ I q => h.run pins s σ H Q I q
theorem vt_notT (ha : PTT X e (tT g B W mc)) : PTT X (.UnaryOp .Not e pos) (tT g B W (tNotM mc)) := by
  refine ptt_imp (ptt_not ha) fun σ H Q ⟨env, s, sr, p⟩ => ?_
  refine (bindTT (Q := Q) sr p).mono fun v H1 ⟨s1, sr1, _, p1⟩ => ?_
  exact PostB.pure sr1 p1
theorem vt_valT (h : PET X e (tE g B W m)) (he : ∀ whole, isTrue e X.env whole = (do let v ← whole; standAt e.pos; holding [v] (truthy v)) := by intro _; rfl) : PTT X e (tT g B W (asB m)) :=
  ptt_imp (ptt_val h he) fun σ H Q q => tE_asB q
theorem va_consT {m : ME} {A : MA} (ha : PET X e (tE g B W m)) (hb : PAT X es (tA g B W A)) (hs : starEach (e :: es) X.env = (false, eval e X.env) :: starEach es X.env := by rfl) : PAT X (e :: es) (tA g B W (maCons m A)) := by
  refine pat_imp (pat_cons ha hb hs) fun σ H Q ⟨env, s, sr, p⟩ => ?_
  refine (bindAA (f := fun x xs h => .ok (x :: xs) h) (Q := Q) sr p).mono fun v H1 h1 => h1.mono fun vs H2 ⟨s2, x, xs, sr2, ev2, vr1, vr2, p2⟩ => ?_
  exact p2 _ H2 s2 rfl (Evo.refl _ _) sr2 (.cons vr1 vr2)
def goL (T : TgF) (b : MS) (env : Env) (x : Vl) (h1 : Hc) : RS := match x with
  | .d (.lst xs) => forL T b xs env h1
  | _ => .stuck
def mForL (T : TgF) (a : ME) (b : MS) : MS := fun env h => (a env h).thenS env fun x h1 => goL T b env x h1
theorem forL_imp (hK : g.K = X.K) {t : TG} (q1 : ∀ (B : Bg) (env env' : Env) (s : Sta) (σ : L2.St) (H : Hp) (d : D) (v : V) (Q : L2.St → Hp → Prop), SR g B env s σ H → Rep g s.F s.al d v → T d env = some env' → (∀ σ' H', SR g B env' s σ' H' → Q σ' H') → t v σ H Q) {N : Ends} {σ : L2.St} {H : Hp}
    (h : tS g B W (mForL T m mb) N σ H) : tFor (iList X.K (tE g B W m)) t (tS g B W mb) N σ H := by
  obtain ⟨env, s, sr, p⟩ := h
  unfold mForL at p
  cases em : m env s.h with
  | stuck => rw [em] at p; exact p.elim
  | exc x h1 =>
    rw [em] at p
    refine ⟨env, s, sr, ?_⟩
    rw [em]
    intro cls dd H1 s1 e1 ev sr1 xr
    exact p cls dd σ H1 s1 e1 ev.le sr1 xr
  | ok x h1 =>
    rw [em] at p
    replace p : PostS g B W s (goL T mb env x h1) N := p
    unfold goL at p
    split at p
    · next xs =>
      refine ⟨env, s, sr, ?_⟩
      rw [em]
      intro v H1 s1 e1 ev sr1 vr
      obtain ⟨a, vs, rfl, h2, hr⟩ := vr
      have hq : StL g.K s1 a vs := .inl (.of h2)
      refine ⟨a, rfl, ⟨vs, hK ▸ hq.sqL sr1.good⟩, for_list (K := X.K) (a := a) (xs := vs) (fun i σ H => ∃ env s', SR g B env s' σ H ∧ Le s1 s' ∧ PostS g B W s' (forL T mb (xs.drop i) env s'.h) N)
        ⟨env, s1, sr1, Le.refl s1, by rw [List.drop_zero, e1]; exact PostS.later ev.le p⟩ (fun i σ H _ ⟨env, s', sr', l, _⟩ => hK ▸ (hq.le l).sqL sr'.good) ?_ ?_⟩
      · rintro i y σ H hi ⟨env, s', sr', l, pp⟩
        have hr' := hr.mono2 l.f l.al
        have hl : i < xs.length := by
          rw [← hr.length]
          exact (List.getElem?_eq_some_iff.mp hi).1
        obtain ⟨y', ey, ry⟩ := hr'.get (List.getElem?_eq_getElem hl)
        rw [hi] at ey
        cases ey
        rw [List.drop_eq_getElem_cons hl] at pp
        exact forTurn q1 sr' ry pp fun env2 s2 σ2 H2 l2 sr2 p2 => ⟨env2, s2, sr2, l.trans l2, p2⟩
      · rintro σ H ⟨env, s', sr', l, pp⟩
        rw [hr.length, List.drop_length] at pp
        exact pp σ H s' rfl (Le.refl s') sr'
    · exact p.elim
theorem vs_forKT {i : Int} {j : Nat} {cp lpos : Pos} (hK : g.K = X.K) (hp : PassesOwn (model X.prog X.w) X.A X.env X.xe) (hc : X.calm = true) (ha : PA X es (tA g B W A)) (ht : TgV X g tg T) (hb : PSsT X body (tS g B W mb))
    (hs : ∀ x, foldedSetIterable (.List (.Constant (.int i) j cp :: es) lpos) X.env x = pure x := by intro _; rfl) : PS X (.For tg (.List (.Constant (.int i) j cp :: es) lpos) body [] pos) (tS g B W (mForL T (mA1 (fLst false) (maCons (mC (.int i)) A)) mb)) := by
  obtain ⟨t, p1, q1⟩ := ht
  have he : PEt X (.List (.Constant (.int i) j cp :: es) lpos) (tE g B W (mA1 (fLst false) (maCons (mC (.int i)) A))) := by
    have i0 : ∀ {σ : L2.St} {H : Hp} {Q : VK}, tE g B W (mC (.int i)) σ H Q → tC (.int i) σ H Q := fun ⟨env, s, sr, p⟩ => p (.int i) _ s rfl (Evo.refl _ _) sr rfl
    have i1 : ∀ {σ : L2.St} {H : Hp} {Q : List V → Hp → Prop}, tA g B W (maCons (mC (.int i)) A) σ H Q → tCons (tC (.int i)) (tA g B W A) σ H Q := fun {σ H Q} ⟨env, s, sr, p⟩ => by
      refine i0 ((bindAA (f := fun x xs h => .ok (x :: xs) h) (Q := Q) sr p).mono fun v H1 h1 => h1.mono fun vs H2 ⟨s2, x, xs, sr2, ev2, vr1, vr2, p2⟩ => ?_)
      exact p2 _ H2 s2 rfl (Evo.refl _ _) sr2 (.cons vr1 vr2)
    refine pEt_imp (pEt_lst ha) fun σ H Q ⟨env, s, sr, p⟩ => ?_
    refine i1 ((bindA (Q := Q) sr p).mono fun vs H1 ⟨s2, ys, sr2, ev2, vr2, p2⟩ => ?_)
    unfold fLst at p2
    cases e2 : datas ys with
    | none => rw [e2] at p2; exact p2.elim
    | some ds =>
      rw [e2] at p2
      by_cases hl : ds.length ≤ 100000
      · simp only [if_pos hl] at p2
        have rr := vr2.datas e2
        exact ⟨by rw [rr.length]; exact size_of hl, fun p hp => PostE.newLO sr2 p2 rr hp⟩
      · simp only [if_neg hl] at p2
        exact p2.elim
  exact ps_imp (ps_forT hp hc he p1 hb hs) fun N σ H h => forL_imp hK q1 h
theorem vs_forTE (hK : g.K = X.K) (hp : PassesOwn (model X.prog X.w) X.A X.env X.xe) (hc : X.calm = true) (he : PET X e (tE g B W m)) (ht : TgV X g tg T) (hb : PSs X body (tS g B W mb))
    (hs : ∀ x, foldedSetIterable e X.env x = pure x := by intro _; rfl) : PST X (.For tg e body [] pos) (tS g B W (mForL T m mb)) := by
  obtain ⟨t, p1, q1⟩ := ht
  exact pst_imp (pst_for hp hc (pit_list he) p1 hb hs) fun N σ H h => forL_imp hK q1 h
def fRepl (y z : Str) (x : Vl) (h : Hc) : R Vl := match x with
  | .d (.str a) => if a.length + (a.length + 1) * z.length ≤ 16777216 then .ok (.d (.str (Txt.replace a y z))) h else .stuck
  | _ => .stuck
theorem ve_replT {y z : Str} {j k : Nat} {c0 c1 : Pos} (ho : PET X o (tE g B W mo)) (hyz : (y == z) = false := by decide)
    (hst : starEach [.Constant (.str y) j c0, .Constant (.str z) k c1] X.env = [(false, eval (.Constant (.str y) j c0) X.env), (false, eval (.Constant (.str z) k c1) X.env)] := by rfl)
    (hbase : attributeBase o "replace" X.env (eval o X.env) = eval o X.env := by rfl) (hline : (apos.endLine == pos.line) = true := by rfl) :
    PET X (.Call (.Attribute o "replace" apos) [.Constant (.str y) j c0, .Constant (.str z) k c1] [] pos) (tE g B W (m1 (fRepl y z) mo)) := by
  refine pet_imp (CwR.pet_replT ho hyz hst hbase hline) fun σ H Q ⟨env, s, sr, p⟩ => ?_
  refine (bindE (Q := Q) sr p).mono fun v H1 ⟨s1, x, sr1, _, r1, p1⟩ => ?_
  unfold fRepl at p1
  split at p1
  · next a =>
    cases r1
    by_cases hl : a.length + (a.length + 1) * z.length ≤ 16777216
    · rw [if_pos hl] at p1
      exact ⟨a, rfl, hl, PostE.pure sr1 p1 rfl⟩
    · rw [if_neg hl] at p1
      exact p1.elim
  · exact p1.elim
theorem pet_m1 {id : String} {name : Str} {to te : TE} {r : V → List V → Hp → VK → Prop} (slot : Slot "str" name id) (ty : typeOf (.builtin id) = pure (.type "method_descriptor")) (rule : MtR X id r) (ho : PET X o to) (he : PE X e te)
    (hs : starEach [e] X.env = [(false, eval e X.env)] := by rfl) (hbase : attributeBase o name X.env (eval o X.env) = eval o X.env := by rfl) (hline : (apos.endLine == pos.line) = true := by rfl) :
    PET X (.Call (.Attribute o name apos) [e] [] pos) (tM1 r to te) := by
  intro pins s σ H Q h0 I h
  refine PySem.Call_method1 hbase hs hline (thn (ho pins s σ H _ h0 I h) fun v s1 ⟨x, H1, I1, r1, q1⟩ => ?_)
  obtain ⟨⟨a, rfl⟩, q1⟩ := q1
  obtain ⟨t, rfl⟩ := _root_.id r1
  refine ⟨"str", _, F.plainAttrs_str, slot, ty, typeIs_str _ _ _, (fun _ e => nomatch e), Calls.callWith_builtin rfl (Calls.evalArgs_plain (Calls.spliced_cons ?_))⟩
  exact thn (he.run pins s1 σ H1 _ I1 q1) fun u s2 ⟨y, H2, I2, r2, q2⟩ => Calls.spliced_nil (rule pins s2 σ H2 _ [y] _ [u] Q I2 r1 (.cons r2 .nil) q2)
theorem ve_splitT (own : Bool) (ho : PET X o (tE g B W mo)) (he : PE X e (tE g B W m)) (hs : starEach [e] X.env = [(false, eval e X.env)] := by rfl) (hbase : attributeBase o "split" X.env (eval o X.env) = eval o X.env := by rfl) (hline : (apos.endLine == pos.line) = true := by rfl) :
    PET X (.Call (.Attribute o "split" apos) [e] [] pos) (tE g B W (mStr1 (fSplit own) mo m)) := by
  refine pet_imp (pet_m1 F.slot_str_split F.type_str_split mt_split ho he hs hbase hline) fun σ H Q ⟨env, s, sr, p⟩ => ?_
  refine (str1E (a := mo) sr p).mono fun v H1 ⟨a, hv, q⟩ => ⟨⟨a, hv⟩, q.mono fun w H2 ⟨s2, y, sr2, r2, p2⟩ => ?_⟩
  unfold fSplit at p2
  split at p2
  · next b =>
    by_cases hc : b.length ≠ 0 ∧ a.length + 2 ≤ sizeLine
    · rw [if_pos hc] at p2
      cases r2
      exact ⟨a, b, hv, rfl, by simpa using hc.1, hc.2, fun q hq => PostE.newLO sr2 p2 (reps_txts _) hq⟩
    · rw [if_neg hc] at p2
      exact p2.elim
  · exact p2.elim
end
structure FnGT (P : Program) (w : World) (K : PySem.W.Frag) (mg : Str → Option Value) (base : Heap) (k : Nat) (f : Addr) (fd : FuncData) (ps : List Str) (sp : Sp) : Prop where
  len : ∀ vs H Q E, sp vs H Q E → vs.length = ps.length
  run : ∀ (A : Around) (outer : List PySem.Env) (s : Shared) (H : Hp) (args : Args) (us : List Value) (vs : List V) (Q : VK) (E : XK), 1 ≤ s.toks → Room k A → A.guards = some [] → Env0 P w K mg base A outer s H → BindsTo s fd args (ps.zip us) → Vals vs us → sp vs H Q E →
    codeAny (model P w) A (.call (.ref f) args) (CR (L2.CX P w) outer P w H s Q E) s
theorem fn_GT {P : Program} {w : World} {K : PySem.W.Frag} {mg : Str → Option Value} {base : Heap} {x qual : Str} {params : Arguments} {body : List Stmt} {scope : Scope} {dvs : List V} {kws : List (Str × V)} {f : Addr} {fd : FuncData} {N ps : List Str} {k : Nat} {sp : Sp}
    (F : FunD K x qual params body scope dvs kws f fd) (S : FnScope N ps scope) (len : ∀ vs H Q E, sp vs H Q E → vs.length = ps.length)
    (hbody : ∀ (cdv : Value) (A : Around) (outer : List PySem.Env) (s : Shared) (H : Hp) (vs : List V) (Q : VK) (E : XK), Room k (A.deeper (envOfC qual scope s.heap.objs.size f cdv)) → A.guards = some [] → sp vs H Q E →
      ∃ t, PSsT (cxOf (L2.CX P w) P w K mg base N qual scope f cdv A outer s H E) body t ∧ t { nx := fun _ H' => Q .non H', rt := Q } (start N vs) H) : FnGT P w K mg base (k + 1) f fd ps sp := by
  obtain ⟨oc, od, dV, kV, doc, pm, an, cdv, ct, osl, rfl, lk, hcd, _, _⟩ := F.ex
  refine ⟨len, ?_⟩
  intro A outer s H args us vs Q E h0 room gds e0 bnd rv want
  have many := len _ _ _ _ want
  have inK : K.In s.heap := e0.mod.kin.keeps fun b o e => (e0.bs b o e).1
  have free : s.heap.NoLimit := e0.mod.nolimit.keeps fun b o e => (e0.bs b o e).1
  have kinds : ∀ y ∈ ps.zip us, scope.names.lookup y.1 = some .local ∨ (scope.names.lookup y.1 = some .cell ∧ ((cellsFrom (s.heap.objs.size + 1) scope.names []).lookup y.1).isSome = true) := by
    rintro ⟨n, v⟩ hy
    rcases S.par n (List.of_mem_zip hy).1 with q | q
    · exact .inl q
    · exact .inr ⟨q, PySem.W.cellsFrom_some _ _ _ (.inl q)⟩
  refine codeAny_call_function room.depth (inK _ _ lk) rfl S.co S.gen rfl (PySem.W.codeRec_of inK hcd) (bnd _ _ _ _ ?_)
  refine PySem.wpAny_with_toks (n := 1) h0 ?_
  refine wpAny_newFunctionEnv_cells S.kind kinds ?_
  intro env he s1 x hk1
  subst he
  refine ⟨free.keeps x.toInCall.keep, codeAny_func ?_⟩
  obtain ⟨t, ht, hq⟩ := hbody cdv A outer s H vs Q E (room.deeper _) gds want
  have I : Inv (cxOf (L2.CX P w) P w K mg base N qual scope f cdv A outer s H E) [] (start N vs) H s1 := inv_start S room.hd e0 many rv x
  have fin : ∀ {s' : Shared} {σ' : L2.St} {H' : Hp} {v : V} {u : Value}, Inv (cxOf (L2.CX P w) P w K mg base N qual scope f cdv A outer s H E) [] σ' H' s' → RelV v u → Q v H' → CE outer P w H s Q u s' := by
    intro s' σ' H' v u J r q
    exact ⟨v, H', J.os, J.bare, J.base, J.hok, r, q⟩
  refine wpAny_mono (ht [] s1 (start N vs) H _ hk1 I hq) ?_ fun e s' hs => hs
  intro fl s' hs
  cases fl with
  | ret u =>
    obtain ⟨v, σ', H', J, r, q⟩ := hs
    exact fin J r q
  | next =>
    obtain ⟨σ', H', J, q⟩ := hs
    exact fin (v := V.non) (u := Value.none) J rfl q
  | brk => exact (hs.choose_spec.choose_spec.2).elim
  | cont => exact (hs.choose_spec.choose_spec.2).elim
theorem fn_DT {P : Program} {w : World} {g : Gi} {mg : Str → Option Value} {base : Heap} {x qual : Str} {params : Arguments} {body : List Stmt} {scope : Scope} {dvs : List V} {kws : List (Str × V)} {f : Addr} {fd : FuncData} {N ps : List Str} {k : Nat} {m : MS}
    (G : GiOk g) (F : FunD g.K x qual params body scope dvs kws f fd) (S : FnScope N ps scope)
    (hbody : ∀ (cdv : Value) (A : Around) (outer : List PySem.Env) (s : Shared) (H : Hp) (E : XK) (B : Bg), Room k (cxOf (L2.CX P w) P w g.K mg base N qual scope f cdv A outer s H E).A → Bd (cxOf (L2.CX P w) P w g.K mg base N qual scope f cdv A outer s H E) g (fun cls d _ H => E cls d H) →
      PSsT (cxOf (L2.CX P w) P w g.K mg base N qual scope f cdv A outer s H E) body (tS g B (fun cls d _ H => E cls d H) m)) :
    FnGT P w g.K mg base (k + 1) f fd ps (spD g ps.length (fnOf N.length ps.length m)) := by
  refine fn_GT F S (fun vs H Q E h => ?_) ?_
  · obtain ⟨_, _, hl, _⟩ := h
    exact hl
  · intro cdv A outer s H vs Q E hr gds h
    obtain ⟨st, ds, hl, gd, r, p⟩ := h
    have hb := hbody cdv A outer s H E ⟨st, H, 0, 0, 0, 0⟩ hr ⟨G, rfl, rfl, gds, takes_of rfl rfl rfl rfl, passes_of rfl, hr.units⟩
    refine ⟨_, hb, mkEnv N.length ds, st, start_sr gd r, ?_⟩
    have hl2 : ds.length = ps.length := by rw [← r.length]; exact hl
    unfold fnOf at p
    rw [if_pos hl2] at p
    cases e : m (mkEnv N.length ds) st.h with
    | nx env h =>
      rw [e] at p
      intro σ' H' s' e1 _ sr
      exact p .non H' s' e1 sr.evo sr.good rfl
    | ret d h =>
      rw [e] at p
      intro v H' s' e1 ev gd' rr
      exact p v H' s' e1 ev gd' rr
    | exc env x h =>
      rw [e] at p
      intro cls dd σ' H' s' e1 _ sr xr
      exact p cls dd H' s' e1 sr.evo sr.good xr
    | brk env h => rw [e] at p; exact p.elim
    | cnt env h => rw [e] at p; exact p.elim
    | stuck => rw [e] at p; exact p.elim
structure VFnT (X : Cx) (g : Gi) (x : Str) (n : Nat) (dd : List D) (F : Fn) : Prop where
  ex : ∃ (k : Nat) (f : Addr) (fd : FuncData) (ps : List Str) (dvs : List V) (ds : List Value), FnGT X.prog X.w X.K X.mg X.base k f fd ps (spD g ps.length F) ∧ Room k X.A ∧ X.mg x = some (.ref f) ∧ PySem.W.keepIn X.K (.ref f) = true ∧
    Binds X.K fd ps ds ∧ Vals dvs ds ∧ (∀ F al, Reps g F al dd dvs) ∧ n + dvs.length = ps.length
structure RdyT (P : Program) (w : World) (K : PySem.W.Frag) (mg : Str → Option Value) (base : Heap) (g : Gi) (x : Str) (k n : Nat) (dd : List D) (F : Fn) : Prop where
  ex : ∃ (f : Addr) (fd : FuncData) (ps : List Str) (dvs : List L2.V) (ds : List Value), FnGT P w K mg base k f fd ps (spD g ps.length F) ∧ mg x = some (.ref f) ∧ PySem.W.keepIn K (.ref f) = true ∧
    Binds K fd ps ds ∧ Vals dvs ds ∧ (∀ F al, Reps g F al dd dvs) ∧ n + dvs.length = ps.length
theorem RdyT.v {X : Cx} {g : Gi} {x : Str} {k j n : Nat} {dd : List D} {F : Fn} (h : RdyT X.prog X.w X.K X.mg X.base g x k n dd F) (hr : Room j X.A) (hj : k ≤ j) : VFnT X g x n dd F := by
  obtain ⟨f, fd, ps, dvs, ds, h1, h2, h3, h4, h5, h6, h7⟩ := h.ex
  exact ⟨k, f, fd, ps, dvs, ds, h1, hr.mono hj, h2, h3, h4, h5, h6, h7⟩
section
variable {X : Cx} {g : Gi} {B : Bg} {W : WXv} {pos p : Pos} {e : Expr} {es : List Expr} {A : MA} {F : Fn} {dd : List D} {n : Nat} {x : Str}
theorem run_GT {CXE : L2.St → XK} {k : Nat} {f : Addr} {fd : FuncData} {ps : List Str} {sp : Sp} {dvs : List V} {ds : List Value} {pins : List (Addr × Obj)} {σ : L2.St} {H : Hp} {s : Shared} {Q : VK} {us : List Value} {vs : List V} (h0 : 1 ≤ s.toks)
    (F : FnGT X.prog X.w X.K X.mg X.base k f fd ps sp) (hr : Room k X.A) (hg : X.A.guards = some []) (hb : Binds X.K fd ps ds) (hd : Vals dvs ds) (hx : PassesAt (L2.CX X.prog X.w) X σ (CXE σ))
    (I : Inv X pins σ H s) (r : Vals vs us) (h : sp (vs ++ dvs) H Q (CXE σ)) : wpAny (model X.prog X.w) X.A (call (.ref f) us) (EP X pins σ Q) X.xe s := by
  have r2 : Vals (vs ++ dvs) (us ++ ds) := r.append hd
  have hl : (us ++ ds).length = ps.length := by rw [← r2.length]; exact F.len _ _ _ _ h
  refine wpAny_call (codeAny_mono (F.run X.A X.stack s H ⟨us, []⟩ (us ++ ds) (vs ++ dvs) Q (CXE σ) h0 hr hg I.env0 (hb s us I.kIn hl) r2 h) ?_)
  intro r s' hq
  cases r with
  | error e => exact hx pins H s e s' I hq
  | ok fl =>
    cases fl with
    | ret u => exact I.after hq
    | next => exact False.elim hq
    | brk => exact False.elim hq
    | cont => exact False.elim hq
theorem ve_callT (V : VFnT X g x n dd F) (hgd : X.A.guards = some []) (tk : Takes X W) (hg : Gl X x) (ha : PA X (e :: es) (tA g B W A)) (hdb : (x == ("__debug__" : Str)) = false := by decide)
    (he : starEach (e :: es) X.env = (false, eval e X.env) :: starEach es X.env := by rfl) (hpl : (backTo pos (starEach es X.env)).any (·.1) = false := by rfl) :
    PET X (.Call (.Name x p) (e :: es) [] pos) (tE g B W (mA1 (fCallN n F dd) A)) := by
  obtain ⟨k, f, fd, ps, dvs, ds, FG, hr, hm, hk, hb, hd, hdd, hn⟩ := V.ex
  intro pins s σ H Q h0 I h
  refine wpAny_Call_Name_kw (ld_glob I hg hm ?_ hdb)
  obtain ⟨env, st, sr, pp⟩ := h
  have hA := (bindA (Q := Q) sr pp)
  refine PySem.W.callWith_K (h₀ := X.base) I.ok.mod.kin hk (wpAny_mono (PySem.wpAny_toks (ha.run pos pins s σ H _ I hA)) (fun us s1 q => ?_) fun _ _ z => z.2) he hpl
  obtain ⟨hk1, vs, H1, I1, r, st1, xs, sr1, ev1, r1, p1⟩ := q
  refine ⟨I1.kIn, ?_⟩
  unfold fCallN at p1
  by_cases hl : xs.length = n
  · rw [if_pos hl] at p1
    unfold fCall at p1
    cases e1 : datas xs with
    | none => rw [e1] at p1; exact p1.elim
    | some dl =>
      rw [e1] at p1
      have rr := (r1.datas e1).append (hdd st1.F st1.al)
      exact run_GT (CXE := fun σ => WE W σ) (Nat.le_trans h0 hk1) FG hr hgd hb hd (passAt tk σ) I1 r (spD_of sr1 (by rw [List.length_append, r1.length, hl]; exact hn) rr p1)
  · rw [if_neg hl] at p1
    exact p1.elim
theorem ve_callA (V : VFn X g x n dd F) (hgd : X.A.guards = some []) (tk : Takes X W) (hg : Gl X x) (ha : PAT X (e :: es) (tA g B W A)) (hdb : (x == ("__debug__" : Str)) = false := by decide)
    (he : starEach (e :: es) X.env = (false, eval e X.env) :: starEach es X.env := by rfl) (hpl : (backTo pos (starEach es X.env)).any (·.1) = false := by rfl) :
    PET X (.Call (.Name x p) (e :: es) [] pos) (tE g B W (mA1 (fCallN n F dd) A)) := by
  obtain ⟨k, f, fd, ps, dvs, ds, FG, hr, hm, hk, hb, hd, hdd, hn⟩ := V.ex
  intro pins s σ H Q h0 I h
  refine wpAny_Call_Name_kw (ld_glob I hg hm ?_ hdb)
  obtain ⟨env, st, sr, pp⟩ := h
  have hA := (bindA (Q := Q) sr pp)
  refine PySem.W.callWith_K (h₀ := X.base) I.ok.mod.kin hk (thn (ha pos pins s σ H _ h0 I hA) fun us s1 ⟨vs, H1, I1, r, st1, xs, sr1, ev1, r1, p1⟩ => ⟨I1.kIn, ?_⟩) he hpl
  unfold fCallN at p1
  by_cases hl : xs.length = n
  · rw [if_pos hl] at p1
    unfold fCall at p1
    cases e1 : datas xs with
    | none => rw [e1] at p1; exact p1.elim
    | some dl =>
      rw [e1] at p1
      have rr := (r1.datas e1).append (hdd st1.F st1.al)
      exact run_G (CXE := fun σ => WE W σ) FG hr hgd hb hd (passAt tk σ) I1 r (spD_of sr1 (by rw [List.length_append, r1.length, hl]; exact hn) rr p1)
  · rw [if_neg hl] at p1
    exact p1.elim
end
section
variable {P : Program} {w : World} {K : PySem.W.Frag} {mg : Str → Option Value} {base : Heap} {g : Gi}
theorem rdyT_of {f : Addr} {x : Str} {fd : FuncData} {ps : List Str} {qual : Str} {params : Arguments} {body : List Stmt} {scope : Scope} {nm : Str} {k : Nat} {F : Fn} (FD : FunD K nm qual params body scope [] [] f fd) (FG : FnGT P w K mg base k f fd ps (spD g ps.length F)) (hm : mg x = some (.ref f))
    (hb : ∀ (kV doc pm : Value) (an : Option Addr) (cdv ct : Value) (us : List Value), us.length = ps.length → bindArgs (PySem.W.fnOf nm qual params body scope .none kV doc pm an cdv ct) ⟨us, []⟩ = pure (ps.zip us)) {n : Nat} (hn : n = ps.length) : RdyT P w K mg base g x k n [] F :=
  ⟨f, fd, ps, [], [], FG, hm, FD.kp, FD.bindsN hb, .nil, fun _ _ => rfl, by rw [hn]; rfl⟩
end
end Vi
namespace Vi
open PySem PySem.Spec L2 PyProof.Rows
section
variable {prog : Program} {w : World} {A : Around} {E : Value → Shared → Prop} {s : Shared}
theorem hint_str {x : Str} {t : Tok} {Q : Bool → Shared → Prop} (h : Q false s) : wpAny (model prog w) A (Builtin.List.listLengthHint (.str x t)) Q E s := by
  unfold Builtin.List.listLengthHint
  refine wpAny_bind (wpAny_specialOf (T := "str") (v := .str x t) rfl F.str_len ?_)
  wp_delta
  refine wpAny_bind (wpAny_isInstance (T := "str") (v := .str x t) (b := true) rfl (by rw [isSubtype_type]; kernel_rfl) ?_)
  show wpAny _ A (typeOf (Value.str x t) >>= _) _ _ _
  refine wpAny_bind (wpAny_typeOf (T := "str") (v := .str x t) rfl ?_)
  exact wpAny_pure h
theorem extend_str {R : Result → Shared → Prop} (hh : A.handled = none) (x : Str) (t : Tok) (S : Addr) (res : Value) (c₀ : Nat) (hS : s.heap.get? S = some { cls := .type "list", data := .seq #[] c₀ })
    (hR : ∀ h' tk acc' c', (∀ b o, b ≠ S → s.heap.get? b = some o → h'.get? b = some o) → h'.get? S = some { cls := .type "list", dict := none, data := .seq acc' c', slots := #[] } →
      ItemsOf (SignAt x) acc' x.cps.size → R (.ok (.ret res)) { s with heap := h', toks := tk }) (hn : x.cps.size ≤ sizeLine) :
    wpAny (model prog w) A.in1 (Builtin.List.listExtendWith (.ref S) (.str x t) res)
      (fun fin s' => match fin with | .done f => R (.ok f) s' | .again c' => c'.quiet = true ∧ codeAny (model prog w) A c' R s') (fun e s' => R (.error e) s') s := by
  have hSI : S ≠ s.heap.objs.size := Nat.ne_of_lt (Heap.lt_size hS)
  have hSf : S ∉ [s.heap.objs.size] := fun hm => hSI (List.mem_singleton.mp hm)
  unfold Builtin.List.listExtendWith
  refine wpAny_bind (wpAny_typeOf (T := "str") (v := .str x t) rfl ?_)
  have h1 : Builtin.List.listSameRef (.ref S) (.str x t) = false := rfl
  have h2 : (Value.type "str" == Value.type "list") = false := by decide
  have h3 : (Value.type "str" == Value.type "tuple") = false := by decide
  simp only [h1, h2, h3, Bool.or_false, Bool.false_eq_true, if_false]
  refine wpAny_bind (wpAny_pyIter_str fun o St W hst => ?_)
  refine wpAny_bind (wpAny_holding (hint_str ?_))
  rw [if_neg (by first | decide | decide +kernel)]
  refine wpAny_pure ⟨plainId_quiet PySem.F.plain_extend_loop _, codeAny_extend_loopS (W A.in1 hh).toS hn _ hSf _ x.cps.size 0 _ _ _ rfl (Nat.zero_le _) hst (Heap.get?_push_of_some _ hS) (ItemsOf.nil _) fun s' acc' c' hm hS' hacc => ?_⟩
  rw [Moved.eq_with hm]
  refine hR s'.heap s'.toks acc' c' (fun b ob hb e => hm.heap b ob (fun hmem => ?_) (Heap.get?_push_of_some _ e)) hS' hacc
  rcases List.mem_cons.mp hmem with e' | hmem
  · exact hb e'
  · exact absurd (Heap.lt_size e) (by rw [List.mem_singleton.mp hmem]; exact Nat.lt_irrefl _)
theorem list_init_str {R : Result → Shared → Prop} (hh : A.handled = none) (x : Str) (t : Tok) (S : Addr) (hS : s.heap.get? S = some { cls := .type "list", data := .seq #[] })
    (hR : ∀ h' tk acc' c', (∀ b o, b ≠ S → s.heap.get? b = some o → h'.get? b = some o) → h'.get? S = some { cls := .type "list", dict := none, data := .seq acc' c', slots := #[] } →
      ItemsOf (SignAt x) acc' x.cps.size → R (.ok (.ret .none)) { s with heap := h', toks := tk }) (hn : x.cps.size ≤ sizeLine) :
    wpAny (model prog w) A.in1 (Builtin.«list.__init__» ⟨[.ref S, .str x t], []⟩)
      (fun fin s' => match fin with | .done f => R (.ok f) s' | .again c' => c'.quiet = true ∧ codeAny (model prog w) A c' R s') (fun e s' => R (.error e) s') s := by
  show wpAny _ _ (do let old ← Builtin.List.listItems (.ref S); Builtin.List.listUpdate (.ref S) (fun _ => #[]); letGo old.toList.reverse; Builtin.List.listExtendWith (.ref S) (.str x t) .none) _ _ s
  refine wpAny_bind ?_
  unfold Builtin.List.listItems
  refine wpAny_bind (wpAny_seqItems hS rfl (wpAny_pure ?_))
  show wpAny _ _ (updateSeq S (fun _ => #[]) >>= fun _ => letGo (#[] : Array Value).toList.reverse >>= fun _ => Builtin.List.listExtendWith (.ref S) (.str x t) .none) _ _ s
  refine wpAny_bind (wpAny_updateSeq hS rfl ?_)
  have hS₂ := Heap.get?_update_self (Obj.mapSeq (fun _ => (#[] : Array Value))) hS rfl
  have oth : ∀ b o, b ≠ S → s.heap.get? b = some o → (s.heap.update S (Obj.mapSeq (fun _ => (#[] : Array Value)))).get? b = some o :=
    fun b o hb e => (Heap.get?_update_other _ _ (Ne.symm hb)).trans e
  refine wpAny_bind (wpAny_letGo ?_)
  refine extend_str hh x t S .none _ hS₂ (fun h' tk acc' c' hk hS' hacc => ?_) hn
  exact hR h' tk acc' c' (fun b o hb e => hk b o hb (oth b o hb e)) hS' hacc
theorem call_list_str {x : Str} {t : Tok} {Q : Value → Shared → Prop} (hh : A.handled = none) (hn : x.cps.size ≤ sizeLine)
    (hQ : ∀ h' tk acc' c', (∀ b o, s.heap.get? b = some o → h'.get? b = some o) →
      h'.get? s.heap.objs.size = some { cls := .type "list", dict := none, data := .seq acc' c', slots := #[] } → ItemsOf (SignAt x) acc' x.cps.size → Q (.ref s.heap.objs.size) { s with heap := h', toks := tk }) :
    wpAny (model prog w) A (call (.type "list") [.str x t]) Q E s := by
  refine callType_codes (Q₁ := fun obj s₁ => obj = .ref s.heap.objs.size ∧ s₁ = { s with heap := s.heap.push { cls := .type "list", data := .seq #[] } }) PySem.F.called_list (PySem.F.typeCall_list_1 _) PySem.F.entry_list_init
    (code_list_new _ ⟨rfl, rfl⟩) fun obj s₁ h₁ => ?_
  obtain ⟨rfl, rfl⟩ := h₁
  have hS : (s.heap.push { cls := .type "list", data := .seq #[] }).get? s.heap.objs.size = some { cls := .type "list", data := .seq #[] } := Heap.get?_push_size _ rfl
  refine ⟨⟨_, hS, rfl⟩, PySem.F.args_list_init_2 _ _, list_init_str (A := A.in1) hh x t _ hS (fun h' tk acc' c' hk hS' hacc => ?_) hn⟩
  exact ⟨rfl, hQ h' tk acc' c' (fun b o e => hk b o (Nat.ne_of_lt (Heap.lt_size e)) (Heap.get?_push_of_some _ e)) hS' hacc⟩
end
def chV (x : Str) : List V := x.cps.toList.map fun c => V.str ⟨#[c]⟩
section
variable {X : Cx} {g : Gi}
theorem call_listS (hcalm : X.calm = true) : CallR X (.type "list") (fun xs H Q => ∃ x : Str, xs = [.str x] ∧ x.cps.size ≤ sizeLine ∧ ∀ p, H p = none → Q (.ref p) (upd H p (.lst (chV x)))) := by
  intro pins s σ H xs us Q I r q
  obtain ⟨x, ex, z, q⟩ := q
  subst ex
  obtain ⟨u, eu, rx⟩ := vals1 r
  subst eu
  obtain ⟨t, rfl⟩ := rx
  refine call_list_str (I.ok.hd hcalm) z fun h' tk acc c' hk hD hacc => ?_
  have hl : (chV x).length = x.cps.size := by unfold chV; rw [List.length_map, Array.length_toList]
  have hv : Vals (chV x) acc.toList := vals_of_idx (chV x) acc.toList (by rw [Array.length_toList, hl]; exact hacc.1) fun j v e => by
    obtain ⟨c, u, h1, h2⟩ := hacc.2 j v (by rw [← Array.getElem?_toList]; exact e)
    refine ⟨.str ⟨#[c]⟩, ?_, u, h2⟩
    unfold chV
    rw [List.getElem?_map, Array.getElem?_toList, h1]
    rfl
  exact ⟨.ref s.heap.objs.size, upd H s.heap.objs.size (.lst (chV x)), I.laid (t' := tk) hk (Nat.le_refl _)
    (show ObjOk X.prog X.w _ _ _ (.lst (chV x)) from ⟨by rw [hl]; exact z, acc.toList, c', hv, by rw [Array.toArray_toList]; exact hD⟩), rfl, q _ (I.hok.fresh (Nat.le_refl _))⟩
theorem reps_ch {F : Hp} {al : Nat → Option Addr} (x : Str) : Reps g F al (chD x) (chV x) := by
  unfold chD chV
  induction x.cps.toList with
  | nil => rfl
  | cons c r ih => exact ⟨_, _, rfl, rfl, ih⟩
def fListS (o : Bool) (xs : List Vl) (h : Hc) : R Vl := match xs with
  | [.d (.str z)] => if z.cps.size ≤ 100000 then .ok (Vl.ofL o (chD z)) h else .stuck
  | _ => fList o xs h
theorem c_listS (o : Bool) (hcalm : X.calm = true) (hK : g.K = X.K) : CallV X g (.type "list") (fListS o) := by
  obtain ⟨r0, c0, f0⟩ := c_list (g := g) (X := X) o hK
  refine ⟨fun vs H Q => r0 vs H Q ∨ (∃ x : Str, vs = [.str x] ∧ x.cps.size ≤ sizeLine ∧ ∀ p, H p = none → Q (.ref p) (upd H p (.lst (chV x)))), fun pins s σ H vs us Q I r q => ?_, fun B W env s σ H xs vs Q sr r p => ?_⟩
  · rcases q with q | q
    · exact c0 pins s σ H vs us Q I r q
    · exact call_listS hcalm pins s σ H vs us Q I r q
  · unfold fListS at p
    split at p
    · next z =>
      by_cases hl : z.cps.size ≤ 100000
      · rw [if_pos hl] at p
        obtain ⟨v, rfl, rr⟩ := r.one
        cases rr
        exact .inr ⟨z, rfl, size_of hl, fun q hq => PostE.newLO sr p (reps_ch z) hq⟩
      · rw [if_neg hl] at p
        exact p.elim
    · exact .inl (f0 B W env s σ H _ vs Q sr r p)
end
end Vi
set_option maxHeartbeats 4000000
namespace G75
open PySem L2 PyProof.Rows Vi
section
variable {P : Program} {w : World} {K : PySem.W.Frag} {mg : Str → Option Value} {base : Heap}
abbrev Gn (w : World) (K : PySem.W.Frag) (mg : Str → Option Value) (base : Heap) : Prop := GndW PDx ck fn ts w K mg base
theorem gl_BadAct (Z : Gn w K mg base) : mg "BadAct" = some (.ref (He.ga K "BadAct")) := He.glo_ok Z.X Z.G (Z.S.fact 1)
theorem gl_BadLine (Z : Gn w K mg base) : mg "BadLine" = some (.ref (He.ga K "BadLine")) := He.glo_ok Z.X Z.G (Z.S.fact 2)
theorem gl_BadText (Z : Gn w K mg base) : mg "BadText" = some (.ref (He.ga K "BadText")) := He.glo_ok Z.X Z.G (Z.S.fact 3)
theorem gl_LotError (Z : Gn w K mg base) : mg "LotError" = some (.ref (He.ga K "LotError")) := He.glo_ok Z.X Z.G (Z.S.fact 4)
theorem gl_PlainReader (Z : Gn w K mg base) : mg "PlainReader" = some (.ref (He.ga K "PlainReader")) := He.glo_ok Z.X Z.G (Z.S.fact 5)
theorem gl_Refused (Z : Gn w K mg base) : mg "Refused" = some (.ref (He.ga K "Refused")) := He.glo_ok Z.X Z.G (Z.S.fact 6)
theorem gl_WORDS (Z : Gn w K mg base) : mg "WORDS" = some (.ref (He.ga K "WORDS")) := He.glo_ok Z.X Z.G (Z.S.fact 7)
theorem gl__law_bag (Z : Gn w K mg base) : mg "_law_bag" = some (.ref (He.ga K "_law_bag")) := He.glo_ok Z.X Z.G (Z.S.fact 8)
theorem gl__law_draw (Z : Gn w K mg base) : mg "_law_draw" = some (.ref (He.ga K "_law_draw")) := He.glo_ok Z.X Z.G (Z.S.fact 9)
theorem gl__law_is_int (Z : Gn w K mg base) : mg "_law_is_int" = some (.ref (He.ga K "_law_is_int")) := He.glo_ok Z.X Z.G (Z.S.fact 10)
theorem gl__law_mixed (Z : Gn w K mg base) : mg "_law_mixed" = some (.ref (He.ga K "_law_mixed")) := He.glo_ok Z.X Z.G (Z.S.fact 11)
theorem gl__law_p10_any (Z : Gn w K mg base) : mg "_law_p10_any" = some (.ref (He.ga K "_law_p10_any")) := He.glo_ok Z.X Z.G (Z.S.fact 12)
theorem gl__law_p10_atom (Z : Gn w K mg base) : mg "_law_p10_atom" = some (.ref (He.ga K "_law_p10_atom")) := He.glo_ok Z.X Z.G (Z.S.fact 13)
theorem gl__law_p10_number (Z : Gn w K mg base) : mg "_law_p10_number" = some (.ref (He.ga K "_law_p10_number")) := He.glo_ok Z.X Z.G (Z.S.fact 14)
theorem gl__law_p10_odd (Z : Gn w K mg base) : mg "_law_p10_odd" = some (.ref (He.ga K "_law_p10_odd")) := He.glo_ok Z.X Z.G (Z.S.fact 15)
theorem gl__law_p10_place (Z : Gn w K mg base) : mg "_law_p10_place" = some (.ref (He.ga K "_law_p10_place")) := He.glo_ok Z.X Z.G (Z.S.fact 16)
theorem gl__law_p10_read (Z : Gn w K mg base) : mg "_law_p10_read" = some (.ref (He.ga K "_law_p10_read")) := He.glo_ok Z.X Z.G (Z.S.fact 17)
theorem gl__law_p10_refused (Z : Gn w K mg base) : mg "_law_p10_refused" = some (.ref (He.ga K "_law_p10_refused")) := He.glo_ok Z.X Z.G (Z.S.fact 18)
theorem gl__law_p10_same (Z : Gn w K mg base) : mg "_law_p10_same" = some (.ref (He.ga K "_law_p10_same")) := He.glo_ok Z.X Z.G (Z.S.fact 19)
theorem gl__law_p10_special (Z : Gn w K mg base) : mg "_law_p10_special" = some (.ref (He.ga K "_law_p10_special")) := He.glo_ok Z.X Z.G (Z.S.fact 20)
theorem gl__law_p10_spoilt (Z : Gn w K mg base) : mg "_law_p10_spoilt" = some (.ref (He.ga K "_law_p10_spoilt")) := He.glo_ok Z.X Z.G (Z.S.fact 21)
theorem gl__law_p10_step (Z : Gn w K mg base) : mg "_law_p10_step" = some (.ref (He.ga K "_law_p10_step")) := He.glo_ok Z.X Z.G (Z.S.fact 22)
theorem gl__law_p10_text (Z : Gn w K mg base) : mg "_law_p10_text" = some (.ref (He.ga K "_law_p10_text")) := He.glo_ok Z.X Z.G (Z.S.fact 23)
theorem gl__law_p10_value (Z : Gn w K mg base) : mg "_law_p10_value" = some (.ref (He.ga K "_law_p10_value")) := He.glo_ok Z.X Z.G (Z.S.fact 24)
theorem gl__law_p10_word (Z : Gn w K mg base) : mg "_law_p10_word" = some (.ref (He.ga K "_law_p10_word")) := He.glo_ok Z.X Z.G (Z.S.fact 25)
theorem gl__law_p10_wrapped (Z : Gn w K mg base) : mg "_law_p10_wrapped" = some (.ref (He.ga K "_law_p10_wrapped")) := He.glo_ok Z.X Z.G (Z.S.fact 26)
theorem gl__law_pick (Z : Gn w K mg base) : mg "_law_pick" = some (.ref (He.ga K "_law_pick")) := He.glo_ok Z.X Z.G (Z.S.fact 27)
theorem gl_read_plain (Z : Gn w K mg base) : mg "read_plain" = some (.ref (He.ga K "read_plain")) := He.glo_ok Z.X Z.G (Z.S.fact 29)
theorem fr_abs (Z : Gn w K mg base) : mg "abs" = none := He.free_ok Z.X Z.G (Z.S.fact 30)
theorem fr_bool (Z : Gn w K mg base) : mg "bool" = none := He.free_ok Z.X Z.G (Z.S.fact 31)
theorem fr_int (Z : Gn w K mg base) : mg "int" = none := He.free_ok Z.X Z.G (Z.S.fact 32)
theorem fr_isinstance (Z : Gn w K mg base) : mg "isinstance" = none := He.free_ok Z.X Z.G (Z.S.fact 33)
theorem fr_len (Z : Gn w K mg base) : mg "len" = none := He.free_ok Z.X Z.G (Z.S.fact 34)
theorem fr_list (Z : Gn w K mg base) : mg "list" = none := He.free_ok Z.X Z.G (Z.S.fact 35)
theorem fr_min (Z : Gn w K mg base) : mg "min" = none := He.free_ok Z.X Z.G (Z.S.fact 36)
theorem fr_range (Z : Gn w K mg base) : mg "range" = none := He.free_ok Z.X Z.G (Z.S.fact 37)
theorem fr_str (Z : Gn w K mg base) : mg "str" = none := He.free_ok Z.X Z.G (Z.S.fact 38)
theorem fr_sum (Z : Gn w K mg base) : mg "sum" = none := He.free_ok Z.X Z.G (Z.S.fact 39)
theorem fr_tuple (Z : Gn w K mg base) : mg "tuple" = none := He.free_ok Z.X Z.G (Z.S.fact 40)
end
section
variable {X : Cx}
theorem gd_LETTERS (Z : Gn X.w X.K X.mg X.base) : GlobD X (PDx.gi X.K) "LETTERS" d_LETTERS := gd_str Z.X Z.G (Z.S.fact 42)
theorem gd_SIGNS (Z : Gn X.w X.K X.mg X.base) : GlobD X (PDx.gi X.K) "SIGNS" d_SIGNS := gd_str Z.X Z.G (Z.S.fact 43)
theorem gd_DIGITS (Z : Gn X.w X.K X.mg X.base) : GlobD X (PDx.gi X.K) "DIGITS" d_DIGITS := gd_str Z.X Z.G (Z.S.fact 44)
theorem gd_MOST_SIGNS (Z : Gn X.w X.K X.mg X.base) : GlobD X (PDx.gi X.K) "MOST_SIGNS" d_MOST_SIGNS := gd_int Z.X Z.G (Z.S.fact 45)
theorem gd_MOST_PLAIN_DIGITS (Z : Gn X.w X.K X.mg X.base) : GlobD X (PDx.gi X.K) "MOST_PLAIN_DIGITS" d_MOST_PLAIN_DIGITS := gd_int Z.X Z.G (Z.S.fact 46)
theorem gd_MOST_TUPLES (Z : Gn X.w X.K X.mg X.base) : GlobD X (PDx.gi X.K) "MOST_TUPLES" d_MOST_TUPLES := gd_int Z.X Z.G (Z.S.fact 47)
theorem kt_WORDS (Z : Gn X.w X.K X.mg X.base) : KTab X (PDx.gi X.K) "WORDS" t_WORDS := ktab_of (t := ("WORDS", t_WORDS)) rfl Z.T 0 rfl (Z.S.fact 41) (gl_WORDS Z) rfl
abbrev cat_BadText : Nat → Option Bool := fun c => ([(2, true)] : List (Nat × Bool)).lookup c
theorem ct_BadText (Z : Gn X.w X.K X.mg X.base) (hg : Gl X "BadText") : Catch X (PDx.gi X.K) "BadText" cat_BadText := ⟨_, ⟨hg, rfl, .inl (gl_BadText Z)⟩, fun c b e => by
  have m := mem_of_lookup e
  simp only [List.mem_cons, Prod.mk.injEq, List.not_mem_nil, or_false] at m
  rcases m with ⟨rfl, rfl⟩
  · exact of_decide_eq_true (Z.S.fact 62)⟩
abbrev cat_LotError : Nat → Option Bool := fun c => ([(2, true)] : List (Nat × Bool)).lookup c
end
def m__law_bag : MS := (mRetC (mA1 (fLst true) (maCons (mA1 (fList false) (maCons (mVar 0) maNil)) (maCons (mC (.int 0)) (maCons (mC (.int 0)) (maCons (m2 fMod (mA1 fIntB (maCons (mA1 fSum (maCons (mVar 0) maNil)) maNil)) (mC (.int 1000003))) (maCons (mC (.int 0)) (maCons (mC (.int 0)) maNil))))))))
def F__law_bag : Fn := fnOf 1 1 m__law_bag
def m__law_mixed : MS := (mSeq (mSet 2 (m2 fMod (mA1 fIntB (maCons (m2 (fAdd false) (m2 fMul (m2 (fAdd false) (mVar 0) (mC (.int 1))) (mC (.int 48271))) (m2 fMul (m2 (fAdd false) (mVar 1) (mC (.int 1))) (mC (.int 69621)))) maNil)) (mC (.int 2147483647)))) (mRet (m2 fDiv (m2 fMod (mA1 fIntB (maCons (m2 (fAdd false) (m2 (fAdd false) (m2 fMul (mVar 2) (mVar 2)) (m2 fMul (mVar 2) (mC (.int 16807)))) (m2 fMul (mC (.int 7)) (mVar 1))) maNil)) (mC (.int 2147483629))) (mC (.int 7)))))
def F__law_mixed : Fn := fnOf 3 2 m__law_mixed
def m__law_draw : MS := (mSeq (mIfS (asB (m2 fLt (mVar 1) (mC (.int 2)))) (mRet (mC (.int 0))) mSkip) (mSeq (mSetIx (m2 (fAdd false) (m2 fIx (mVar 0) (mC (.int 5))) (mC (.int 1))) (mVar 0) (mC (.int 5))) (mSeq (mIfS (tAndM (asB (m2 (fEq false) (m2 fIx (mVar 0) (mC (.int 2))) (mC (.int 0)))) (tAndM (asB (m2 (fEq false) (m2 fIx (mVar 0) (mC (.int 4))) (mC (.int 0)))) (asB (m2 fLt (m2 fIx (mVar 0) (mC (.int 1))) (mA1 fLen (maCons (m2 fIx (mVar 0) (mC (.int 0))) maNil)))))) (mSeq (mSet 2 (m2 fIx (m2 fIx (mVar 0) (mC (.int 0))) (m2 fIx (mVar 0) (mC (.int 1))))) (mSeq (mSetIx (m2 (fAdd false) (m2 fIx (mVar 0) (mC (.int 1))) (mC (.int 1))) (mVar 0) (mC (.int 1))) (mIfS (asB (m2 fGe (mA1 fAbs (maCons (mVar 2) maNil)) (m2 fPow (mC (.int 10)) (mC (.int 18))))) (mSetIx (mA1 fAbs (maCons (mVar 2) maNil)) (mVar 0) (mC (.int 2))) (mSeq (mSetIx (m2 (fAdd false) (m2 fMul (mC (.int 2)) (mA1 fAbs (maCons (mVar 2) maNil))) (mA1 fIntB (maCons (m2 fLt (mVar 2) (mC (.int 0))) maNil))) (mVar 0) (mC (.int 3))) (mSetIx (mC (.int 15)) (mVar 0) (mC (.int 4))))))) mSkip) (mSeq (mIfS (asB (m2 fGt (m2 fIx (mVar 0) (mC (.int 2))) (mC (.int 0)))) (mSeq (mSet 3 (m2 fMod (mA1 fIntB (maCons (m2 fIx (mVar 0) (mC (.int 2))) maNil)) (mVar 1))) (mSeq (mSetIx (m2 fDiv (m2 fIx (mVar 0) (mC (.int 2))) (mVar 1)) (mVar 0) (mC (.int 2))) (mRet (mVar 3)))) mSkip) (mSeq (mIfS (asB (m2 fGt (m2 fIx (mVar 0) (mC (.int 4))) (mC (.int 0)))) (mSetIx (m2 fSub (m2 fIx (mVar 0) (mC (.int 4))) (mC (.int 1))) (mVar 0) (mC (.int 4))) mSkip) (mRet (m2 fMod (mA1 fIntB (maCons (mA1 (fCallN 2 F__law_mixed []) (maCons (m2 fIx (mVar 0) (mC (.int 3))) (maCons (m2 fIx (mVar 0) (mC (.int 5))) maNil))) maNil)) (mVar 1))))))))
def F__law_draw : Fn := fnOf 4 2 m__law_draw
def m__law_pick : MS := (mRet (m2 fIx (mVar 1) (mA1 (fCallN 2 F__law_draw []) (maCons (mVar 0) (maCons (mA1 fLen (maCons (mVar 1) maNil)) maNil)))))
def F__law_pick : Fn := fnOf 2 2 m__law_pick
def m__law_p10_odd : MS := (mSeq (mSet 1 (mA1 (fLst false) (maCons (mC (.str "")) (maCons (mC (.str " ")) (maCons (mC (.str "  ")) (maCons (mC (.str "-")) (maCons (mC (.str "--")) (maCons (mC (.str "-0")) (maCons (mC (.str "0")) (maCons (mC (.str "00")) (maCons (mC (.str "01")) (maCons (mC (.str "-01")) (maCons (mC (.str "+1")) (maCons (mC (.str "1-")) (maCons (mC (.str "1 ")) (maCons (mC (.str " 1")) (maCons (mC (.str "a b")) (maCons (mC (.str "a ")) (maCons (mC (.str " a")) (maCons (mC (.str "A")) (maCons (mC (.str "aB")) (maCons (mC (.str "1a")) maNil)))))))))))))))))))))) (mSeq (mSet 1 (m2 (fAddT false) (mVar 1) (mA1 (fLst false) (maCons (mC (.str "(")) (maCons (mC (.str ")")) (maCons (mC (.str "()")) (maCons (mC (.str "( )")) (maCons (mC (.str "(a )")) (maCons (mC (.str "( a)")) (maCons (mC (.str "(a  b)")) (maCons (mC (.str "(a b")) (maCons (mC (.str "(a)b")) (maCons (mC (.str "(a)(b)")) (maCons (mC (.str "(()")) (maCons (mC (.str "())")) (maCons (mC (.str "(-)")) (maCons (mC (.str "(- -1)")) maNil))))))))))))))))) (mSeq (mSet 1 (m2 (fAddT false) (mVar 1) (mA1 (fLst false) (maCons (m2 fMulS (mC (.str "a")) (mC (.int 12))) (maCons (m2 fMulS (mC (.str "b")) (mC (.int 13))) (maCons (m2 (fAddT false) (m2 fMulS (mC (.str "(")) (mC (.int 60))) (m2 fMulS (mC (.str ")")) (mC (.int 60)))) (maCons (m2 (fAddT false) (m2 fMulS (mC (.str "(")) (mC (.int 61))) (m2 fMulS (mC (.str ")")) (mC (.int 61)))) (maCons (m2 fMulS (mC (.str "7")) (mC (.int 4000))) (maCons (m2 (fAddT false) (mC (.str "-")) (m2 fMulS (mC (.str "8")) (mC (.int 4001)))) maNil))))))))) (mSeq (mSet 2 (mA1 (fCallN 2 F__law_pick []) (maCons (mVar 0) (maCons (mVar 1) maNil)))) (mSeq (mIfS (asB (m2 (fEq false) (mA1 (fCallN 2 F__law_draw []) (maCons (mVar 0) (maCons (mC (.int 4)) maNil))) (mC (.int 1)))) (mRet (m2 (fAddT false) (m2 (fAddT false) (mC (.str "(")) (mVar 2)) (mC (.str " x)")))) mSkip) (mRet (mVar 2)))))))
def F__law_p10_odd : Fn := fnOf 3 1 m__law_p10_odd
def m__law_p10_spoilt : MS := (mSeq (mSet 2 (m2 (fAddT false) (mA1 (fListS false) (maCons (mC (.str "()- 0123456789abcxyzenos_.,:;+ABN")) maNil)) (mA1 (fLst false) (maCons (mC (.str "
")) (maCons (mC (.str "	")) maNil))))) (mSeq (mSet 3 (mA1 (fCallN 2 F__law_draw []) (maCons (mVar 0) (maCons (m2 (fAddT false) (mA1 fLen (maCons (mVar 1) maNil)) (mC (.int 1))) maNil)))) (mSeq (mSet 4 (mA1 (fCallN 2 F__law_pick []) (maCons (mVar 0) (maCons (mVar 2) maNil)))) (mSeq (mSet 5 (mA1 (fCallN 2 F__law_draw []) (maCons (mVar 0) (maCons (mC (.int 7)) maNil)))) (mSeq (mIfS (asB (m2 (fEq false) (mVar 5) (mC (.int 0)))) (mRet (m2 (fAddT false) (mSlT false (mVar 1) moN (moS (mVar 3))) (mSlT false (mVar 1) (moS (m2 (fAddT false) (mVar 3) (mC (.int 1)))) moN))) mSkip) (mSeq (mIfS (asB (m2 (fEq false) (mVar 5) (mC (.int 1)))) (mRet (m2 (fAddT false) (m2 (fAddT false) (mSlT false (mVar 1) moN (moS (mVar 3))) (mVar 4)) (mSlT false (mVar 1) (moS (mVar 3)) moN))) mSkip) (mSeq (mIfS (asB (m2 (fEq false) (mVar 5) (mC (.int 2)))) (mRet (m2 (fAddT false) (m2 (fAddT false) (mSlT false (mVar 1) moN (moS (mVar 3))) (mVar 4)) (mSlT false (mVar 1) (moS (m2 (fAddT false) (mVar 3) (mC (.int 1)))) moN))) mSkip) (mSeq (mIfS (asB (m2 (fEq false) (mVar 5) (mC (.int 3)))) (mRet (mSlT false (mVar 1) moN (moS (mVar 3)))) mSkip) (mSeq (mIfS (asB (m2 (fEq false) (mVar 5) (mC (.int 4)))) (mRet (m2 (fAddT false) (mVar 1) (mVar 4))) mSkip) (mSeq (mIfS (asB (m2 (fEq false) (mVar 5) (mC (.int 5)))) (mRet (m2 (fAddT false) (m2 (fAddT false) (mSlT false (mVar 1) moN (moS (mVar 3))) (mSlT false (mVar 1) (moS (mVar 3)) (moS (m2 (fAddT false) (mVar 3) (mC (.int 1)))))) (mSlT false (mVar 1) (moS (mVar 3)) moN))) mSkip) (mRet (mVar 1))))))))))))
def F__law_p10_spoilt : Fn := fnOf 6 2 m__law_p10_spoilt
def m__law_p10_text (G__law_p10_text : Fn) : MS := (mSeq (mIfS (asB (m1 (fIsi g0 (.bt "tuple")) (mVar 0))) (mSeq (mSet 1 (mC (.str ""))) (mSeq (mFor (gtN 2) (mVar 0) (mSet 1 (m2 (fAddT false) (m2 (fAddT false) (mVar 1) (mC (.str " "))) (mA1 (fCallN 1 G__law_p10_text []) (maCons (mVar 2) maNil))))) (mRet (m2 (fAddT false) (m2 (fAddT false) (mC (.str "(")) (mSlT false (mVar 1) (moS (mC (.int 1))) moN)) (mC (.str ")")))))) mSkip) (mSeq (mIfS (asB (m2 (fIsN false) (mVar 0) (mC .non))) (mRet (mC (.str "none"))) mSkip) (mSeq (mIfS (asB (m1 (fIsi g0 (.bt "bool")) (mVar 0))) (mRet (m2 fIx (mA1 (fLst false) (maCons (mC (.str "no")) (maCons (mC (.str "yes")) maNil))) (mA1 fIntB (maCons (mVar 0) maNil)))) mSkip) (mSeq (mIfS (asB (m1 (fIsi g0 (.bt "str")) (mVar 0))) (mRet (mIf (asB (m2 (fEq true) (mVar 0) (mC (.str "")))) (mVar 0) (mC (.str "-")))) mSkip) (mRet (mA1 fStrB (maCons (mVar 0) maNil)))))))
def RS__law_p10_text : Nat → Fn
  | 0 => fnOf 3 1 (fun _ _ => .stuck)
  | k + 1 => fnOf 3 1 (m__law_p10_text (RS__law_p10_text k))
def R__law_p10_text (k : Nat) : Fn := (RS__law_p10_text k)
theorem R__law_p10_text_s (k : Nat) : R__law_p10_text (k + 1) = fnOf 3 1 (m__law_p10_text (R__law_p10_text k)) := rfl
def F__law_p10_text : Fn := R__law_p10_text 70
def m__law_p10_number : MS := (mSeq (mSet 1 (mA1 (fCallN 2 F__law_draw []) (maCons (mVar 0) (maCons (mC (.int 8)) maNil)))) (mSeq (mSet 2 (mA1 (fCallN 2 F__law_draw []) (maCons (mVar 0) (maCons (mC (.int 12)) maNil)))) (mSeq (mIfS (asB (m2 (fEq false) (mVar 1) (mC (.int 1)))) (mSet 2 (mA1 (fCallN 2 F__law_draw []) (maCons (mVar 0) (maCons (m2 fPow (mC (.int 10)) (mC (.int 40))) maNil)))) mSkip) (mSeq (mIfS (asB (m2 (fEq false) (mVar 1) (mC (.int 2)))) (mSet 2 (mA1 fIntB (maCons (m2 (fAdd false) (mA1 fStrB (maCons (m2 (fAdd false) (mC (.int 1)) (mA1 (fCallN 2 F__law_draw []) (maCons (mVar 0) (maCons (mC (.int 999)) maNil)))) maNil)) (m2 fMulS (mA1 fStrB (maCons (mA1 (fCallN 2 F__law_draw []) (maCons (mVar 0) (maCons (mC (.int 10)) maNil))) maNil)) (mA1 (fCallN 2 F__law_draw []) (maCons (mVar 0) (maCons (mC (.int 40)) maNil))))) maNil))) mSkip) (mSeq (mIfS (tAndM (asB (m2 (fEq false) (mVar 1) (mC (.int 3)))) (asB (m2 (fEq false) (mA1 (fCallN 2 F__law_draw []) (maCons (mVar 0) (maCons (mC (.int 6)) maNil))) (mC (.int 5))))) (mSet 2 (mA1 fIntB (maCons (m2 (fAdd false) (mA1 fStrB (maCons (m2 (fAdd false) (mC (.int 1)) (mA1 (fCallN 2 F__law_draw []) (maCons (mVar 0) (maCons (mC (.int 9)) maNil)))) maNil)) (m2 fMulS (mA1 fStrB (maCons (mA1 (fCallN 2 F__law_draw []) (maCons (mVar 0) (maCons (mC (.int 10)) maNil))) maNil)) (mA1 (fCallN 2 F__law_pick []) (maCons (mVar 0) (maCons (mA1 (fLst false) (maCons (mC (.int 399)) (maCons (mC (.int 400)) (maCons (mC (.int 3998)) (maCons (mC (.int 3999)) maNil))))) maNil))))) maNil))) mSkip) (mSeq (mIfS (asB (m2 (fEq false) (mA1 (fCallN 2 F__law_draw []) (maCons (mVar 0) (maCons (mC (.int 3)) maNil))) (mC (.int 1)))) (mRet (m1 fNeg (mVar 2))) mSkip) (mRet (mVar 2))))))))
def F__law_p10_number : Fn := fnOf 3 1 m__law_p10_number
def m__law_p10_word : MS := (mSeq (mSet 1 (mC (.str "abcdefghijklmnopqrstuvwxyz"))) (mSeq (mSet 2 (mA1 (fCallN 2 F__law_pick []) (maCons (mVar 0) (maCons (mA1 (fLst false) (maCons (mC (.int 1)) (maCons (mC (.int 2)) (maCons (mC (.int 3)) (maCons (mC (.int 4)) (maCons (m2 (fAdd false) (mC (.int 5)) (mA1 (fCallN 2 F__law_draw []) (maCons (mVar 0) (maCons (mC (.int 8)) maNil)))) (maCons (mC (.int 12)) maNil))))))) maNil)))) (mSeq (mSet 3 (m2 fIx (mVar 1) (mA1 (fCallN 2 F__law_draw []) (maCons (mVar 0) (maCons (mC (.int 26)) maNil))))) (mSeq (mForR (gtN 4) (maCons (m2 fSub (mVar 2) (mC (.int 1))) maNil) (mSet 3 (m2 (fAdd false) (mVar 3) (m2 fIx (m2 (fAdd false) (mVar 1) (mC (.str "0123456789"))) (mA1 (fCallN 2 F__law_draw []) (maCons (mVar 0) (maCons (mC (.int 36)) maNil))))))) (mSeq (mIfS (asB (m2 (fEq false) (mA1 (fCallN 2 F__law_draw []) (maCons (mVar 0) (maCons (mC (.int 9)) maNil))) (mC (.int 4)))) (mSet 3 (mA1 (fCallN 2 F__law_pick []) (maCons (mVar 0) (maCons (mA1 (fLst false) (maCons (mC (.str "y")) (maCons (mC (.str "n")) (maCons (mC (.str "ye")) (maCons (mC (.str "yess")) (maCons (mC (.str "yes1")) (maCons (mC (.str "non")) (maCons (mC (.str "nones")) (maCons (mC (.str "no1")) (maCons (mC (.str "noneyesno")) (maCons (mC (.str "z9")) (maCons (mC (.str "a")) (maCons (mC (.str "none0")) maNil))))))))))))) maNil)))) mSkip) (mSeq (mIfS (asB (m2 (fIn false) (mVar 3) (mA1 (fLst false) (maCons (mC (.str "yes")) (maCons (mC (.str "no")) (maCons (mC (.str "none")) maNil)))))) (mRet (m2 (fAdd false) (mVar 3) (mC (.str "x")))) mSkip) (mRet (mVar 3))))))))
def F__law_p10_word : Fn := fnOf 5 1 m__law_p10_word
def m__law_p10_atom : MS := (mSeq (mSet 1 (mA1 (fCallN 2 F__law_draw []) (maCons (mVar 0) (maCons (mC (.int 9)) maNil)))) (mSeq (mIfS (asB (m2 fLt (mVar 1) (mC (.int 3)))) (mRet (mA1 (fCallN 1 F__law_p10_word []) (maCons (mVar 0) maNil))) mSkip) (mSeq (mIfS (asB (m2 (fEq false) (mVar 1) (mC (.int 3)))) (mRet (mC (.str ""))) mSkip) (mSeq (mIfS (asB (m2 (fEq false) (mVar 1) (mC (.int 4)))) (mRet (mC .non)) mSkip) (mSeq (mIfS (asB (m2 (fEq false) (mVar 1) (mC (.int 5)))) (mRet (m2 (fEq false) (mA1 (fCallN 2 F__law_draw []) (maCons (mVar 0) (maCons (mC (.int 2)) maNil))) (mC (.int 1)))) mSkip) (mRet (mA1 (fCallN 1 F__law_p10_number []) (maCons (mVar 0) maNil))))))))
def F__law_p10_atom : Fn := fnOf 2 1 m__law_p10_atom
def m__law_p10_value (G__law_p10_value : Fn) : MS := (mSeq (mIfS (tOrM (asB (m2 (fEq false) (mVar 1) (mC (.int 0)))) (asB (m2 (fEq false) (mA1 (fCallN 2 F__law_draw []) (maCons (mVar 0) (maCons (mC (.int 4)) maNil))) (mC (.int 3))))) (mRet (mA1 (fCallN 1 F__law_p10_atom []) (maCons (mVar 0) maNil))) mSkip) (mRet (mA1 fTuple (maCons (mCompR false [2] (gtN 2) mYes (mA1 (fCallN 2 G__law_p10_value []) (maCons (mVar 0) (maCons (m2 fSub (mVar 1) (mC (.int 1))) maNil))) (maCons (mA1 (fCallN 2 F__law_draw []) (maCons (mVar 0) (maCons (mC (.int 5)) maNil))) maNil)) maNil))))
def RS__law_p10_value : Nat → Fn
  | 0 => fnOf 3 2 (fun _ _ => .stuck)
  | k + 1 => fnOf 3 2 (m__law_p10_value (RS__law_p10_value k))
def R__law_p10_value (k : Nat) : Fn := (RS__law_p10_value k)
theorem R__law_p10_value_s (k : Nat) : R__law_p10_value (k + 1) = fnOf 3 2 (m__law_p10_value (R__law_p10_value k)) := rfl
def F__law_p10_value : Fn := R__law_p10_value 6
def m__law_p10_wrapped : MS := (mSeq (mSet 3 (mA1 (fCallN 2 F__law_pick []) (maCons (mVar 0) (maCons (mA1 (fLst false) (maCons (mC (.int 0)) (maCons (mC (.int 0)) (maCons (mA1 fMin2 (maCons (mVar 2) (maCons (m2 (fAdd false) (mC (.int 1)) (mA1 (fCallN 2 F__law_draw []) (maCons (mVar 0) (maCons (mC (.int 8)) maNil)))) maNil))) (maCons (mA1 (fCallN 2 F__law_draw []) (maCons (mVar 0) (maCons (m2 (fAdd false) (mVar 2) (mC (.int 1))) maNil))) (maCons (mVar 2) maNil)))))) maNil)))) (mSeq (mForR (gtN 4) (maCons (mVar 3) maNil) (mSeq (mSet 5 (mA1 (fCallN 2 F__law_draw []) (maCons (mVar 0) (maCons (mC (.int 4)) maNil)))) (mIfS (asB (m2 fLt (mVar 5) (mC (.int 2)))) (mSet 1 (mA1 fTup (maCons (mVar 1) maNil))) (mIfS (asB (m2 (fEq false) (mVar 5) (mC (.int 2)))) (mSet 1 (mA1 fTup (maCons (mA1 (fCallN 2 F__law_pick []) (maCons (mVar 0) (maCons (mA1 (fLst false) (maCons (mC (.str "")) (maCons (mC (.str "a")) (maCons (mC (.int 0)) (maCons (mC .non) (maCons (mC (.bl true)) (maCons (mA1 fTup maNil) maNil))))))) maNil))) (maCons (mVar 1) maNil)))) (mSet 1 (mA1 fTup (maCons (mVar 1) (maCons (mA1 (fCallN 2 F__law_pick []) (maCons (mVar 0) (maCons (mA1 (fLst false) (maCons (mC (.int 7)) (maCons (mC (.str "no1")) (maCons (mC (.bl false)) (maCons (mC (.str "")) (maCons (m1 fNeg (mC (.int 1))) maNil)))))) maNil))) maNil)))))))) (mRet (mVar 1))))
def F__law_p10_wrapped : Fn := fnOf 6 3 m__law_p10_wrapped
def m__law_p10_any : MS := (mSeq (mIfS (asB (m2 (fEq false) (mA1 (fCallN 2 F__law_draw []) (maCons (mVar 0) (maCons (mC (.int 3)) maNil))) (mC (.int 1)))) (mRet (mA1 (fCallN 1 F__law_p10_odd []) (maCons (mVar 0) maNil))) mSkip) (mSeq (mSet 1 (mA1 (fCallN 1 F__law_p10_text []) (maCons (mA1 (fCallN 3 F__law_p10_wrapped []) (maCons (mVar 0) (maCons (mA1 (fCallN 2 F__law_p10_value []) (maCons (mVar 0) (maCons (mC (.int 2)) maNil))) (maCons (mC (.int 58)) maNil)))) maNil))) (mSeq (mForR (gtN 2) (maCons (mA1 (fCallN 2 F__law_pick []) (maCons (mVar 0) (maCons (mA1 (fLst false) (maCons (mC (.int 0)) (maCons (mC (.int 1)) (maCons (mC (.int 1)) (maCons (mC (.int 2)) maNil))))) maNil))) maNil) (mSet 1 (mA1 (fCallN 2 F__law_p10_spoilt []) (maCons (mVar 0) (maCons (mVar 1) maNil))))) (mRet (mVar 1)))))
def F__law_p10_any : Fn := fnOf 3 1 m__law_p10_any
def m__law_p10_step : MS := (mSeq (mUnp (gtT 3 (gtCons (gtN 2) (gtCons (gtN 3) (gtCons (gtN 4) gtNil)))) (mVar 0)) (mSeq (mSet 5 (mC (.str "abcdefghijklmnopqrstuvwxyz"))) (mSeq (mIfS (asB (m2 (fIn false) (mVar 2) (mA1 (fLst false) (maCons (mC (.str "item")) (maCons (mC (.str "first")) maNil))))) (mSeq (mIfS (tAndM (asB (m2 (fEq false) (mVar 1) (mC (.str ")")))) (asB (m2 (fEq false) (mVar 2) (mC (.str "first"))))) (mRet (mA1 fTup (maCons (mC (.str "whole")) (maCons (mC (.int 0)) (maCons (m2 fSub (mVar 4) (mC (.int 1))) maNil))))) mSkip) (mSeq (mIfS (tAndM (asB (m2 (fEq false) (mVar 1) (mC (.str "(")))) (asB (m2 fLt (mVar 4) (mC (.int 60))))) (mRet (mA1 fTup (maCons (mC (.str "first")) (maCons (mC (.int 0)) (maCons (m2 (fAdd false) (mVar 4) (mC (.int 1))) maNil))))) mSkip) (mSeq (mIfS (asB (m2 (fIn false) (mVar 1) (mVar 5))) (mRet (mA1 fTup (maCons (mC (.str "word")) (maCons (mC (.int 1)) (maCons (mVar 4) maNil))))) mSkip) (mSeq (mIfS (asB (m2 (fIn false) (mVar 1) (mC (.str "123456789")))) (mRet (mA1 fTup (maCons (mC (.str "int")) (maCons (mC (.int 1)) (maCons (mVar 4) maNil))))) mSkip) (mSeq (mIfS (asB (m2 (fEq false) (mVar 1) (mC (.str "-")))) (mRet (mA1 fTup (maCons (mC (.str "minus")) (maCons (mC (.int 0)) (maCons (mVar 4) maNil))))) mSkip) (mRet (mIf (asB (m2 (fEq false) (mVar 1) (mC (.str "0")))) (mA1 fTup (maCons (mC (.str "whole")) (maCons (mC (.int 0)) (maCons (mVar 4) maNil)))) (mC .non)))))))) mSkip) (mSeq (mIfS (tAndM (asB (m2 (fEq false) (mVar 2) (mC (.str "word")))) (tAndM (asB (m2 fLt (mVar 3) (mC (.int 12)))) (asB (m2 (fIn false) (mVar 1) (m2 (fAdd false) (mVar 5) (mC (.str "0123456789"))))))) (mRet (mA1 fTup (maCons (mC (.str "word")) (maCons (m2 (fAdd false) (mVar 3) (mC (.int 1))) (maCons (mVar 4) maNil))))) mSkip) (mSeq (mIfS (tAndM (asB (m2 (fEq false) (mVar 2) (mC (.str "int")))) (tAndM (asB (m2 fLt (mVar 3) (mC (.int 4000)))) (asB (m2 (fIn false) (mVar 1) (mC (.str "0123456789")))))) (mRet (mA1 fTup (maCons (mC (.str "int")) (maCons (m2 (fAdd false) (mVar 3) (mC (.int 1))) (maCons (mVar 4) maNil))))) mSkip) (mSeq (mIfS (tAndM (asB (m2 (fEq false) (mVar 2) (mC (.str "minus")))) (asB (m2 (fIn false) (mVar 1) (mC (.str "123456789"))))) (mRet (mA1 fTup (maCons (mC (.str "int")) (maCons (mC (.int 1)) (maCons (mVar 4) maNil))))) mSkip) (mSeq (mIfS (tAndM (asB (m2 fGt (mVar 4) (mC (.int 0)))) (asB (m2 (fEq false) (mVar 1) (mC (.str " "))))) (mRet (mA1 fTup (maCons (mC (.str "item")) (maCons (mC (.int 0)) (maCons (mVar 4) maNil))))) mSkip) (mSeq (mIfS (tAndM (asB (m2 fGt (mVar 4) (mC (.int 0)))) (asB (m2 (fEq false) (mVar 1) (mC (.str ")"))))) (mRet (mA1 fTup (maCons (mC (.str "whole")) (maCons (mC (.int 0)) (maCons (m2 fSub (mVar 4) (mC (.int 1))) maNil))))) mSkip) (mRet (mC .non))))))))))
def F__law_p10_step : Fn := fnOf 6 2 m__law_p10_step
def m__law_p10_place : MS := (mSeq (mSet 1 (mA1 fTup (maCons (mC (.str "item")) (maCons (mC (.int 0)) (maCons (mC (.int 0)) maNil))))) (mSeq (mForR (gtN 2) (maCons (mA1 fLen (maCons (mVar 0) maNil)) maNil) (mSeq (mSet 1 (mA1 (fCallN 2 F__law_p10_step []) (maCons (mVar 1) (maCons (m2 fIx (mVar 0) (mVar 2)) maNil)))) (mIfS (asB (m2 (fIsN false) (mVar 1) (mC .non))) (mRet (mVar 2)) mSkip))) (mSeq (mIfS (tOrM (asB (m2 fGt (m2 fIx (mVar 1) (mC (.int 2))) (mC (.int 0)))) (asB (m2 (fIn false) (m2 fIx (mVar 1) (mC (.int 0))) (mA1 (fLst false) (maCons (mC (.str "item")) (maCons (mC (.str "first")) maNil)))))) (mRet (mA1 fLen (maCons (mVar 0) maNil))) mSkip) (mRet (mC .non)))))
def F__law_p10_place : Fn := fnOf 3 1 m__law_p10_place
def m__law_p10_special : MS := (mSeq (mIfS (asB (m2 (fEq false) (mVar 0) (mC (.str "none")))) (mRet (mC .non)) mSkip) (mRet (m2 (fEq false) (mVar 0) (mC (.str "yes")))))
def F__law_p10_special : Fn := fnOf 1 1 m__law_p10_special
def m__law_p10_read : MS := (mSeq (mSet 1 (mA1 fLstC (maCons (mA1 fLstC maNil) maNil))) (mSeq (mForL (gtN 2) (mStr1 (fSplit false) (m1 (fRepl ")" " )") (m1 (fRepl "(" "( ") (mVar 0))) (mC (.str " "))) (mIfS (asB (m2 (fEq false) (mVar 2) (mC (.str "(")))) (mDrop (mMetM lmAppend (mVar 1) (maCons (mA1 fLstC maNil) maNil))) (mIfS (asB (m2 (fEq false) (mVar 2) (mC (.str ")")))) (mSeq (mSet 3 (mA1 fTuple (maCons (mMetM lmPop (mVar 1) maNil) maNil))) (mDrop (mMetM lmAppend (m2 fIx (mVar 1) (m2 fSub (mA1 fLen (maCons (mVar 1) maNil)) (mC (.int 1)))) (maCons (mVar 3) maNil)))) (mIfS (asB (m2 (fEq false) (mVar 2) (mC (.str "-")))) (mDrop (mMetM lmAppend (m2 fIx (mVar 1) (m2 fSub (mA1 fLen (maCons (mVar 1) maNil)) (mC (.int 1)))) (maCons (mC (.str "")) maNil))) (mIfS (asB (m2 (fIn false) (mVar 2) (mA1 (fLst false) (maCons (mC (.str "yes")) (maCons (mC (.str "no")) (maCons (mC (.str "none")) maNil)))))) (mDrop (mMetM lmAppend (m2 fIx (mVar 1) (m2 fSub (mA1 fLen (maCons (mVar 1) maNil)) (mC (.int 1)))) (maCons (mA1 (fCallN 1 F__law_p10_special []) (maCons (mVar 2) maNil)) maNil))) (mIfS (tAndM (asB (m2 (fEq true) (mVar 2) (mC (.str "")))) (asB (m2 (fIn false) (m2 fIx (mVar 2) (mC (.int 0))) (mC (.str "-0123456789"))))) (mDrop (mMetM lmAppend (m2 fIx (mVar 1) (m2 fSub (mA1 fLen (maCons (mVar 1) maNil)) (mC (.int 1)))) (maCons (mA1 fIntB (maCons (mVar 2) maNil)) maNil))) (mIfS (asB (m2 (fEq true) (mVar 2) (mC (.str "")))) (mDrop (mMetM lmAppend (m2 fIx (mVar 1) (m2 fSub (mA1 fLen (maCons (mVar 1) maNil)) (mC (.int 1)))) (maCons (mVar 2) maNil))) mSkip))))))) (mRet (m2 fIx (m2 fIx (mVar 1) (mC (.int 0))) (mC (.int 0))))))
def F__law_p10_read : Fn := fnOf 4 1 m__law_p10_read
def m__law_is_int : MS := (mRet (mAnd (m1 (fIsi g0 (.bt "int")) (mVar 0)) (mNot (m1 (fIsi g0 (.bt "bool")) (mVar 0)))))
def F__law_is_int : Fn := fnOf 1 1 m__law_is_int
def m_PlainReader_expect : MS := (mIfS (tNotM (asB (mVar 1))) (mRaise 2 1 (mkE "place" "class_name" "BadText") (maCons (m1 (fFld g0 "place") (mVar 0)) maNil)) mSkip)
def F_PlainReader_expect : Fn := fnOf 2 2 m_PlainReader_expect
def m_PlainReader_sign : MS := (mRet (mSlT false (m1 (fFld g0 "text_read") (mVar 0)) (moS (m1 (fFld g0 "place") (mVar 0))) (moS (m2 (fAddT false) (m1 (fFld g0 "place") (mVar 0)) (mC (.int 1))))))
def F_PlainReader_sign : Fn := fnOf 1 1 m_PlainReader_sign
def m_PlainReader_close : MS := (mSeq (mDrop (mMeth 5 "expect" 1 F_PlainReader_expect [] (mVar 0) (maCons (m2 (fEq false) (mMeth 5 "sign" 0 F_PlainReader_sign [] (mVar 0) maNil) (mC (.str ")"))) maNil))) (mSeq (mAugFldC g0 0 "place" (mC (.int 1))) (mSeq (mSet 1 (mA1 fTuple (maCons (mMetM lmPop (m1 (fFld g0 "held") (mVar 0)) maNil) maNil))) (mDrop (mMetM lmAppend (m2 fIx (m1 (fFld g0 "held") (mVar 0)) (m1 fNeg (mC (.int 1)))) (maCons (mVar 1) maNil))))))
def F_PlainReader_close : Fn := fnOf 2 1 m_PlainReader_close
def m_PlainReader_is_in : MS := (mRet (mAnd (m2 (fEq true) (mMeth 5 "sign" 0 F_PlainReader_sign [] (mVar 0) maNil) (mC (.str ""))) (m2 (fIn false) (mMeth 5 "sign" 0 F_PlainReader_sign [] (mVar 0) maNil) (mVar 1))))
def F_PlainReader_is_in : Fn := fnOf 2 2 m_PlainReader_is_in
def m_PlainReader_read_signs : MS := (mSeq (mSet 3 (m1 (fFld g0 "place") (mVar 0))) (mSeq (mWhile 20000 (tAndM (asB (mMeth 5 "is_in" 1 F_PlainReader_is_in [] (mVar 0) (maCons (mVar 1) maNil))) (asB (m2 fLt (m1 (fFld g0 "place") (mVar 0)) (m2 (fAddT false) (mVar 3) (mVar 2))))) (mAugFldC g0 0 "place" (mC (.int 1)))) (mRet (mSlT false (m1 (fFld g0 "text_read") (mVar 0)) (moS (mVar 3)) (moS (m1 (fFld g0 "place") (mVar 0)))))))
def F_PlainReader_read_signs : Fn := fnOf 4 3 m_PlainReader_read_signs
def m_PlainReader_read_integer : MS := (mSeq (mSet 1 (m2 (fEq false) (mMeth 5 "sign" 0 F_PlainReader_sign [] (mVar 0) maNil) (mC (.str "-")))) (mSeq (mIfS (asB (mVar 1)) (mSeq (mAugFldC g0 0 "place" (mC (.int 1))) (mSeq (mIfS (tNotM (asB (mMeth 5 "is_in" 1 F_PlainReader_is_in [] (mVar 0) (maCons (mC d_DIGITS) maNil)))) (mRet (mC (.str ""))) mSkip) (mDrop (mMeth 5 "expect" 1 F_PlainReader_expect [] (mVar 0) (maCons (m2 (fEq true) (mMeth 5 "sign" 0 F_PlainReader_sign [] (mVar 0) maNil) (mC (.str "0"))) maNil))))) mSkip) (mSeq (mIfS (asB (m2 (fEq false) (mMeth 5 "sign" 0 F_PlainReader_sign [] (mVar 0) maNil) (mC (.str "0")))) (mSeq (mAugFldC g0 0 "place" (mC (.int 1))) (mRet (mC (.int 0)))) mSkip) (mSeq (mSet 2 (mA1 fIntB (maCons (mMeth 5 "read_signs" 2 F_PlainReader_read_signs [] (mVar 0) (maCons (mC d_DIGITS) (maCons (mC d_MOST_PLAIN_DIGITS) maNil))) maNil))) (mRet (mIf (asB (mVar 1)) (m1 fNeg (mVar 2)) (mVar 2)))))))
def F_PlainReader_read_integer : Fn := fnOf 3 1 m_PlainReader_read_integer
def m_PlainReader_read_word : MS := (mSeq (mSet 1 (mMeth 5 "read_signs" 2 F_PlainReader_read_signs [] (mVar 0) (maCons (mC d_SIGNS) (maCons (mC d_MOST_SIGNS) maNil)))) (mRet (mIf (asB (mTIn false t_WORDS (mVar 1))) (mTIx t_WORDS (mVar 1)) (mVar 1))))
def F_PlainReader_read_word : Fn := fnOf 2 1 m_PlainReader_read_word
def m_PlainReader_read_value (G_PlainReader_read_value : Fn) : MS := (mSeq (mIfS (asB (m2 (fEq false) (mMeth 5 "sign" 0 F_PlainReader_sign [] (mVar 0) maNil) (mC (.str "(")))) (mSeq (mDrop (mMeth 5 "expect" 1 F_PlainReader_expect [] (mVar 0) (maCons (m2 fLe (mA1 fLen (maCons (m1 (fFld g0 "held") (mVar 0)) maNil)) (mC d_MOST_TUPLES)) maNil))) (mSeq (mAugFldC g0 0 "place" (mC (.int 1))) (mSeq (mDrop (mMetM lmAppend (m1 (fFld g0 "held") (mVar 0)) (maCons (mA1 fLstC maNil) maNil))) (mSeq (mIfS (asB (m2 (fEq false) (mMeth 5 "sign" 0 F_PlainReader_sign [] (mVar 0) maNil) (mC (.str ")")))) mRetN mSkip) (mSeq (mDrop (mMeth 5 "read_value" 0 G_PlainReader_read_value [] (mVar 0) maNil)) mRetN))))) mSkip) (mSeq (mDrop (mMeth 5 "expect" 1 F_PlainReader_expect [] (mVar 0) (maCons (mOr (mMeth 5 "is_in" 1 F_PlainReader_is_in [] (mVar 0) (maCons (mC d_LETTERS) maNil)) (mOr (mMeth 5 "is_in" 1 F_PlainReader_is_in [] (mVar 0) (maCons (mC d_DIGITS) maNil)) (m2 (fEq false) (mMeth 5 "sign" 0 F_PlainReader_sign [] (mVar 0) maNil) (mC (.str "-"))))) maNil))) (mSeq (mSet 1 (mIf (asB (mMeth 5 "is_in" 1 F_PlainReader_is_in [] (mVar 0) (maCons (mC d_LETTERS) maNil))) (mMeth 5 "read_word" 0 F_PlainReader_read_word [] (mVar 0) maNil) (mMeth 5 "read_integer" 0 F_PlainReader_read_integer [] (mVar 0) maNil))) (mDrop (mMetM lmAppend (m2 fIx (m1 (fFld g0 "held") (mVar 0)) (m1 fNeg (mC (.int 1)))) (maCons (mVar 1) maNil))))))
def RS_PlainReader_read_value : Nat → Fn
  | 0 => fnOf 2 1 (fun _ _ => .stuck)
  | k + 1 => fnOf 2 1 (m_PlainReader_read_value (RS_PlainReader_read_value k))
def R_PlainReader_read_value (k : Nat) : Fn := (RS_PlainReader_read_value k)
def F_PlainReader_read_value : Fn := R_PlainReader_read_value 64
def m_PlainReader_read_all : MS := (mSeq (mDrop (mMeth 5 "read_value" 0 F_PlainReader_read_value [] (mVar 0) maNil)) (mSeq (mWhile 20000 (asB (m2 fGt (mA1 fLen (maCons (m1 (fFld g0 "held") (mVar 0)) maNil)) (mC (.int 1)))) (mIfS (asB (m2 (fEq false) (mMeth 5 "sign" 0 F_PlainReader_sign [] (mVar 0) maNil) (mC (.str " ")))) (mSeq (mAugFldC g0 0 "place" (mC (.int 1))) (mDrop (mMeth 5 "read_value" 0 F_PlainReader_read_value [] (mVar 0) maNil))) (mDrop (mMeth 5 "close" 0 F_PlainReader_close [] (mVar 0) maNil)))) (mSeq (mDrop (mMeth 5 "expect" 1 F_PlainReader_expect [] (mVar 0) (maCons (m2 (fEq false) (mMeth 5 "sign" 0 F_PlainReader_sign [] (mVar 0) maNil) (mC (.str ""))) maNil))) (mRet (m2 fIx (m2 fIx (m1 (fFld g0 "held") (mVar 0)) (mC (.int 0))) (mC (.int 0)))))))
def F_PlainReader_read_all : Fn := fnOf 1 1 m_PlainReader_read_all
def m_PlainReader_xinitx : MS := (mSeq (mSetFld g0 0 "text_read" (mVar 1)) (mSeq (mSetFld g0 0 "place" (mC (.int 0))) (mSetFld g0 0 "held" (mA1 fLstC (maCons (mA1 fLstC maNil) maNil)))))
def FI_PlainReader_xinitx : FnI := initOf 1 1 5 m_PlainReader_xinitx
def m_read_plain : MS := (mRet (mMeth 5 "read_all" 0 F_PlainReader_read_all [] (mA1 (fMakeC 5 1 FI_PlainReader_xinitx []) (maCons (mVar 0) maNil)) maNil))
def F_read_plain : Fn := fnOf 1 1 m_read_plain
def m__law_p10_refused : MS := (mSeq (mTryF 2 cat_BadText (mDrop (mA1 (fCallN 1 F_read_plain []) (maCons (mVar 0) maNil))) (mSeq (mIfS (tOrM (asB (mIsX g0 xsB (.own 1) 2)) (tOrM (asB (mIsX g0 xsB (.own 3) 2)) (asB (mIsX g0 xsB (.own 4) 2)))) (mRet (mC (.bl false))) mSkip) (mRet (mAnd (mIsX g0 xsB (.own 0) 2) (mAnd (mA1 (fCallN 1 F__law_is_int []) (maCons (mXf xsB xnB "place" 2) maNil)) (m2 (fEq false) (mXf xsB xnB "place" 2) (mVar 1))))))) (mRet (mC (.bl false))))
def F__law_p10_refused : Fn := fnOf 3 2 m__law_p10_refused
def m__law_p10_same (G__law_p10_same : Fn) : MS := (mSeq (mIfS (asB (m1 (fIsi g0 (.bt "tuple")) (mVar 1))) (mSeq (mIfS (tOrM (tNotM (asB (m1 (fIsi g0 (.bt "tuple")) (mVar 0)))) (asB (m2 (fEq true) (mA1 fLen (maCons (mVar 0) maNil)) (mA1 fLen (maCons (mVar 1) maNil))))) (mRet (mC (.bl false))) mSkip) (mRet (m2 (fEq false) (mA1 fLen (maCons (mCompR false [2] (gtN 2) (tNotM (asB (mA1 (fCallN 2 G__law_p10_same []) (maCons (m2 fIx (mVar 0) (mVar 2)) (maCons (m2 fIx (mVar 1) (mVar 2)) maNil))))) (mVar 2) (maCons (mA1 fLen (maCons (mVar 1) maNil)) maNil)) maNil)) (mC (.int 0))))) mSkip) (mSeq (mIfS (asB (m2 (fIsN false) (mVar 1) (mC .non))) (mRet (m2 (fIsN false) (mVar 0) (mC .non))) mSkip) (mSeq (mIfS (asB (m1 (fIsi g0 (.bt "bool")) (mVar 1))) (mRet (mAnd (m1 (fIsi g0 (.bt "bool")) (mVar 0)) (m2 (fEq false) (mVar 0) (mVar 1)))) mSkip) (mSeq (mIfS (asB (m1 (fIsi g0 (.bt "str")) (mVar 1))) (mRet (mAnd (m1 (fIsi g0 (.bt "str")) (mVar 0)) (m2 (fEq false) (mVar 0) (mVar 1)))) mSkip) (mRet (mAnd (mA1 (fCallN 1 F__law_is_int []) (maCons (mVar 0) maNil)) (m2 (fEq false) (mVar 0) (mVar 1))))))))
def RS__law_p10_same : Nat → Fn
  | 0 => fnOf 3 2 (fun _ _ => .stuck)
  | k + 1 => fnOf 3 2 (m__law_p10_same (RS__law_p10_same k))
def R__law_p10_same (k : Nat) : Fn := (RS__law_p10_same k)
theorem R__law_p10_same_s (k : Nat) : R__law_p10_same (k + 1) = fnOf 3 2 (m__law_p10_same (R__law_p10_same k)) := rfl
def F__law_p10_same : Fn := R__law_p10_same 70
def m_law : MS := (mSeq (mSet 1 (mA1 (fCallN 1 F__law_bag []) (maCons (mVar 0) maNil))) (mSeq (mSet 2 (mCompR false [4] (gtN 4) mYes (mA1 (fCallN 1 F__law_p10_any []) (maCons (mVar 1) maNil)) (maCons (mC (.int 6)) maNil))) (mSeq (mSet 3 (mComp false [5] (gtN 5) mYes (mA1 (fCallN 1 F__law_p10_place []) (maCons (mVar 5) maNil)) (mVar 2))) (mSeq (mForL (gtN 4) (mA1 (fLst false) (maCons (mC (.int 0)) (maCons (mC (.int 1)) (maCons (mC (.int 2)) (maCons (mC (.int 3)) (maCons (mC (.int 4)) (maCons (mC (.int 5)) (maCons (mC (.int 3)) (maCons (mC (.int 0)) (maCons (mC (.int 5)) (maCons (mC (.int 2)) (maCons (mC (.int 4)) (maCons (mC (.int 1)) maNil))))))))))))) (mIfS (asB (m2 (fIsN true) (m2 fIx (mVar 3) (mVar 4)) (mC .non))) (mIfS (tNotM (asB (mA1 (fCallN 2 F__law_p10_refused []) (maCons (m2 fIx (mVar 2) (mVar 4)) (maCons (m2 fIx (mVar 3) (mVar 4)) maNil))))) (mRet (mC (.bl false))) mSkip) (mIfS (tNotM (asB (mA1 (fCallN 2 F__law_p10_same []) (maCons (mA1 (fCallN 1 F_read_plain []) (maCons (m2 fIx (mVar 2) (mVar 4)) maNil)) (maCons (mA1 (fCallN 1 F__law_p10_read []) (maCons (m2 fIx (mVar 2) (mVar 4)) maNil)) maNil))))) (mRet (mC (.bl false))) mSkip))) (mRet (mC (.bl true)))))))
def F_law : Fn := fnOf 6 1 m_law
section
variable {P : Program} {w : World} {K : PySem.W.Frag} {mg : Str → Option Value} {base : Heap}
theorem ok__law_bag (Z : Gn w K mg base) : Rdy P w K mg base (PDx.gi K) "_law_bag" 1 1 [] F__law_bag := by
  obtain ⟨fd, FD⟩ := SaysV.fun_ Z.S 15
  have sc : FnScope ["_law_script"] ["_law_script"] (defScope (top 17)) := ⟨rfl, rfl, rfl, by decide +kernel, rfl, by decide +kernel, by decide +kernel⟩
  exact rdy_of FD (fn_D (k := 0) (m := m__law_bag) (PD.giOk Z.ok) FD sc (fun cdv A outer s H E B hr b => (vs_one (vs_retC (ve_lst (o := true) (va_cons (ve_callTy (c_list false b.K) rfl (fr_list Z) bt_list (va_cons (ve_var 0) va_nil)) (va_cons ve_int (va_cons ve_int (va_cons (ve_bin o_mod (ve_callTy (c_intB (Z.S.fact 64)) rfl (fr_int Z) bt_int (va_cons (ve_callB (c_sum b.K b.calm) rfl (fr_sum Z) bt_sum (va_cons (ve_var 0) va_nil)) va_nil)) ve_int) (va_cons ve_int (va_cons ve_int va_nil))))))))))) (gl__law_bag Z) (fun _ _ _ _ _ _ us hl => match us, hl with | [_], _ => rfl) rfl
theorem ok__law_mixed (Z : Gn w K mg base) : Rdy P w K mg base (PDx.gi K) "_law_mixed" 1 2 [] F__law_mixed := by
  obtain ⟨fd, FD⟩ := SaysV.fun_ Z.S 16
  have sc : FnScope ["_law_seed", "_law_turn", "_law_first"] ["_law_seed", "_law_turn"] (defScope (top 18)) := ⟨rfl, rfl, rfl, by decide +kernel, rfl, by decide +kernel, by decide +kernel⟩
  exact rdy_of FD (fn_D (k := 0) (m := m__law_mixed) (PD.giOk Z.ok) FD sc (fun cdv A outer s H E B hr b => (vs_cons (vs_set sc.nd rfl (Or.inl rfl) (ve_bin o_mod (ve_callTy (c_intB (Z.S.fact 64)) rfl (fr_int Z) bt_int (va_cons (ve_bin (o_add false b.K) (ve_bin o_mul (ve_bin (o_add false b.K) (ve_var 0) ve_int) ve_int) (ve_bin o_mul (ve_bin (o_add false b.K) (ve_var 1) ve_int) ve_int)) va_nil)) ve_int)) (vs_one (vs_ret (ve_bin o_div (ve_bin o_mod (ve_callTy (c_intB (Z.S.fact 64)) rfl (fr_int Z) bt_int (va_cons (ve_bin (o_add false b.K) (ve_bin (o_add false b.K) (ve_bin o_mul (ve_var 2) (ve_var 2)) (ve_bin o_mul (ve_var 2) ve_int)) (ve_bin o_mul ve_int (ve_var 1))) va_nil)) ve_int) ve_int)))))) (gl__law_mixed Z) (fun _ _ _ _ _ _ us hl => match us, hl with | [_, _], _ => rfl) rfl
theorem ok__law_draw (Z : Gn w K mg base) : Rdy P w K mg base (PDx.gi K) "_law_draw" 2 2 [] F__law_draw := by
  obtain ⟨fd, FD⟩ := SaysV.fun_ Z.S 17
  have sc : FnScope ["_law_bag_here", "_law_many", "_law_cell", "_law_value"] ["_law_bag_here", "_law_many"] (defScope (top 19)) := ⟨rfl, rfl, rfl, by decide +kernel, rfl, by decide +kernel, by decide +kernel⟩
  exact rdy_of FD (fn_D (k := 1) (m := m__law_draw) (PD.giOk Z.ok) FD sc (fun cdv A outer s H E B hr b => (vs_cons (vs_if (vt_cmp o_lt (ve_var 1) ve_int rfl) (vs_one (vs_ret ve_int)) vs_nil) (vs_cons (vs_setix (ve_bin (o_add false b.K) (ve_ix b.K (ve_var 0) ve_int fun _ _ => rfl) ve_int) (ve_var 0) ve_int) (vs_cons (vs_if (PW.pt (vw_and (vt_cmp (o_eq b.K b.un) (ve_ix b.K (ve_var 0) ve_int fun _ _ => rfl) ve_int rfl) (vw_and (vt_cmp (o_eq b.K b.un) (ve_ix b.K (ve_var 0) ve_int fun _ _ => rfl) ve_int rfl) (vw_and1 (vt_cmp o_lt (ve_ix b.K (ve_var 0) ve_int fun _ _ => rfl) (ve_callB (c_len b.K) rfl (fr_len Z) bt_len (va_cons (ve_ix b.K (ve_var 0) ve_int fun _ _ => rfl) va_nil)) rfl))))) (vs_cons (vs_set sc.nd rfl (Or.inl rfl) (ve_ix b.K (ve_ix b.K (ve_var 0) ve_int fun _ _ => rfl) (ve_ix b.K (ve_var 0) ve_int fun _ _ => rfl) fun _ _ => rfl)) (vs_cons (vs_setix (ve_bin (o_add false b.K) (ve_ix b.K (ve_var 0) ve_int fun _ _ => rfl) ve_int) (ve_var 0) ve_int) (vs_one (vs_if (vt_cmp o_ge (ve_callB c_abs rfl (fr_abs Z) bt_abs (va_cons (ve_var 2) va_nil)) (ve_bin o_pow ve_int ve_int) rfl) (vs_one (vs_setix (ve_callB c_abs rfl (fr_abs Z) bt_abs (va_cons (ve_var 2) va_nil)) (ve_var 0) ve_int)) (vs_cons (vs_setix (ve_bin (o_add false b.K) (ve_bin o_mul ve_int (ve_callB c_abs rfl (fr_abs Z) bt_abs (va_cons (ve_var 2) va_nil))) (ve_callTy (c_intB (Z.S.fact 64)) rfl (fr_int Z) bt_int (va_cons (ve_cmp o_lt (ve_var 2) ve_int rfl) va_nil))) (ve_var 0) ve_int) (vs_one (vs_setix ve_int (ve_var 0) ve_int))))))) vs_nil) (vs_cons (vs_if (vt_cmp o_gt (ve_ix b.K (ve_var 0) ve_int fun _ _ => rfl) ve_int rfl) (vs_cons (vs_set sc.nd rfl (Or.inl rfl) (ve_bin o_mod (ve_callTy (c_intB (Z.S.fact 64)) rfl (fr_int Z) bt_int (va_cons (ve_ix b.K (ve_var 0) ve_int fun _ _ => rfl) va_nil)) (ve_var 1))) (vs_cons (vs_setix (ve_bin o_div (ve_ix b.K (ve_var 0) ve_int fun _ _ => rfl) (ve_var 1)) (ve_var 0) ve_int) (vs_one (vs_ret (ve_var 3))))) vs_nil) (vs_cons (vs_if (vt_cmp o_gt (ve_ix b.K (ve_var 0) ve_int fun _ _ => rfl) ve_int rfl) (vs_one (vs_setix (ve_bin o_sub (ve_ix b.K (ve_var 0) ve_int fun _ _ => rfl) ve_int) (ve_var 0) ve_int)) vs_nil) (vs_one (vs_ret (ve_bin o_mod (ve_callTy (c_intB (Z.S.fact 64)) rfl (fr_int Z) bt_int (va_cons (ve_call ((ok__law_mixed Z).v hr (by decide)) b.gd b.tk rfl (va_cons (ve_ix b.K (ve_var 0) ve_int fun _ _ => rfl) (va_cons (ve_ix b.K (ve_var 0) ve_int fun _ _ => rfl) va_nil))) va_nil)) (ve_var 1))))))))))) (gl__law_draw Z) (fun _ _ _ _ _ _ us hl => match us, hl with | [_, _], _ => rfl) rfl
theorem ok__law_pick (Z : Gn w K mg base) : Rdy P w K mg base (PDx.gi K) "_law_pick" 3 2 [] F__law_pick := by
  obtain ⟨fd, FD⟩ := SaysV.fun_ Z.S 18
  have sc : FnScope ["_law_bag_here", "_law_row"] ["_law_bag_here", "_law_row"] (defScope (top 20)) := ⟨rfl, rfl, rfl, by decide +kernel, rfl, by decide +kernel, by decide +kernel⟩
  exact rdy_of FD (fn_D (k := 2) (m := m__law_pick) (PD.giOk Z.ok) FD sc (fun cdv A outer s H E B hr b => (vs_one (vs_ret (ve_ix b.K (ve_var 1) (ve_call ((ok__law_draw Z).v hr (by decide)) b.gd b.tk rfl (va_cons (ve_var 0) (va_cons (ve_callB (c_len b.K) rfl (fr_len Z) bt_len (va_cons (ve_var 1) va_nil)) va_nil))) fun _ _ => rfl))))) (gl__law_pick Z) (fun _ _ _ _ _ _ us hl => match us, hl with | [_, _], _ => rfl) rfl
theorem ok__law_p10_odd (Z : Gn w K mg base) : Rdy P w K mg base (PDx.gi K) "_law_p10_odd" 4 1 [] F__law_p10_odd := by
  obtain ⟨fd, FD⟩ := SaysV.fun_ Z.S 32
  have sc : FnScope ["_law_bag_here", "_law_rows", "_law_text"] ["_law_bag_here"] (defScope (top 34)) := ⟨rfl, rfl, rfl, by decide +kernel, rfl, by decide +kernel, by decide +kernel⟩
  exact rdy_of FD (fn_D (k := 3) (m := m__law_p10_odd) (PD.giOk Z.ok) FD sc (fun cdv A outer s H E B hr b => (vs_cons (vs_set sc.nd rfl (Or.inl rfl) (ve_lst (o := false) (va_cons ve_str (va_cons ve_str (va_cons ve_str (va_cons ve_str (va_cons ve_str (va_cons ve_str (va_cons ve_str (va_cons ve_str (va_cons ve_str (va_cons ve_str (va_cons ve_str (va_cons ve_str (va_cons ve_str (va_cons ve_str (va_cons ve_str (va_cons ve_str (va_cons ve_str (va_cons ve_str (va_cons ve_str (va_cons ve_str va_nil)))))))))))))))))))))) (vs_cons (vs_set sc.nd rfl (Or.inl rfl) (ve_bin (o_addT false b.K) (ve_var 1) (ve_lst (o := false) (va_cons ve_str (va_cons ve_str (va_cons ve_str (va_cons ve_str (va_cons ve_str (va_cons ve_str (va_cons ve_str (va_cons ve_str (va_cons ve_str (va_cons ve_str (va_cons ve_str (va_cons ve_str (va_cons ve_str (va_cons ve_str va_nil))))))))))))))))) (vs_cons (vs_set sc.nd rfl (Or.inl rfl) (ve_bin (o_addT false b.K) (ve_var 1) (ve_lst (o := false) (va_cons (ve_bin o_mulS ve_str ve_int) (va_cons (ve_bin o_mulS ve_str ve_int) (va_cons (ve_bin (o_addT false b.K) (ve_bin o_mulS ve_str ve_int) (ve_bin o_mulS ve_str ve_int)) (va_cons (ve_bin (o_addT false b.K) (ve_bin o_mulS ve_str ve_int) (ve_bin o_mulS ve_str ve_int)) (va_cons (ve_bin o_mulS ve_str ve_int) (va_cons (ve_bin (o_addT false b.K) ve_str (ve_bin o_mulS ve_str ve_int)) va_nil))))))))) (vs_cons (vs_set sc.nd rfl (Or.inl rfl) (ve_call ((ok__law_pick Z).v hr (by decide)) b.gd b.tk rfl (va_cons (ve_var 0) (va_cons (ve_var 1) va_nil)))) (vs_cons (vs_if (vt_cmp (o_eq b.K b.un) (ve_call ((ok__law_draw Z).v hr (by decide)) b.gd b.tk rfl (va_cons (ve_var 0) (va_cons ve_int va_nil))) ve_int rfl) (vs_one (vs_ret (ve_bin (o_addT false b.K) (ve_bin (o_addT false b.K) ve_str (ve_var 2)) ve_str))) vs_nil) (vs_one (vs_ret (ve_var 2)))))))))) (gl__law_p10_odd Z) (fun _ _ _ _ _ _ us hl => match us, hl with | [_], _ => rfl) rfl
theorem ok__law_p10_spoilt (Z : Gn w K mg base) : Rdy P w K mg base (PDx.gi K) "_law_p10_spoilt" 4 2 [] F__law_p10_spoilt := by
  obtain ⟨fd, FD⟩ := SaysV.fun_ Z.S 31
  have sc : FnScope ["_law_bag_here", "_law_text", "_law_signs", "_law_place", "_law_sign", "_law_way"] ["_law_bag_here", "_law_text"] (defScope (top 33)) := ⟨rfl, rfl, rfl, by decide +kernel, rfl, by decide +kernel, by decide +kernel⟩
  exact rdy_of FD (fn_D (k := 3) (m := m__law_p10_spoilt) (PD.giOk Z.ok) FD sc (fun cdv A outer s H E B hr b => (vs_cons (vs_set sc.nd rfl (Or.inl rfl) (ve_bin (o_addT false b.K) (ve_callTy (c_listS false b.calm b.K) rfl (fr_list Z) bt_list (va_cons ve_str va_nil)) (ve_lst (o := false) (va_cons ve_str (va_cons ve_str va_nil))))) (vs_cons (vs_set sc.nd rfl (Or.inl rfl) (ve_call ((ok__law_draw Z).v hr (by decide)) b.gd b.tk rfl (va_cons (ve_var 0) (va_cons (ve_bin (o_addT false b.K) (ve_callB (c_len b.K) rfl (fr_len Z) bt_len (va_cons (ve_var 1) va_nil)) ve_int) va_nil)))) (vs_cons (vs_set sc.nd rfl (Or.inl rfl) (ve_call ((ok__law_pick Z).v hr (by decide)) b.gd b.tk rfl (va_cons (ve_var 0) (va_cons (ve_var 2) va_nil)))) (vs_cons (vs_set sc.nd rfl (Or.inl rfl) (ve_call ((ok__law_draw Z).v hr (by decide)) b.gd b.tk rfl (va_cons (ve_var 0) (va_cons ve_int va_nil)))) (vs_cons (vs_if (vt_cmp (o_eq b.K b.un) (ve_var 5) ve_int rfl) (vs_one (vs_ret (ve_bin (o_addT false b.K) (ve_sliceT false b.K (ve_var 1) vo_none (vo_some (ve_var 3))) (ve_sliceT false b.K (ve_var 1) (vo_some (ve_bin (o_addT false b.K) (ve_var 3) ve_int)) vo_none)))) vs_nil) (vs_cons (vs_if (vt_cmp (o_eq b.K b.un) (ve_var 5) ve_int rfl) (vs_one (vs_ret (ve_bin (o_addT false b.K) (ve_bin (o_addT false b.K) (ve_sliceT false b.K (ve_var 1) vo_none (vo_some (ve_var 3))) (ve_var 4)) (ve_sliceT false b.K (ve_var 1) (vo_some (ve_var 3)) vo_none)))) vs_nil) (vs_cons (vs_if (vt_cmp (o_eq b.K b.un) (ve_var 5) ve_int rfl) (vs_one (vs_ret (ve_bin (o_addT false b.K) (ve_bin (o_addT false b.K) (ve_sliceT false b.K (ve_var 1) vo_none (vo_some (ve_var 3))) (ve_var 4)) (ve_sliceT false b.K (ve_var 1) (vo_some (ve_bin (o_addT false b.K) (ve_var 3) ve_int)) vo_none)))) vs_nil) (vs_cons (vs_if (vt_cmp (o_eq b.K b.un) (ve_var 5) ve_int rfl) (vs_one (vs_ret (ve_sliceT false b.K (ve_var 1) vo_none (vo_some (ve_var 3))))) vs_nil) (vs_cons (vs_if (vt_cmp (o_eq b.K b.un) (ve_var 5) ve_int rfl) (vs_one (vs_ret (ve_bin (o_addT false b.K) (ve_var 1) (ve_var 4)))) vs_nil) (vs_cons (vs_if (vt_cmp (o_eq b.K b.un) (ve_var 5) ve_int rfl) (vs_one (vs_ret (ve_bin (o_addT false b.K) (ve_bin (o_addT false b.K) (ve_sliceT false b.K (ve_var 1) vo_none (vo_some (ve_var 3))) (ve_sliceT false b.K (ve_var 1) (vo_some (ve_var 3)) (vo_some (ve_bin (o_addT false b.K) (ve_var 3) ve_int)))) (ve_sliceT false b.K (ve_var 1) (vo_some (ve_var 3)) vo_none)))) vs_nil) (vs_one (vs_ret (ve_var 1))))))))))))))) (gl__law_p10_spoilt Z) (fun _ _ _ _ _ _ us hl => match us, hl with | [_, _], _ => rfl) rfl
theorem z__law_p10_text (Z : Gn w K mg base) : Rdy P w K mg base (PDx.gi K) "_law_p10_text" 1 1 [] (fnOf 3 1 (fun _ _ => .stuck)) := by
  obtain ⟨fd, FD⟩ := SaysV.fun_ Z.S 25
  have sc : FnScope ["_law_value", "_law_text", "_law_part"] ["_law_value"] (defScope (top 27)) := ⟨rfl, rfl, rfl, by decide +kernel, rfl, by decide +kernel, by decide +kernel⟩
  exact rdy_of FD (fn_D (k := 0) (m := fun _ _ => .stuck) (PD.giOk Z.ok) FD sc (fun cdv A outer s H E B hr b => vss_stuck)) (gl__law_p10_text Z) (fun _ _ _ _ _ _ us hl => match us, hl with | [_], _ => rfl) rfl
theorem st__law_p10_text (Z : Gn w K mg base) {G__law_p10_text : Fn} (e : Nat) (ih__law_p10_text : Rdy P w K mg base (PDx.gi K) "_law_p10_text" (1 + e) 1 [] G__law_p10_text) : Rdy P w K mg base (PDx.gi K) "_law_p10_text" (1 + e + 1) 1 [] (fnOf 3 1 (m__law_p10_text G__law_p10_text)) := by
  obtain ⟨fd, FD⟩ := SaysV.fun_ Z.S 25
  have sc : FnScope ["_law_value", "_law_text", "_law_part"] ["_law_value"] (defScope (top 27)) := ⟨rfl, rfl, rfl, by decide +kernel, rfl, by decide +kernel, by decide +kernel⟩
  exact rdy_of FD (fn_D (k := 1 + e) (m := m__law_p10_text G__law_p10_text) (PD.giOk Z.ok) FD sc (fun cdv A outer s H E B hr b => (vs_cons (vs_if (vt_val (ve_isi b.G b.K (.bt "tuple") rfl (fr_isinstance Z) (ve_var 0) (pe_bltn (v := .ty "tuple") rfl (fr_tuple Z) bt_tuple rfl))) (vs_cons (vs_set sc.nd rfl (Or.inl rfl) ve_str) (vs_cons (vs_for b.K b.ps b.calm (ve_var 0) (vg_name sc.nd rfl (Or.inl rfl)) (vs_one (vs_set sc.nd rfl (Or.inl rfl) (ve_bin (o_addT false b.K) (ve_bin (o_addT false b.K) (ve_var 1) ve_str) (ve_call (ih__law_p10_text.v hr (Nat.le_refl _)) b.gd b.tk rfl (va_cons (ve_var 2) va_nil)))))) (vs_one (vs_ret (ve_bin (o_addT false b.K) (ve_bin (o_addT false b.K) ve_str (ve_sliceT false b.K (ve_var 1) (vo_some ve_int) vo_none)) ve_str))))) vs_nil) (vs_cons (vs_if (vt_cmp o_is (ve_var 0) ve_non rfl) (vs_one (vs_ret ve_str)) vs_nil) (vs_cons (vs_if (vt_val (ve_isi b.G b.K (.bt "bool") rfl (fr_isinstance Z) (ve_var 0) (pe_bltn (v := .ty "bool") rfl (fr_bool Z) bt_bool rfl))) (vs_one (vs_ret (ve_ix b.K (ve_lst (o := false) (va_cons ve_str (va_cons ve_str va_nil))) (ve_callTy (c_intB (Z.S.fact 64)) rfl (fr_int Z) bt_int (va_cons (ve_var 0) va_nil)) fun _ _ => rfl))) vs_nil) (vs_cons (vs_if (vt_val (ve_isi b.G b.K (.bt "str") rfl (fr_isinstance Z) (ve_var 0) (pe_bltn (v := .ty "str") rfl (fr_str Z) bt_str rfl))) (vs_one (vs_ret (ve_if (vt_cmp (o_ne b.K b.un) (ve_var 0) ve_str rfl) (ve_var 0) ve_str))) vs_nil) (vs_one (vs_ret (ve_callTy (c_strB (Z.S.fact 64) b.un) rfl (fr_str Z) bt_str (va_cons (ve_var 0) va_nil)))))))))) (gl__law_p10_text Z) (fun _ _ _ _ _ _ us hl => match us, hl with | [_], _ => rfl) rfl
theorem oks__law_p10_text (Z : Gn w K mg base) : ∀ e : Nat, (Rdy P w K mg base (PDx.gi K) "_law_p10_text" (1 + e) 1 [] (R__law_p10_text e))
  | 0 => z__law_p10_text Z
  | e + 1 => st__law_p10_text Z e (oks__law_p10_text Z e)
theorem ok__law_p10_text (Z : Gn w K mg base) : Rdy P w K mg base (PDx.gi K) "_law_p10_text" 71 1 [] F__law_p10_text := (oks__law_p10_text Z 70)
theorem ok__law_p10_number (Z : Gn w K mg base) : Rdy P w K mg base (PDx.gi K) "_law_p10_number" 4 1 [] F__law_p10_number := by
  obtain ⟨fd, FD⟩ := SaysV.fun_ Z.S 21
  have sc : FnScope ["_law_bag_here", "_law_way", "_law_number"] ["_law_bag_here"] (defScope (top 23)) := ⟨rfl, rfl, rfl, by decide +kernel, rfl, by decide +kernel, by decide +kernel⟩
  exact rdy_of FD (fn_D (k := 3) (m := m__law_p10_number) (PD.giOk Z.ok) FD sc (fun cdv A outer s H E B hr b => (vs_cons (vs_set sc.nd rfl (Or.inl rfl) (ve_call ((ok__law_draw Z).v hr (by decide)) b.gd b.tk rfl (va_cons (ve_var 0) (va_cons ve_int va_nil)))) (vs_cons (vs_set sc.nd rfl (Or.inl rfl) (ve_call ((ok__law_draw Z).v hr (by decide)) b.gd b.tk rfl (va_cons (ve_var 0) (va_cons ve_int va_nil)))) (vs_cons (vs_if (vt_cmp (o_eq b.K b.un) (ve_var 1) ve_int rfl) (vs_one (vs_set sc.nd rfl (Or.inl rfl) (ve_call ((ok__law_draw Z).v hr (by decide)) b.gd b.tk rfl (va_cons (ve_var 0) (va_cons (ve_bin o_pow ve_int ve_int) va_nil))))) vs_nil) (vs_cons (vs_if (vt_cmp (o_eq b.K b.un) (ve_var 1) ve_int rfl) (vs_one (vs_set sc.nd rfl (Or.inl rfl) (ve_callTy (c_intB (Z.S.fact 64)) rfl (fr_int Z) bt_int (va_cons (ve_bin (o_add false b.K) (ve_callTy (c_strB (Z.S.fact 64) b.un) rfl (fr_str Z) bt_str (va_cons (ve_bin (o_add false b.K) ve_int (ve_call ((ok__law_draw Z).v hr (by decide)) b.gd b.tk rfl (va_cons (ve_var 0) (va_cons ve_int va_nil)))) va_nil)) (ve_bin o_mulS (ve_callTy (c_strB (Z.S.fact 64) b.un) rfl (fr_str Z) bt_str (va_cons (ve_call ((ok__law_draw Z).v hr (by decide)) b.gd b.tk rfl (va_cons (ve_var 0) (va_cons ve_int va_nil))) va_nil)) (ve_call ((ok__law_draw Z).v hr (by decide)) b.gd b.tk rfl (va_cons (ve_var 0) (va_cons ve_int va_nil))))) va_nil)))) vs_nil) (vs_cons (vs_if (PW.pt (vw_and (vt_cmp (o_eq b.K b.un) (ve_var 1) ve_int rfl) (vw_and1 (vt_cmp (o_eq b.K b.un) (ve_call ((ok__law_draw Z).v hr (by decide)) b.gd b.tk rfl (va_cons (ve_var 0) (va_cons ve_int va_nil))) ve_int rfl)))) (vs_one (vs_set sc.nd rfl (Or.inl rfl) (ve_callTy (c_intB (Z.S.fact 64)) rfl (fr_int Z) bt_int (va_cons (ve_bin (o_add false b.K) (ve_callTy (c_strB (Z.S.fact 64) b.un) rfl (fr_str Z) bt_str (va_cons (ve_bin (o_add false b.K) ve_int (ve_call ((ok__law_draw Z).v hr (by decide)) b.gd b.tk rfl (va_cons (ve_var 0) (va_cons ve_int va_nil)))) va_nil)) (ve_bin o_mulS (ve_callTy (c_strB (Z.S.fact 64) b.un) rfl (fr_str Z) bt_str (va_cons (ve_call ((ok__law_draw Z).v hr (by decide)) b.gd b.tk rfl (va_cons (ve_var 0) (va_cons ve_int va_nil))) va_nil)) (ve_call ((ok__law_pick Z).v hr (by decide)) b.gd b.tk rfl (va_cons (ve_var 0) (va_cons (ve_lst (o := false) (va_cons ve_int (va_cons ve_int (va_cons ve_int (va_cons ve_int va_nil))))) va_nil))))) va_nil)))) vs_nil) (vs_cons (vs_if (vt_cmp (o_eq b.K b.un) (ve_call ((ok__law_draw Z).v hr (by decide)) b.gd b.tk rfl (va_cons (ve_var 0) (va_cons ve_int va_nil))) ve_int rfl) (vs_one (vs_ret (ve_neg (ve_var 2)))) vs_nil) (vs_one (vs_ret (ve_var 2))))))))))) (gl__law_p10_number Z) (fun _ _ _ _ _ _ us hl => match us, hl with | [_], _ => rfl) rfl
theorem ok__law_p10_word (Z : Gn w K mg base) : Rdy P w K mg base (PDx.gi K) "_law_p10_word" 4 1 [] F__law_p10_word := by
  obtain ⟨fd, FD⟩ := SaysV.fun_ Z.S 20
  have sc : FnScope ["_law_bag_here", "_law_signs", "_law_size", "_law_word", "_law_k"] ["_law_bag_here"] (defScope (top 22)) := ⟨rfl, rfl, rfl, by decide +kernel, rfl, by decide +kernel, by decide +kernel⟩
  exact rdy_of FD (fn_D (k := 3) (m := m__law_p10_word) (PD.giOk Z.ok) FD sc (fun cdv A outer s H E B hr b => (vs_cons (vs_set sc.nd rfl (Or.inl rfl) ve_str) (vs_cons (vs_set sc.nd rfl (Or.inl rfl) (ve_call ((ok__law_pick Z).v hr (by decide)) b.gd b.tk rfl (va_cons (ve_var 0) (va_cons (ve_lst (o := false) (va_cons ve_int (va_cons ve_int (va_cons ve_int (va_cons ve_int (va_cons (ve_bin (o_add false b.K) ve_int (ve_call ((ok__law_draw Z).v hr (by decide)) b.gd b.tk rfl (va_cons (ve_var 0) (va_cons ve_int va_nil)))) (va_cons ve_int va_nil))))))) va_nil)))) (vs_cons (vs_set sc.nd rfl (Or.inl rfl) (ve_ix b.K (ve_var 1) (ve_call ((ok__law_draw Z).v hr (by decide)) b.gd b.tk rfl (va_cons (ve_var 0) (va_cons ve_int va_nil))) fun _ _ => rfl)) (vs_cons (vs_forR1 b.ps b.calm rfl (fr_range Z) (va_cons (ve_bin o_sub (ve_var 2) ve_int) va_nil) (vg_name sc.nd rfl (Or.inl rfl)) (vs_one (vs_set sc.nd rfl (Or.inl rfl) (ve_bin (o_add false b.K) (ve_var 3) (ve_ix b.K (ve_bin (o_add false b.K) (ve_var 1) ve_str) (ve_call ((ok__law_draw Z).v hr (by decide)) b.gd b.tk rfl (va_cons (ve_var 0) (va_cons ve_int va_nil))) fun _ _ => rfl))))) (vs_cons (vs_if (vt_cmp (o_eq b.K b.un) (ve_call ((ok__law_draw Z).v hr (by decide)) b.gd b.tk rfl (va_cons (ve_var 0) (va_cons ve_int va_nil))) ve_int rfl) (vs_one (vs_set sc.nd rfl (Or.inl rfl) (ve_call ((ok__law_pick Z).v hr (by decide)) b.gd b.tk rfl (va_cons (ve_var 0) (va_cons (ve_lst (o := false) (va_cons ve_str (va_cons ve_str (va_cons ve_str (va_cons ve_str (va_cons ve_str (va_cons ve_str (va_cons ve_str (va_cons ve_str (va_cons ve_str (va_cons ve_str (va_cons ve_str (va_cons ve_str va_nil))))))))))))) va_nil))))) vs_nil) (vs_cons (vs_if (vt_cmp (o_in b.K (un65 hr)) (ve_var 3) (ve_lst (o := false) (va_cons ve_str (va_cons ve_str (va_cons ve_str va_nil)))) rfl) (vs_one (vs_ret (ve_bin (o_add false b.K) (ve_var 3) ve_str))) vs_nil) (vs_one (vs_ret (ve_var 3))))))))))) (gl__law_p10_word Z) (fun _ _ _ _ _ _ us hl => match us, hl with | [_], _ => rfl) rfl
theorem ok__law_p10_atom (Z : Gn w K mg base) : Rdy P w K mg base (PDx.gi K) "_law_p10_atom" 5 1 [] F__law_p10_atom := by
  obtain ⟨fd, FD⟩ := SaysV.fun_ Z.S 22
  have sc : FnScope ["_law_bag_here", "_law_way"] ["_law_bag_here"] (defScope (top 24)) := ⟨rfl, rfl, rfl, by decide +kernel, rfl, by decide +kernel, by decide +kernel⟩
  exact rdy_of FD (fn_D (k := 4) (m := m__law_p10_atom) (PD.giOk Z.ok) FD sc (fun cdv A outer s H E B hr b => (vs_cons (vs_set sc.nd rfl (Or.inl rfl) (ve_call ((ok__law_draw Z).v hr (by decide)) b.gd b.tk rfl (va_cons (ve_var 0) (va_cons ve_int va_nil)))) (vs_cons (vs_if (vt_cmp o_lt (ve_var 1) ve_int rfl) (vs_one (vs_ret (ve_call ((ok__law_p10_word Z).v hr (by decide)) b.gd b.tk rfl (va_cons (ve_var 0) va_nil)))) vs_nil) (vs_cons (vs_if (vt_cmp (o_eq b.K b.un) (ve_var 1) ve_int rfl) (vs_one (vs_ret ve_str)) vs_nil) (vs_cons (vs_if (vt_cmp (o_eq b.K b.un) (ve_var 1) ve_int rfl) (vs_one (vs_ret ve_non)) vs_nil) (vs_cons (vs_if (vt_cmp (o_eq b.K b.un) (ve_var 1) ve_int rfl) (vs_one (vs_ret (ve_cmp (o_eq b.K b.un) (ve_call ((ok__law_draw Z).v hr (by decide)) b.gd b.tk rfl (va_cons (ve_var 0) (va_cons ve_int va_nil))) ve_int rfl))) vs_nil) (vs_one (vs_ret (ve_call ((ok__law_p10_number Z).v hr (by decide)) b.gd b.tk rfl (va_cons (ve_var 0) va_nil))))))))))) (gl__law_p10_atom Z) (fun _ _ _ _ _ _ us hl => match us, hl with | [_], _ => rfl) rfl
theorem z__law_p10_value (Z : Gn w K mg base) : Rdy P w K mg base (PDx.gi K) "_law_p10_value" 5 2 [] (fnOf 3 2 (fun _ _ => .stuck)) := by
  obtain ⟨fd, FD⟩ := SaysV.fun_ Z.S 23
  have sc : FnScope ["_law_bag_here", "_law_levels", "_law_k"] ["_law_bag_here", "_law_levels"] (defScope (top 25)) := ⟨rfl, rfl, rfl, by decide +kernel, rfl, by decide +kernel, by decide +kernel⟩
  exact rdy_of FD (fn_D (k := 4) (m := fun _ _ => .stuck) (PD.giOk Z.ok) FD sc (fun cdv A outer s H E B hr b => vss_stuck)) (gl__law_p10_value Z) (fun _ _ _ _ _ _ us hl => match us, hl with | [_, _], _ => rfl) rfl
theorem st__law_p10_value (Z : Gn w K mg base) {G__law_p10_value : Fn} (e : Nat) (ih__law_p10_value : Rdy P w K mg base (PDx.gi K) "_law_p10_value" (5 + e) 2 [] G__law_p10_value) : Rdy P w K mg base (PDx.gi K) "_law_p10_value" (5 + e + 1) 2 [] (fnOf 3 2 (m__law_p10_value G__law_p10_value)) := by
  obtain ⟨fd, FD⟩ := SaysV.fun_ Z.S 23
  have sc : FnScope ["_law_bag_here", "_law_levels", "_law_k"] ["_law_bag_here", "_law_levels"] (defScope (top 25)) := ⟨rfl, rfl, rfl, by decide +kernel, rfl, by decide +kernel, by decide +kernel⟩
  exact rdy_of FD (fn_D (k := 5 + e) (m := m__law_p10_value G__law_p10_value) (PD.giOk Z.ok) FD sc (fun cdv A outer s H E B hr b => (vs_cons (vs_if (PW.pt (vw_or (vt_cmp (o_eq b.K b.un) (ve_var 1) ve_int rfl) (vw_or1 (vt_cmp (o_eq b.K b.un) (ve_call ((ok__law_draw Z).v hr (by omega)) b.gd b.tk rfl (va_cons (ve_var 0) (va_cons ve_int va_nil))) ve_int rfl)))) (vs_one (vs_ret (ve_call ((ok__law_p10_atom Z).v hr (by omega)) b.gd b.tk rfl (va_cons (ve_var 0) va_nil)))) vs_nil) (vs_one (vs_ret (ve_callTy (c_tuple b.K) rfl (fr_tuple Z) bt_tuple (va_cons (ve_lcR (o := false) (own := [("_law_k", 2)]) b sc.nd rfl (fr_range Z) (va_cons (ve_call ((ok__law_draw Z).v hr (by omega)) b.gd b.tk rfl (va_cons (ve_var 0) (va_cons ve_int va_nil))) va_nil) (blkOk_by (own := [("_law_k", 2)]) rfl) (cg_name (i := 2) (by decide)) (fun _ _ _ _ _ => (pg_name sc.nd rfl (Or.inl rfl))) (fun _ _ _ _ _ => vts_nil) (fun _ _ _ _ _ => (ve_call (ih__law_p10_value.v hr (Nat.le_refl _)) b.blk.gd b.blk.tk rfl (va_cons (ve_var 0) (va_cons (ve_bin o_sub (ve_var 1) ve_int) va_nil))))) va_nil))))))) (gl__law_p10_value Z) (fun _ _ _ _ _ _ us hl => match us, hl with | [_, _], _ => rfl) rfl
theorem oks__law_p10_value (Z : Gn w K mg base) : ∀ e : Nat, (Rdy P w K mg base (PDx.gi K) "_law_p10_value" (5 + e) 2 [] (R__law_p10_value e))
  | 0 => z__law_p10_value Z
  | e + 1 => st__law_p10_value Z e (oks__law_p10_value Z e)
theorem ok__law_p10_value (Z : Gn w K mg base) : Rdy P w K mg base (PDx.gi K) "_law_p10_value" 11 2 [] F__law_p10_value := (oks__law_p10_value Z 6)
theorem ok__law_p10_wrapped (Z : Gn w K mg base) : Rdy P w K mg base (PDx.gi K) "_law_p10_wrapped" 4 3 [] F__law_p10_wrapped := by
  obtain ⟨fd, FD⟩ := SaysV.fun_ Z.S 24
  have sc : FnScope ["_law_bag_here", "_law_value", "_law_most", "_law_many", "_law_k", "_law_way"] ["_law_bag_here", "_law_value", "_law_most"] (defScope (top 26)) := ⟨rfl, rfl, rfl, by decide +kernel, rfl, by decide +kernel, by decide +kernel⟩
  exact rdy_of FD (fn_D (k := 3) (m := m__law_p10_wrapped) (PD.giOk Z.ok) FD sc (fun cdv A outer s H E B hr b => (vs_cons (vs_set sc.nd rfl (Or.inl rfl) (ve_call ((ok__law_pick Z).v hr (by decide)) b.gd b.tk rfl (va_cons (ve_var 0) (va_cons (ve_lst (o := false) (va_cons ve_int (va_cons ve_int (va_cons (ve_callB (c_min2 b.calm) rfl (fr_min Z) bt_min (va_cons (ve_var 2) (va_cons (ve_bin (o_add false b.K) ve_int (ve_call ((ok__law_draw Z).v hr (by decide)) b.gd b.tk rfl (va_cons (ve_var 0) (va_cons ve_int va_nil)))) va_nil))) (va_cons (ve_call ((ok__law_draw Z).v hr (by decide)) b.gd b.tk rfl (va_cons (ve_var 0) (va_cons (ve_bin (o_add false b.K) (ve_var 2) ve_int) va_nil))) (va_cons (ve_var 2) va_nil)))))) va_nil)))) (vs_cons (vs_forR1 b.ps b.calm rfl (fr_range Z) (va_cons (ve_var 3) va_nil) (vg_name sc.nd rfl (Or.inl rfl)) (vs_cons (vs_set sc.nd rfl (Or.inl rfl) (ve_call ((ok__law_draw Z).v hr (by decide)) b.gd b.tk rfl (va_cons (ve_var 0) (va_cons ve_int va_nil)))) (vs_one (vs_if (vt_cmp o_lt (ve_var 5) ve_int rfl) (vs_one (vs_set sc.nd rfl (Or.inl rfl) (ve_tup (va_cons (ve_var 1) va_nil)))) (vs_one (vs_if (vt_cmp (o_eq b.K b.un) (ve_var 5) ve_int rfl) (vs_one (vs_set sc.nd rfl (Or.inl rfl) (ve_tup (va_cons (ve_call ((ok__law_pick Z).v hr (by decide)) b.gd b.tk rfl (va_cons (ve_var 0) (va_cons (ve_lst (o := false) (va_cons ve_str (va_cons ve_str (va_cons ve_int (va_cons ve_non (va_cons ve_bl (va_cons (ve_tup va_nil) va_nil))))))) va_nil))) (va_cons (ve_var 1) va_nil))))) (vs_one (vs_set sc.nd rfl (Or.inl rfl) (ve_tup (va_cons (ve_var 1) (va_cons (ve_call ((ok__law_pick Z).v hr (by decide)) b.gd b.tk rfl (va_cons (ve_var 0) (va_cons (ve_lst (o := false) (va_cons ve_int (va_cons ve_str (va_cons ve_bl (va_cons ve_str (va_cons (ve_neg ve_int) va_nil)))))) va_nil))) va_nil))))))))))) (vs_one (vs_ret (ve_var 1))))))) (gl__law_p10_wrapped Z) (fun _ _ _ _ _ _ us hl => match us, hl with | [_, _, _], _ => rfl) rfl
theorem ok__law_p10_any (Z : Gn w K mg base) : Rdy P w K mg base (PDx.gi K) "_law_p10_any" 72 1 [] F__law_p10_any := by
  obtain ⟨fd, FD⟩ := SaysV.fun_ Z.S 33
  have sc : FnScope ["_law_bag_here", "_law_text", "_law_k"] ["_law_bag_here"] (defScope (top 35)) := ⟨rfl, rfl, rfl, by decide +kernel, rfl, by decide +kernel, by decide +kernel⟩
  exact rdy_of FD (fn_D (k := 71) (m := m__law_p10_any) (PD.giOk Z.ok) FD sc (fun cdv A outer s H E B hr b => (vs_cons (vs_if (vt_cmp (o_eq b.K b.un) (ve_call ((ok__law_draw Z).v hr (by decide)) b.gd b.tk rfl (va_cons (ve_var 0) (va_cons ve_int va_nil))) ve_int rfl) (vs_one (vs_ret (ve_call ((ok__law_p10_odd Z).v hr (by decide)) b.gd b.tk rfl (va_cons (ve_var 0) va_nil)))) vs_nil) (vs_cons (vs_set sc.nd rfl (Or.inl rfl) (ve_call ((ok__law_p10_text Z).v hr (by decide)) b.gd b.tk rfl (va_cons (ve_call ((ok__law_p10_wrapped Z).v hr (by decide)) b.gd b.tk rfl (va_cons (ve_var 0) (va_cons (ve_call ((ok__law_p10_value Z).v hr (by decide)) b.gd b.tk rfl (va_cons (ve_var 0) (va_cons ve_int va_nil))) (va_cons ve_int va_nil)))) va_nil))) (vs_cons (vs_forR1 b.ps b.calm rfl (fr_range Z) (va_cons (ve_call ((ok__law_pick Z).v hr (by decide)) b.gd b.tk rfl (va_cons (ve_var 0) (va_cons (ve_lst (o := false) (va_cons ve_int (va_cons ve_int (va_cons ve_int (va_cons ve_int va_nil))))) va_nil))) va_nil) (vg_name sc.nd rfl (Or.inl rfl)) (vs_one (vs_set sc.nd rfl (Or.inl rfl) (ve_call ((ok__law_p10_spoilt Z).v hr (by decide)) b.gd b.tk rfl (va_cons (ve_var 0) (va_cons (ve_var 1) va_nil)))))) (vs_one (vs_ret (ve_var 1)))))))) (gl__law_p10_any Z) (fun _ _ _ _ _ _ us hl => match us, hl with | [_], _ => rfl) rfl
theorem ok__law_p10_step (Z : Gn w K mg base) : Rdy P w K mg base (PDx.gi K) "_law_p10_step" 1 2 [] F__law_p10_step := by
  obtain ⟨fd, FD⟩ := SaysV.fun_ Z.S 27
  have sc : FnScope ["_law_state", "_law_sign", "_law_kind", "_law_count", "_law_levels", "_law_signs"] ["_law_state", "_law_sign"] (defScope (top 29)) := ⟨rfl, rfl, rfl, by decide +kernel, rfl, by decide +kernel, by decide +kernel⟩
  exact rdy_of FD (fn_D (k := 0) (m := m__law_p10_step) (PD.giOk Z.ok) FD sc (fun cdv A outer s H E B hr b => (vs_cons (vs_unp (ve_var 0) (vg_tup b.K b.calm (vg_cons (vg_name sc.nd rfl (Or.inl rfl)) (vg_cons (vg_name sc.nd rfl (Or.inl rfl)) (vg_cons (vg_name sc.nd rfl (Or.inl rfl)) vg_nil))))) (vs_cons (vs_set sc.nd rfl (Or.inl rfl) ve_str) (vs_cons (vs_if (vt_cmp (o_in b.K (un65 hr)) (ve_var 2) (ve_lst (o := false) (va_cons ve_str (va_cons ve_str va_nil))) rfl) (vs_cons (vs_if (PW.pt (vw_and (vt_cmp (o_eq b.K b.un) (ve_var 1) ve_str rfl) (vw_and1 (vt_cmp (o_eq b.K b.un) (ve_var 2) ve_str rfl)))) (vs_one (vs_ret (ve_tup (va_cons ve_str (va_cons ve_int (va_cons (ve_bin o_sub (ve_var 4) ve_int) va_nil)))))) vs_nil) (vs_cons (vs_if (PW.pt (vw_and (vt_cmp (o_eq b.K b.un) (ve_var 1) ve_str rfl) (vw_and1 (vt_cmp o_lt (ve_var 4) ve_int rfl)))) (vs_one (vs_ret (ve_tup (va_cons ve_str (va_cons ve_int (va_cons (ve_bin (o_add false b.K) (ve_var 4) ve_int) va_nil)))))) vs_nil) (vs_cons (vs_if (vt_cmp (o_in b.K (un65 hr)) (ve_var 1) (ve_var 5) rfl) (vs_one (vs_ret (ve_tup (va_cons ve_str (va_cons ve_int (va_cons (ve_var 4) va_nil)))))) vs_nil) (vs_cons (vs_if (vt_cmp (o_in b.K (un65 hr)) (ve_var 1) ve_str rfl) (vs_one (vs_ret (ve_tup (va_cons ve_str (va_cons ve_int (va_cons (ve_var 4) va_nil)))))) vs_nil) (vs_cons (vs_if (vt_cmp (o_eq b.K b.un) (ve_var 1) ve_str rfl) (vs_one (vs_ret (ve_tup (va_cons ve_str (va_cons ve_int (va_cons (ve_var 4) va_nil)))))) vs_nil) (vs_one (vs_ret (ve_if (vt_cmp (o_eq b.K b.un) (ve_var 1) ve_str rfl) (ve_tup (va_cons ve_str (va_cons ve_int (va_cons (ve_var 4) va_nil)))) ve_non)))))))) vs_nil) (vs_cons (vs_if (PW.pt (vw_and (vt_cmp (o_eq b.K b.un) (ve_var 2) ve_str rfl) (vw_and (vt_cmp o_lt (ve_var 3) ve_int rfl) (vw_and1 (vt_cmp (o_in b.K (un65 hr)) (ve_var 1) (ve_bin (o_add false b.K) (ve_var 5) ve_str) rfl))))) (vs_one (vs_ret (ve_tup (va_cons ve_str (va_cons (ve_bin (o_add false b.K) (ve_var 3) ve_int) (va_cons (ve_var 4) va_nil)))))) vs_nil) (vs_cons (vs_if (PW.pt (vw_and (vt_cmp (o_eq b.K b.un) (ve_var 2) ve_str rfl) (vw_and (vt_cmp o_lt (ve_var 3) ve_int rfl) (vw_and1 (vt_cmp (o_in b.K (un65 hr)) (ve_var 1) ve_str rfl))))) (vs_one (vs_ret (ve_tup (va_cons ve_str (va_cons (ve_bin (o_add false b.K) (ve_var 3) ve_int) (va_cons (ve_var 4) va_nil)))))) vs_nil) (vs_cons (vs_if (PW.pt (vw_and (vt_cmp (o_eq b.K b.un) (ve_var 2) ve_str rfl) (vw_and1 (vt_cmp (o_in b.K (un65 hr)) (ve_var 1) ve_str rfl)))) (vs_one (vs_ret (ve_tup (va_cons ve_str (va_cons ve_int (va_cons (ve_var 4) va_nil)))))) vs_nil) (vs_cons (vs_if (PW.pt (vw_and (vt_cmp o_gt (ve_var 4) ve_int rfl) (vw_and1 (vt_cmp (o_eq b.K b.un) (ve_var 1) ve_str rfl)))) (vs_one (vs_ret (ve_tup (va_cons ve_str (va_cons ve_int (va_cons (ve_var 4) va_nil)))))) vs_nil) (vs_cons (vs_if (PW.pt (vw_and (vt_cmp o_gt (ve_var 4) ve_int rfl) (vw_and1 (vt_cmp (o_eq b.K b.un) (ve_var 1) ve_str rfl)))) (vs_one (vs_ret (ve_tup (va_cons ve_str (va_cons ve_int (va_cons (ve_bin o_sub (ve_var 4) ve_int) va_nil)))))) vs_nil) (vs_one (vs_ret ve_non)))))))))))) (gl__law_p10_step Z) (fun _ _ _ _ _ _ us hl => match us, hl with | [_, _], _ => rfl) rfl
theorem ok__law_p10_place (Z : Gn w K mg base) : Rdy P w K mg base (PDx.gi K) "_law_p10_place" 2 1 [] F__law_p10_place := by
  obtain ⟨fd, FD⟩ := SaysV.fun_ Z.S 28
  have sc : FnScope ["_law_text", "_law_state", "_law_k"] ["_law_text"] (defScope (top 30)) := ⟨rfl, rfl, rfl, by decide +kernel, rfl, by decide +kernel, by decide +kernel⟩
  exact rdy_of FD (fn_D (k := 1) (m := m__law_p10_place) (PD.giOk Z.ok) FD sc (fun cdv A outer s H E B hr b => (vs_cons (vs_set sc.nd rfl (Or.inl rfl) (ve_tup (va_cons ve_str (va_cons ve_int (va_cons ve_int va_nil))))) (vs_cons (vs_forR1 b.ps b.calm rfl (fr_range Z) (va_cons (ve_callB (c_len b.K) rfl (fr_len Z) bt_len (va_cons (ve_var 0) va_nil)) va_nil) (vg_name sc.nd rfl (Or.inl rfl)) (vs_cons (vs_set sc.nd rfl (Or.inl rfl) (ve_call ((ok__law_p10_step Z).v hr (by decide)) b.gd b.tk rfl (va_cons (ve_var 1) (va_cons (ve_ix b.K (ve_var 0) (ve_var 2) fun _ _ => rfl) va_nil)))) (vs_one (vs_if (vt_cmp o_is (ve_var 1) ve_non rfl) (vs_one (vs_ret (ve_var 2))) vs_nil)))) (vs_cons (vs_if (PW.pt (vw_or (vt_cmp o_gt (ve_ix b.K (ve_var 1) ve_int fun _ _ => rfl) ve_int rfl) (vw_or1 (vt_cmp (o_in b.K (un65 hr)) (ve_ix b.K (ve_var 1) ve_int fun _ _ => rfl) (ve_lst (o := false) (va_cons ve_str (va_cons ve_str va_nil))) rfl)))) (vs_one (vs_ret (ve_callB (c_len b.K) rfl (fr_len Z) bt_len (va_cons (ve_var 0) va_nil)))) vs_nil) (vs_one (vs_ret ve_non))))))) (gl__law_p10_place Z) (fun _ _ _ _ _ _ us hl => match us, hl with | [_], _ => rfl) rfl
theorem ok__law_p10_special (Z : Gn w K mg base) : Rdy P w K mg base (PDx.gi K) "_law_p10_special" 1 1 [] F__law_p10_special := by
  obtain ⟨fd, FD⟩ := SaysV.fun_ Z.S 30
  have sc : FnScope ["_law_word"] ["_law_word"] (defScope (top 32)) := ⟨rfl, rfl, rfl, by decide +kernel, rfl, by decide +kernel, by decide +kernel⟩
  exact rdy_of FD (fn_D (k := 0) (m := m__law_p10_special) (PD.giOk Z.ok) FD sc (fun cdv A outer s H E B hr b => (vs_cons (vs_if (vt_cmp (o_eq b.K b.un) (ve_var 0) ve_str rfl) (vs_one (vs_ret ve_non)) vs_nil) (vs_one (vs_ret (ve_cmp (o_eq b.K b.un) (ve_var 0) ve_str rfl)))))) (gl__law_p10_special Z) (fun _ _ _ _ _ _ us hl => match us, hl with | [_], _ => rfl) rfl
theorem ok__law_p10_read (Z : Gn w K mg base) : RdyT P w K mg base (PDx.gi K) "_law_p10_read" 2 1 [] F__law_p10_read := by
  obtain ⟨fd, FD⟩ := SaysV.fun_ Z.S 29
  have sc : FnScope ["_law_text", "_law_rows", "_law_word", "_law_row"] ["_law_text"] (defScope (top 31)) := ⟨rfl, rfl, rfl, by decide +kernel, rfl, by decide +kernel, by decide +kernel⟩
  exact rdyT_of FD (fn_DT (k := 1) (m := m__law_p10_read) (PD.giOk Z.ok) FD sc (fun cdv A outer s H E B hr b => (vs_consT (PST.of (vs_set sc.nd rfl (Or.inl rfl) (ve_lstC (va_cons (ve_lstC va_nil) va_nil)))) (vs_consT (vs_forTE b.K b.ps b.calm (ve_splitT false (ve_replT (ve_replT (PET.of' (ve_var 0)))) ve_str) (vg_name sc.nd rfl (Or.inl rfl)) (vs_one (vs_if (vt_cmp (o_eq b.K b.un) (ve_var 2) ve_str rfl) (vs_one (vs_expr (ve_metM b.K mm_append (ve_var 1) (va_cons (ve_lstC va_nil) va_nil)))) (vs_one (vs_if (vt_cmp (o_eq b.K b.un) (ve_var 2) ve_str rfl) (vs_cons (vs_set sc.nd rfl (Or.inl rfl) (ve_callTy (c_tuple b.K) rfl (fr_tuple Z) bt_tuple (va_cons (ve_metM0 b.K mm_pop (ve_var 1)) va_nil))) (vs_one (vs_expr (ve_metM b.K mm_append (ve_ix b.K (ve_var 1) (ve_bin o_sub (ve_callB (c_len b.K) rfl (fr_len Z) bt_len (va_cons (ve_var 1) va_nil)) ve_int) fun _ _ => rfl) (va_cons (ve_var 3) va_nil))))) (vs_one (vs_if (vt_cmp (o_eq b.K b.un) (ve_var 2) ve_str rfl) (vs_one (vs_expr (ve_metM b.K mm_append (ve_ix b.K (ve_var 1) (ve_bin o_sub (ve_callB (c_len b.K) rfl (fr_len Z) bt_len (va_cons (ve_var 1) va_nil)) ve_int) fun _ _ => rfl) (va_cons ve_str va_nil)))) (vs_one (vs_if (vt_cmp (o_in b.K (un65 hr)) (ve_var 2) (ve_lst (o := false) (va_cons ve_str (va_cons ve_str (va_cons ve_str va_nil)))) rfl) (vs_one (vs_expr (ve_metM b.K mm_append (ve_ix b.K (ve_var 1) (ve_bin o_sub (ve_callB (c_len b.K) rfl (fr_len Z) bt_len (va_cons (ve_var 1) va_nil)) ve_int) fun _ _ => rfl) (va_cons (ve_call ((ok__law_p10_special Z).v hr (by decide)) b.gd b.tk rfl (va_cons (ve_var 2) va_nil)) va_nil)))) (vs_one (vs_if (PW.pt (vw_and (vt_cmp (o_ne b.K b.un) (ve_var 2) ve_str rfl) (vw_and1 (vt_cmp (o_in b.K (un65 hr)) (ve_ix b.K (ve_var 2) ve_int fun _ _ => rfl) ve_str rfl)))) (vs_one (vs_expr (ve_metM b.K mm_append (ve_ix b.K (ve_var 1) (ve_bin o_sub (ve_callB (c_len b.K) rfl (fr_len Z) bt_len (va_cons (ve_var 1) va_nil)) ve_int) fun _ _ => rfl) (va_cons (ve_callTy (c_intB (Z.S.fact 64)) rfl (fr_int Z) bt_int (va_cons (ve_var 2) va_nil)) va_nil)))) (vs_one (vs_if (vt_cmp (o_ne b.K b.un) (ve_var 2) ve_str rfl) (vs_one (vs_expr (ve_metM b.K mm_append (ve_ix b.K (ve_var 1) (ve_bin o_sub (ve_callB (c_len b.K) rfl (fr_len Z) bt_len (va_cons (ve_var 1) va_nil)) ve_int) fun _ _ => rfl) (va_cons (ve_var 2) va_nil)))) vs_nil))))))))))))) (PSsT.of (vs_one (vs_ret (ve_ix b.K (ve_ix b.K (ve_var 1) ve_int fun _ _ => rfl) ve_int fun _ _ => rfl)))))))) (gl__law_p10_read Z) (fun _ _ _ _ _ _ us hl => match us, hl with | [_], _ => rfl) rfl
theorem ok__law_is_int (Z : Gn w K mg base) : Rdy P w K mg base (PDx.gi K) "_law_is_int" 1 1 [] F__law_is_int := by
  obtain ⟨fd, FD⟩ := SaysV.fun_ Z.S 19
  have sc : FnScope ["_law_thing"] ["_law_thing"] (defScope (top 21)) := ⟨rfl, rfl, rfl, by decide +kernel, rfl, by decide +kernel, by decide +kernel⟩
  exact rdy_of FD (fn_D (k := 0) (m := m__law_is_int) (PD.giOk Z.ok) FD sc (fun cdv A outer s H E B hr b => (vs_one (vs_ret (ve_and (ve_isi b.G b.K (.bt "int") rfl (fr_isinstance Z) (ve_var 0) (pe_bltn (v := .ty "int") rfl (fr_int Z) bt_int rfl)) (ve_one (ve_not (ve_isi b.G b.K (.bt "bool") rfl (fr_isinstance Z) (ve_var 0) (pe_bltn (v := .ty "bool") rfl (fr_bool Z) bt_bool rfl))))))))) (gl__law_is_int Z) (fun _ _ _ _ _ _ us hl => match us, hl with | [_], _ => rfl) rfl
theorem okq__law_is_int (Z : Gn w K mg base) : RdyQ P w K mg base (PDx.gi K) "_law_is_int" 1 1 F__law_is_int := by
  obtain ⟨fd, FD⟩ := SaysV.fun_ Z.S 19
  have sc : FnScope ["_law_thing"] ["_law_thing"] (defScope (top 21)) := ⟨rfl, rfl, rfl, by decide +kernel, rfl, by decide +kernel, by decide +kernel⟩
  exact rdyQ_of FD (fn_DQ (k := 0) (m := m__law_is_int) (PD.giOk Z.ok) FD sc (fun cdv A outer s H E p B b => (vs_one (vs_ret (ve_and (ve_isi b.G b.K (.bt "int") rfl (fr_isinstance Z) (ve_var 0) (pe_bltn (v := .ty "int") rfl (fr_int Z) bt_int rfl)) (ve_one (ve_not (ve_isi b.G b.K (.bt "bool") rfl (fr_isinstance Z) (ve_var 0) (pe_bltn (v := .ty "bool") rfl (fr_bool Z) bt_bool rfl))))))))) (gl__law_is_int Z) (fun _ _ _ _ _ _ us hl => match us, hl with | [_], _ => rfl) rfl
theorem ok_BadText_xinitx (Z : Gn w K mg base) : RdyE P w K mg base (PDx.gi K) "BadText" 2 1 1 (mkE "place" "class_name" "BadText") := by
  obtain ⟨fd, FD⟩ := SaysV.fun_ Z.S 1
  have sc : FnScope ["self", "place"] ["self", "place"] (defScope (sub 3 0)) := ⟨rfl, rfl, rfl, by decide +kernel, rfl, by decide +kernel, by decide +kernel⟩
  have T := kExo_ok (Z.S.fact 48)
  have M := He.meth_ok (Z.S.fact 49)
  exact ⟨_, fd, _, _, T, M.at_, beq_iff_eq.mp M.fn, fn_E FD sc T (He.noat_ok (Z.S.fact 50)) (He.noat_ok (Z.S.fact 51)) (Or.inl rfl) (Or.inl rfl) rfl rfl rfl rfl, FD.bindsN (ps := ["self", "place"]) (fun _ _ _ _ _ _ us hl => match us, hl with | [_, _], _ => rfl), gl_BadText Z, by decide, mkE_ok⟩
theorem ok_PlainReader_expect (Z : Gn w K mg base) : RdyM P w K mg base (PDx.gi K) 5 "expect" 3 1 [] F_PlainReader_expect := by
  obtain ⟨fd, FD⟩ := SaysV.fun_ Z.S 7
  have sc : FnScope ["self", "good"] ["self", "good"] (defScope (sub 14 3)) := ⟨rfl, rfl, rfl, by decide +kernel, rfl, by decide +kernel, by decide +kernel⟩
  exact rdyM_of (g := PDx.gi K) (c := 5) FD (fn_D (k := 2) (m := m_PlainReader_expect) (PD.giOk Z.ok) FD sc (fun cdv A outer s H E B hr b => (vs_one (vs_if (vt_not (vt_val (ve_var 1))) (vs_one (vs_raise b ((ok_BadText_xinitx Z).v hr (by decide)) rfl (va_cons (ve_fld b.G b.K (ve_var 0)) va_nil))) vs_nil)))) (He.meth_ok (Z.S.fact 55)) (show decide (5 ∈ PDx.cls) = true by decide) (fun _ _ _ _ _ _ us hl => match us, hl with | [_, _], _ => rfl) rfl
theorem ok_PlainReader_sign (Z : Gn w K mg base) : RdyM P w K mg base (PDx.gi K) 5 "sign" 1 0 [] F_PlainReader_sign := by
  obtain ⟨fd, FD⟩ := SaysV.fun_ Z.S 5
  have sc : FnScope ["self"] ["self"] (defScope (sub 14 1)) := ⟨rfl, rfl, rfl, by decide +kernel, rfl, by decide +kernel, by decide +kernel⟩
  exact rdyM_of (g := PDx.gi K) (c := 5) FD (fn_D (k := 0) (m := m_PlainReader_sign) (PD.giOk Z.ok) FD sc (fun cdv A outer s H E B hr b => (vs_one (vs_ret (ve_sliceT false b.K (ve_fld b.G b.K (ve_var 0)) (vo_some (ve_fld b.G b.K (ve_var 0))) (vo_some (ve_bin (o_addT false b.K) (ve_fld b.G b.K (ve_var 0)) ve_int))))))) (He.meth_ok (Z.S.fact 53)) (show decide (5 ∈ PDx.cls) = true by decide) (fun _ _ _ _ _ _ us hl => match us, hl with | [_], _ => rfl) rfl
theorem ok_PlainReader_close (Z : Gn w K mg base) : RdyM P w K mg base (PDx.gi K) 5 "close" 5 0 [] F_PlainReader_close := by
  obtain ⟨fd, FD⟩ := SaysV.fun_ Z.S 12
  have sc : FnScope ["self", "value"] ["self"] (defScope (sub 14 8)) := ⟨rfl, rfl, rfl, by decide +kernel, rfl, by decide +kernel, by decide +kernel⟩
  exact rdyM_of (g := PDx.gi K) (c := 5) FD (fn_D (k := 4) (m := m_PlainReader_close) (PD.giOk Z.ok) FD sc (fun cdv A outer s H E B hr b => (vs_cons (vs_expr (ve_meth b ((ok_PlainReader_expect Z).v hr (by decide)) (ve_var 0) (va_cons (ve_cmp (o_eq b.K b.un) (ve_meth0 b ((ok_PlainReader_sign Z).v hr (by decide)) (ve_var 0)) ve_str rfl) va_nil))) (vs_cons (vs_augfldC b.G b.K (pe_var (i := 0) rfl (Or.inl rfl)) ve_int) (vs_cons (vs_set sc.nd rfl (Or.inl rfl) (ve_callTy (c_tuple b.K) rfl (fr_tuple Z) bt_tuple (va_cons (ve_metM0 b.K mm_pop (ve_fld b.G b.K (ve_var 0))) va_nil))) (vs_one (vs_expr (ve_metM b.K mm_append (ve_ix b.K (ve_fld b.G b.K (ve_var 0)) (ve_neg ve_int) fun _ _ => rfl) (va_cons (ve_var 1) va_nil))))))))) (He.meth_ok (Z.S.fact 60)) (show decide (5 ∈ PDx.cls) = true by decide) (fun _ _ _ _ _ _ us hl => match us, hl with | [_], _ => rfl) rfl
theorem ok_PlainReader_is_in (Z : Gn w K mg base) : RdyM P w K mg base (PDx.gi K) 5 "is_in" 3 1 [] F_PlainReader_is_in := by
  obtain ⟨fd, FD⟩ := SaysV.fun_ Z.S 6
  have sc : FnScope ["self", "signs"] ["self", "signs"] (defScope (sub 14 2)) := ⟨rfl, rfl, rfl, by decide +kernel, rfl, by decide +kernel, by decide +kernel⟩
  exact rdyM_of (g := PDx.gi K) (c := 5) FD (fn_D (k := 2) (m := m_PlainReader_is_in) (PD.giOk Z.ok) FD sc (fun cdv A outer s H E B hr b => (vs_one (vs_ret (ve_and (ve_cmp (o_ne b.K b.un) (ve_meth0 b ((ok_PlainReader_sign Z).v hr (by decide)) (ve_var 0)) ve_str rfl) (ve_one (ve_cmp (o_in b.K (un65 hr)) (ve_meth0 b ((ok_PlainReader_sign Z).v hr (by decide)) (ve_var 0)) (ve_var 1) rfl))))))) (He.meth_ok (Z.S.fact 54)) (show decide (5 ∈ PDx.cls) = true by decide) (fun _ _ _ _ _ _ us hl => match us, hl with | [_, _], _ => rfl) rfl
theorem ok_PlainReader_read_signs (Z : Gn w K mg base) : RdyM P w K mg base (PDx.gi K) 5 "read_signs" 5 2 [] F_PlainReader_read_signs := by
  obtain ⟨fd, FD⟩ := SaysV.fun_ Z.S 8
  have sc : FnScope ["self", "signs", "most", "start"] ["self", "signs", "most"] (defScope (sub 14 4)) := ⟨rfl, rfl, rfl, by decide +kernel, rfl, by decide +kernel, by decide +kernel⟩
  exact rdyM_of (g := PDx.gi K) (c := 5) FD (fn_D (k := 4) (m := m_PlainReader_read_signs) (PD.giOk Z.ok) FD sc (fun cdv A outer s H E B hr b => (vs_cons (vs_set sc.nd rfl (Or.inl rfl) (ve_fld b.G b.K (ve_var 0))) (vs_cons (vs_while 20000 b.ps (PW.pt (vw_and (vt_val (ve_meth b ((ok_PlainReader_is_in Z).v hr (by decide)) (ve_var 0) (va_cons (ve_var 1) va_nil))) (vw_and1 (vt_cmp o_lt (ve_fld b.G b.K (ve_var 0)) (ve_bin (o_addT false b.K) (ve_var 3) (ve_var 2)) rfl)))) (vs_one (vs_augfldC b.G b.K (pe_var (i := 0) rfl (Or.inl rfl)) ve_int))) (vs_one (vs_ret (ve_sliceT false b.K (ve_fld b.G b.K (ve_var 0)) (vo_some (ve_var 3)) (vo_some (ve_fld b.G b.K (ve_var 0)))))))))) (He.meth_ok (Z.S.fact 56)) (show decide (5 ∈ PDx.cls) = true by decide) (fun _ _ _ _ _ _ us hl => match us, hl with | [_, _, _], _ => rfl) rfl
theorem ok_PlainReader_read_integer (Z : Gn w K mg base) : RdyM P w K mg base (PDx.gi K) 5 "read_integer" 7 0 [] F_PlainReader_read_integer := by
  obtain ⟨fd, FD⟩ := SaysV.fun_ Z.S 9
  have sc : FnScope ["self", "below", "number"] ["self"] (defScope (sub 14 5)) := ⟨rfl, rfl, rfl, by decide +kernel, rfl, by decide +kernel, by decide +kernel⟩
  exact rdyM_of (g := PDx.gi K) (c := 5) FD (fn_D (k := 6) (m := m_PlainReader_read_integer) (PD.giOk Z.ok) FD sc (fun cdv A outer s H E B hr b => (vs_cons (vs_set sc.nd rfl (Or.inl rfl) (ve_cmp (o_eq b.K b.un) (ve_meth0 b ((ok_PlainReader_sign Z).v hr (by decide)) (ve_var 0)) ve_str rfl)) (vs_cons (vs_if (vt_val (ve_var 1)) (vs_cons (vs_augfldC b.G b.K (pe_var (i := 0) rfl (Or.inl rfl)) ve_int) (vs_cons (vs_if (vt_not (vt_val (ve_meth b ((ok_PlainReader_is_in Z).v hr (by decide)) (ve_var 0) (va_cons (ve_glob rfl (gd_DIGITS Z)) va_nil)))) (vs_one (vs_ret ve_str)) vs_nil) (vs_one (vs_expr (ve_meth b ((ok_PlainReader_expect Z).v hr (by decide)) (ve_var 0) (va_cons (ve_cmp (o_ne b.K b.un) (ve_meth0 b ((ok_PlainReader_sign Z).v hr (by decide)) (ve_var 0)) ve_str rfl) va_nil)))))) vs_nil) (vs_cons (vs_if (vt_cmp (o_eq b.K b.un) (ve_meth0 b ((ok_PlainReader_sign Z).v hr (by decide)) (ve_var 0)) ve_str rfl) (vs_cons (vs_augfldC b.G b.K (pe_var (i := 0) rfl (Or.inl rfl)) ve_int) (vs_one (vs_ret ve_int))) vs_nil) (vs_cons (vs_set sc.nd rfl (Or.inl rfl) (ve_callTy (c_intB (Z.S.fact 64)) rfl (fr_int Z) bt_int (va_cons (ve_meth b ((ok_PlainReader_read_signs Z).v hr (by decide)) (ve_var 0) (va_cons (ve_glob rfl (gd_DIGITS Z)) (va_cons (ve_glob rfl (gd_MOST_PLAIN_DIGITS Z)) va_nil))) va_nil))) (vs_one (vs_ret (ve_if (vt_val (ve_var 1)) (ve_neg (ve_var 2)) (ve_var 2)))))))))) (He.meth_ok (Z.S.fact 57)) (show decide (5 ∈ PDx.cls) = true by decide) (fun _ _ _ _ _ _ us hl => match us, hl with | [_], _ => rfl) rfl
theorem ok_PlainReader_read_word (Z : Gn w K mg base) : RdyM P w K mg base (PDx.gi K) 5 "read_word" 7 0 [] F_PlainReader_read_word := by
  obtain ⟨fd, FD⟩ := SaysV.fun_ Z.S 10
  have sc : FnScope ["self", "word"] ["self"] (defScope (sub 14 6)) := ⟨rfl, rfl, rfl, by decide +kernel, rfl, by decide +kernel, by decide +kernel⟩
  exact rdyM_of (g := PDx.gi K) (c := 5) FD (fn_D (k := 6) (m := m_PlainReader_read_word) (PD.giOk Z.ok) FD sc (fun cdv A outer s H E B hr b => (vs_cons (vs_set sc.nd rfl (Or.inl rfl) (ve_meth b ((ok_PlainReader_read_signs Z).v hr (by decide)) (ve_var 0) (va_cons (ve_glob rfl (gd_SIGNS Z)) (va_cons (ve_glob rfl (gd_MOST_SIGNS Z)) va_nil)))) (vs_one (vs_ret (ve_if (vt_tin (kt_WORDS Z) rfl (ve_var 1)) (ve_tix (kt_WORDS Z) rfl (ve_var 1) (fun _ _ => rfl)) (ve_var 1))))))) (He.meth_ok (Z.S.fact 58)) (show decide (5 ∈ PDx.cls) = true by decide) (fun _ _ _ _ _ _ us hl => match us, hl with | [_], _ => rfl) rfl
theorem z_PlainReader_read_value (Z : Gn w K mg base) : RdyM P w K mg base (PDx.gi K) 5 "read_value" 8 0 [] (fnOf 2 1 (fun _ _ => .stuck)) := by
  obtain ⟨fd, FD⟩ := SaysV.fun_ Z.S 11
  have sc : FnScope ["self", "value"] ["self"] (defScope (sub 14 7)) := ⟨rfl, rfl, rfl, by decide +kernel, rfl, by decide +kernel, by decide +kernel⟩
  exact rdyM_of (g := PDx.gi K) (c := 5) FD (fn_D (k := 7) (m := fun _ _ => .stuck) (PD.giOk Z.ok) FD sc (fun cdv A outer s H E B hr b => vss_stuck)) (He.meth_ok (Z.S.fact 59)) (show decide (5 ∈ PDx.cls) = true by decide) (fun _ _ _ _ _ _ us hl => match us, hl with | [_], _ => rfl) rfl
theorem st_PlainReader_read_value (Z : Gn w K mg base) {G_PlainReader_read_value : Fn} (e : Nat) (ih_PlainReader_read_value : RdyM P w K mg base (PDx.gi K) 5 "read_value" (8 + e) 0 [] G_PlainReader_read_value) : RdyM P w K mg base (PDx.gi K) 5 "read_value" (8 + e + 1) 0 [] (fnOf 2 1 (m_PlainReader_read_value G_PlainReader_read_value)) := by
  obtain ⟨fd, FD⟩ := SaysV.fun_ Z.S 11
  have sc : FnScope ["self", "value"] ["self"] (defScope (sub 14 7)) := ⟨rfl, rfl, rfl, by decide +kernel, rfl, by decide +kernel, by decide +kernel⟩
  exact rdyM_of (g := PDx.gi K) (c := 5) FD (fn_D (k := 8 + e) (m := m_PlainReader_read_value G_PlainReader_read_value) (PD.giOk Z.ok) FD sc (fun cdv A outer s H E B hr b => (vs_cons (vs_if (vt_cmp (o_eq b.K b.un) (ve_meth0 b ((ok_PlainReader_sign Z).v hr (by omega)) (ve_var 0)) ve_str rfl) (vs_cons (vs_expr (ve_meth b ((ok_PlainReader_expect Z).v hr (by omega)) (ve_var 0) (va_cons (ve_cmp o_le (ve_callB (c_len b.K) rfl (fr_len Z) bt_len (va_cons (ve_fld b.G b.K (ve_var 0)) va_nil)) (ve_glob rfl (gd_MOST_TUPLES Z)) rfl) va_nil))) (vs_cons (vs_augfldC b.G b.K (pe_var (i := 0) rfl (Or.inl rfl)) ve_int) (vs_cons (vs_expr (ve_metM b.K mm_append (ve_fld b.G b.K (ve_var 0)) (va_cons (ve_lstC va_nil) va_nil))) (vs_cons (vs_if (vt_cmp (o_eq b.K b.un) (ve_meth0 b ((ok_PlainReader_sign Z).v hr (by omega)) (ve_var 0)) ve_str rfl) (vs_one vs_retN) vs_nil) (vs_cons (vs_expr (ve_meth0 b (ih_PlainReader_read_value.v hr (Nat.le_refl _)) (ve_var 0))) (vs_one vs_retN)))))) vs_nil) (vs_cons (vs_expr (ve_meth b ((ok_PlainReader_expect Z).v hr (by omega)) (ve_var 0) (va_cons (ve_or (ve_meth b ((ok_PlainReader_is_in Z).v hr (by omega)) (ve_var 0) (va_cons (ve_glob rfl (gd_LETTERS Z)) va_nil)) (ve_or (ve_meth b ((ok_PlainReader_is_in Z).v hr (by omega)) (ve_var 0) (va_cons (ve_glob rfl (gd_DIGITS Z)) va_nil)) (ve_one (ve_cmp (o_eq b.K b.un) (ve_meth0 b ((ok_PlainReader_sign Z).v hr (by omega)) (ve_var 0)) ve_str rfl)))) va_nil))) (vs_cons (vs_set sc.nd rfl (Or.inl rfl) (ve_if (vt_val (ve_meth b ((ok_PlainReader_is_in Z).v hr (by omega)) (ve_var 0) (va_cons (ve_glob rfl (gd_LETTERS Z)) va_nil))) (ve_meth0 b ((ok_PlainReader_read_word Z).v hr (by omega)) (ve_var 0)) (ve_meth0 b ((ok_PlainReader_read_integer Z).v hr (by omega)) (ve_var 0)))) (vs_one (vs_expr (ve_metM b.K mm_append (ve_ix b.K (ve_fld b.G b.K (ve_var 0)) (ve_neg ve_int) fun _ _ => rfl) (va_cons (ve_var 1) va_nil))))))))) (He.meth_ok (Z.S.fact 59)) (show decide (5 ∈ PDx.cls) = true by decide) (fun _ _ _ _ _ _ us hl => match us, hl with | [_], _ => rfl) rfl
theorem oks_PlainReader_read_value (Z : Gn w K mg base) : ∀ e : Nat, (RdyM P w K mg base (PDx.gi K) 5 "read_value" (8 + e) 0 [] (R_PlainReader_read_value e))
  | 0 => z_PlainReader_read_value Z
  | e + 1 => st_PlainReader_read_value Z e (oks_PlainReader_read_value Z e)
theorem ok_PlainReader_read_value (Z : Gn w K mg base) : RdyM P w K mg base (PDx.gi K) 5 "read_value" 72 0 [] F_PlainReader_read_value := (oks_PlainReader_read_value Z 64)
theorem ok_PlainReader_read_all (Z : Gn w K mg base) : RdyM P w K mg base (PDx.gi K) 5 "read_all" 74 0 [] F_PlainReader_read_all := by
  obtain ⟨fd, FD⟩ := SaysV.fun_ Z.S 13
  have sc : FnScope ["self"] ["self"] (defScope (sub 14 9)) := ⟨rfl, rfl, rfl, by decide +kernel, rfl, by decide +kernel, by decide +kernel⟩
  exact rdyM_of (g := PDx.gi K) (c := 5) FD (fn_D (k := 73) (m := m_PlainReader_read_all) (PD.giOk Z.ok) FD sc (fun cdv A outer s H E B hr b => (vs_cons (vs_expr (ve_meth0 b ((ok_PlainReader_read_value Z).v hr (by decide)) (ve_var 0))) (vs_cons (vs_while 20000 b.ps (vt_cmp o_gt (ve_callB (c_len b.K) rfl (fr_len Z) bt_len (va_cons (ve_fld b.G b.K (ve_var 0)) va_nil)) ve_int rfl) (vs_one (vs_if (vt_cmp (o_eq b.K b.un) (ve_meth0 b ((ok_PlainReader_sign Z).v hr (by decide)) (ve_var 0)) ve_str rfl) (vs_cons (vs_augfldC b.G b.K (pe_var (i := 0) rfl (Or.inl rfl)) ve_int) (vs_one (vs_expr (ve_meth0 b ((ok_PlainReader_read_value Z).v hr (by decide)) (ve_var 0))))) (vs_one (vs_expr (ve_meth0 b ((ok_PlainReader_close Z).v hr (by decide)) (ve_var 0))))))) (vs_cons (vs_expr (ve_meth b ((ok_PlainReader_expect Z).v hr (by decide)) (ve_var 0) (va_cons (ve_cmp (o_eq b.K b.un) (ve_meth0 b ((ok_PlainReader_sign Z).v hr (by decide)) (ve_var 0)) ve_str rfl) va_nil))) (vs_one (vs_ret (ve_ix b.K (ve_ix b.K (ve_fld b.G b.K (ve_var 0)) ve_int fun _ _ => rfl) ve_int fun _ _ => rfl)))))))) (He.meth_ok (Z.S.fact 61)) (show decide (5 ∈ PDx.cls) = true by decide) (fun _ _ _ _ _ _ us hl => match us, hl with | [_], _ => rfl) rfl
theorem ok_PlainReader_xinitx (Z : Gn w K mg base) : RdyI P w K mg base (PDx.gi K) 5 1 1 [] FI_PlainReader_xinitx := by
  obtain ⟨fd, FD⟩ := SaysV.fun_ Z.S 4
  have sc : FnScope ["self", "text"] ["self", "text"] (defScope (sub 14 0)) := ⟨rfl, rfl, rfl, by decide +kernel, rfl, by decide +kernel, by decide +kernel⟩
  have bn : Binds K fd ["self", "text"] [] := FD.bindsN (fun _ _ _ _ _ _ us hl => match us, hl with | [_, _], _ => rfl)
  exact ⟨_, fd, _, _, [], [], fn_I (c := 5) (k := 0) (m := m_PlainReader_xinitx) (PD.giOk Z.ok) FD sc (fun cdv A outer s H E B hr b => (vs_cons (vs_setfld b.G b.K (pe_var (i := 0) rfl (Or.inl rfl)) (ve_var 1)) (vs_cons (vs_setfld b.G b.K (pe_var (i := 0) rfl (Or.inl rfl)) ve_int) (vs_one (vs_setfld b.G b.K (pe_var (i := 0) rfl (Or.inl rfl)) (ve_lstC (va_cons (ve_lstC va_nil) va_nil))))))), He.mkr_ok (Z.S.fact 52), bn, .nil, fun _ _ => rfl, rfl⟩
theorem ok_read_plain (Z : Gn w K mg base) : Rdy P w K mg base (PDx.gi K) "read_plain" 76 1 [] F_read_plain := by
  obtain ⟨fd, FD⟩ := SaysV.fun_ Z.S 14
  have sc : FnScope ["text"] ["text"] (defScope (top 15)) := ⟨rfl, rfl, rfl, by decide +kernel, rfl, by decide +kernel, by decide +kernel⟩
  exact rdy_of FD (fn_D (k := 75) (m := m_read_plain) (PD.giOk Z.ok) FD sc (fun cdv A outer s H E B hr b => (vs_one (vs_ret (ve_meth0 b ((ok_PlainReader_read_all Z).v hr (by decide)) (ve_makeC b ((ok_PlainReader_xinitx Z).v hr (by decide)) rfl (gl_PlainReader Z) (va_cons (ve_var 0) va_nil))))))) (gl_read_plain Z) (fun _ _ _ _ _ _ us hl => match us, hl with | [_], _ => rfl) rfl
theorem ok__law_p10_refused (Z : Gn w K mg base) : Rdy P w K mg base (PDx.gi K) "_law_p10_refused" 77 2 [] F__law_p10_refused := by
  obtain ⟨fd, FD⟩ := SaysV.fun_ Z.S 34
  have sc : FnScope ["_law_text", "_law_place", "e"] ["_law_text", "_law_place"] (defScope (top 36)) := ⟨rfl, rfl, rfl, by decide +kernel, rfl, by decide +kernel, by decide +kernel⟩
  exact rdy_of FD (fn_D (k := 76) (m := m__law_p10_refused) (PD.giOk Z.ok) FD sc (fun cdv A outer s H E B hr b => (vs_cons (vs_tryF b rfl rfl sc.nd rfl rfl (ct_BadText Z rfl) (fun W1 pn xe b1 => (vs_one (vs_expr (ve_call ((ok_read_plain Z).v hr (by decide)) b1.gd b1.tk rfl (va_cons (ve_var 0) va_nil))))) (fun a1 d1 c1 oe pn S => (vs_cons (vs_if (PW.pt (vw_or (vt_val (ve_isx S (PD.xcOk Z.ok) (.own 1) 2 rfl (Or.inl rfl) rfl (fr_isinstance Z) (pe_glob rfl (gl_BadLine Z) rfl))) (vw_or (vt_val (ve_isx S (PD.xcOk Z.ok) (.own 3) 2 rfl (Or.inl rfl) rfl (fr_isinstance Z) (pe_glob rfl (gl_BadAct Z) rfl))) (vw_or1 (vt_val (ve_isx S (PD.xcOk Z.ok) (.own 4) 2 rfl (Or.inl rfl) rfl (fr_isinstance Z) (pe_glob rfl (gl_Refused Z) rfl))))))) (vs_one (vs_ret ve_bl)) vs_nil) (vs_one (vs_ret (ve_and (ve_isx S (PD.xcOk Z.ok) (.own 0) 2 rfl (Or.inl rfl) rfl (fr_isinstance Z) (pe_glob rfl (gl_LotError Z) rfl)) (ve_and (ve_callQ (okq__law_is_int Z) hr (by decide) rfl (va_cons (ve_xf S (PD.xcOk Z.ok) "place" 2 rfl (Or.inl rfl)) va_nil)) (ve_one (ve_cmp (o_eq S.K hr.units) (ve_xf S (PD.xcOk Z.ok) "place" 2 rfl (Or.inl rfl)) (ve_var 1) rfl))))))))) (vs_one (vs_ret ve_bl))))) (gl__law_p10_refused Z) (fun _ _ _ _ _ _ us hl => match us, hl with | [_, _], _ => rfl) rfl
theorem z__law_p10_same (Z : Gn w K mg base) : Rdy P w K mg base (PDx.gi K) "_law_p10_same" 1 2 [] (fnOf 3 2 (fun _ _ => .stuck)) := by
  obtain ⟨fd, FD⟩ := SaysV.fun_ Z.S 26
  have sc : FnScope ["_law_actual", "_law_due", "_law_k"] ["_law_actual", "_law_due"] (defScope (top 28)) := ⟨rfl, rfl, rfl, by decide +kernel, rfl, by decide +kernel, by decide +kernel⟩
  exact rdy_of FD (fn_D (k := 0) (m := fun _ _ => .stuck) (PD.giOk Z.ok) FD sc (fun cdv A outer s H E B hr b => vss_stuck)) (gl__law_p10_same Z) (fun _ _ _ _ _ _ us hl => match us, hl with | [_, _], _ => rfl) rfl
theorem st__law_p10_same (Z : Gn w K mg base) {G__law_p10_same : Fn} (e : Nat) (ih__law_p10_same : Rdy P w K mg base (PDx.gi K) "_law_p10_same" (1 + e) 2 [] G__law_p10_same) : Rdy P w K mg base (PDx.gi K) "_law_p10_same" (1 + e + 1) 2 [] (fnOf 3 2 (m__law_p10_same G__law_p10_same)) := by
  obtain ⟨fd, FD⟩ := SaysV.fun_ Z.S 26
  have sc : FnScope ["_law_actual", "_law_due", "_law_k"] ["_law_actual", "_law_due"] (defScope (top 28)) := ⟨rfl, rfl, rfl, by decide +kernel, rfl, by decide +kernel, by decide +kernel⟩
  exact rdy_of FD (fn_D (k := 1 + e) (m := m__law_p10_same G__law_p10_same) (PD.giOk Z.ok) FD sc (fun cdv A outer s H E B hr b => (vs_cons (vs_if (vt_val (ve_isi b.G b.K (.bt "tuple") rfl (fr_isinstance Z) (ve_var 1) (pe_bltn (v := .ty "tuple") rfl (fr_tuple Z) bt_tuple rfl))) (vs_cons (vs_if (PW.pt (vw_or (vt_not (vt_val (ve_isi b.G b.K (.bt "tuple") rfl (fr_isinstance Z) (ve_var 0) (pe_bltn (v := .ty "tuple") rfl (fr_tuple Z) bt_tuple rfl)))) (vw_or1 (vt_cmp (o_ne b.K b.un) (ve_callB (c_len b.K) rfl (fr_len Z) bt_len (va_cons (ve_var 0) va_nil)) (ve_callB (c_len b.K) rfl (fr_len Z) bt_len (va_cons (ve_var 1) va_nil)) rfl)))) (vs_one (vs_ret ve_bl)) vs_nil) (vs_one (vs_ret (ve_cmp (o_eq b.K b.un) (ve_callB (c_len b.K) rfl (fr_len Z) bt_len (va_cons (ve_lcR (o := false) (own := [("_law_k", 2)]) b sc.nd rfl (fr_range Z) (va_cons (ve_callB (c_len b.K) rfl (fr_len Z) bt_len (va_cons (ve_var 1) va_nil)) va_nil) (blkOk_by (own := [("_law_k", 2)]) rfl) (cg_name (i := 2) (by decide)) (fun _ _ _ _ _ => (pg_name sc.nd rfl (Or.inl rfl))) (fun _ _ _ _ _ => (vts_one (vt_not (vt_val (ve_call (ih__law_p10_same.v hr (Nat.le_refl _)) b.blk.gd b.blk.tk rfl (va_cons (ve_ix b.blk.K (ve_var 0) (ve_var 2) fun _ _ => rfl) (va_cons (ve_ix b.blk.K (ve_var 1) (ve_var 2) fun _ _ => rfl) va_nil))))))) (fun _ _ _ _ _ => (ve_var 2))) va_nil)) ve_int rfl)))) vs_nil) (vs_cons (vs_if (vt_cmp o_is (ve_var 1) ve_non rfl) (vs_one (vs_ret (ve_cmp o_is (ve_var 0) ve_non rfl))) vs_nil) (vs_cons (vs_if (vt_val (ve_isi b.G b.K (.bt "bool") rfl (fr_isinstance Z) (ve_var 1) (pe_bltn (v := .ty "bool") rfl (fr_bool Z) bt_bool rfl))) (vs_one (vs_ret (ve_and (ve_isi b.G b.K (.bt "bool") rfl (fr_isinstance Z) (ve_var 0) (pe_bltn (v := .ty "bool") rfl (fr_bool Z) bt_bool rfl)) (ve_one (ve_cmp (o_eq b.K b.un) (ve_var 0) (ve_var 1) rfl))))) vs_nil) (vs_cons (vs_if (vt_val (ve_isi b.G b.K (.bt "str") rfl (fr_isinstance Z) (ve_var 1) (pe_bltn (v := .ty "str") rfl (fr_str Z) bt_str rfl))) (vs_one (vs_ret (ve_and (ve_isi b.G b.K (.bt "str") rfl (fr_isinstance Z) (ve_var 0) (pe_bltn (v := .ty "str") rfl (fr_str Z) bt_str rfl)) (ve_one (ve_cmp (o_eq b.K b.un) (ve_var 0) (ve_var 1) rfl))))) vs_nil) (vs_one (vs_ret (ve_and (ve_call ((ok__law_is_int Z).v hr (by omega)) b.gd b.tk rfl (va_cons (ve_var 0) va_nil)) (ve_one (ve_cmp (o_eq b.K b.un) (ve_var 0) (ve_var 1) rfl))))))))))) (gl__law_p10_same Z) (fun _ _ _ _ _ _ us hl => match us, hl with | [_, _], _ => rfl) rfl
theorem oks__law_p10_same (Z : Gn w K mg base) : ∀ e : Nat, (Rdy P w K mg base (PDx.gi K) "_law_p10_same" (1 + e) 2 [] (R__law_p10_same e))
  | 0 => z__law_p10_same Z
  | e + 1 => st__law_p10_same Z e (oks__law_p10_same Z e)
theorem ok__law_p10_same (Z : Gn w K mg base) : Rdy P w K mg base (PDx.gi K) "_law_p10_same" 71 2 [] F__law_p10_same := (oks__law_p10_same Z 70)
theorem fg_law (Z : Gn w K mg base) {fd : FuncData} (FD : FunD K r_law.name r_law.qual r_law.params r_law.body r_law.scope [] [] (r_law.pth K) fd) : FnG P w K mg base 78 (r_law.pth K) fd ["_law_script"] (spD (PDx.gi K) 1 F_law) := by
  have sc : FnScope ["_law_script", "_law_bag_here", "_law_texts", "_law_places", "_law_k", "_law_text"] ["_law_script"] (defScope (top 37)) := ⟨rfl, rfl, rfl, by decide +kernel, rfl, by decide +kernel, by decide +kernel⟩
  exact fn_D (k := 77) (m := m_law) (PD.giOk Z.ok) FD sc (fun cdv A outer s H E B hr b => (vs_cons (vs_set sc.nd rfl (Or.inr rfl) (ve_call ((ok__law_bag Z).v hr (by decide)) b.gd b.tk rfl (va_cons (ve_var 0) va_nil))) (vs_cons (vs_setLcR (o := false) (own := [("_law_k", 4)]) b sc.nd rfl rfl (sw_true rfl rfl rfl rfl) rfl (fr_range Z) (va_cons ve_int va_nil) (blkOk_by (own := [("_law_k", 4)]) rfl) (cg_name (i := 4) (by decide)) (fun _ _ _ _ _ => (pg_name sc.nd rfl (Or.inl rfl))) (fun _ _ _ _ _ => vts_nil) (fun _ _ _ _ _ => (ve_call ((ok__law_p10_any Z).v hr (by decide)) b.blk.gd b.blk.tk rfl (va_cons (ve_var 1) va_nil)))) (vs_cons (vs_setLc (o := false) (own := [("_law_text", 5)]) b sc.nd rfl rfl (sw_true rfl rfl rfl rfl) (ve_var 2) (blkOk_by (own := [("_law_text", 5)]) rfl) (cg_name (i := 5) (by decide)) (fun _ _ _ _ _ => (pg_name sc.nd rfl (Or.inl rfl))) (fun _ _ _ _ _ => vts_nil) (fun _ _ _ _ _ => (ve_call ((ok__law_p10_place Z).v hr (by decide)) b.blk.gd b.blk.tk rfl (va_cons (ve_var 5) va_nil)))) (vs_cons (vs_forKT b.K b.ps b.calm (va_cons ve_int (va_cons ve_int (va_cons ve_int (va_cons ve_int (va_cons ve_int (va_cons ve_int (va_cons ve_int (va_cons ve_int (va_cons ve_int (va_cons ve_int (va_cons ve_int va_nil))))))))))) (vg_name sc.nd rfl (Or.inl rfl)) (vs_oneT (vs_ifT (PTT.of (vt_cmp o_isnot (ve_ix b.K (ve_var 3) (ve_var 4) fun _ _ => rfl) ve_non rfl)) (PSsT.of (vs_one (vs_if (vt_not (vt_val (ve_call ((ok__law_p10_refused Z).v hr (by decide)) b.gd b.tk rfl (va_cons (ve_ix b.K (ve_var 2) (ve_var 4) fun _ _ => rfl) (va_cons (ve_ix b.K (ve_var 3) (ve_var 4) fun _ _ => rfl) va_nil))))) (vs_one (vs_ret ve_bl)) vs_nil))) (vs_oneT (vs_ifT (vt_notT (vt_valT (ve_callA ((ok__law_p10_same Z).v hr (by decide)) b.gd b.tk rfl (va_consT (PET.of' (ve_call ((ok_read_plain Z).v hr (by decide)) b.gd b.tk rfl (va_cons (ve_ix b.K (ve_var 2) (ve_var 4) fun _ _ => rfl) va_nil))) (va_consT (ve_callT ((ok__law_p10_read Z).v hr (by decide)) b.gd b.tk rfl (va_cons (ve_ix b.K (ve_var 2) (ve_var 4) fun _ _ => rfl) va_nil)) (PAT.of va_nil)))))) (PSsT.of (vs_one (vs_ret ve_bl))) (PSsT.of vs_nil)))))) (vs_one (vs_ret ve_bl)))))))
end
end G75
set_option exponentiation.threshold 8000
namespace G75
open PySem L2 Vi
@[simp] theorem fIntB_int (i : Int) (h : Hc) : fIntB [.d (.int i)] h = .ok (.d (.int i)) h := rfl
@[simp] theorem fIntB_bl (i : Bool) (h : Hc) : fIntB [.d (.bl i)] h = fIntOf [.d (.bl i)] h := rfl
theorem fdiv_pos {a g : Int} (hg : 0 < g) : a.fdiv g = a / g := Int.fdiv_eq_ediv_of_nonneg a (by omega)
theorem cDiv_of {i g : Int} (h0 : g ≠ 0) (h : g.natAbs.log2 < 8000) : cDiv i g = true := by
  unfold cDiv
  have : g.natAbs.log2 < 9000 := by omega
  simp [h0, this]
theorem abs_if (a : Int) : (if a < 0 then -a else a) = (a.natAbs : Int) := by
  split <;> omega
theorem log2_lt {a k : Nat} (h : a < 2 ^ k) (hk : 0 < k) : a.log2 < k := by
  by_cases h0 : a = 0
  · subst h0
    simpa using hk
  · exact (Nat.log2_lt h0).mpr h
theorem fIx_ref (n : Nat) (i : Int) (h : Hc) (xs : List D) (e : h[n]? = some (.lst xs)) : fIx (.d (.ref n)) (.d (.int i)) h = (match atI xs i with
  | some d => .ok (.d d) h
  | none => .stuck) := by
  have el : lst? h (.d (.ref n)) = some xs := by
    show (match h[n]?.map Cell.bare with
      | some (.lst xs) => some xs
      | _ => none) = _
    rw [e]
    rfl
  show (match lst? h (.d (.ref n)) with
    | some xs => (match atI xs i with
      | some d => R.ok (Vl.d d) h
      | none => .stuck)
    | none => _) = _
  rw [el]
abbrev bagC (t : Hc) (ns : List Int) (p v sd l c : Int) : Hc := .lst [.lst (ns.map D.int), .int p, .int v, .int sd, .int l, .int c] :: t
theorem v_bag (ns : List Int) : F__law_bag [.kl (ns.map D.int)] [] = .ok (.ref 0) (bagC [] ns 0 0 (ns.sum % 1000003) 0 0) := by
  refine (fnOf_eq _ _ _ _ _ rfl).trans ?_
  unfold m__law_bag
  simp [mRetC]
theorem cMul_of {i j : Int} (hi : i.natAbs < 2 ^ 1000) (hj : j.natAbs < 2 ^ 1000) : cMul i j = true := by
  have h1 := log2_lt hi (by omega)
  have h2 := log2_lt hj (by omega)
  unfold cMul
  exact decide_eq_true (by omega)
theorem cDivS {i j : Int} (h0 : j ≠ 0) (h : j.natAbs < 2 ^ 1000) : cDiv i j = true := cDiv_of h0 (by have := log2_lt h (by omega); omega)
theorem v_mixed {s t : Int} {h : Hc} (h1 : 0 ≤ s) (h2 : s < 2 ^ 70) (h3 : 0 ≤ t) (h4 : t < 2 ^ 70) : ∃ r, 0 ≤ r ∧ F__law_mixed [.int s, .int t] h = .ok (.int r) h := by
  have a1 : cMul (s + 1) 48271 = true := cMul_of (by omega) (by omega)
  have a2 : cMul (t + 1) 69621 = true := cMul_of (by omega) (by omega)
  have m1 : 0 ≤ ((s + 1) * 48271 + (t + 1) * 69621) % 2147483647 := Int.emod_nonneg _ (by omega)
  have m2 : ((s + 1) * 48271 + (t + 1) * 69621) % 2147483647 < 2147483647 := Int.emod_lt_of_pos _ (by omega)
  generalize hf : ((s + 1) * 48271 + (t + 1) * 69621) % 2147483647 = f at m1 m2
  have a3 : cMul f f = true := cMul_of (by omega) (by omega)
  have a4 : cMul f 16807 = true := cMul_of (by omega) (by omega)
  have a5 : cMul 7 t = true := cMul_of (by omega) (by omega)
  have a6 : cDiv ((f * f + f * 16807 + 7 * t) % 2147483629) 7 = true := cDivS (by omega) (by omega)
  have nn : 0 ≤ ((f * f + f * 16807 + 7 * t) % 2147483629) := Int.emod_nonneg _ (by omega)
  refine ⟨((f * f + f * 16807 + 7 * t) % 2147483629) / 7, by omega, ?_⟩
  refine (fnOf_eq _ _ _ _ _ rfl).trans ?_
  unfold m__law_mixed
  simp [a1, a2, hf, a3, a4, a5, a6, fdiv_pos]
def tl1 : MS := mIfS (asB (m2 fGt (m2 fIx (mVar 0) (mC (.int 2))) (mC (.int 0)))) (mSeq (mSet 3 (m2 fMod (mA1 fIntB (maCons (m2 fIx (mVar 0) (mC (.int 2))) maNil)) (mVar 1))) (mSeq (mSetIx (m2 fDiv (m2 fIx (mVar 0) (mC (.int 2))) (mVar 1)) (mVar 0) (mC (.int 2))) (mRet (mVar 3)))) mSkip
def tl2 : MS := mSeq (mIfS (asB (m2 fGt (m2 fIx (mVar 0) (mC (.int 4))) (mC (.int 0)))) (mSetIx (m2 fSub (m2 fIx (mVar 0) (mC (.int 4))) (mC (.int 1))) (mVar 0) (mC (.int 4))) mSkip) (mRet (m2 fMod (mA1 fIntB (maCons (mA1 (fCallN 2 F__law_mixed []) (maCons (m2 fIx (mVar 0) (mC (.int 3))) (maCons (m2 fIx (mVar 0) (mC (.int 5))) maNil))) maNil)) (mVar 1)))
def hd2 : MS := mSeq (mSet 2 (m2 fIx (m2 fIx (mVar 0) (mC (.int 0))) (m2 fIx (mVar 0) (mC (.int 1))))) (mSeq (mSetIx (m2 (fAdd false) (m2 fIx (mVar 0) (mC (.int 1))) (mC (.int 1))) (mVar 0) (mC (.int 1))) (mIfS (asB (m2 fGe (mA1 fAbs (maCons (mVar 2) maNil)) (m2 fPow (mC (.int 10)) (mC (.int 18))))) (mSetIx (mA1 fAbs (maCons (mVar 2) maNil)) (mVar 0) (mC (.int 2))) (mSeq (mSetIx (m2 (fAdd false) (m2 fMul (mC (.int 2)) (mA1 fAbs (maCons (mVar 2) maNil))) (mA1 fIntB (maCons (m2 fLt (mVar 2) (mC (.int 0))) maNil))) (mVar 0) (mC (.int 3))) (mSetIx (mC (.int 15)) (mVar 0) (mC (.int 4))))))
theorem draw_parts : m__law_draw = mSeq (mIfS (asB (m2 fLt (mVar 1) (mC (.int 2)))) (mRet (mC (.int 0))) mSkip) (mSeq (mSetIx (m2 (fAdd false) (m2 fIx (mVar 0) (mC (.int 5))) (mC (.int 1))) (mVar 0) (mC (.int 5))) (mSeq (mIfS (tAndM (asB (m2 (fEq false) (m2 fIx (mVar 0) (mC (.int 2))) (mC (.int 0)))) (tAndM (asB (m2 (fEq false) (m2 fIx (mVar 0) (mC (.int 4))) (mC (.int 0)))) (asB (m2 fLt (m2 fIx (mVar 0) (mC (.int 1))) (mA1 fLen (maCons (m2 fIx (mVar 0) (mC (.int 0))) maNil)))))) hd2 mSkip) (mSeq tl1 tl2))) := rfl
abbrev envD (many : Int) (a b : Option Sl) : Vi.Env := [some (.d (.ref 0)), some (.d (.int many)), a, b]
@[simp] theorem bix (t : Hc) (ns : List Int) (p v sd l c i : Int) : fIx (.d (.ref 0)) (.d (.int i)) (bagC t ns p v sd l c) = (match atI [.lst (ns.map D.int), .int p, .int v, .int sd, .int l, .int c] i with
  | some d => .ok (.d d) (bagC t ns p v sd l c)
  | none => .stuck) := fIx_ref 0 i _ _ rfl
theorem at6 (a b c d e f : D) : atI [a, b, c, d, e, f] 0 = some a ∧ atI [a, b, c, d, e, f] 1 = some b ∧ atI [a, b, c, d, e, f] 2 = some c ∧ atI [a, b, c, d, e, f] 3 = some d ∧ atI [a, b, c, d, e, f] 4 = some e ∧ atI [a, b, c, d, e, f] 5 = some f := by
  refine ⟨?_, ?_, ?_, ?_, ?_, ?_⟩ <;> simp [atI, ixN]
theorem ix6 : ixN 6 0 = some 0 ∧ ixN 6 1 = some 1 ∧ ixN 6 2 = some 2 ∧ ixN 6 3 = some 3 ∧ ixN 6 4 = some 4 ∧ ixN 6 5 = some 5 := by
  refine ⟨?_, ?_, ?_, ?_, ?_, ?_⟩ <;> simp [ixN]
def BG (t : Hc) (m : Int) (h : Hc) : Prop := ∃ (ns : List Int) (p v sd l c : Int), h = bagC t ns p v sd l c ∧ 0 ≤ p ∧ 0 ≤ v ∧ 0 ≤ sd ∧ sd < 2 ^ 66 ∧ 0 ≤ l ∧ 0 ≤ c ∧ c ≤ m
theorem v_tl2 (t : Hc) (ns : List Int) {p v sd l c many : Int} {a b : Option Sl} (h1 : 0 ≤ sd) (h2 : sd < 2 ^ 66) (h3 : 0 ≤ l) (h4 : 0 ≤ c) (h5 : c < 2 ^ 66) (hm : 2 ≤ many) :
    ∃ r l', 0 ≤ r ∧ r < many ∧ 0 ≤ l' ∧ tl2 (envD many a b) (bagC t ns p v sd l c) = .ret (.int r) (bagC t ns p v sd l' c) := by
  have go : ∀ l' : Int, ∃ r, 0 ≤ r ∧ r < many ∧ (mRet (m2 fMod (mA1 fIntB (maCons (mA1 (fCallN 2 F__law_mixed []) (maCons (m2 fIx (mVar 0) (mC (.int 3))) (maCons (m2 fIx (mVar 0) (mC (.int 5))) maNil))) maNil)) (mVar 1))) (envD many a b) (bagC t ns p v sd l' c) = .ret (.int r) (bagC t ns p v sd l' c) := fun l' => by
    obtain ⟨r, _, e⟩ := v_mixed (s := sd) (t := c) (h := bagC t ns p v sd l' c) h1 (by omega) h4 (by omega)
    refine ⟨r % many, Int.emod_nonneg _ (by omega), Int.emod_lt_of_pos _ (by omega), ?_⟩
    have hp : 0 < many := by omega
    simp [at6, e, hp]
  by_cases hl : 0 < l
  · obtain ⟨r, r1, r2, e⟩ := go (l - 1)
    refine ⟨r, l - 1, r1, r2, by omega, ?_⟩
    unfold tl2
    rw [mSeq_eq]
    have e0 : (mIfS (asB (m2 fGt (m2 fIx (mVar 0) (mC (.int 4))) (mC (.int 0)))) (mSetIx (m2 fSub (m2 fIx (mVar 0) (mC (.int 4))) (mC (.int 1))) (mVar 0) (mC (.int 4))) mSkip) (envD many a b) (bagC t ns p v sd l c) = .nx (envD many a b) (bagC t ns p v sd (l - 1) c) := by
      simp [at6, ix6, hl]
    rw [e0]
    exact e
  · obtain ⟨r, r1, r2, e⟩ := go l
    refine ⟨r, l, r1, r2, h3, ?_⟩
    unfold tl2
    rw [mSeq_eq]
    have e0 : (mIfS (asB (m2 fGt (m2 fIx (mVar 0) (mC (.int 4))) (mC (.int 0)))) (mSetIx (m2 fSub (m2 fIx (mVar 0) (mC (.int 4))) (mC (.int 1))) (mVar 0) (mC (.int 4))) mSkip) (envD many a b) (bagC t ns p v sd l c) = .nx (envD many a b) (bagC t ns p v sd l c) := by
      simp [at6, ix6, hl]
    rw [e0]
    exact e
theorem v_tl (t : Hc) (ns : List Int) {p v sd l c many : Int} {a b : Option Sl} (hv : 0 ≤ v) (h1 : 0 ≤ sd) (h2 : sd < 2 ^ 66) (h3 : 0 ≤ l) (h4 : 0 ≤ c) (h5 : c < 2 ^ 66) (hm : 2 ≤ many) (hm2 : many < 2 ^ 140) :
    ∃ r v' l', 0 ≤ r ∧ r < many ∧ 0 ≤ v' ∧ 0 ≤ l' ∧ (mSeq tl1 tl2) (envD many a b) (bagC t ns p v sd l c) = .ret (.int r) (bagC t ns p v' sd l' c) := by
  rw [mSeq_eq]
  by_cases h0 : 0 < v
  · refine ⟨v % many, v / many, l, Int.emod_nonneg _ (by omega), Int.emod_lt_of_pos _ (by omega), Int.ediv_nonneg hv (by omega), h3, ?_⟩
    have hp : 0 < many := by omega
    have cd : cDiv v many = true := cDivS (by omega) (by omega)
    unfold tl1
    simp [at6, ix6, h0, hp, cd, fdiv_pos hp]
  · obtain ⟨r, l', r1, r2, r3, e⟩ := v_tl2 t ns (p := p) (v := v) (a := a) (b := b) h1 h2 h3 h4 h5 hm
    refine ⟨r, v, l', r1, r2, hv, r3, ?_⟩
    have e0 : tl1 (envD many a b) (bagC t ns p v sd l c) = .nx (envD many a b) (bagC t ns p v sd l c) := by
      unfold tl1
      simp [at6, ix6, h0]
    rw [e0]
    exact e
theorem atI_map (ns : List Int) {p : Int} (h0 : 0 ≤ p) (h1 : p < ns.length) : ∃ z, atI (ns.map D.int) p = some (.int z) := by
  have hl : p.toNat < ns.length := by omega
  refine ⟨ns[p.toNat], ?_⟩
  unfold atI ixN
  rw [if_pos h0, List.length_map, if_pos h1]
  show (ns.map D.int)[p.toNat]? = _
  rw [List.getElem?_map, List.getElem?_eq_getElem hl]
  rfl
theorem v_hd2 (t : Hc) (ns : List Int) {p sd c many : Int} {a b : Option Sl} (h0 : 0 ≤ p) (hp : p < ns.length) (h1 : 0 ≤ sd) (h2 : sd < 2 ^ 66) :
    ∃ a' v' sd' l', 0 ≤ v' ∧ 0 ≤ sd' ∧ sd' < 2 ^ 66 ∧ 0 ≤ l' ∧ hd2 (envD many a b) (bagC t ns p 0 sd 0 c) = .nx (envD many a' b) (bagC t ns (p + 1) v' sd' l' c) := by
  obtain ⟨z, ez⟩ := atI_map ns h0 hp
  have pw : cPow 10 18 = true := by decide
  by_cases hz : (1000000000000000000 : Int) ≤ (z.natAbs : Int)
  · refine ⟨some (.d (.int z)), z.natAbs, sd, 0, by omega, h1, h2, by omega, ?_⟩
    unfold hd2
    simp [at6, ix6, ez, pw, abs_if, hz]
  · have cm : cMul 2 (z.natAbs : Int) = true := cMul_of (by omega) (by omega)
    refine ⟨some (.d (.int z)), 0, 2 * (z.natAbs : Int) + (if z < 0 then 1 else 0), 15, by omega, by split <;> omega, by split <;> omega, by omega, ?_⟩
    unfold hd2
    simp [at6, ix6, ez, pw, abs_if, hz, cm]
theorem v_draw {t : Hc} {m many : Int} {h : Hc} (g : BG t m h) (hm : m < 2 ^ 60) (h0 : 0 ≤ many) (h1 : many < 2 ^ 140) :
    ∃ r h', F__law_draw [.ref 0, .int many] h = .ok (.int r) h' ∧ BG t (m + 1) h' ∧ 0 ≤ r ∧ (2 ≤ many → r < many) ∧ (many < 2 → r = 0) := by
  obtain ⟨ns, p, v, sd, l, c, rfl, g1, g2, g3, g4, g5, g6, g7⟩ := g
  by_cases hs : many < 2
  · refine ⟨0, bagC t ns p v sd l c, ?_, ⟨ns, p, v, sd, l, c, rfl, g1, g2, g3, g4, g5, g6, by omega⟩, by omega, fun z => by omega, fun _ => rfl⟩
    refine (fnOf_eq _ _ _ _ _ rfl).trans ?_
    rw [draw_parts]
    simp [hs]
  · have fin : ∀ {p' v' sd' l' : Int} {a : Option Sl}, 0 ≤ p' → 0 ≤ v' → 0 ≤ sd' → sd' < 2 ^ 66 → 0 ≤ l' → (mIfS (tAndM (asB (m2 (fEq false) (m2 fIx (mVar 0) (mC (.int 2))) (mC (.int 0)))) (tAndM (asB (m2 (fEq false) (m2 fIx (mVar 0) (mC (.int 4))) (mC (.int 0)))) (asB (m2 fLt (m2 fIx (mVar 0) (mC (.int 1))) (mA1 fLen (maCons (m2 fIx (mVar 0) (mC (.int 0))) maNil)))))) hd2 mSkip) (envD many none none) (bagC t ns p v sd l (c + 1)) = .nx (envD many a none) (bagC t ns p' v' sd' l' (c + 1)) →
        ∃ r h', F__law_draw [.ref 0, .int many] (bagC t ns p v sd l c) = .ok (.int r) h' ∧ BG t (m + 1) h' ∧ 0 ≤ r ∧ (2 ≤ many → r < many) ∧ (many < 2 → r = 0) := fun {p' v' sd' l' a} k1 k2 k3 k4 k5 e => by
      obtain ⟨r, v2, l2, r1, r2, r3, r4, e2⟩ := v_tl t ns (p := p') (v := v') (sd := sd') (l := l') (c := c + 1) (many := many) (a := a) (b := none) k2 k3 k4 k5 (by omega) (by omega) (by omega) h1
      refine ⟨r, bagC t ns p' v2 sd' l2 (c + 1), ?_, ⟨ns, p', v2, sd', l2, c + 1, rfl, k1, r3, k3, k4, r4, by omega, by omega⟩, r1, fun _ => r2, fun z => absurd z hs⟩
      refine (fnOf_eq _ _ _ _ _ rfl).trans ?_
      rw [draw_parts, mSeq_eq]
      have e3 : (mIfS (asB (m2 fLt (mVar 1) (mC (.int 2)))) (mRet (mC (.int 0))) mSkip) (mkEnv 4 [.ref 0, .int many]) (bagC t ns p v sd l c) = .nx (envD many none none) (bagC t ns p v sd l c) := by simp [hs]
      rw [e3, RS.seq_nx, mSeq_eq]
      have e4 : (mSetIx (m2 (fAdd false) (m2 fIx (mVar 0) (mC (.int 5))) (mC (.int 1))) (mVar 0) (mC (.int 5))) (envD many none none) (bagC t ns p v sd l c) = .nx (envD many none none) (bagC t ns p v sd l (c + 1)) := by simp [at6, ix6]
      rw [e4, RS.seq_nx, mSeq_eq, e, RS.seq_nx, e2]
      rfl
    by_cases hv : v = 0
    · by_cases hl : l = 0
      · by_cases hp : p < ns.length
        · subst hv hl
          obtain ⟨a', v', sd', l', q1, q2, q3, q4, e⟩ := v_hd2 t ns (p := p) (sd := sd) (c := c + 1) (many := many) (a := none) (b := none) g1 hp g3 g4
          refine fin (p' := p + 1) (v' := v') (sd' := sd') (l' := l') (a := a') (by omega) q1 q2 q3 q4 ?_
          rw [← e]
          simp [at6, hp, fLen_lst]
        · exact fin (a := none) g1 g2 g3 g4 g5 (by simp [at6, hv, hl, hp, fLen_lst])
      · exact fin (a := none) g1 g2 g3 g4 g5 (by simp [at6, hv, hl])
    · exact fin (a := none) g1 g2 g3 g4 g5 (by simp [at6, hv])
end G75
namespace G75
open PySem L2 Vi
theorem comp_map (o : Bool) (i : Nat) (mt : MB) (me : ME) (f : D → D) (b : D → Bool) (env : Vi.Env) (h : Hc) : ∀ (xs acc : List D), (∀ x ∈ xs, mt (env.set i (some (.d x))) h = .ok (b x) h ∧ (b x = true → me (env.set i (some (.d x))) h = .ok (.d (f x)) h)) → acc.length + xs.length < 16000000 →
    compL o (gtN i) mt me xs acc env h = .ok (Vl.ofL o (acc ++ (xs.filter b).map f)) h := by
  intro xs
  induction xs with
  | nil =>
    intro acc _ _
    show R.ok (Vl.ofL o acc) h = _
    rw [List.filter_nil, List.map_nil, List.append_nil]
  | cons x r ih =>
    intro acc hx hl
    rw [List.length_cons] at hl
    obtain ⟨e1, e2⟩ := hx x (List.mem_cons_self ..)
    have hr := fun y hy => hx y (List.mem_cons_of_mem _ hy)
    show (match mt (env.set i (some (.d x))) h with
      | .ok b h1 => if b then (match me (env.set i (some (.d x))) h1 with
        | .ok (.d y) h2 => if acc.length < 16000000 then compL o (gtN i) mt me r (acc ++ [y]) env h2 else .stuck
        | _ => .stuck) else compL o (gtN i) mt me r acc env h1
      | _ => .stuck) = _
    rw [e1]
    cases hb : b x with
    | true =>
      have e2 := e2 hb
      dsimp only
      rw [if_pos rfl, e2]
      dsimp only
      rw [if_pos (by omega), ih _ hr (by rw [List.length_append, List.length_singleton]; omega), List.filter_cons_of_pos hb, List.map_cons, List.append_assoc]
      rfl
    | false =>
      dsimp only
      rw [if_neg Bool.false_ne_true, ih _ hr (by omega), List.filter_cons_of_neg (by rw [hb]; exact Bool.false_ne_true)]
theorem BG.up {t : Hc} {m n : Int} {h : Hc} (g : BG t m h) (hm : m ≤ n) : BG t n h := by
  obtain ⟨ns, p, v, sd, l, c, e, g1, g2, g3, g4, g5, g6, g7⟩ := g
  exact ⟨ns, p, v, sd, l, c, e, g1, g2, g3, g4, g5, g6, by omega⟩
theorem atI_get {α : Type} {xs : List α} {i : Int} (h0 : 0 ≤ i) (h1 : i < xs.length) : ∃ x, atI xs i = some x ∧ x ∈ xs := by
  have hl : i.toNat < xs.length := by omega
  refine ⟨xs[i.toNat], ?_, List.getElem_mem hl⟩
  unfold atI ixN
  rw [if_pos h0, if_pos h1]
  show xs[i.toNat]? = _
  exact List.getElem?_eq_getElem hl
theorem v_pick {t : Hc} {m : Int} {h : Hc} {xs : List D} (g : BG t m h) (hm : m < 2 ^ 60) (h0 : 0 < xs.length) (h1 : xs.length < 2 ^ 60) : ∃ x h', F__law_pick [.ref 0, .lst xs] h = .ok x h' ∧ BG t (m + 1) h' ∧ x ∈ xs := by
  obtain ⟨r, h2, e, g2, r0, r1, r2⟩ := v_draw (many := xs.length) g hm (by omega) (by omega)
  have r3 : r < xs.length := by
    by_cases h2 : (xs.length : Int) < 2
    · have := r2 h2
      omega
    · exact r1 (by omega)
  obtain ⟨x, ex, hx⟩ := atI_get r0 r3
  refine ⟨x, h2, ?_, g2, hx⟩
  refine (fnOf_eq 2 2 m__law_pick [.ref 0, .lst xs] h rfl).trans ?_
  unfold m__law_pick
  simp [e, ex]
theorem fIx_str (z : PySem.Str) (i : Int) (c : Nat) (h : Hc) (e : atI z.cps.toList i = some c) (hl : z.cps.size ≤ 100000) : fIx (.d (.str z)) (.d (.int i)) h = .ok (.d (.str ⟨#[c]⟩)) h := by
  show (match atI z.cps.toList i with
    | some c => if z.length ≤ 100000 then R.ok (Vl.d (.str ⟨#[c]⟩)) h else .stuck
    | none => .stuck) = _
  rw [e]
  exact if_pos hl
theorem fAdd_str (o : Bool) (a b : PySem.Str) (h : Hc) (hl : a.cps.size + b.cps.size ≤ 100000) : fAdd o (.d (.str a)) (.d (.str b)) h = .ok (.d (.str (a ++ b))) h := by
  show (if a.length + b.length ≤ 100000 then R.ok (Vl.d (.str (a ++ b))) h else .stuck) = _
  exact if_pos hl
theorem eq_txt (neg : Bool) (a b : PySem.Str) (h : Hc) : fEq neg (.d (.str a)) (.d (.str b)) h = .ok (.d (.bl (if neg then !decide (a = b) else decide (a = b)))) h := rfl
section
variable {h : Hc}
theorem and_t {a b : ME} {env : Vi.Env} (e : a env h = .ok (.d (.bl true)) h) : mAnd a b env h = b env h := by
  unfold mAnd
  rw [e]
  rfl
theorem and_f {a b : ME} {env : Vi.Env} (e : a env h = .ok (.d (.bl false)) h) : mAnd a b env h = .ok (.d (.bl false)) h := by
  unfold mAnd
  rw [e]
  rfl
theorem ret_of {m : ME} {env : Vi.Env} {d : D} {h' : Hc} (e : m env h = .ok (.d d) h') : mRet m env h = .ret d h' := by
  unfold mRet
  rw [e]
  rfl
end
theorem mA1_eq (F : List Vl → Hc → R Vl) (m : MA) (env : Vi.Env) (h : Hc) : mA1 F m env h = (m env h).bind fun xs h1 => F xs h1 := rfl
theorem maCons_eq (a : ME) (b : MA) (env : Vi.Env) (h : Hc) : maCons a b env h = (a env h).bind fun x h1 => (b env h1).bind fun xs h2 => .ok (x :: xs) h2 := rfl
theorem m2_eq (F : Vl → Vl → Hc → R Vl) (a b : ME) (env : Vi.Env) (h : Hc) : m2 F a b env h = (a env h).bind fun x h1 => (b env h1).bind fun y h2 => F x y h2 := rfl
theorem asB_of {m : ME} {env : Vi.Env} {h h' : Hc} {b : Bool} (e : m env h = .ok (.d (.bl b)) h') : asB m env h = .ok b h' := by
  unfold asB
  rw [e]
  rfl
theorem set_d {i : Nat} {env : Vi.Env} {m : ME} {d : D} {h h' : Hc} (e : m env h = .ok (.d d) h') : mSet i m env h = .nx (env.set i (some (.d d))) h' := by
  unfold mSet
  rw [e]
  rfl
theorem call1 {F : Fn} {env : Vi.Env} {a : ME} {x d : D} {h h1 h2 : Hc} (ea : a env h = .ok (.d x) h1) (e : F [x] h1 = .ok d h2) : mA1 (fCallN 1 F []) (maCons a maNil) env h = .ok (.d d) h2 := by
  rw [mA1_eq, maCons_eq, ea, R.bind_ok]
  show ((F [x] h1).bind fun d h' => R.ok (Vl.d d) h') = _
  rw [e]
  rfl
theorem call2 {F : Fn} {env : Vi.Env} {a b : ME} {x y d : D} {h h1 h2 h3 : Hc} (ea : a env h = .ok (.d x) h1) (eb : b env h1 = .ok (.d y) h2) (e : F [x, y] h2 = .ok d h3) : mA1 (fCallN 2 F []) (maCons a (maCons b maNil)) env h = .ok (.d d) h3 := by
  rw [mA1_eq, maCons_eq, ea, R.bind_ok, maCons_eq, eb, R.bind_ok]
  show ((F [x, y] h2).bind fun d h' => R.ok (Vl.d d) h') = _
  rw [e]
  rfl
theorem call3 {F : Fn} {env : Vi.Env} {a b c : ME} {x y z d : D} {h h1 h2 h3 h4 : Hc} (ea : a env h = .ok (.d x) h1) (eb : b env h1 = .ok (.d y) h2) (ec : c env h2 = .ok (.d z) h3) (e : F [x, y, z] h3 = .ok d h4) : mA1 (fCallN 3 F []) (maCons a (maCons b (maCons c maNil))) env h = .ok (.d d) h4 := by
  rw [mA1_eq, maCons_eq, ea, R.bind_ok, maCons_eq, eb, R.bind_ok, maCons_eq, ec, R.bind_ok]
  show ((F [x, y, z] h3).bind fun d h' => R.ok (Vl.d d) h') = _
  rw [e]
  rfl
theorem ma_cons {a : ME} {b : MA} {env : Vi.Env} {d : Vl} {ds : List Vl} {h h1 h2 : Hc} (e1 : a env h = .ok d h1) (e2 : b env h1 = .ok ds h2) : maCons a b env h = .ok (d :: ds) h2 := by
  rw [maCons_eq, e1, R.bind_ok, e2]
  rfl
theorem ma_nil {env : Vi.Env} {h : Hc} : maNil env h = .ok [] h := rfl
theorem a1_of {F : List Vl → Hc → R Vl} {env : Vi.Env} {a : ME} {x : Vl} {h h1 : Hc} (ea : a env h = .ok x h1) : mA1 F (maCons a maNil) env h = F [x] h1 := by
  rw [mA1_eq, maCons_eq, ea]
  rfl
theorem m2_of {F : Vl → Vl → Hc → R Vl} {env : Vi.Env} {a b : ME} {x y : Vl} {h h1 h2 : Hc} (ea : a env h = .ok x h1) (eb : b env h1 = .ok y h2) : m2 F a b env h = F x y h2 := by
  rw [m2_eq, ea, R.bind_ok, eb, R.bind_ok]
theorem m1_of {F : Vl → Hc → R Vl} {env : Vi.Env} {a : ME} {x : Vl} {h h1 : Hc} (ea : a env h = .ok x h1) : m1 F a env h = F x h1 := by
  show (a env h).bind (fun x h1 => F x h1) = _
  rw [ea]
  rfl
theorem seq_nx {a b : MS} {env env1 : Vi.Env} {h h1 : Hc} (e : a env h = .nx env1 h1) : mSeq a b env h = b env1 h1 := by rw [mSeq_eq, e]; rfl
theorem seq_ret {a b : MS} {env : Vi.Env} {d : D} {h h1 : Hc} (e : a env h = .ret d h1) : mSeq a b env h = .ret d h1 := by rw [mSeq_eq, e]; rfl
theorem seq_exc {a b : MS} {env env1 : Vi.Env} {d : D} {h h1 : Hc} (e : a env h = .exc env1 d h1) : mSeq a b env h = .exc env1 d h1 := by rw [mSeq_eq, e]; rfl
theorem if_t {t : MB} {a b : MS} {env : Vi.Env} {h h1 : Hc} (e : t env h = .ok true h1) : mIfS t a b env h = a env h1 := by
  unfold mIfS
  rw [e]
  rfl
theorem if_f {t : MB} {a b : MS} {env : Vi.Env} {h h1 : Hc} (e : t env h = .ok false h1) : mIfS t a b env h = b env h1 := by
  unfold mIfS
  rw [e]
  rfl
theorem if_skip {t : MB} {a : MS} {env : Vi.Env} {h h1 : Hc} (e : t env h = .ok false h1) : mIfS t a mSkip env h = .nx env h1 := (if_f e).trans rfl
theorem not_b {t : MB} {env : Vi.Env} {h h1 : Hc} {b : Bool} (e : t env h = .ok b h1) : tNotM t env h = .ok (!b) h1 := by
  unfold tNotM
  rw [e]
  rfl
theorem or_f {a b : MB} {env : Vi.Env} {h h1 : Hc} (e : a env h = .ok false h1) : tOrM a b env h = b env h1 := by
  unfold tOrM
  rw [e]
  rfl
theorem or_t {a b : MB} {env : Vi.Env} {h h1 : Hc} (e : a env h = .ok true h1) : tOrM a b env h = .ok true h1 := by
  unfold tOrM
  rw [e]
  rfl
theorem and_tt {a b : MB} {env : Vi.Env} {h h1 : Hc} (e : a env h = .ok true h1) : tAndM a b env h = b env h1 := by
  unfold tAndM
  rw [e]
  rfl
theorem and_ff {a b : MB} {env : Vi.Env} {h h1 : Hc} (e : a env h = .ok false h1) : tAndM a b env h = .ok false h1 := by
  unfold tAndM
  rw [e]
  rfl
theorem eq_int (a b : Int) : PyData.eqv (.int a) (.int b) = decide (a = b) := by
  simp only [PyData.eqv]
  rw [Bool.eq_iff_iff]
  simp
theorem eqI (neg : Bool) (a b : Int) (h : Hc) : fEq neg (.d (.int a)) (.d (.int b)) h = .ok (.d (.bl (if neg then !decide (a = b) else decide (a = b)))) h := by
  have e : eqD (.int a) (.int b) = decide (a = b) := eq_int a b
  show (if shp (.int a) && shp (.int b) then R.ok (Vl.d (.bl (if neg then !eqD (.int a) (.int b) else eqD (.int a) (.int b)))) h else .stuck) = _
  rw [e]
  rfl
theorem for_nx {T : TgF} {b : MS} {x : D} {r : List D} {env env1 env2 : Vi.Env} {h h2 : Hc} (e1 : T x env = some env1) (e2 : b env1 h = .nx env2 h2) : forL T b (x :: r) env h = forL T b r env2 h2 := by
  rw [forL_cons, e1]
  dsimp only
  rw [e2]
  rfl
theorem for_ret {T : TgF} {b : MS} {x : D} {r : List D} {env env1 : Vi.Env} {d : D} {h h2 : Hc} (e1 : T x env = some env1) (e2 : b env1 h = .ret d h2) : forL T b (x :: r) env h = .ret d h2 := by
  rw [forL_cons, e1]
  dsimp only
  rw [e2]
  rfl
theorem for_eq {T : TgF} {a : ME} {b : MS} {env : Vi.Env} {h h1 : Hc} {x : Vl} {bb : Bool} {xs : List D} (e : a env h = .ok x h1) (es : seqD? h1 x = some (bb, xs)) : mFor T a b env h = forL T b xs env h1 := by
  unfold mFor
  rw [e, R.thenS_ok, es]
theorem draw2 {t : Hc} {m many : Int} {h : Hc} (g : BG t m h) (hm : m < 2 ^ 60) (h0 : 1 ≤ many) (h1 : many < 2 ^ 140) : ∃ r h', F__law_draw [.ref 0, .int many] h = .ok (.int r) h' ∧ BG t (m + 1) h' ∧ 0 ≤ r ∧ r < many := by
  obtain ⟨r, h', e, g2, r0, r1, r2⟩ := v_draw (many := many) g hm (by omega) h1
  refine ⟨r, h', e, g2, r0, ?_⟩
  by_cases hs : 2 ≤ many
  · exact r1 hs
  · have := r2 (by omega)
    omega
section
variable {t : Hc} {m : Int} {h : Hc} {env : Vi.Env}
theorem pick_of {i : Nat} {e : ME} {xs : List D} {h1 : Hc} (e0 : mVar i env h = .ok (.d (.ref 0)) h) (ee : e env h = .ok (.d (.lst xs)) h1) (g : BG t m h1) (hm : m < 2 ^ 60) (h0 : 0 < xs.length) (hl : xs.length < 2 ^ 60) :
    ∃ x h', mA1 (fCallN 2 F__law_pick []) (maCons (mVar i) (maCons e maNil)) env h = .ok (.d x) h' ∧ BG t (m + 1) h' ∧ x ∈ xs := by
  obtain ⟨x, h', e1, g1, hx⟩ := v_pick g hm h0 hl
  exact ⟨x, h', call2 (x := .ref 0) (y := .lst xs) (h1 := h) e0 ee e1, g1, hx⟩
theorem lst_of {a : MA} {ds : List D} {h1 : Hc} (e : a env h = .ok (ds.map Vl.d) h1) (hl : ds.length ≤ 100000) : mA1 (fLst false) a env h = .ok (.d (.lst ds)) h1 := by
  rw [mA1_eq, e, R.bind_ok]
  unfold fLst
  have : datas (ds.map Vl.d) = some ds := by
    clear hl e
    induction ds with
    | nil => rfl
    | cons x r ih =>
      show (datas (r.map Vl.d)).map (x :: ·) = _
      rw [ih]
      rfl
  rw [this]
  dsimp only
  rw [if_pos hl]
  rfl
theorem c_lt {a : ME} {x k : Int} (e : a env h = .ok (.d (.int x)) h) : asB (m2 fLt a (mC (.int k))) env h = .ok (decide (x < k)) h := asB_of ((m2_of (y := .d (.int k)) (h2 := h) e rfl).trans rfl)
theorem c_eq {a : ME} {x k : Int} (e : a env h = .ok (.d (.int x)) h) : asB (m2 (fEq false) a (mC (.int k))) env h = .ok (decide (x = k)) h := asB_of ((m2_of (y := .d (.int k)) (h2 := h) e rfl).trans ((eqI false _ _ _).trans rfl))
end
theorem for_r {T : TgF} {a : ME} {b : MS} {env : Vi.Env} {h h1 : Hc} {j : Nat} (hj : j < 2 ^ 60) (e : a env h = .ok (.d (.int j)) h1) : mForR T (maCons a maNil) b env h = forL T b (rangeD 0 j) env h1 := by
  unfold mForR
  rw [ma_cons e ma_nil, R.thenS_ok]
  dsimp only
  have cd : -(2 ^ 62) ≤ (j : Int) ∧ (j : Int) < 2 ^ 62 := by omega
  rw [if_pos cd, Int.toNat_natCast]
theorem vOfs_str : ∀ xs : List PySem.Str, vOfs (xs.map D.str) = some (xs.map L2.V.str)
  | [] => rfl
  | x :: r => by
    show (match vOf (.str x), vOfs (r.map D.str) with
      | some v, some vs => some (v :: vs)
      | _, _ => none) = _
    rw [vOfs_str r]
    rfl
theorem inV_str (x : PySem.Str) (xs : List PySem.Str) : inV (.str x) (xs.map L2.V.str) = decide (x ∈ xs) := by
  unfold inV
  rw [List.any_map]
  induction xs with
  | nil => rfl
  | cons y r ih =>
    rw [List.any_cons, ih]
    have e : eqV (.str y) (.str x) = decide (x = y) := by
      show (y == x) = _
      rw [Bool.eq_iff_iff, decide_eq_true_iff, beq_iff_eq]
      exact eq_comm
    show (eqV (.str y) (.str x) || _) = _
    rw [e, Bool.eq_iff_iff]
    simp
theorem in_txt (x : PySem.Str) (neg : Bool) (h : Hc) (y : Vl) (xs : List PySem.Str) (hy : seq? h y = some (xs.map D.str)) (hs : ∀ z, y ≠ .d (.str z)) : fIn neg (.d (.str x)) y h = .ok (.d (nB neg (decide (x ∈ xs)))) h := by
  have e : fIn neg (.d (.str x)) y h = fInS neg (.d (.str x)) y h := by
    unfold fIn
    split
    · next a b => exact absurd rfl (hs _)
    · rfl
  rw [e]
  unfold fInS
  simp only [hy, vOf, vOfs_str, inV_str]
end G75
namespace G75
open PySem L2 Vi PySem.NumText PySem.W PySem.W.KIN PyProof.Rows
abbrev cS (l : List Nat) : PySem.Str := SX.S l
abbrev letL : List Nat := (Str.ofString "abcdefghijklmnopqrstuvwxyz").cps.toList
abbrev sgnL : List Nat := (Str.ofString "abcdefghijklmnopqrstuvwxyz0123456789").cps.toList
abbrev digL : List Nat := (Str.ofString "0123456789").cps.toList
def allL : List Nat := sgnL ++ [32, 40, 41, 45]
theorem let_sgn : ∀ c ∈ letL, c ∈ sgnL := by decide +kernel
theorem dig_sgn : ∀ c ∈ digL, c ∈ sgnL := by decide +kernel
theorem dig_let : ∀ c ∈ digL, c ∉ letL := by decide +kernel
theorem sgn_all : ∀ c ∈ sgnL, c ∈ allL := fun c h => List.mem_append_left _ h
theorem sgn_no : ∀ c ∈ sgnL, c ≠ 32 ∧ c ≠ 40 ∧ c ≠ 41 ∧ c ≠ 45 := by decide +kernel
theorem dig_rng {c : Nat} (h1 : 48 ≤ c) (h2 : c ≤ 57) : c ∈ digL := by
  have : ∀ i ∈ List.range 10, 48 + i ∈ digL := by decide +kernel
  have := this (c - 48) (List.mem_range.mpr (by omega))
  rwa [show 48 + (c - 48) = c by omega] at this
theorem dig_rng' : ∀ c ∈ digL, 48 ≤ c ∧ c ≤ 57 := by decide +kernel
abbrev cYes : List Nat := [121, 101, 115]
abbrev cNo : List Nat := [110, 111]
abbrev cNone : List Nat := [110, 111, 110, 101]
theorem s_yes : ("yes" : PySem.Str) = cS cYes := by decide +kernel
theorem s_no : ("no" : PySem.Str) = cS cNo := by decide +kernel
theorem s_none : ("none" : PySem.Str) = cS cNone := by decide +kernel
theorem s_e : ("" : PySem.Str) = cS [] := by decide +kernel
theorem s_min : ("-" : PySem.Str) = cS [45] := by decide +kernel
theorem s_sp : (" " : PySem.Str) = cS [32] := by decide +kernel
theorem s_op : ("(" : PySem.Str) = cS [40] := by decide +kernel
theorem s_cl : (")" : PySem.Str) = cS [41] := by decide +kernel
theorem s_0 : ("0" : PySem.Str) = cS [48] := by decide +kernel
theorem cS_inj {a b : List Nat} (h : cS a = cS b) : a = b := SX.S_inj h
theorem cS_dec (a b : List Nat) : decide (cS a = cS b) = decide (a = b) := by
  rw [Bool.eq_iff_iff, decide_eq_true_iff, decide_eq_true_iff]
  exact ⟨cS_inj, fun e => by rw [e]⟩
def dg (m : Nat) : List Nat := (Nat.toDigits 10 m).map Char.toNat
def cInt (z : Int) : List Nat := if z < 0 then 45 :: dg z.natAbs else dg z.natAbs
theorem str_nat (m : Nat) : Str.ofString (toString ((m : Nat) : Int)) = cS (dg m) := by
  have e := signs_num m
  rw [← SX.S_tl (Str.ofString (toString ((m : Nat) : Int))), e]
  rfl
theorem str_int (z : Int) : Str.ofString (toString z) = cS (cInt z) := by
  cases z with
  | ofNat m =>
    have h : ¬ (Int.ofNat m < 0) := by simp
    unfold cInt
    rw [if_neg h]
    exact str_nat m
  | negSucc m =>
    have h : Int.negSucc m < 0 := Int.negSucc_lt_zero m
    unfold cInt
    rw [if_pos h]
    have e : (Str.ofString (toString (Int.negSucc m))).cps.toList = 45 :: dg (m + 1) := by
      rw [signs_ofString]
      show (("-" ++ Nat.repr (m + 1)) : String).toList.map Char.toNat = _
      rw [String.toList_append, List.map_append, Nat.toList_repr]
      rfl
    rw [← SX.S_tl (Str.ofString (toString (Int.negSucc m))), e]
    rfl
theorem dg_dig (m : Nat) : ∀ c ∈ dg m, c ∈ digL := by
  intro c hc
  obtain ⟨ch, hch, rfl⟩ := List.mem_map.mp hc
  have r := digit_range (Nat.isDigit_of_mem_toDigits (by decide) (by decide) hch)
  exact dig_rng r.1 r.2
theorem dg_len {m k : Nat} (hk : 1 ≤ k) (h : m < 10 ^ k) : (dg m).length ≤ k := by
  unfold dg
  rw [List.length_map]
  exact PySem.toDigits_len_pow (by decide) hk h
theorem dg_ne (m : Nat) : dg m ≠ [] := fun e => by
  have h := PySem.toDigits_len_ge 10 m
  have e2 : (dg m).length = 0 := by rw [e]; rfl
  unfold dg at e2
  rw [List.length_map] at e2
  omega
theorem read_digs {l : List Nat} (h : ∀ c ∈ l, c ∈ digL) (h1 : l ≠ []) (h2 : l.length ≤ 4300) : PySem.intText? (cS l) = some ((digitsVal l : Nat) : Int) := by
  have hl : (cS l).length = l.length := SX.S_len l
  exact intText_digits (x := cS l) (fun c hc => dig_rng' c (h c hc)) h1 (by rw [hl]; exact h2)
theorem dv_lt : ∀ (l : List Nat) (a : Nat), (∀ c ∈ l, c ∈ digL) → l.foldl (fun acc c => acc * 10 + (c - 48)) a < (a + 1) * 10 ^ l.length
  | [], a, _ => by simp
  | c :: r, a, h => by
    have hc := dig_rng' c (h c (List.mem_cons_self ..))
    have ih := dv_lt r (a * 10 + (c - 48)) fun x hx => h x (List.mem_cons_of_mem _ hx)
    show r.foldl _ (a * 10 + (c - 48)) < _
    refine Nat.lt_of_lt_of_le ih ?_
    rw [List.length_cons, Nat.pow_succ, Nat.mul_comm (10 ^ r.length) 10, ← Nat.mul_assoc]
    exact Nat.mul_le_mul_right _ (by omega)
theorem digs_lt {l : List Nat} (h : ∀ c ∈ l, c ∈ digL) : digitsVal l < 10 ^ l.length := by
  have := dv_lt l 0 h
  rw [Nat.zero_add, Nat.one_mul] at this
  exact this
theorem big_lt {m : Nat} (h : m < 10 ^ 4000) : m < 10 ^ 4300 := Nat.lt_of_lt_of_le h (Nat.pow_le_pow_right (by decide) (by decide))
theorem seen_digs {l : List Nat} (h : ∀ c ∈ l, c ∈ digL) : numSeenOf (cS l) = l := by
  have hall : (cS l).cps.all (· < 128) = true := by
    rw [← Array.all_toList, List.all_eq_true]
    intro c hc
    have := dig_rng' c (h c hc)
    exact decide_eq_true (by omega)
  have e : numTextOf (cS l) = l := by
    show (if (cS l).cps.all (· < 128) then (cS l).cps.toList else _) = l
    rw [if_pos hall]
  show (numTextOf (cS l)).takeWhile (· != 0) = l
  rw [e]
  clear e hall
  induction l with
  | nil => rfl
  | cons c r ih =>
    have hc := dig_rng' c (h c (List.mem_cons_self ..))
    rw [List.takeWhile_cons, if_pos (by simp; omega), ih fun x hx => h x (List.mem_cons_of_mem _ hx)]
theorem int_digs {l : List Nat} (h : ∀ c ∈ l, c ∈ digL) (h1 : l ≠ []) (h2 : l.length ≤ 4300) (H : Hc) : fIntB [.d (.str (cS l))] H = .ok (.d (.int (digitsVal l : Nat))) H := by
  have e := read_digs h h1 h2
  have hl : (cS l).length = l.length := SX.S_len l
  have hs : (numSeenOf (cS l)).length = l.length := by rw [seen_digs h]
  show (match PySem.intText? (cS l) with
    | some n => if (cS l).length ≤ 640 then R.ok (Vl.d (.int n)) H else if 640 < (numSeenOf (cS l)).length ∧ (cS l).length ≤ 16777216 then .ok (.d (.int n)) H else .stuck
    | none => .stuck) = _
  rw [e]
  dsimp only
  by_cases hk : (cS l).length ≤ 640
  · rw [if_pos hk]
  · rw [if_neg hk, if_pos ⟨by rw [hs]; omega, by omega⟩]
theorem strB_int {z : Int} (h : z.natAbs < 10 ^ 4300) (H : Hc) : fStrB [.d (.int z)] H = .ok (.d (.str (cS (cInt z)))) H := by
  rw [← str_int z]
  show (if z.natAbs < 10 ^ 4300 then R.ok (Vl.d (.str (toString z))) H else .stuck) = _
  exact if_pos h
end G75
namespace G75
open PySem L2 Vi
structure Wd (w : List Nat) : Prop where
  n1 : 1 ≤ w.length
  n12 : w.length ≤ 12
  first : ∀ c, w.head? = some c → c ∈ letL
  all : ∀ c ∈ w, c ∈ sgnL
  ny : w ≠ cYes
  nn : w ≠ cNo
  nz : w ≠ cNone
inductive At : List Nat → D → Prop
  | wrd (w : List Nat) : Wd w → At w (.str (cS w))
  | emp : At [45] (.str (cS []))
  | non : At cNone .non
  | yes : At cYes (.bl true)
  | no : At cNo (.bl false)
  | int (z : Int) : z.natAbs < 10 ^ 4000 → At (cInt z) (.int z)
def tailT (ls : List (List Nat)) : List Nat := ls.flatMap fun l => 32 :: l
def inT : List (List Nat) → List Nat
  | [] => []
  | l :: ls => l ++ tailT ls
theorem tailT_cons (l : List Nat) (ls : List (List Nat)) : tailT (l :: ls) = 32 :: (l ++ tailT ls) := rfl
theorem drop_tail (ls : List (List Nat)) : (tailT ls).drop 1 = inT ls := by cases ls <;> rfl
def Txs (R : Nat → List Nat → D → Prop) : Nat → List (List Nat) → List D → Prop
  | _, [], [] => True
  | n, l :: ls, d :: ds => ∃ a b, R a l d ∧ Txs R b ls ds ∧ a + b ≤ n
  | _, _, _ => False
def Tx : Nat → Nat → List Nat → D → Prop
  | 0, n, l, d => 1 ≤ n ∧ At l d
  | k + 1, n, l, d => (1 ≤ n ∧ At l d) ∨ ∃ m ls ds, d = .tup ds ∧ l = 40 :: (inT ls ++ [41]) ∧ Txs (Tx k) m ls ds ∧ m + 2 ≤ n
theorem Txs.imp {R R' : Nat → List Nat → D → Prop} : ∀ {n : Nat} {ls : List (List Nat)} {ds : List D}, Txs R n ls ds → (∀ a l d, a ≤ n → R a l d → R' a l d) → Txs R' n ls ds
  | _, [], [], _, _ => trivial
  | n, l :: ls, d :: ds, ⟨a, b, h1, h2, h3⟩, f => ⟨a, b, f a l d (by omega) h1, Txs.imp h2 (fun a' l' d' ha h => f a' l' d' (by omega) h), h3⟩
theorem Txs.up {R : Nat → List Nat → D → Prop} : ∀ {n n' : Nat} {ls : List (List Nat)} {ds : List D}, Txs R n ls ds → n ≤ n' → Txs R n' ls ds
  | _, _, [], [], _, _ => trivial
  | _, _, l :: ls, d :: ds, ⟨a, b, h1, h2, h3⟩, h => ⟨a, b, h1, h2, by omega⟩
theorem Txs.len {R : Nat → List Nat → D → Prop} : ∀ {n : Nat} {ls : List (List Nat)} {ds : List D}, Txs R n ls ds → ls.length = ds.length
  | _, [], [], _ => rfl
  | _, l :: ls, d :: ds, ⟨a, b, h1, h2, h3⟩ => by
    rw [List.length_cons, List.length_cons, Txs.len h2]
theorem Txs.mem {R : Nat → List Nat → D → Prop} : ∀ {n : Nat} {ls : List (List Nat)} {ds : List D}, Txs R n ls ds → ∀ d ∈ ds, ∃ a l, a ≤ n ∧ R a l d
  | _, [], [], _, d, hd => by cases hd
  | n, l :: ls, d :: ds, ⟨a, b, h1, h2, h3⟩, x, hx => by
    rcases List.mem_cons.mp hx with rfl | hx
    · exact ⟨a, l, by omega, h1⟩
    · obtain ⟨a', l', e1, e2⟩ := Txs.mem h2 x hx
      exact ⟨a', l', by omega, e2⟩
theorem Txs.cons {R : Nat → List Nat → D → Prop} {a b n : Nat} {l : List Nat} {d : D} {ls : List (List Nat)} {ds : List D} (h1 : R a l d) (h2 : Txs R b ls ds) (h : a + b ≤ n) : Txs R n (l :: ls) (d :: ds) := ⟨a, b, h1, h2, h⟩
theorem Txs.nil {R : Nat → List Nat → D → Prop} {n : Nat} : Txs R n [] [] := trivial
theorem Txs.snoc {R : Nat → List Nat → D → Prop} : ∀ {n a : Nat} {ls : List (List Nat)} {ds : List D} {l : List Nat} {d : D}, Txs R n ls ds → R a l d → Txs R (n + a) (ls ++ [l]) (ds ++ [d])
  | _, a, [], [], l, d, _, h => ⟨a, 0, h, trivial, by omega⟩
  | n, a, l' :: ls, d' :: ds, l, d, ⟨x, y, h1, h2, h3⟩, h => ⟨x, y + a, h1, Txs.snoc h2 h, by omega⟩
theorem Tx.up1 : ∀ (k : Nat) {n : Nat} {l : List Nat} {d : D}, Tx k n l d → Tx (k + 1) n l d
  | 0, n, l, d, h => .inl h
  | k + 1, n, l, d, .inl h => .inl h
  | k + 1, n, l, d, .inr ⟨m, ls, ds, e1, e2, h, hm⟩ => .inr ⟨m, ls, ds, e1, e2, h.imp fun a l d _ h => Tx.up1 k h, hm⟩
theorem Tx.upk {k n : Nat} {l : List Nat} {d : D} (h : Tx k n l d) : ∀ j, Tx (k + j) n l d
  | 0 => h
  | j + 1 => Tx.up1 _ (h.upk j)
theorem Tx.le {k k' n : Nat} {l : List Nat} {d : D} (h : Tx k n l d) (hk : k ≤ k') : Tx k' n l d := by
  have := h.upk (k' - k)
  rwa [show k + (k' - k) = k' by omega] at this
theorem Tx.upn {k n n' : Nat} {l : List Nat} {d : D} (h : Tx k n l d) (hn : n ≤ n') : Tx k n' l d := by
  cases k with
  | zero => exact ⟨Nat.le_trans h.1 hn, h.2⟩
  | succ k =>
    rcases h with h | ⟨m, ls, ds, e1, e2, h, hm⟩
    · exact .inl ⟨Nat.le_trans h.1 hn, h.2⟩
    · exact .inr ⟨m, ls, ds, e1, e2, h, by omega⟩
theorem Tx.at {n : Nat} {l : List Nat} {d : D} (h : At l d) (hn : 1 ≤ n) (k : Nat) : Tx k n l d := by
  cases k with
  | zero => exact ⟨hn, h⟩
  | succ k => exact .inl ⟨hn, h⟩
theorem Tx.tup {k m n : Nat} {ls : List (List Nat)} {ds : List D} (h : Txs (Tx k) m ls ds) (hn : m + 2 ≤ n) : Tx (k + 1) n (40 :: (inT ls ++ [41])) (.tup ds) := .inr ⟨m, ls, ds, rfl, rfl, h, hn⟩
theorem cInt_len {z : Int} (h : z.natAbs < 10 ^ 4000) : (cInt z).length ≤ 4001 := by
  have := dg_len (k := 4000) (by decide) h
  unfold cInt
  split
  · rw [List.length_cons]; omega
  · omega
theorem At.len {l : List Nat} {d : D} (h : At l d) : l.length + 1 ≤ 4002 ∧ 1 ≤ l.length := by
  cases h with
  | wrd w h => have := h.n12; have := h.n1; omega
  | emp => decide
  | non => decide
  | yes => decide
  | no => decide
  | int z h =>
    have := cInt_len h
    have : 1 ≤ (cInt z).length := by
      have := List.length_pos_iff.mpr (dg_ne z.natAbs)
      unfold cInt
      split
      · rw [List.length_cons]; omega
      · omega
    omega
theorem tailT_len {R : Nat → List Nat → D → Prop} : ∀ {n : Nat} {ls : List (List Nat)} {ds : List D}, Txs R n ls ds → (∀ a l d, R a l d → l.length + 1 ≤ 4002 * a) → (tailT ls).length ≤ 4002 * n
  | _, [], [], _, _ => Nat.zero_le _
  | n, l :: ls, d :: ds, ⟨a, b, h1, h2, h3⟩, f => by
    have := tailT_len h2 f
    have := f a l d h1
    rw [tailT_cons, List.length_cons, List.length_append]
    omega
theorem inT_len (ls : List (List Nat)) : (inT ls).length ≤ (tailT ls).length := by
  rw [← drop_tail, List.length_drop]
  omega
theorem Tx.len : ∀ (k : Nat) {n : Nat} {l : List Nat} {d : D}, Tx k n l d → l.length + 1 ≤ 4002 * n
  | 0, n, l, d, h => by have := h.2.len; have := h.1; omega
  | k + 1, n, l, d, .inl h => by have := h.2.len; have := h.1; omega
  | k + 1, n, l, d, .inr ⟨m, ls, ds, e1, e2, h, hm⟩ => by
    have h1 := tailT_len h fun a l d h => Tx.len k h
    have h2 := inT_len ls
    rw [e2, List.length_cons, List.length_append, List.length_singleton]
    omega
theorem Tx.pos {k n : Nat} {l : List Nat} {d : D} (h : Tx k n l d) : 1 ≤ n := by
  have := h.len
  omega
theorem At.sgn {l : List Nat} {d : D} (h : At l d) : ∀ c ∈ l, c ∈ allL := by
  cases h with
  | wrd w h => exact fun c hc => sgn_all c (h.all c hc)
  | emp => decide +kernel
  | non => decide +kernel
  | yes => decide +kernel
  | no => decide +kernel
  | int z h =>
    have d : ∀ c ∈ dg z.natAbs, c ∈ allL := fun c hc => sgn_all c (dig_sgn c (dg_dig _ c hc))
    unfold cInt
    split
    · intro c hc
      rcases List.mem_cons.mp hc with rfl | hc
      · decide +kernel
      · exact d c hc
    · exact d
theorem tailT_sgn {R : Nat → List Nat → D → Prop} : ∀ {n : Nat} {ls : List (List Nat)} {ds : List D}, Txs R n ls ds → (∀ a l d, R a l d → ∀ c ∈ l, c ∈ allL) → ∀ c ∈ tailT ls, c ∈ allL
  | _, [], [], _, _, c, hc => by cases hc
  | n, l :: ls, d :: ds, ⟨a, b, h1, h2, h3⟩, f, c, hc => by
    rw [tailT_cons] at hc
    rcases List.mem_cons.mp hc with rfl | hc
    · decide +kernel
    · rcases List.mem_append.mp hc with hc | hc
      · exact f a l d h1 c hc
      · exact tailT_sgn h2 f c hc
theorem inT_sub (ls : List (List Nat)) : ∀ c ∈ inT ls, c ∈ tailT ls := by
  rw [← drop_tail]
  exact fun c hc => List.mem_of_mem_drop hc
theorem Tx.sgn : ∀ (k : Nat) {n : Nat} {l : List Nat} {d : D}, Tx k n l d → ∀ c ∈ l, c ∈ allL
  | 0, n, l, d, h => h.2.sgn
  | k + 1, n, l, d, .inl h => h.2.sgn
  | k + 1, n, l, d, .inr ⟨m, ls, ds, e1, e2, h, hm⟩ => by
    have h1 := tailT_sgn h fun a l d h => Tx.sgn k h
    intro c hc
    rw [e2] at hc
    rcases List.mem_cons.mp hc with rfl | hc
    · decide +kernel
    · rcases List.mem_append.mp hc with hc | hc
      · exact h1 c (inT_sub ls c hc)
      · rw [List.mem_singleton.mp hc]; decide +kernel
end G75
namespace G75
open PySem L2 Vi
theorem addT (a b : List Nat) (h : Hc) (hl : a.length + b.length ≤ 16777216) : fAddT false (.d (.str (cS a))) (.d (.str (cS b))) h = .ok (.d (.str (cS (a ++ b)))) h := by
  have e : (cS a).length + (cS b).length ≤ 16777216 := by rw [SX.S_len, SX.S_len]; exact hl
  show (if (cS a).length + (cS b).length ≤ 16777216 then R.ok (Vl.d (.str (cS a ++ cS b))) h else .stuck) = _
  rw [if_pos e, SX.S_cat]
theorem addT_of {a b : List Nat} {env : Vi.Env} {ma mb : ME} {h h1 h2 : Hc} (e1 : ma env h = .ok (.d (.str (cS a))) h1) (e2 : mb env h1 = .ok (.d (.str (cS b))) h2) (hl : a.length + b.length ≤ 16777216) : m2 (fAddT false) ma mb env h = .ok (.d (.str (cS (a ++ b)))) h2 := (m2_of e1 e2).trans (addT a b h2 hl)
def txB (G : Fn) : MS := mSet 1 (m2 (fAddT false) (m2 (fAddT false) (mVar 1) (mC (.str " "))) (mA1 (fCallN 1 G []) (maCons (mVar 2) maNil)))
def txF : MS := mRet (m2 (fAddT false) (m2 (fAddT false) (mC (.str "(")) (mSlT false (mVar 1) (moS (mC (.int 1))) moN)) (mC (.str ")")))
def txR : MS := (mSeq (mIfS (asB (m2 (fIsN false) (mVar 0) (mC .non))) (mRet (mC (.str "none"))) mSkip) (mSeq (mIfS (asB (m1 (fIsi g0 (.bt "bool")) (mVar 0))) (mRet (m2 fIx (mA1 (fLst false) (maCons (mC (.str "no")) (maCons (mC (.str "yes")) maNil))) (mA1 fIntB (maCons (mVar 0) maNil)))) mSkip) (mSeq (mIfS (asB (m1 (fIsi g0 (.bt "str")) (mVar 0))) (mRet (mIf (asB (m2 (fEq true) (mVar 0) (mC (.str "")))) (mVar 0) (mC (.str "-")))) mSkip) (mRet (mA1 fStrB (maCons (mVar 0) maNil))))))
theorem text_parts (G : Fn) : m__law_p10_text G = mSeq (mIfS (asB (m1 (fIsi g0 (.bt "tuple")) (mVar 0))) (mSeq (mSet 1 (mC (.str ""))) (mSeq (mFor (gtN 2) (mVar 0) (txB G)) txF)) mSkip) txR := rfl
theorem tx_loop {G : Fn} {d0 : D} {h : Hc} : ∀ (ls : List (List Nat)) (ds : List D) (n : Nat) (acc : List Nat) (kv : Option Sl), Txs (fun _ l d => G [d] h = .ok (.str (cS l)) h) n ls ds → acc.length + (tailT ls).length ≤ 10000000 →
    ∃ kv', forL (gtN 2) (txB G) ds [some (.d d0), some (.d (.str (cS acc))), kv] h = .nx [some (.d d0), some (.d (.str (cS (acc ++ tailT ls)))), kv'] h
  | [], [], n, acc, kv, _, _ => ⟨kv, by
    show RS.nx _ _ = _
    rw [show tailT [] = [] from rfl, List.append_nil]⟩
  | l :: ls, d :: ds, n, acc, kv, ⟨a, b, h1, h2, h3⟩, hl => by
    rw [tailT_cons, List.length_cons, List.length_append] at hl
    obtain ⟨kv', e⟩ := tx_loop (d0 := d0) ls ds b (acc ++ [32] ++ l) (some (.d d)) h2 (by rw [List.length_append, List.length_append, List.length_singleton]; omega)
    refine ⟨kv', ?_⟩
    refine Eq.trans (for_nx (env1 := [some (.d d0), some (.d (.str (cS acc))), some (.d d)]) (env2 := [some (.d d0), some (.d (.str (cS (acc ++ [32] ++ l)))), some (.d d)]) (h2 := h) rfl ?_) ?_
    · have e1 : m2 (fAddT false) (mVar 1) (mC (.str " ")) [some (.d d0), some (.d (.str (cS acc))), some (.d d)] h = .ok (.d (.str (cS (acc ++ [32])))) h := by
        rw [s_sp]
        exact addT_of (h1 := h) rfl rfl (by rw [List.length_singleton]; omega)
      have e2 : mA1 (fCallN 1 G []) (maCons (mVar 2) maNil) [some (.d d0), some (.d (.str (cS acc))), some (.d d)] h = .ok (.d (.str (cS l))) h := call1 (h1 := h) rfl h1
      exact set_d (addT_of e1 e2 (by rw [List.length_append, List.length_singleton]; omega))
    · rw [e, tailT_cons]
      simp
theorem tx_tup {G : Fn} {ls : List (List Nat)} {ds : List D} {n : Nat} {h : Hc} (t : Txs (fun _ l d => G [d] h = .ok (.str (cS l)) h) n ls ds) (hl : (tailT ls).length ≤ 9000000) : fnOf 3 1 (m__law_p10_text G) [.tup ds] h = .ok (.str (cS (40 :: (inT ls ++ [41])))) h := by
  obtain ⟨kv, e⟩ := tx_loop (d0 := .tup ds) ls ds n [] none t (by rw [List.length_nil]; omega)
  refine (fnOf_eq 3 1 _ _ _ rfl).trans ?_
  rw [text_parts]
  rw [List.nil_append] at e
  have hi := inT_len ls
  have e2 : txF [some (.d (.tup ds)), some (.d (.str (cS (tailT ls)))), kv] h = .ret (.str (cS (40 :: (inT ls ++ [41])))) h := by
    have s1 : mSlT false (mVar 1) (moS (mC (.int 1))) moN [some (.d (.tup ds)), some (.d (.str (cS (tailT ls)))), kv] h = .ok (.d (.str (cS (inT ls)))) h := by
      show (if (cS (tailT ls)).length ≤ 16777216 then R.ok (Vl.d (.str (Txt.slice (cS (tailT ls)) (some 1) none))) h else .stuck) = _
      rw [if_pos (by rw [SX.S_len]; omega), SX.slice_from (by decide)]
      exact congrArg (fun l => R.ok (Vl.d (.str (cS l))) h) (drop_tail ls)
    refine ret_of ?_
    rw [s_op, s_cl]
    have s2 := addT_of (ma := mC (.str (cS [40]))) (a := [40]) (h1 := h) rfl s1 (by rw [List.length_singleton]; omega)
    exact addT_of s2 (mb := mC (.str (cS [41]))) (b := [41]) rfl (by rw [List.length_append, List.length_singleton, List.length_singleton]; omega)
  have e1 : mFor (gtN 2) (mVar 0) (txB G) [some (.d (.tup ds)), some (.d (.str (cS []))), none] h = .nx [some (.d (.tup ds)), some (.d (.str (cS (tailT ls)))), kv] h := (for_eq (h1 := h) (x := .d (.tup ds)) (bb := false) rfl rfl).trans e
  refine congrArg RS.fin (seq_ret ?_)
  refine Eq.trans (if_t (h1 := h) (asB_of (b := true) rfl)) ?_
  refine Eq.trans (seq_nx (env1 := [some (.d (.tup ds)), some (.d (.str (cS []))), none]) (h1 := h) (set_d (d := .str (cS [])) (by rw [s_e]; rfl))) ?_
  exact (seq_nx e1).trans e2
theorem text_skip {G : Fn} {d : D} {h : Hc} (e : fIsi g0 (.bt "tuple") (.d d) h = .ok (.d (.bl false)) h) : fnOf 3 1 (m__law_p10_text G) [d] h = (txR [some (.d d), none, none] h).fin := by
  refine (fnOf_eq 3 1 _ _ _ rfl).trans ?_
  rw [text_parts]
  refine congrArg RS.fin (seq_nx (env1 := [some (.d d), none, none]) (h1 := h) ?_)
  exact if_skip (asB_of e)
theorem tx_at {l : List Nat} {d : D} (a : At l d) (G : Fn) (h : Hc) : fnOf 3 1 (m__law_p10_text G) [d] h = .ok (.str (cS l)) h := by
  cases a with
  | wrd _ q =>
    rw [text_skip rfl]
    have hw : l ≠ [] := fun e => by have := q.n1; rw [e] at this; exact absurd this (by decide)
    refine congrArg RS.fin (a₂ := .ret (.str (cS l)) h) ?_
    unfold txR
    refine Eq.trans (seq_nx (env1 := [some (.d (.str (cS l))), none, none]) (h1 := h) rfl) ?_
    refine Eq.trans (seq_nx (env1 := [some (.d (.str (cS l))), none, none]) (h1 := h) rfl) ?_
    refine seq_ret ?_
    refine Eq.trans (if_t (h1 := h) (asB_of (b := true) rfl)) ?_
    have e : asB (m2 (fEq true) (mVar 0) (mC (.str ""))) [some (.d (.str (cS l))), none, none] h = .ok true h := by
      refine asB_of (b := true) ((m2_of (h1 := h) rfl rfl).trans ((eq_txt true _ _ h).trans ?_))
      rw [s_e, cS_dec, decide_eq_false hw]
      rfl
    refine ret_of ?_
    unfold mIf
    rw [e]
    rfl
  | emp => rw [text_skip rfl, s_e.symm, s_min.symm]; rfl
  | non => rw [text_skip rfl, s_none.symm]; rfl
  | yes => rw [text_skip rfl, s_yes.symm]; rfl
  | no => rw [text_skip rfl, s_no.symm]; rfl
  | int z q =>
    rw [text_skip rfl]
    refine congrArg RS.fin (a₂ := .ret (.str (cS (cInt z))) h) ?_
    unfold txR
    refine Eq.trans (seq_nx (env1 := [some (.d (.int z)), none, none]) (h1 := h) rfl) ?_
    refine Eq.trans (seq_nx (env1 := [some (.d (.int z)), none, none]) (h1 := h) rfl) ?_
    refine Eq.trans (seq_nx (env1 := [some (.d (.int z)), none, none]) (h1 := h) rfl) ?_
    exact ret_of ((a1_of (h1 := h) rfl).trans (strB_int (big_lt q) h))
theorem v_text : ∀ (k f n : Nat) (l : List Nat) (d : D) (h : Hc), k < f → n ≤ 1000 → Tx k n l d → R__law_p10_text f [d] h = .ok (.str (cS l)) h
  | 0, f + 1, n, l, d, h, _, _, t => by rw [R__law_p10_text_s]; exact tx_at t.2 _ h
  | k + 1, f + 1, n, l, d, h, hf, hn, t => by
    rw [R__law_p10_text_s]
    rcases t with t | ⟨m, ls, ds, rfl, rfl, t, hm⟩
    · exact tx_at t.2 _ h
    · exact tx_tup (t.imp fun a l d ha t => v_text k f a l d h (by omega) (by omega) t) (by have := tailT_len t fun a l d h => Tx.len k h; omega)
end G75
namespace G75
open PySem L2 Vi
structure Sh (d : D) (k : Nat) : Prop where
  t : dat d = true
  y : PyData.canLay0 (toP d) = true
  k : (toP d).depth ≤ k
structure Shs (xs : List D) (k : Nat) : Prop where
  t : dats xs = true
  y : PyData.canLayAll0 (toPs xs) = true
  k : PyData.depthAll (toPs xs) ≤ k
theorem Sh.up {d : D} {j k : Nat} (a : Sh d j) (h : j ≤ k) : Sh d k := ⟨a.t, a.y, Nat.le_trans a.k h⟩
theorem Sh.int (i : Int) : Sh (.int i) 0 := ⟨rfl, by show PyData.canLay0 (.int i) = true; simp only [PyData.canLay0], by show PyData.depth (.int i) ≤ 0; simp only [PyData.depth]; exact Nat.le_refl _⟩
theorem Sh.bl (i : Bool) : Sh (.bl i) 0 := ⟨rfl, by show PyData.canLay0 (.bool i) = true; simp only [PyData.canLay0], by show PyData.depth (.bool i) ≤ 0; simp only [PyData.depth]; exact Nat.le_refl _⟩
theorem Sh.non : Sh .non 0 := ⟨rfl, by show PyData.canLay0 .none = true; simp only [PyData.canLay0], by show PyData.depth .none ≤ 0; simp only [PyData.depth]; exact Nat.le_refl _⟩
theorem Sh.str {x : PySem.Str} (h : PyData.strOk x = true) : Sh (.str x) 0 := ⟨rfl, by show PyData.canLay0 (.str x) = true; simp only [PyData.canLay0]; exact h, by show PyData.depth (.str x) ≤ 0; simp only [PyData.depth]; exact Nat.le_refl _⟩
theorem Shs.nil {k : Nat} : Shs [] k := ⟨rfl, by show PyData.canLayAll0 [] = true; simp only [PyData.canLayAll0], by show PyData.depthAll [] ≤ k; simp only [PyData.depthAll]; omega⟩
theorem Shs.cons {d : D} {ds : List D} {k : Nat} (a : Sh d k) (b : Shs ds k) : Shs (d :: ds) k := by
  refine ⟨?_, ?_, ?_⟩
  · show (dat d && dats ds) = true
    rw [a.t, b.t]
    rfl
  · show PyData.canLayAll0 (toP d :: toPs ds) = true
    simp only [PyData.canLayAll0]
    rw [a.y, b.y]
    rfl
  · show PyData.depthAll (toP d :: toPs ds) ≤ k
    simp only [PyData.depthAll]
    have := a.k
    have := b.k
    omega
theorem Shs.of {ds : List D} {k : Nat} (h : ∀ d ∈ ds, Sh d k) : Shs ds k := by
  induction ds with
  | nil => exact .nil
  | cons d r ih => exact .cons (h d (List.mem_cons_self ..)) (ih fun x hx => h x (List.mem_cons_of_mem _ hx))
theorem Shs.map {α : Type} {f : α → D} {xs : List α} {k : Nat} (h : ∀ x ∈ xs, Sh (f x) k) : Shs (xs.map f) k := .of fun d hd => by
  obtain ⟨x, hx, rfl⟩ := List.mem_map.mp hd
  exact h x hx
theorem Shs.tup {ds : List D} {k : Nat} (b : Shs ds k) : Sh (.tup ds) (k + 1) := ⟨b.t, by show PyData.canLay0 (.tuple (toPs ds)) = true; simpa only [PyData.canLay0] using b.y, by show PyData.depth (.tuple (toPs ds)) ≤ k + 1; simpa only [PyData.depth, Nat.add_le_add_iff_right] using b.k⟩
theorem Shs.lst {ds : List D} {k : Nat} (b : Shs ds k) : Sh (.lst ds) (k + 1) := ⟨b.t, by show PyData.canLay0 (.list (toPs ds)) = true; simpa only [PyData.canLay0] using b.y, by show PyData.depth (.list (toPs ds)) ≤ k + 1; simpa only [PyData.depth, Nat.add_le_add_iff_right] using b.k⟩
theorem Sh.shp {d : D} {k : Nat} (a : Sh d k) (hk : k ≤ 60) : shp d = true := by
  show (PyData.canLay0 (toP d) && decide ((toP d).depth ≤ 64)) = true
  rw [a.y, decide_eq_true (Nat.le_trans a.k (by omega))]
  rfl
theorem eqD_self {d : D} {k : Nat} (a : Sh d k) : eqD d d = true := PySem.SeqAt.eqv_refl _ a.y
theorem eq_gen {x y : D} {j k : Nat} (neg : Bool) (a : Sh x j) (b : Sh y k) (hj : j ≤ 60) (hk : k ≤ 60) (hx : ∀ s, x ≠ .str s) (h : Hc) : fEq neg (.d x) (.d y) h = .ok (.d (.bl (if neg then !eqD x y else eqD x y))) h := by
  have e : fEq neg (.d x) (.d y) h = fEq0 neg (.d x) (.d y) h := by
    cases x with
    | str s => exact absurd rfl (hx s)
    | _ => rfl
  rw [e]
  show (match (if dat x then some x else none), (if dat y then some y else none) with
    | some d, some e => if shp d && shp e then R.ok (Vl.d (.bl (if neg then !eqD d e else eqD d e))) h else .stuck
    | _, _ => .stuck) = _
  rw [a.t, b.t, if_pos rfl, if_pos rfl]
  dsimp only
  rw [a.shp hj, b.shp hk]
  rfl
theorem comp_bg {α β : Type} {t : Hc} {c M : Int} (h0 : 0 ≤ c) (T : TgF) (me : ME) (g : α → D) (f : α → β → D) (P : α → β → Prop) (env : Vi.Env) : ∀ (xs : List α) (acc : List D) (m : Int) (h : Hc),
    (∀ x ∈ xs, ∀ m h, BG t m h → m < M → ∃ env1 y h', T (g x) env = some env1 ∧ me env1 h = .ok (.d (f x y)) h' ∧ BG t (m + c) h' ∧ P x y) → BG t m h → m + c * xs.length < M → acc.length + xs.length < 16000000 →
    ∃ (zs : List (α × β)) (h' : Hc), compL false T mYes me (xs.map g) acc env h = .ok (.d (.lst (acc ++ zs.map fun z => f z.1 z.2))) h' ∧ BG t (m + c * xs.length) h' ∧ zs.map (·.1) = xs ∧ ∀ z ∈ zs, P z.1 z.2 := by
  intro xs
  induction xs with
  | nil =>
    intro acc m h _ b _ _
    refine ⟨[], h, ?_, by simpa using b, rfl, fun z hz => by cases hz⟩
    show R.ok (Vl.d (.lst acc)) h = _
    rw [List.map_nil, List.append_nil]
  | cons x r ih =>
    intro acc m h hx b hm hl
    rw [List.length_cons] at hl
    have e : c * ((x :: r).length : Int) = c * (r.length : Int) + c := by
      rw [List.length_cons, Int.natCast_add, Int.mul_add]
      show _ + c * 1 = _
      rw [Int.mul_one]
    have n := Int.mul_nonneg h0 (Int.natCast_nonneg r.length)
    rw [e] at hm ⊢
    obtain ⟨env1, y, h1, e0, e1, b1, p1⟩ := hx x (List.mem_cons_self ..) m h b (by omega)
    obtain ⟨zs, h', e2, b2, q1, q2⟩ := ih (acc ++ [f x y]) (m + c) h1 (fun y hy => hx y (List.mem_cons_of_mem _ hy)) b1 (by omega) (by rw [List.length_append, List.length_singleton]; omega)
    refine ⟨(x, y) :: zs, h', ?_, by rw [show m + (c * (r.length : Int) + c) = m + c + c * (r.length : Int) by omega]; exact b2, by rw [List.map_cons, q1], fun z hz => ?_⟩
    · show (match T (g x) env with
        | none => R.stuck
        | some env1 => (match mYes env1 h with
          | .ok b h1 => if b then (match me env1 h1 with
            | .ok (.d y) h2 => if acc.length < 16000000 then compL false T mYes me (r.map g) (acc ++ [y]) env h2 else .stuck
            | _ => R.stuck) else compL false T mYes me (r.map g) acc env h1
          | _ => .stuck)) = _
      rw [e0]
      show (match me env1 h with
            | .ok (.d y) h2 => if acc.length < 16000000 then compL false T mYes me (r.map g) (acc ++ [y]) env h2 else .stuck
            | _ => .stuck) = _
      rw [e1]
      dsimp only
      rw [if_pos (by omega), e2, List.append_assoc]
      rfl
    · rcases List.mem_cons.mp hz with rfl | hz
      · exact p1
      · exact q2 z hz
theorem dr {i : Nat} {env : Vi.Env} {a : ME} {many : Int} (g : BG t m h) (hm : m < 2 ^ 60) (h0 : 1 ≤ many) (h1 : many < 2 ^ 140) (e0 : mVar i env h = .ok (.d (.ref 0)) h) (ea : a env h = .ok (.d (.int many)) h) :
    ∃ r h', mA1 (fCallN 2 F__law_draw []) (maCons (mVar i) (maCons a maNil)) env h = .ok (.d (.int r)) h' ∧ BG t (m + 1) h' ∧ 0 ≤ r ∧ r < many := by
  obtain ⟨r, h', e, g2, r0, r1⟩ := draw2 g hm h0 h1
  exact ⟨r, h', call2 (x := .ref 0) (y := .int many) (h1 := h) (h2 := h) e0 ea e, g2, r0, r1⟩
def NoR (d : D) : Prop := ∀ L, refsD L d = true
def Cl (h : Hc) : Prop := ∀ c ∈ h, ∀ L, cellRefs L c = true
theorem BG.ext {t : Hc} (g : BG t m h) (c : Cell) : BG (t ++ [c]) m (h ++ [c]) := by
  obtain ⟨ns, p, v, sd, l, k, rfl, q⟩ := g
  exact ⟨ns, p, v, sd, l, k, rfl, q⟩
theorem BG.len {t : Hc} (g : BG t m h) : h.length = t.length + 1 := by
  obtain ⟨ns, p, v, sd, l, k, rfl, q⟩ := g
  rfl
end G75
namespace G75
open PySem L2 Vi
def smT (G : Fn) : MS := (mSeq (mIfS (tOrM (tNotM (asB (m1 (fIsi g0 (.bt "tuple")) (mVar 0)))) (asB (m2 (fEq true) (mA1 fLen (maCons (mVar 0) maNil)) (mA1 fLen (maCons (mVar 1) maNil))))) (mRet (mC (.bl false))) mSkip) (mRet (m2 (fEq false) (mA1 fLen (maCons (mCompR false [2] (gtN 2) (tNotM (asB (mA1 (fCallN 2 G []) (maCons (m2 fIx (mVar 0) (mVar 2)) (maCons (m2 fIx (mVar 1) (mVar 2)) maNil))))) (mVar 2) (maCons (mA1 fLen (maCons (mVar 1) maNil)) maNil)) maNil)) (mC (.int 0)))))
def smR : MS := (mSeq (mIfS (asB (m2 (fIsN false) (mVar 1) (mC .non))) (mRet (m2 (fIsN false) (mVar 0) (mC .non))) mSkip) (mSeq (mIfS (asB (m1 (fIsi g0 (.bt "bool")) (mVar 1))) (mRet (mAnd (m1 (fIsi g0 (.bt "bool")) (mVar 0)) (m2 (fEq false) (mVar 0) (mVar 1)))) mSkip) (mSeq (mIfS (asB (m1 (fIsi g0 (.bt "str")) (mVar 1))) (mRet (mAnd (m1 (fIsi g0 (.bt "str")) (mVar 0)) (m2 (fEq false) (mVar 0) (mVar 1)))) mSkip) (mRet (mAnd (mA1 (fCallN 1 F__law_is_int []) (maCons (mVar 0) maNil)) (m2 (fEq false) (mVar 0) (mVar 1)))))))
theorem same_parts (G : Fn) : m__law_p10_same G = mSeq (mIfS (asB (m1 (fIsi g0 (.bt "tuple")) (mVar 1))) (smT G) mSkip) smR := rfl
theorem sm_tup {G : Fn} {ds : List D} {h : Hc} (hG : ∀ d ∈ ds, G [d, d] h = .ok (.bl true) h) (hl : ds.length < 100000) : fnOf 3 2 (m__law_p10_same G) [.tup ds, .tup ds] h = .ok (.bl true) h := by
  refine (fnOf_eq 3 2 _ _ _ rfl).trans ?_
  rw [same_parts]
  refine congrArg RS.fin (seq_ret ?_)
  refine Eq.trans (if_t (h1 := h) (asB_of (b := true) rfl)) ?_
  unfold smT
  refine Eq.trans (seq_nx (env1 := [some (.d (.tup ds)), some (.d (.tup ds)), none]) (h1 := h) (if_skip ?_)) ?_
  · refine Eq.trans (or_f (h1 := h) (not_b (b := true) (asB_of rfl))) ?_
    refine asB_of (b := false) ((m2_of (h1 := h) (h2 := h) (x := .d (.int ds.length)) (y := .d (.int ds.length)) rfl rfl).trans ((eqI true _ _ h).trans ?_))
    rw [decide_eq_true rfl]
    rfl
  · have c : mCompR false [2] (gtN 2) (tNotM (asB (mA1 (fCallN 2 G []) (maCons (m2 fIx (mVar 0) (mVar 2)) (maCons (m2 fIx (mVar 1) (mVar 2)) maNil))))) (mVar 2) (maCons (mA1 fLen (maCons (mVar 1) maNil)) maNil) [some (.d (.tup ds)), some (.d (.tup ds)), none] h = .ok (.d (.lst [])) h := by
      unfold mCompR
      have ea : maCons (mA1 fLen (maCons (mVar 1) maNil)) maNil [some (.d (.tup ds)), some (.d (.tup ds)), none] h = .ok [.d (.int ds.length)] h := rfl
      rw [ea, R.bind_ok]
      dsimp only
      have cd : -(2 ^ 62) ≤ (ds.length : Int) ∧ (ds.length : Int) < 2 ^ 62 := by omega
      rw [if_pos cd, Int.toNat_natCast]
      refine (comp_map false 2 _ (mVar 2) (fun d => d) (fun _ => false) _ h (rangeD 0 ds.length) [] ?_ (by rw [rangeD_len, List.length_nil]; omega)).trans ?_
      · intro x hx
        unfold rangeD at hx
        obtain ⟨i, hi, rfl⟩ := List.mem_map.mp hx
        have hi := List.mem_range.mp hi
        refine ⟨?_, fun z => by cases z⟩
        have e0 : atI ds (0 + (i : Int)) = some ds[i] := by
          unfold atI ixN
          rw [if_pos (by omega), if_pos (by omega)]
          show ds[(0 + (i : Int)).toNat]? = _
          rw [show (0 + (i : Int)).toNat = i by omega]
          exact List.getElem?_eq_getElem hi
        have e1 : ∀ j, j < 2 → m2 fIx (mVar j) (mVar 2) ((wipeE [some (.d (.tup ds)), some (.d (.tup ds)), none] [2]).set 2 (some (.d (.int (0 + (i : Int)))))) h = .ok (.d ds[i]) h := by
          intro j hj
          have : j = 0 ∨ j = 1 := by omega
          rcases this with rfl | rfl <;>
          · refine (m2_of (x := .d (.tup ds)) (y := .d (.int (0 + (i : Int)))) (h1 := h) rfl rfl).trans ((fIx_tup ds _ h).trans ?_)
            rw [e0]
        exact not_b (b := true) (asB_of (call2 (e1 0 (by decide)) (e1 1 (by decide)) (hG _ (List.getElem_mem hi))))
      · rw [show (rangeD 0 ds.length).filter (fun _ => false) = [] from by simp]
        rfl
    refine ret_of ?_
    refine (m2_of (h1 := h) (h2 := h) (x := .d (.int 0)) (y := .d (.int 0)) (a1_of c) rfl).trans ((eqI false _ _ h).trans ?_)
    rfl
end G75
namespace G75
open PySem L2 Vi
theorem same_skip {G : Fn} {d : D} {h : Hc} (e : fIsi g0 (.bt "tuple") (.d d) h = .ok (.d (.bl false)) h) : fnOf 3 2 (m__law_p10_same G) [d, d] h = (smR [some (.d d), some (.d d), none] h).fin := by
  refine (fnOf_eq 3 2 _ _ _ rfl).trans ?_
  rw [same_parts]
  refine congrArg RS.fin (seq_nx (env1 := [some (.d d), some (.d d), none]) (h1 := h) ?_)
  exact if_skip (asB_of e)
theorem sm_str (x : PySem.Str) (G : Fn) (h : Hc) : fnOf 3 2 (m__law_p10_same G) [.str x, .str x] h = .ok (.bl true) h := by
  rw [same_skip rfl]
  refine congrArg RS.fin (a₂ := .ret (.bl true) h) ?_
  unfold smR
  refine Eq.trans (seq_nx (env1 := [some (.d (.str x)), some (.d (.str x)), none]) (h1 := h) rfl) ?_
  refine Eq.trans (seq_nx (env1 := [some (.d (.str x)), some (.d (.str x)), none]) (h1 := h) rfl) ?_
  refine seq_ret ?_
  refine Eq.trans (if_t (h1 := h) (asB_of (b := true) rfl)) ?_
  refine ret_of ?_
  rw [and_t rfl]
  refine (m2_of (h1 := h) rfl rfl).trans ((eq_txt false _ _ h).trans ?_)
  rw [decide_eq_true rfl]
  rfl
abbrev insF (z : List Nat) (p b : Nat) : List (PySem.Str × D) := [("text_read", .str (cS z)), ("place", .int (p : Nat)), ("held", .ref b)]
abbrev insC (z : List Nat) (p b : Nat) : Cell := .ins 5 (insF z p b)
def Frs (h : Hc) : List Nat → List (List D) → Prop
  | [], [] => True
  | c :: cs, x :: xs => h[c]? = some (.lst x) ∧ Frs h cs xs
  | _, _ => False
structure St (a b : Nat) (z : List Nat) (p : Nat) (cs : List Nat) (st : List (List D)) (h : Hc) : Prop where
  ins : h[a]? = some (insC z p b)
  out : h[b]? = some (.lst (cs.reverse.map D.ref))
  frs : Frs h cs st
  nd : (a :: b :: cs).Nodup
  zl : z.length ≤ 10000000
theorem get_lt {h : Hc} {c : Nat} {x : Cell} (e : h[c]? = some x) : c < h.length := (List.getElem?_eq_some_iff.mp e).1
theorem Frs.set {h : Hc} {c : Nat} {x : Cell} : ∀ {cs : List Nat} {st : List (List D)}, Frs h cs st → c ∉ cs → Frs (h.set c x) cs st
  | [], [], _, _ => trivial
  | d :: cs, y :: st, ⟨h1, h2⟩, hn => ⟨by rw [List.getElem?_set_ne (fun e : c = d => hn (e ▸ List.mem_cons_self ..))]; exact h1, Frs.set h2 fun m => hn (List.mem_cons_of_mem _ m)⟩
theorem Frs.app {h t : Hc} : ∀ {cs : List Nat} {st : List (List D)}, Frs h cs st → Frs (h ++ t) cs st
  | [], [], _ => trivial
  | d :: cs, y :: st, ⟨h1, h2⟩ => ⟨by rw [List.getElem?_append_left (get_lt h1)]; exact h1, Frs.app h2⟩
theorem Frs.lt {h : Hc} : ∀ {cs : List Nat} {st : List (List D)}, Frs h cs st → ∀ c ∈ cs, c < h.length
  | [], [], _, c, hc => by cases hc
  | d :: cs, y :: st, ⟨h1, h2⟩, c, hc => by
    rcases List.mem_cons.mp hc with rfl | hc
    · exact get_lt h1
    · exact Frs.lt h2 c hc
theorem Frs.len {h : Hc} : ∀ {cs : List Nat} {st : List (List D)}, Frs h cs st → cs.length = st.length
  | [], [], _ => rfl
  | d :: cs, y :: st, ⟨h1, h2⟩ => by rw [List.length_cons, List.length_cons, Frs.len h2]
section
variable {a b : Nat} {z : List Nat} {p : Nat} {cs : List Nat} {st : List (List D)} {h : Hc}
theorem St.nab (s : St a b z p cs st h) : a ≠ b := fun e => by
  have := s.nd
  rw [e] at this
  exact (List.nodup_cons.mp this).1 (List.mem_cons_self ..)
theorem St.na (s : St a b z p cs st h) : a ∉ cs := fun m => (List.nodup_cons.mp s.nd).1 (List.mem_cons_of_mem _ m)
theorem St.nb (s : St a b z p cs st h) : b ∉ cs := (List.nodup_cons.mp (List.nodup_cons.mp s.nd).2).1
theorem St.go (s : St a b z p cs st h) (q : Nat) : St a b z q cs st (h.set a (insC z q b)) := ⟨by
  rw [List.getElem?_set_self (get_lt s.ins)], by rw [List.getElem?_set_ne s.nab]; exact s.out, s.frs.set s.na, s.nd, s.zl⟩
theorem St.push (s : St a b z p cs st h) : St a b z p (h.length :: cs) ([] :: st) ((h ++ [Cell.lst []]).set b (Cell.lst (cs.reverse.map D.ref ++ [D.ref h.length]))) := by
  have ha := get_lt s.ins
  have hb := get_lt s.out
  refine ⟨?_, ?_, ?_, ?_, s.zl⟩
  · rw [List.getElem?_set_ne (Ne.symm s.nab), List.getElem?_append_left ha]
    exact s.ins
  · rw [List.getElem?_set_self (by rw [List.length_append]; omega), List.reverse_cons, List.map_append]
    rfl
  · refine ⟨?_, Frs.set s.frs.app s.nb⟩
    rw [List.getElem?_set_ne (by omega), List.getElem?_append_right (Nat.le_refl _), Nat.sub_self]
    rfl
  · have hc := s.frs.lt
    have nd := s.nd
    simp only [List.nodup_cons, List.mem_cons, not_or] at nd ⊢
    exact ⟨⟨nd.1.1, by omega, nd.1.2⟩, ⟨by omega, nd.2.1⟩, fun m => by have := hc _ m; omega, nd.2.2⟩
theorem St.add {c : Nat} {x : List D} (s : St a b z p (c :: cs) (x :: st) h) (d : D) : St a b z p (c :: cs) ((x ++ [d]) :: st) (h.set c (Cell.lst (x ++ [d]))) := by
  have nd := s.nd
  simp only [List.nodup_cons, List.mem_cons, not_or] at nd
  refine ⟨?_, ?_, ⟨?_, ?_⟩, s.nd, s.zl⟩
  · rw [List.getElem?_set_ne (fun e => nd.1.2.1 e.symm)]; exact s.ins
  · rw [List.getElem?_set_ne (fun e => nd.2.1.1 e.symm)]; exact s.out
  · rw [List.getElem?_set_self (get_lt s.frs.1)]
  · exact s.frs.2.set nd.2.2.1
theorem St.drop {c : Nat} {x : List D} (s : St a b z p (c :: cs) (x :: st) h) : St a b z p cs st (h.set b (Cell.lst (cs.reverse.map D.ref))) := by
  have nd := s.nd
  simp only [List.nodup_cons, List.mem_cons, not_or] at nd
  refine ⟨?_, ?_, ?_, ?_, s.zl⟩
  · rw [List.getElem?_set_ne (Ne.symm s.nab)]; exact s.ins
  · rw [List.getElem?_set_self (get_lt s.out)]
  · exact s.frs.2.set nd.2.1.2
  · simp only [List.nodup_cons, List.mem_cons, not_or]
    exact ⟨⟨nd.1.1, nd.1.2.2⟩, nd.2.1.2, nd.2.2.2⟩
end
end G75
namespace G75
open PySem L2 Vi
theorem slice2 (z : List Nat) {p q : Nat} (h : p ≤ q) : Txt.slice (cS z) (some (p : Int)) (some (q : Int)) = cS ((z.drop p).take (q - p)) := by
  rw [← C8.cutS_slice]
  unfold cutS
  rw [HT.sIx_nat, HT.sIx_nat, SX.S_len]
  refine congrArg SX.S ?_
  show (z.drop (min p z.length)).take (min q z.length - min p z.length) = _
  by_cases hp : p ≤ z.length
  · rw [Nat.min_eq_left hp]
    by_cases hq : q ≤ z.length
    · rw [Nat.min_eq_left hq]
    · rw [Nat.min_eq_right (by omega), List.take_of_length_le (by rw [List.length_drop]; omega), List.take_of_length_le (by rw [List.length_drop]; omega)]
  · rw [show min p z.length = z.length by omega, List.drop_eq_nil_of_le (Nat.le_refl _), List.drop_eq_nil_of_le (by omega), List.take_nil, List.take_nil]
section
variable {a b : Nat} {z : List Nat} {p : Nat} {cs : List Nat} {st : List (List D)} {h : Hc} {env : Vi.Env} {i : Nat}
theorem St.txt (s : St a b z p cs st h) (e : mVar i env h = .ok (.d (.ref a)) h) : m1 (fFld g0 "text_read") (mVar i) env h = .ok (.d (.str (cS z))) h := by
  refine (m1_of e).trans ?_
  show (match h[a]? with
    | some (.ins c fs) => if g0.fld c ("text_read" : PySem.Str) then (match fs.lookup ("text_read" : PySem.Str) with
      | some d => R.ok (Vl.d d) h
      | none => .stuck) else .stuck
    | _ => .stuck) = _
  rw [s.ins]
  rfl
theorem St.plc (s : St a b z p cs st h) (e : mVar i env h = .ok (.d (.ref a)) h) : m1 (fFld g0 "place") (mVar i) env h = .ok (.d (.int (p : Nat))) h := by
  refine (m1_of e).trans ?_
  show (match h[a]? with
    | some (.ins c fs) => if g0.fld c ("place" : PySem.Str) then (match fs.lookup ("place" : PySem.Str) with
      | some d => R.ok (Vl.d d) h
      | none => .stuck) else .stuck
    | _ => .stuck) = _
  rw [s.ins]
  rfl
theorem St.hld (s : St a b z p cs st h) (e : mVar i env h = .ok (.d (.ref a)) h) : m1 (fFld g0 "held") (mVar i) env h = .ok (.d (.ref b)) h := by
  refine (m1_of e).trans ?_
  show (match h[a]? with
    | some (.ins c fs) => if g0.fld c ("held" : PySem.Str) then (match fs.lookup ("held" : PySem.Str) with
      | some d => R.ok (Vl.d d) h
      | none => .stuck) else .stuck
    | _ => .stuck) = _
  rw [s.ins]
  rfl
theorem St.met (s : St a b z p cs st h) {m : PySem.Str} {n : Nat} {F : Fn} {x : MA} {ds : List D} {h1 : Hc} (e : mVar i env h = .ok (.d (.ref a)) h) (hm : (insF z p b).lookup m = none) (ex : x env h = .ok (ds.map Vl.d) h1) (hn : ds.length = n) :
    mMeth 5 m n F [] (mVar i) x env h = (F (.ref a :: ds) h1).bind fun d h' => .ok (.d d) h' := by
  unfold mMeth
  rw [e, R.bind_ok]
  have e1 : ins? 5 (.d (.ref a)) h = some (insF z p b) := by
    show (match h[a]? with
      | some (.ins c' fs) => if c' = 5 then some fs else none
      | _ => none) = _
    rw [s.ins]
    rfl
  rw [e1]
  dsimp only
  rw [hm, if_pos (show (none : Option D).isNone = true from rfl), ex, R.bind_ok]
  unfold fMeth
  dsimp only
  have hd : datas (ds.map Vl.d) = some ds := by
    clear hn ex
    induction ds with
    | nil => rfl
    | cons x r ih =>
      show (datas (r.map Vl.d)).map (x :: ·) = _
      rw [ih]
      rfl
  rw [if_pos (by rw [List.length_map]; exact hn), hd]
  dsimp only
  rw [List.append_nil]
theorem St.met0 (s : St a b z p cs st h) {m : PySem.Str} {F : Fn} {d : D} {h1 : Hc} (e : mVar i env h = .ok (.d (.ref a)) h) (hm : (insF z p b).lookup m = none) (ef : F [.ref a] h = .ok d h1) :
    mMeth 5 m 0 F [] (mVar i) maNil env h = .ok (.d d) h1 := by
  rw [s.met (n := 0) (ds := []) (h1 := h) e hm rfl rfl, ef]
  rfl
theorem St.met1 (s : St a b z p cs st h) {m : PySem.Str} {F : Fn} {x : ME} {dx d : D} {h1 h2 : Hc} (e : mVar i env h = .ok (.d (.ref a)) h) (hm : (insF z p b).lookup m = none) (ex : x env h = .ok (.d dx) h1) (ef : F [.ref a, dx] h1 = .ok d h2) :
    mMeth 5 m 1 F [] (mVar i) (maCons x maNil) env h = .ok (.d d) h2 := by
  rw [s.met (n := 1) (ds := [dx]) (h1 := h1) e hm (ma_cons ex ma_nil) rfl, ef]
  rfl
theorem St.met2 (s : St a b z p cs st h) {m : PySem.Str} {F : Fn} {x y : ME} {dx dy d : D} {h1 : Hc} (e : mVar i env h = .ok (.d (.ref a)) h) (hm : (insF z p b).lookup m = none) (ex : x env h = .ok (.d dx) h) (ey : y env h = .ok (.d dy) h) (ef : F [.ref a, dx, dy] h = .ok d h1) :
    mMeth 5 m 2 F [] (mVar i) (maCons x (maCons y maNil)) env h = .ok (.d d) h1 := by
  rw [s.met (n := 2) (ds := [dx, dy]) (h1 := h) e hm (ma_cons ex (ma_cons ey ma_nil)) rfl, ef]
  rfl
theorem St.inc (s : St a b z p cs st h) {i : Nat} (e : env[i]? = some (some (.d (.ref a)))) : mAugFldC g0 i "place" (mC (.int 1)) env h = .nx env (h.set a (insC z (p + 1) b)) := by
  unfold mAugFldC
  rw [e]
  try dsimp only
  rw [s.ins]
  try dsimp only
  rw [show g0.fld 5 "place" = true from by decide +kernel, show (insF z p b).lookup ("place" : PySem.Str) = some (.int (p : Nat)) from rfl]
  try dsimp only
  rw [show mC (.int 1) env h = .ok (.d (.int 1)) h from rfl, R.thenS_ok]
  try dsimp only
  rw [s.ins]
  try dsimp only
  rw [if_pos ⟨rfl, by show 3 < 1000; decide⟩]
  rfl
theorem sub1 (j : PySem.Str) (c : Nat) : hasSub j (cS [c]) = decide (c ∈ j.cps.toList) := by
  unfold hasSub
  rw [show (cS [c] : PySem.Str) = ⟨#[c]⟩ from rfl, PyProof.Rows.empty_one, Bool.not_not]
theorem in_letA : ∀ c, hasSub "abcdefghijklmnopqrstuvwxyz" (cS [c]) = decide (c ∈ letL) := sub1 _
theorem in_digA : ∀ c, hasSub "0123456789" (cS [c]) = decide (c ∈ digL) := sub1 _
theorem in_sgnA : ∀ c, hasSub "abcdefghijklmnopqrstuvwxyz0123456789" (cS [c]) = decide (c ∈ sgnL) := sub1 _
theorem v_sign (s : St a b z p cs st h) : F_PlainReader_sign [.ref a] h = .ok (.str (cS ((z.drop p).take 1))) h := by
  refine (fnOf_eq 1 1 _ _ _ rfl).trans (congrArg RS.fin (a₂ := .ret (.str (cS ((z.drop p).take 1))) h) (ret_of ?_))
  have e0 : mVar 0 (mkEnv 1 [.ref a]) h = .ok (.d (.ref a)) h := rfl
  have e1 := s.txt e0
  have e2 := s.plc e0
  have e3 : moS (m1 (fFld g0 "place") (mVar 0)) (mkEnv 1 [.ref a]) h = .ok (some (p : Int)) h := by
    show (m1 (fFld g0 "place") (mVar 0) (mkEnv 1 [.ref a]) h).bind _ = _
    rw [e2]
    rfl
  have e4 : moS (m2 (fAddT false) (m1 (fFld g0 "place") (mVar 0)) (mC (.int 1))) (mkEnv 1 [.ref a]) h = .ok (some ((p + 1 : Nat) : Int)) h := by
    show (m2 (fAddT false) (m1 (fFld g0 "place") (mVar 0)) (mC (.int 1)) (mkEnv 1 [.ref a]) h).bind _ = _
    rw [m2_of (y := .d (.int 1)) (h2 := h) e2 rfl]
    rfl
  unfold mSlT
  rw [e1, R.bind_ok, e3, R.bind_ok, e4, R.bind_ok]
  show (if (cS z).length ≤ 16777216 then R.ok (Vl.d (.str (Txt.slice (cS z) (some (p : Int)) (some ((p + 1 : Nat) : Int))))) h else .stuck) = _
  have hz := s.zl
  rw [if_pos (by rw [SX.S_len]; omega), slice2 z (Nat.le_succ p), show p + 1 - p = 1 by omega]
def hdIn (L : List Nat) : List Nat → Bool
  | c :: _ => decide (c ∈ L)
  | [] => false
theorem v_isin {X : PySem.Str} {L : List Nat} (hX : ∀ c, hasSub X (cS [c]) = decide (c ∈ L)) (s : St a b z p cs st h) :
    F_PlainReader_is_in [.ref a, .str X] h = .ok (.bl (hdIn L (z.drop p))) h := by
  refine (fnOf_eq 2 2 _ _ _ rfl).trans ?_
  have e0 : mVar 0 (mkEnv 2 [.ref a, .str X]) h = .ok (.d (.ref a)) h := rfl
  have e1 : mMeth 5 "sign" 0 F_PlainReader_sign [] (mVar 0) maNil (mkEnv 2 [.ref a, .str X]) h = .ok (.d (.str (cS ((z.drop p).take 1)))) h := s.met0 e0 rfl (v_sign s)
  have e2 := (m2_of (F := fEq true) (b := mC (.str "")) (y := .d (.str "")) (h2 := h) e1 rfl).trans (eq_txt true _ _ h)
  unfold m_PlainReader_is_in
  cases hr : z.drop p with
  | nil =>
    rw [hr] at e2
    refine congrArg RS.fin (a₂ := .ret (.bl false) h) (ret_of ?_)
    refine and_f (e2.trans ?_)
    rw [s_e]
    exact congrArg (fun b => R.ok (Vl.d (.bl b)) h) (by rw [cS_dec]; rfl)
  | cons c r =>
    rw [hr] at e1 e2
    refine congrArg RS.fin (a₂ := .ret (.bl (decide (c ∈ L))) h) (ret_of ?_)
    have e3 := e2.trans (show _ = R.ok (Vl.d (.bl true)) h from by
      rw [s_e]
      exact congrArg (fun b => R.ok (Vl.d (.bl b)) h) (by rw [cS_dec]; rfl))
    refine (and_t e3).trans ?_
    refine (m2_of (y := .d (.str X)) (h2 := h) e1 rfl).trans ?_
    show R.ok (Vl.d (nB false (hasSub X (cS ([c] : List Nat))))) h = _
    have hc : c ∈ z := List.mem_of_mem_drop (i := p) (by rw [hr]; exact List.mem_cons_self ..)
    rw [hX c]
    rfl
abbrev bad (q : Nat) : D := .obj 2 [("class_name", .str "BadText"), ("place", .int (q : Nat))]
theorem St.met0X (s : St a b z p cs st h) {m : PySem.Str} {F : Fn} {y : D} {h1 : Hc} (e : mVar i env h = .ok (.d (.ref a)) h) (hm : (insF z p b).lookup m = none) (ef : F [.ref a] h = .exc y h1) :
    mMeth 5 m 0 F [] (mVar i) maNil env h = .exc y h1 := by
  rw [s.met (n := 0) (ds := []) (h1 := h) e hm rfl rfl, ef]
  rfl
theorem St.met1X (s : St a b z p cs st h) {m : PySem.Str} {F : Fn} {x : ME} {dx y : D} {h1 h2 : Hc} (e : mVar i env h = .ok (.d (.ref a)) h) (hm : (insF z p b).lookup m = none) (ex : x env h = .ok (.d dx) h1) (ef : F [.ref a, dx] h1 = .exc y h2) :
    mMeth 5 m 1 F [] (mVar i) (maCons x maNil) env h = .exc y h2 := by
  rw [s.met (n := 1) (ds := [dx]) (h1 := h1) e hm (ma_cons ex ma_nil) rfl, ef]
  rfl
theorem drop_ex {m : ME} {env : Vi.Env} {y : D} {h h1 : Hc} (e : m env h = .exc y h1) : mDrop m env h = .exc env y h1 := by
  unfold mDrop
  rw [e]
  rfl
theorem set_ex {i : Nat} {m : ME} {env : Vi.Env} {y : D} {h h1 : Hc} (e : m env h = .exc y h1) : mSet i m env h = .exc env y h1 := by
  unfold mSet
  rw [e]
  rfl
theorem ret_ex {m : ME} {env : Vi.Env} {y : D} {h h1 : Hc} (e : m env h = .exc y h1) : mRet m env h = .exc env y h1 := by
  unfold mRet
  rw [e]
  rfl
theorem v_expF (s : St a b z p cs st h) : F_PlainReader_expect [.ref a, .bl false] h = .exc (bad p) h := by
  have e0 : mVar 0 (mkEnv 2 [.ref a, .bl false]) h = .ok (.d (.ref a)) h := rfl
  refine (fnOf_eq 2 2 _ _ _ rfl).trans (congrArg RS.fin (a₂ := .exc (mkEnv 2 [.ref a, .bl false]) (bad p) h) ?_)
  refine (if_t (not_b (b := false) (asB_of rfl))).trans ?_
  unfold mRaise
  rw [ma_cons (s.plc e0) ma_nil]
  rfl
theorem v_expect (s : St a b z p cs st h) : F_PlainReader_expect [.ref a, .bl true] h = .ok .non h := by
  refine (fnOf_eq 2 2 _ _ _ rfl).trans ?_
  rfl
end
end G75
namespace G75
open PySem L2 Vi
def rsC : MB := (tAndM (asB (mMeth 5 "is_in" 1 F_PlainReader_is_in [] (mVar 0) (maCons (mVar 1) maNil))) (asB (m2 fLt (m1 (fFld g0 "place") (mVar 0)) (m2 (fAddT false) (mVar 3) (mVar 2)))))
def rsB : MS := mAugFldC g0 0 "place" (mC (.int 1))
def rsF : MS := (mRet (mSlT false (m1 (fFld g0 "text_read") (mVar 0)) (moS (mVar 3)) (moS (m1 (fFld g0 "place") (mVar 0)))))
theorem rs_parts : m_PlainReader_read_signs = mSeq (mSet 3 (m1 (fFld g0 "place") (mVar 0))) (mSeq (mWhile 20000 rsC rsB) rsF) := rfl
def NoH (L : List Nat) (r : List Nat) : Prop := ∀ c s, r = c :: s → c ∉ L
theorem dr_add {z w r : List Nat} {p : Nat} (e : z.drop p = w ++ r) : z.drop (p + w.length) = r := by
  rw [← List.drop_drop, e, List.drop_left]
section
variable {a b : Nat} {z : List Nat} {cs : List Nat} {st : List (List D)} {X : PySem.Str} {L : List Nat} {most start : Nat}
theorem rs_cond {p : Nat} {h : Hc} (hX : ∀ c, hasSub X (cS [c]) = decide (c ∈ L)) (s : St a b z p cs st h) :
    rsC [some (.d (.ref a)), some (.d (.str X)), some (.d (.int (most : Nat))), some (.d (.int (start : Nat)))] h = .ok (hdIn L (z.drop p) && decide (p < start + most)) h := by
  have e0 : mVar 0 [some (.d (.ref a)), some (.d (.str X)), some (.d (.int (most : Nat))), some (.d (.int (start : Nat)))] h = .ok (.d (.ref a)) h := rfl
  have e1 := asB_of (s.met1 (m := "is_in") e0 rfl (x := mVar 1) (h1 := h) rfl (v_isin hX s))
  unfold rsC
  revert e1
  generalize hdIn L (z.drop p) = bb
  intro e1
  cases bb with
  | false => exact and_ff e1
  | true =>
    rw [and_tt e1]
    refine asB_of ((m2_of (s.plc e0) (m2_of (F := fAddT false) (h1 := h) (h2 := h) (x := .d (.int (start : Nat))) (y := .d (.int (most : Nat))) rfl rfl)).trans ?_)
    show R.ok (Vl.d (.bl (decide ((p : Int) < (start : Int) + (most : Int))))) h = _
    rw [Bool.true_and]
    refine congrArg (fun b => R.ok (Vl.d (.bl b)) h) ?_
    rw [Bool.eq_iff_iff, decide_eq_true_iff, decide_eq_true_iff]
    omega
theorem rs_loop (hX : ∀ c, hasSub X (cS [c]) = decide (c ∈ L)) : ∀ (w : List Nat) (r : List Nat) (p N : Nat) (h : Hc), St a b z p cs st h → z.drop p = w ++ r → (∀ c ∈ w, c ∈ L) → p + w.length ≤ start + most → (NoH L r ∨ p + w.length = start + most) → w.length < N →
    ∃ h', mWhile N rsC rsB [some (.d (.ref a)), some (.d (.str X)), some (.d (.int (most : Nat))), some (.d (.int (start : Nat)))] h = .nx [some (.d (.ref a)), some (.d (.str X)), some (.d (.int (most : Nat))), some (.d (.int (start : Nat)))] h' ∧ St a b z (p + w.length) cs st h'
  | [], r, p, N + 1, h, s, e, _, hl, hs, _ => by
    refine ⟨h, ?_, s⟩
    rw [mWhile_succ, rs_cond hX s, e, List.nil_append]
    have : (hdIn L r && decide (p < start + most)) = false := by
      rcases hs with hs | hs
      · cases r with
        | nil => rfl
        | cons c r =>
          show (decide (c ∈ L) && _) = false
          rw [decide_eq_false (hs c r rfl), Bool.false_and]
      · rw [List.length_nil] at hs
        rw [decide_eq_false (p := p < start + most) (by omega), Bool.and_false]
    rw [this]
    rfl
  | c :: w, r, p, N + 1, h, s, e, hw, hl, hs, hN => by
    rw [List.length_cons] at hl hs hN
    have e2 : z.drop (p + 1) = w ++ r := dr_add (w := [c]) e
    obtain ⟨h', e3, s3⟩ := rs_loop hX w r (p + 1) N _ (s.go (p + 1)) e2 (fun x hx => hw x (List.mem_cons_of_mem _ hx)) (by omega) (by rcases hs with hs | hs; exact .inl hs; exact .inr (by omega)) (by omega)
    refine ⟨h', ?_, by rw [List.length_cons, show p + (w.length + 1) = p + 1 + w.length by omega]; exact s3⟩
    rw [mWhile_succ, rs_cond hX s, e]
    show ((R.ok (decide (c ∈ L) && decide (p < start + most)) h).thenS _ _) = _
    rw [decide_eq_true (hw c (List.mem_cons_self ..)), decide_eq_true (p := p < start + most) (by omega)]
    show ((rsB [some (.d (.ref a)), some (.d (.str X)), some (.d (.int (most : Nat))), some (.d (.int (start : Nat)))] h).again (mWhile N rsC rsB)) = _
    rw [show rsB [some (.d (.ref a)), some (.d (.str X)), some (.d (.int (most : Nat))), some (.d (.int (start : Nat)))] h = .nx [some (.d (.ref a)), some (.d (.str X)), some (.d (.int (most : Nat))), some (.d (.int (start : Nat)))] (h.set a (insC z (p + 1) b)) from s.inc rfl]
    exact e3
theorem v_signs (hX : ∀ c, hasSub X (cS [c]) = decide (c ∈ L)) {w r : List Nat} {p : Nat} {h : Hc} (s : St a b z p cs st h) (e : z.drop p = w ++ r) (hw : ∀ c ∈ w, c ∈ L) (hl : w.length ≤ most) (hs : NoH L r ∨ w.length = most) (hm : most < 20000) :
    ∃ h', F_PlainReader_read_signs [.ref a, .str X, .int (most : Nat)] h = .ok (.str (cS w)) h' ∧ St a b z (p + w.length) cs st h' := by
  obtain ⟨h', e1, s1⟩ := rs_loop (start := p) (most := most) hX w r p 20000 h s e hw (by omega) (by rcases hs with hs | hs; exact .inl hs; exact .inr (by omega)) (by omega)
  refine ⟨h', ?_, s1⟩
  refine (fnOf_eq 4 3 _ _ _ rfl).trans (congrArg RS.fin (a₂ := .ret (.str (cS w)) h') ?_)
  rw [rs_parts]
  have e0 : mVar 0 (mkEnv 4 [.ref a, .str X, .int (most : Nat)]) h = .ok (.d (.ref a)) h := rfl
  refine Eq.trans (seq_nx (env1 := [some (.d (.ref a)), some (.d (.str X)), some (.d (.int (most : Nat))), some (.d (.int (p : Nat)))]) (h1 := h) (set_d (s.plc e0))) ?_
  refine Eq.trans (seq_nx e1) ?_
  have e3 : mVar 0 [some (.d (.ref a)), some (.d (.str X)), some (.d (.int (most : Nat))), some (.d (.int (p : Nat)))] h' = .ok (.d (.ref a)) h' := rfl
  unfold rsF
  refine ret_of ?_
  unfold mSlT
  have e4 : moS (m1 (fFld g0 "place") (mVar 0)) [some (.d (.ref a)), some (.d (.str X)), some (.d (.int (most : Nat))), some (.d (.int (p : Nat)))] h' = .ok (some ((p + w.length : Nat) : Int)) h' := by
    show (m1 (fFld g0 "place") (mVar 0) _ h').bind _ = _
    rw [s1.plc e3]
    rfl
  rw [s1.txt e3, R.bind_ok, show moS (mVar 3) [some (.d (.ref a)), some (.d (.str X)), some (.d (.int (most : Nat))), some (.d (.int (p : Nat)))] h' = .ok (some (p : Int)) h' from rfl, R.bind_ok, e4, R.bind_ok]
  show (if (cS z).length ≤ 16777216 then R.ok (Vl.d (.str (Txt.slice (cS z) (some (p : Int)) (some ((p + w.length : Nat) : Int))))) h' else .stuck) = _
  have hz := s.zl
  rw [if_pos (by rw [SX.S_len]; omega), slice2 z (by omega), e, show p + w.length - p = w.length by omega, List.take_left]
end
end G75
namespace G75
open PySem L2 Vi
theorem munch (L : List Nat) : ∀ (t : List Nat) (n : Nat), ∃ w r, t = w ++ r ∧ (∀ c ∈ w, c ∈ L) ∧ w.length ≤ n ∧ (NoH L r ∨ w.length = n)
  | t, 0 => ⟨[], t, rfl, (fun _ h => by cases h), Nat.le_refl _, .inr rfl⟩
  | [], n + 1 => ⟨[], [], rfl, (fun _ h => by cases h), Nat.zero_le _, .inl fun c s e => by cases e⟩
  | c :: t, n + 1 => by
    by_cases hc : c ∈ L
    · obtain ⟨w, r, e1, e2, e3, e4⟩ := munch L t n
      refine ⟨c :: w, r, by rw [e1]; rfl, fun x hx => ?_, by rw [List.length_cons]; omega, ?_⟩
      · rcases List.mem_cons.mp hx with rfl | hx
        · exact hc
        · exact e2 x hx
      · rcases e4 with e4 | e4
        · exact .inl e4
        · exact .inr (by rw [List.length_cons]; omega)
    · exact ⟨[], c :: t, rfl, (fun _ h => by cases h), Nat.zero_le _, .inl fun d s e => by cases e; exact hc⟩
def Fol (r : List Nat) : Prop := ∀ c s, r = c :: s → c = 32 ∨ c = 41
theorem Fol.sgn {r : List Nat} (f : Fol r) : NoH sgnL r := fun c s e m => by
  have := sgn_no c m
  rcases f c s e with h | h <;> omega
theorem hdIn_no {L r : List Nat} (f : NoH L r) : hdIn L r = false := by
  cases r with
  | nil => rfl
  | cons c s => exact decide_eq_false (f c s rfl)
theorem hdIn_yes {L : List Nat} {c : Nat} {s : List Nat} (h : c ∈ L) : hdIn L (c :: s) = true := decide_eq_true h
section
variable {a b : Nat} {z : List Nat} {cs : List Nat} {st : List (List D)} {p : Nat} {h : Hc} {env : Vi.Env} {i : Nat}
theorem v_eqs (neg : Bool) (s : St a b z p cs st h) (e0 : mVar i env h = .ok (.d (.ref a)) h) (x : PySem.Str) (l : List Nat) (ex : x = cS l) :
    asB (m2 (fEq neg) (mMeth 5 "sign" 0 F_PlainReader_sign [] (mVar i) maNil) (mC (.str x))) env h = .ok (if neg then !decide ((z.drop p).take 1 = l) else decide ((z.drop p).take 1 = l)) h := by
  refine asB_of ((m2_of (y := .d (.str x)) (h2 := h) (s.met0 (m := "sign") e0 rfl (v_sign s)) rfl).trans ((eq_txt neg _ _ h).trans ?_))
  rw [ex, cS_dec]
theorem v_eqm (neg : Bool) (s : St a b z p cs st h) (e0 : mVar i env h = .ok (.d (.ref a)) h) (x : PySem.Str) (l : List Nat) (ex : x = cS l) :
    m2 (fEq neg) (mMeth 5 "sign" 0 F_PlainReader_sign [] (mVar i) maNil) (mC (.str x)) env h = .ok (.d (.bl (if neg then !decide ((z.drop p).take 1 = l) else decide ((z.drop p).take 1 = l)))) h := by
  refine (m2_of (y := .d (.str x)) (h2 := h) (s.met0 (m := "sign") e0 rfl (v_sign s)) rfl).trans ((eq_txt neg _ _ h).trans ?_)
  rw [ex, cS_dec]
def wordV (w : List Nat) : D := (t_WORDS.lookup (cS w)).getD (.str (cS w))
theorem look_w {w : List Nat} (h : Wd w) : t_WORDS.lookup (cS w) = none := by
  have e1 : ((cS w : PySem.Str) == ("yes" : PySem.Str)) = false := beq_eq_false_iff_ne.mpr fun e => h.ny (cS_inj (e.trans s_yes))
  have e2 : ((cS w : PySem.Str) == ("no" : PySem.Str)) = false := beq_eq_false_iff_ne.mpr fun e => h.nn (cS_inj (e.trans s_no))
  have e3 : ((cS w : PySem.Str) == ("none" : PySem.Str)) = false := beq_eq_false_iff_ne.mpr fun e => h.nz (cS_inj (e.trans s_none))
  show ([("yes", (.bl true)), ("no", (.bl false)), ("none", .non)] : List (PySem.Str × D)).lookup (cS w) = none
  rw [List.lookup_cons, e1]
  dsimp only
  rw [List.lookup_cons, e2]
  dsimp only
  rw [List.lookup_cons, e3]
  rfl
theorem wordV_w {w : List Nat} (h : Wd w) : wordV w = .str (cS w) := by
  unfold wordV
  rw [look_w h]
  rfl
theorem wordV_yes : wordV cYes = .bl true := by
  unfold wordV
  rw [show t_WORDS.lookup (cS cYes) = some (.bl true) from by rw [← s_yes]; rfl]
  rfl
theorem wordV_no : wordV cNo = .bl false := by
  unfold wordV
  rw [show t_WORDS.lookup (cS cNo) = some (.bl false) from by rw [← s_no]; kernel_rfl]
  rfl
theorem wordV_none : wordV cNone = .non := by
  unfold wordV
  rw [show t_WORDS.lookup (cS cNone) = some .non from by rw [← s_none]; kernel_rfl]
  rfl
theorem v_word {w r : List Nat} (s : St a b z p cs st h) (e : z.drop p = w ++ r) (hw : ∀ c ∈ w, c ∈ sgnL) (hl : w.length ≤ 12) (f : NoH sgnL r ∨ w.length = 12) :
    ∃ h', F_PlainReader_read_word [.ref a] h = .ok (wordV w) h' ∧ St a b z (p + w.length) cs st h' := by
  obtain ⟨h', e1, s1⟩ := v_signs (most := 12) in_sgnA s e hw hl f (by decide)
  refine ⟨h', ?_, s1⟩
  refine (fnOf_eq 2 1 _ _ _ rfl).trans (congrArg RS.fin (a₂ := .ret (wordV w) h') ?_)
  unfold m_PlainReader_read_word
  have e0 : mVar 0 (mkEnv 2 [.ref a]) h = .ok (.d (.ref a)) h := rfl
  refine Eq.trans (seq_nx (env1 := [some (.d (.ref a)), some (.d (.str (cS w)))]) (h1 := h') (set_d (d := .str (cS w)) (s.met2 (m := "read_signs") e0 rfl (x := mC d_SIGNS) (y := mC d_MOST_SIGNS) rfl rfl e1))) ?_
  refine ret_of ?_
  unfold mIf
  have e2 : asB (mTIn false t_WORDS (mVar 1)) [some (.d (.ref a)), some (.d (.str (cS w)))] h' = .ok (t_WORDS.lookup (cS w)).isSome h' := rfl
  rw [e2]
  unfold wordV
  cases hk : t_WORDS.lookup (cS w) with
  | none => rfl
  | some d =>
    show (match t_WORDS.lookup (cS w) with
      | some d => R.ok (Vl.d d) h'
      | none => .stuck) = _
    rw [hk]
    rfl
def itT : MS := (mSeq (mIfS (asB (m2 (fEq false) (mMeth 5 "sign" 0 F_PlainReader_sign [] (mVar 0) maNil) (mC (.str "0")))) (mSeq (mAugFldC g0 0 "place" (mC (.int 1))) (mRet (mC (.int 0)))) mSkip) (mSeq (mSet 2 (mA1 fIntB (maCons (mMeth 5 "read_signs" 2 F_PlainReader_read_signs [] (mVar 0) (maCons (mC d_DIGITS) (maCons (mC d_MOST_PLAIN_DIGITS) maNil))) maNil))) (mRet (mIf (asB (mVar 1)) (m1 fNeg (mVar 2)) (mVar 2)))))
def itN2 : MS := (mSeq (mIfS (tNotM (asB (mMeth 5 "is_in" 1 F_PlainReader_is_in [] (mVar 0) (maCons (mC d_DIGITS) maNil)))) (mRet (mC (.str ""))) mSkip) (mDrop (mMeth 5 "expect" 1 F_PlainReader_expect [] (mVar 0) (maCons (m2 (fEq true) (mMeth 5 "sign" 0 F_PlainReader_sign [] (mVar 0) maNil) (mC (.str "0"))) maNil))))
theorem it_parts : m_PlainReader_read_integer = mSeq (mSet 1 (m2 (fEq false) (mMeth 5 "sign" 0 F_PlainReader_sign [] (mVar 0) maNil) (mC (.str "-")))) (mSeq (mIfS (asB (mVar 1)) (mSeq (mAugFldC g0 0 "place" (mC (.int 1))) itN2) mSkip) itT) := rfl
structure Dw (w r : List Nat) : Prop where
  hd : ∃ c s, w = c :: s ∧ c ∈ digL ∧ c ≠ 48
  al : ∀ c ∈ w, c ∈ digL
  ln : w.length ≤ 4000
  nx : NoH digL r ∨ w.length = 4000
theorem v_itT {w r : List Nat} (nb : Bool) (s : St a b z p cs st h) (e : z.drop p = w ++ r) (d : Dw w r) :
    ∃ h', itT [some (.d (.ref a)), some (.d (.bl nb)), none] h = .ret (.int (if nb then -((PySem.NumText.digitsVal w : Nat) : Int) else ((PySem.NumText.digitsVal w : Nat) : Int))) h' ∧ St a b z (p + w.length) cs st h' := by
  obtain ⟨c, r0, ed, hcd, hc⟩ := d.hd
  obtain ⟨h', e1, s1⟩ := v_signs (most := 4000) in_digA s e d.al d.ln d.nx (by decide)
  refine ⟨h', ?_, s1⟩
  have e0 : mVar 0 [some (.d (.ref a)), some (.d (.bl nb)), none] h = .ok (.d (.ref a)) h := rfl
  have eq0 := v_eqs false s e0 "0" [48] s_0
  have tk : (z.drop p).take 1 = [c] := by rw [e, ed]; rfl
  rw [tk, decide_eq_false (by simpa using hc)] at eq0
  unfold itT
  refine Eq.trans (seq_nx (if_skip eq0)) ?_
  have e2 : mA1 fIntB (maCons (mMeth 5 "read_signs" 2 F_PlainReader_read_signs [] (mVar 0) (maCons (mC d_DIGITS) (maCons (mC d_MOST_PLAIN_DIGITS) maNil))) maNil) [some (.d (.ref a)), some (.d (.bl nb)), none] h = .ok (.d (.int (PySem.NumText.digitsVal w : Nat))) h' :=
    (a1_of (s.met2 (m := "read_signs") e0 rfl (x := mC d_DIGITS) (y := mC d_MOST_PLAIN_DIGITS) rfl rfl e1)).trans (int_digs d.al (by rw [ed]; exact fun q => by cases q) (Nat.le_trans d.ln (by decide)) h')
  refine Eq.trans (seq_nx (env1 := [some (.d (.ref a)), some (.d (.bl nb)), some (.d (.int (PySem.NumText.digitsVal w : Nat)))]) (set_d e2)) ?_
  cases nb <;> rfl
theorem it_start (s : St a b z p cs st h) (bb : Bool) (hb : decide ((z.drop p).take 1 = [45]) = bb) (out : RS) (ho : (mSeq (mIfS (asB (mVar 1)) (mSeq (mAugFldC g0 0 "place" (mC (.int 1))) itN2) mSkip) itT) [some (.d (.ref a)), some (.d (.bl bb)), none] h = out) : F_PlainReader_read_integer [.ref a] h = out.fin := by
  have e0 : mVar 0 (mkEnv 3 [.ref a]) h = .ok (.d (.ref a)) h := rfl
  have em := v_eqm false s e0 "-" [45] s_min
  refine (fnOf_eq 3 1 _ _ _ rfl).trans (congrArg RS.fin ?_)
  rw [it_parts]
  refine Eq.trans (seq_nx (env1 := [some (.d (.ref a)), some (.d (.bl bb)), none]) (h1 := h) (set_d (em.trans ?_))) ho
  rw [hb]
  rfl
theorem v_intP {w r : List Nat} (s : St a b z p cs st h) (e : z.drop p = w ++ r) (d : Dw w r) :
    ∃ h', F_PlainReader_read_integer [.ref a] h = .ok (.int (PySem.NumText.digitsVal w : Nat)) h' ∧ St a b z (p + w.length) cs st h' := by
  obtain ⟨h', e2, s2⟩ := v_itT (nb := false) s e d
  obtain ⟨c, r0, ed, hcd, hc⟩ := d.hd
  refine ⟨h', it_start s false ?_ (.ret (.int (PySem.NumText.digitsVal w : Nat)) h') ?_, s2⟩
  · rw [e, ed]
    refine decide_eq_false fun q => ?_
    have q : c = 45 := by simpa using q
    have := dig_rng' c hcd
    omega
  · exact (seq_nx (env1 := [some (.d (.ref a)), some (.d (.bl false)), none]) (h1 := h) (if_skip (asB_of rfl))).trans e2
theorem v_int0 {r : List Nat} (s : St a b z p cs st h) (e : z.drop p = 48 :: r) :
    ∃ h', F_PlainReader_read_integer [.ref a] h = .ok (.int 0) h' ∧ St a b z (p + 1) cs st h' := by
  refine ⟨_, it_start s false (by rw [e]; rfl) (.ret (.int 0) (h.set a (insC z (p + 1) b))) ?_, s.go (p + 1)⟩
  refine Eq.trans (seq_nx (env1 := [some (.d (.ref a)), some (.d (.bl false)), none]) (h1 := h) (if_skip (asB_of rfl))) ?_
  have e02 : mVar 0 [some (.d (.ref a)), some (.d (.bl false)), none] h = .ok (.d (.ref a)) h := rfl
  have eq0 := v_eqs false s e02 "0" [48] s_0
  rw [e] at eq0
  refine seq_ret ?_
  refine Eq.trans (if_t (eq0.trans rfl)) ?_
  exact (seq_nx (s.inc rfl)).trans rfl
theorem if1 (x : RS) (env1 : Vi.Env) (h1 : Hc) (q : (mSeq (mAugFldC g0 0 "place" (mC (.int 1))) itN2) [some (.d (.ref a)), some (.d (.bl true)), none] h = x) : mIfS (asB (mVar 1)) (mSeq (mAugFldC g0 0 "place" (mC (.int 1))) itN2) mSkip [some (.d (.ref a)), some (.d (.bl true)), none] h = x := (if_t (h1 := h) (asB_of (b := true) rfl)).trans q
theorem v_intE {r : List Nat} (s : St a b z p cs st h) (e : z.drop p = 45 :: r) (f : NoH digL r) :
    ∃ h', F_PlainReader_read_integer [.ref a] h = .ok (.str (cS [])) h' ∧ St a b z (p + 1) cs st h' := by
  have s1 := s.go (p + 1)
  have er : z.drop (p + 1) = r := dr_add (w := [45]) e
  have e01 : mVar 0 [some (.d (.ref a)), some (.d (.bl true)), none] (h.set a (insC z (p + 1) b)) = .ok (.d (.ref a)) (h.set a (insC z (p + 1) b)) := rfl
  have isd := asB_of (s1.met1 (m := "is_in") e01 rfl (x := mC d_DIGITS) (h1 := h.set a (insC z (p + 1) b)) rfl (v_isin in_digA s1))
  refine ⟨_, it_start s true (by rw [e]; rfl) (.ret (.str (cS [])) (h.set a (insC z (p + 1) b))) ?_, s1⟩
  refine seq_ret (if1 _ [] h ?_)
  refine (seq_nx (s.inc rfl)).trans ?_
  rw [er, hdIn_no f] at isd
  refine seq_ret ((if_t (not_b isd)).trans ?_)
  rw [s_e]
  rfl
theorem v_intN {w r : List Nat} (s : St a b z p cs st h) (e : z.drop p = 45 :: (w ++ r)) (d : Dw w r) :
    ∃ h', F_PlainReader_read_integer [.ref a] h = .ok (.int (-((PySem.NumText.digitsVal w : Nat) : Int))) h' ∧ St a b z (p + 1 + w.length) cs st h' := by
  have s1 := s.go (p + 1)
  have er : z.drop (p + 1) = w ++ r := dr_add (w := [45]) e
  obtain ⟨h', e2, s2⟩ := v_itT (nb := true) s1 er d
  obtain ⟨c, r0, ed, hcd, hc⟩ := d.hd
  have e01 : mVar 0 [some (.d (.ref a)), some (.d (.bl true)), none] (h.set a (insC z (p + 1) b)) = .ok (.d (.ref a)) (h.set a (insC z (p + 1) b)) := rfl
  have isd := asB_of (s1.met1 (m := "is_in") e01 rfl (x := mC d_DIGITS) (h1 := h.set a (insC z (p + 1) b)) rfl (v_isin in_digA s1))
  refine ⟨h', it_start s true (by rw [e]; rfl) (.ret (.int (-((PySem.NumText.digitsVal w : Nat) : Int))) h') ?_, s2⟩
  refine Eq.trans (seq_nx (env1 := [some (.d (.ref a)), some (.d (.bl true)), none]) (h1 := h.set a (insC z (p + 1) b)) (if1 _ [] h ?_)) e2
  refine (seq_nx (s.inc rfl)).trans ?_
  rw [er, ed, List.cons_append, hdIn_yes hcd] at isd
  refine Eq.trans (seq_nx (if_skip (not_b isd))) ?_
  have eq0 := v_eqm true s1 e01 "0" [48] s_0
  rw [er, ed] at eq0
  have tk : decide (((c :: r0 ++ r).take 1) = [48]) = false := decide_eq_false (by simpa using hc)
  rw [tk] at eq0
  unfold mDrop
  rw [s1.met1 (m := "expect") e01 rfl eq0 (v_expect s1)]
  rfl
theorem v_intX {r : List Nat} (s : St a b z p cs st h) (e : z.drop p = 45 :: 48 :: r) :
    ∃ h', F_PlainReader_read_integer [.ref a] h = .exc (bad (p + 1)) h' := by
  have s1 := s.go (p + 1)
  have er : z.drop (p + 1) = 48 :: r := dr_add (w := [45]) e
  have e01 : mVar 0 [some (.d (.ref a)), some (.d (.bl true)), none] (h.set a (insC z (p + 1) b)) = .ok (.d (.ref a)) (h.set a (insC z (p + 1) b)) := rfl
  have isd := asB_of (s1.met1 (m := "is_in") e01 rfl (x := mC d_DIGITS) (h1 := h.set a (insC z (p + 1) b)) rfl (v_isin in_digA s1))
  refine ⟨_, it_start s true (by rw [e]; rfl) (.exc [some (.d (.ref a)), some (.d (.bl true)), none] (bad (p + 1)) (h.set a (insC z (p + 1) b))) ?_⟩
  refine seq_exc (if1 _ [] h ?_)
  refine (seq_nx (s.inc rfl)).trans ?_
  rw [er, hdIn_yes (by decide +kernel)] at isd
  refine Eq.trans (seq_nx (if_skip (not_b isd))) ?_
  have eq0 := v_eqm true s1 e01 "0" [48] s_0
  rw [er] at eq0
  exact drop_ex (s1.met1X (m := "expect") e01 rfl (eq0.trans rfl) (v_expF s1))
end
end G75
namespace G75
open PySem L2 Vi
theorem atI_last {α : Type} (xs : List α) (x : α) : atI (xs ++ [x]) (-1) = some x := by
  unfold atI ixN
  have hl : (xs ++ [x]).length = xs.length + 1 := by rw [List.length_append, List.length_singleton]
  rw [if_neg (by omega), if_pos (by rw [hl]; omega)]
  show (xs ++ [x])[(((xs ++ [x]).length : Int) + -1).toNat]? = _
  rw [hl, show (((xs.length + 1 : Nat) : Int) + -1).toNat = xs.length by omega, List.getElem?_append_right (Nat.le_refl _), Nat.sub_self]
  rfl
section
variable {a b c : Nat} {z : List Nat} {cs : List Nat} {st : List (List D)} {top : List D} {p : Nat} {h : Hc} {env : Vi.Env} {i : Nat}
theorem lst_ref {h : Hc} {n : Nat} {xs : List D} (e : h[n]? = some (.lst xs)) : lst? h (.d (.ref n)) = some xs := by
  show (match h[n]?.map Cell.bare with
    | some (.lst xs) => some xs
    | _ => none) = _
  rw [e]
  rfl
theorem St.last (s : St a b z p (c :: cs) (top :: st) h) (e0 : mVar i env h = .ok (.d (.ref a)) h) : m2 fIx (m1 (fFld g0 "held") (mVar i)) (m1 fNeg (mC (.int 1))) env h = .ok (.d (.ref c)) h := by
  refine (m2_of (y := .d (.int (-1))) (h2 := h) (s.hld e0) rfl).trans ?_
  have e := s.out
  rw [List.reverse_cons, List.map_append] at e
  rw [fIx_ref b (-1) h _ e, show ([c].map D.ref) = [D.ref c] from rfl, atI_last]
theorem St.app1 (s : St a b z p (c :: cs) (top :: st) h) (e0 : mVar i env h = .ok (.d (.ref a)) h) {j : Nat} {d : D} (e1 : ∀ h, mVar j env h = .ok (.d d) h) (hl : top.length < 100000) :
    mDrop (mMetM lmAppend (m2 fIx (m1 (fFld g0 "held") (mVar i)) (m1 fNeg (mC (.int 1)))) (maCons (mVar j) maNil)) env h = .nx env (h.set c (Cell.lst (top ++ [d]))) := by
  unfold mDrop mMetM
  rw [s.last e0, R.bind_ok]
  have hc := s.frs.1
  have e2 : isLc h (.d (.ref c)) = some c := by
    show (match h[c]? with
      | some (.lst _) => some c
      | _ => none) = _
    rw [hc]
  rw [e2]
  dsimp only
  rw [ma_cons (e1 h) ma_nil, R.bind_ok]
  have e3 : fMet lmAppend c [.d d] h = .ok (.d .non) (h.set c (Cell.lst (top ++ [d]))) := by
    unfold fMet
    rw [show datas [Vl.d d] = some [d] from rfl, hc]
    dsimp only
    rw [show lmAppend top [d] = some (top ++ [d], D.non) from if_pos hl]
  rw [e3]
  rfl
theorem St.app0 (s : St a b z p cs st h) (e0 : mVar i env h = .ok (.d (.ref a)) h) (hl : cs.length < 100000) :
    mDrop (mMetM lmAppend (m1 (fFld g0 "held") (mVar i)) (maCons (mA1 fLstC maNil) maNil)) env h = .nx env ((h ++ [Cell.lst []]).set b (Cell.lst (cs.reverse.map D.ref ++ [D.ref h.length]))) := by
  unfold mDrop mMetM
  rw [s.hld e0, R.bind_ok]
  have hc := s.out
  have e2 : isLc h (.d (.ref b)) = some b := by
    show (match h[b]? with
      | some (.lst _) => some b
      | _ => none) = _
    rw [hc]
  rw [e2]
  dsimp only
  rw [ma_cons (d := .d (.ref h.length)) (h1 := h ++ [Cell.lst []]) rfl ma_nil, R.bind_ok]
  have e3 : fMet lmAppend b [.d (.ref h.length)] (h ++ [Cell.lst []]) = .ok (.d .non) ((h ++ [Cell.lst []]).set b (Cell.lst (cs.reverse.map D.ref ++ [D.ref h.length]))) := by
    unfold fMet
    rw [show datas [Vl.d (D.ref h.length)] = some [D.ref h.length] from rfl, List.getElem?_append_left (get_lt hc), hc]
    dsimp only
    rw [show lmAppend (cs.reverse.map D.ref) [D.ref h.length] = some (cs.reverse.map D.ref ++ [D.ref h.length], D.non) from if_pos (by rw [List.length_map, List.length_reverse]; exact hl)]
  rw [e3]
  rfl
theorem St.pop1 (s : St a b z p (c :: cs) (top :: st) h) (e0 : mVar i env h = .ok (.d (.ref a)) h) : mA1 fTuple (maCons (mMetM lmPop (m1 (fFld g0 "held") (mVar i)) maNil) maNil) env h = .ok (.d (.tup top)) (h.set b (Cell.lst (cs.reverse.map D.ref))) := by
  have hc := s.out
  have e1 : mMetM lmPop (m1 (fFld g0 "held") (mVar i)) maNil env h = .ok (.d (.ref c)) (h.set b (Cell.lst (cs.reverse.map D.ref))) := by
    unfold mMetM
    rw [s.hld e0, R.bind_ok]
    have e2 : isLc h (.d (.ref b)) = some b := by
      show (match h[b]? with
        | some (.lst _) => some b
        | _ => none) = _
      rw [hc]
    rw [e2]
    dsimp only
    rw [ma_nil, R.bind_ok]
    unfold fMet
    rw [show datas [] = some [] from rfl, hc]
    have e3 : lmPop ((c :: cs).reverse.map D.ref) [] = some (cs.reverse.map D.ref, D.ref c) := by
      rw [List.reverse_cons, List.map_append]
      show (((cs.reverse.map D.ref ++ [D.ref c])[(cs.reverse.map D.ref ++ [D.ref c]).length - 1]?).map fun d => ((cs.reverse.map D.ref ++ [D.ref c]).dropLast, d)) = _
      rw [List.length_append, List.length_singleton, Nat.add_sub_cancel, List.getElem?_append_right (Nat.le_refl _), Nat.sub_self, List.dropLast_concat]
      rfl
    dsimp only
    rw [e3]
  refine (a1_of e1).trans ?_
  have s1 : (h.set b (Cell.lst (cs.reverse.map D.ref)))[c]? = some (.lst top) := by
    rw [List.getElem?_set_ne (fun e : b = c => s.nb (e ▸ List.mem_cons_self ..))]
    exact s.frs.1
  show (match lst? (h.set b (Cell.lst (cs.reverse.map D.ref))) (.d (.ref c)) with
    | some ys => R.ok (Vl.d (.tup ys)) _
    | none => _) = _
  rw [lst_ref s1]
theorem St.count (s : St a b z p cs st h) (e0 : mVar i env h = .ok (.d (.ref a)) h) : mA1 fLen (maCons (m1 (fFld g0 "held") (mVar i)) maNil) env h = .ok (.d (.int (cs.length : Nat))) h := by
  refine (a1_of (s.hld e0)).trans ?_
  show (match lst? h (.d (.ref b)) with
    | some ys => R.ok (Vl.d (.int ys.length)) h
    | none => _) = _
  rw [lst_ref s.out]
  show R.ok (Vl.d (.int ((cs.reverse.map D.ref).length : Nat))) h = _
  rw [List.length_map, List.length_reverse]
end
inductive K where
  | item | first | word (n : Nat) | int (n : Nat) | minus | whole
deriving DecidableEq
abbrev d9L : List Nat := (Str.ofString "123456789").cps.toList
theorem d9_dig : ∀ c ∈ d9L, c ∈ digL ∧ c ≠ 48 := by decide +kernel
theorem dig_d9 : ∀ c ∈ digL, c ≠ 48 → c ∈ d9L := by decide +kernel
def stB (lv c : Nat) : Option (K × Nat) := if 0 < lv ∧ c = 32 then some (.item, lv) else if 0 < lv ∧ c = 41 then some (.whole, lv - 1) else none
def stI (lv c : Nat) : Option (K × Nat) := if c = 40 ∧ lv < 60 then some (.first, lv + 1) else if c ∈ letL then some (.word 1, lv) else if c ∈ d9L then some (.int 1, lv) else if c = 45 then some (.minus, lv) else if c = 48 then some (.whole, lv) else none
def stp : K → Nat → Nat → Option (K × Nat)
  | .item, lv, c => stI lv c
  | .first, lv, c => if c = 41 then some (.whole, lv - 1) else stI lv c
  | .word n, lv, c => if n < 12 ∧ c ∈ sgnL then some (.word (n + 1), lv) else stB lv c
  | .int n, lv, c => if n < 4000 ∧ c ∈ digL then some (.int (n + 1), lv) else stB lv c
  | .minus, lv, c => if c ∈ d9L then some (.int 1, lv) else stB lv c
  | .whole, lv, c => stB lv c
def open_ : K → Bool
  | .item => true
  | .first => true
  | _ => false
def out : K → Nat → List Nat → Nat → Option Nat
  | k, lv, [], p => if 0 < lv ∨ open_ k = true then some p else none
  | k, lv, c :: r, p => match stp k lv c with
    | none => some p
    | some (k', lv') => out k' lv' r (p + 1)
theorem out_c {k k' : K} {lv lv' c : Nat} {r : List Nat} {p : Nat} (e : stp k lv c = some (k', lv')) : out k lv (c :: r) p = out k' lv' r (p + 1) := by
  show (match stp k lv c with
    | none => some p
    | some (k', lv') => out k' lv' r (p + 1)) = _
  rw [e]
theorem out_n {k : K} {lv c : Nat} {r : List Nat} {p : Nat} (e : stp k lv c = none) : out k lv (c :: r) p = some p := by
  show (match stp k lv c with
    | none => some p
    | some (k', lv') => out k' lv' r (p + 1)) = _
  rw [e]
theorem out_eq {k k' : K} {lv : Nat} {t : List Nat} {p : Nat} (e : ∀ c r, t = c :: r → stp k lv c = stp k' lv c) (ho : open_ k = open_ k') : out k lv t p = out k' lv t p := by
  cases t with
  | nil =>
    show (if 0 < lv ∨ open_ k = true then some p else none) = (if 0 < lv ∨ open_ k' = true then some p else none)
    rw [ho]
  | cons c r =>
    show (match stp k lv c with
    | none => some p
    | some (k', lv') => out k' lv' r (p + 1)) = (match stp k' lv c with
    | none => some p
    | some (k', lv') => out k' lv' r (p + 1))
    rw [e c r rfl]
theorem out_word {lv : Nat} : ∀ (w r : List Nat) (n p : Nat), (∀ c ∈ w, c ∈ sgnL) → n + w.length ≤ 12 → (NoH sgnL r ∨ n + w.length = 12) → out (.word n) lv (w ++ r) p = out .whole lv r (p + w.length)
  | [], r, n, p, _, _, h => out_eq (fun c s e => by
    show (if n < 12 ∧ c ∈ sgnL then some (K.word (n + 1), lv) else stB lv c) = stB lv c
    rw [if_neg]
    rintro ⟨h1, h2⟩
    rcases h with h | h
    · exact h c s e h2
    · have : n + 0 = 12 := h
      omega) rfl
  | c :: w, r, n, p, hw, hl, h => by
    rw [List.length_cons] at hl h
    rw [List.cons_append, out_c (show stp (.word n) lv c = some (.word (n + 1), lv) from if_pos ⟨by omega, hw c (List.mem_cons_self ..)⟩), out_word w r (n + 1) (p + 1) (fun x hx => hw x (List.mem_cons_of_mem _ hx)) (by omega) (by rcases h with h | h; exact .inl h; exact .inr (by omega)), List.length_cons, show p + 1 + w.length = p + (w.length + 1) by omega]
theorem out_int {lv : Nat} : ∀ (w r : List Nat) (n p : Nat), (∀ c ∈ w, c ∈ digL) → n + w.length ≤ 4000 → (NoH digL r ∨ n + w.length = 4000) → out (.int n) lv (w ++ r) p = out .whole lv r (p + w.length)
  | [], r, n, p, _, _, h => out_eq (fun c s e => by
    show (if n < 4000 ∧ c ∈ digL then some (K.int (n + 1), lv) else stB lv c) = stB lv c
    rw [if_neg]
    rintro ⟨h1, h2⟩
    rcases h with h | h
    · exact h c s e h2
    · have : n + 0 = 4000 := h
      omega) rfl
  | c :: w, r, n, p, hw, hl, h => by
    rw [List.length_cons] at hl h
    rw [List.cons_append, out_c (show stp (.int n) lv c = some (.int (n + 1), lv) from if_pos ⟨by omega, hw c (List.mem_cons_self ..)⟩), out_int w r (n + 1) (p + 1) (fun x hx => hw x (List.mem_cons_of_mem _ hx)) (by omega) (by rcases h with h | h; exact .inl h; exact .inr (by omega)), List.length_cons, show p + 1 + w.length = p + (w.length + 1) by omega]
inductive Wv : List Nat → D → Prop
  | emp : Wv [45] (.str (cS []))
  | wrd (c : Nat) (s : List Nat) : c ∈ letL → (∀ x ∈ c :: s, x ∈ sgnL) → (c :: s).length ≤ 12 → Wv (c :: s) (wordV (c :: s))
  | zero : Wv [48] (.int 0)
  | pos (w : List Nat) : (∃ c s, w = c :: s ∧ c ∈ digL ∧ c ≠ 48) → (∀ x ∈ w, x ∈ digL) → w.length ≤ 4000 → Wv w (.int (PySem.NumText.digitsVal w : Nat))
  | neg (w : List Nat) : (∃ c s, w = c :: s ∧ c ∈ digL ∧ c ≠ 48) → (∀ x ∈ w, x ∈ digL) → w.length ≤ 4000 → Wv (45 :: w) (.int (-((PySem.NumText.digitsVal w : Nat) : Int)))
inductive Ac : List Nat → List (List D) → List (List D) → Prop
  | skip (st : List (List D)) : Ac [] st st
  | push (st : List (List D)) : Ac [40] st ([] :: st)
  | close (x y : List D) (st : List (List D)) : Ac [41] (x :: y :: st) ((y ++ [.tup x]) :: st)
  | add (w : List Nat) (d : D) (x : List D) (st : List (List D)) : Wv w d → Ac w (x :: st) ((x ++ [d]) :: st)
def spc (c : Nat) : Bool := decide (c = 32 ∨ c = 40 ∨ c = 41)
inductive Rd : List Nat → List (List D) → List Nat → List (List D) → Prop
  | nil (w : List Nat) (st st' : List (List D)) : Ac w st st' → Rd w st [] st'
  | sp (w : List Nat) (st st' : List (List D)) (r : List Nat) (f : List (List D)) : Ac w st st' → Rd [] st' r f → Rd w st (32 :: r) f
  | cl (w : List Nat) (st st' : List (List D)) (r : List Nat) (f : List (List D)) : Ac w st st' → Rd [41] st' r f → Rd w st (41 :: r) f
  | op (st : List (List D)) (r : List Nat) (f : List (List D)) : Rd [] ([] :: st) r f → Rd [] st (40 :: r) f
  | ch (w : List Nat) (st : List (List D)) (c : Nat) (r : List Nat) (f : List (List D)) : spc c = false → Rd (w ++ [c]) st r f → Rd w st (c :: r) f
theorem Rd.app {st f : List (List D)} {r : List Nat} : ∀ (w u : List Nat), (∀ c ∈ w, spc c = false) → Rd (u ++ w) st r f → Rd u st (w ++ r) f
  | [], u, _, h => by rwa [List.append_nil] at h
  | c :: w, u, hw, h => .ch u st c (w ++ r) f (hw c (List.mem_cons_self ..)) (Rd.app w (u ++ [c]) (fun x hx => hw x (List.mem_cons_of_mem _ hx)) (by rw [List.append_assoc]; exact h))
theorem sgn_spc : ∀ c ∈ sgnL, spc c = false := by decide +kernel
def sp : List Nat → Nat
  | [] => 0
  | c :: r => (if c = 32 ∨ c = 41 then 1 else 0) + sp r
theorem sp_app : ∀ (a b : List Nat), sp (a ++ b) = sp a + sp b
  | [], b => (Nat.zero_add _).symm
  | c :: a, b => by
    show (if c = 32 ∨ c = 41 then 1 else 0) + sp (a ++ b) = (if c = 32 ∨ c = 41 then 1 else 0) + sp a + sp b
    rw [sp_app a b]
    omega
theorem sp_le (a b : List Nat) : sp b ≤ sp (a ++ b) := by rw [sp_app]; omega
def Pa (d : D) : Prop := (∃ x, d = .str x) ∨ d = .non ∨ (∃ b, d = .bl b) ∨ ∃ z, d = .int z
def Pd : Nat → D → Prop
  | 0, d => Pa d
  | k + 1, d => Pa d ∨ ∃ ds, d = .tup ds ∧ ds.length < 100000 ∧ ∀ x ∈ ds, Pd k x
theorem Pd.at {d : D} (h : Pa d) : ∀ k, Pd k d
  | 0 => h
  | _ + 1 => .inl h
def Fok : List (List D) → Prop
  | [] => True
  | x :: st => (∀ d ∈ x, Pd (60 - st.length) d) ∧ Fok st
theorem wordV_pa (w : List Nat) : Pa (wordV w) := by
  unfold wordV
  show Pa ((([("yes", (.bl true)), ("no", (.bl false)), ("none", .non)] : List (PySem.Str × D)).lookup (cS w)).getD (.str (cS w)))
  simp only [List.lookup_cons, List.lookup_nil]
  split
  · exact .inr (.inr (.inl ⟨true, rfl⟩))
  · split
    · exact .inr (.inr (.inl ⟨false, rfl⟩))
    · split
      · exact .inr (.inl rfl)
      · exact .inl ⟨_, rfl⟩
theorem Wv.pa {w : List Nat} {d : D} (h : Wv w d) : Pa d := by
  cases h with
  | emp => exact .inl ⟨_, rfl⟩
  | wrd c s _ _ _ => exact wordV_pa _
  | zero => exact .inr (.inr (.inr ⟨_, rfl⟩))
  | pos w _ _ _ => exact .inr (.inr (.inr ⟨_, rfl⟩))
  | neg w _ _ _ => exact .inr (.inr (.inr ⟨_, rfl⟩))
theorem Fok.add {x : List D} {st : List (List D)} {d : D} (h : Fok (x :: st)) (p : Pd (60 - st.length) d) : Fok ((x ++ [d]) :: st) := ⟨fun y hy => by
  rcases List.mem_append.mp hy with hy | hy
  · exact h.1 y hy
  · rw [List.mem_singleton.mp hy]; exact p, h.2⟩
theorem Fok.close {x y : List D} {st : List (List D)} (h : Fok (x :: y :: st)) (hl : st.length + 1 ≤ 60) (hx : x.length < 100000) : Fok ((y ++ [.tup x]) :: st) := Fok.add h.2 (by
  rw [show 60 - st.length = (60 - (st.length + 1)) + 1 by omega]
  exact .inr ⟨x, rfl, hx, h.1⟩)
theorem Fok.push {st : List (List D)} (h : Fok st) : Fok ([] :: st) := ⟨fun _ m => (by cases m), h⟩
end G75
namespace G75
open PySem L2 Vi
def rvT (G : Fn) : MS := (mSeq (mDrop (mMeth 5 "expect" 1 F_PlainReader_expect [] (mVar 0) (maCons (m2 fLe (mA1 fLen (maCons (m1 (fFld g0 "held") (mVar 0)) maNil)) (mC d_MOST_TUPLES)) maNil))) (mSeq (mAugFldC g0 0 "place" (mC (.int 1))) (mSeq (mDrop (mMetM lmAppend (m1 (fFld g0 "held") (mVar 0)) (maCons (mA1 fLstC maNil) maNil))) (mSeq (mIfS (asB (m2 (fEq false) (mMeth 5 "sign" 0 F_PlainReader_sign [] (mVar 0) maNil) (mC (.str ")")))) mRetN mSkip) (mSeq (mDrop (mMeth 5 "read_value" 0 G [] (mVar 0) maNil)) mRetN)))))
def rvA : MS := (mSeq (mDrop (mMeth 5 "expect" 1 F_PlainReader_expect [] (mVar 0) (maCons (mOr (mMeth 5 "is_in" 1 F_PlainReader_is_in [] (mVar 0) (maCons (mC d_LETTERS) maNil)) (mOr (mMeth 5 "is_in" 1 F_PlainReader_is_in [] (mVar 0) (maCons (mC d_DIGITS) maNil)) (m2 (fEq false) (mMeth 5 "sign" 0 F_PlainReader_sign [] (mVar 0) maNil) (mC (.str "-"))))) maNil))) (mSeq (mSet 1 (mIf (asB (mMeth 5 "is_in" 1 F_PlainReader_is_in [] (mVar 0) (maCons (mC d_LETTERS) maNil))) (mMeth 5 "read_word" 0 F_PlainReader_read_word [] (mVar 0) maNil) (mMeth 5 "read_integer" 0 F_PlainReader_read_integer [] (mVar 0) maNil))) (mDrop (mMetM lmAppend (m2 fIx (m1 (fFld g0 "held") (mVar 0)) (m1 fNeg (mC (.int 1)))) (maCons (mVar 1) maNil)))))
theorem rv_parts (G : Fn) : m_PlainReader_read_value G = mSeq (mIfS (asB (m2 (fEq false) (mMeth 5 "sign" 0 F_PlainReader_sign [] (mVar 0) maNil) (mC (.str "(")))) (rvT G) mSkip) rvA := rfl
section
variable {a b c : Nat} {z : List Nat} {cs : List Nat} {st : List (List D)} {top : List D} {p : Nat} {h : Hc} {env : Vi.Env} {i : Nat}
theorem or_b {x y : ME} {u v : Bool} (e1 : x env h = .ok (.d (.bl u)) h) (e2 : y env h = .ok (.d (.bl v)) h) : mOr x y env h = .ok (.d (.bl (u || v))) h := by
  unfold mOr
  rw [e1, R.bind_ok]
  cases u with
  | false => exact e2
  | true => rfl
theorem drop_of {m : ME} {x : Vl} {h1 : Hc} (e : m env h = .ok x h1) : mDrop m env h = .nx env h1 := by
  unfold mDrop
  rw [e]
  rfl
def AtR (a b : Nat) (z : List Nat) (q : Nat) (cs : List Nat) (st : List (List D)) (h : Hc) (c1 : Nat) (d : D) (h' : Hc) : Prop :=
  St a b z q cs st h' ∧ ((c1 ∈ letL ∧ F_PlainReader_read_word [.ref a] h = .ok d h') ∨ (c1 ∉ letL ∧ (c1 ∈ digL ∨ c1 = 45) ∧ F_PlainReader_read_integer [.ref a] h = .ok d h'))
theorem v_ahead (s : St a b z p cs st h) : ∀ x, x = [some (.d (.ref a)), none] → mOr (mMeth 5 "is_in" 1 F_PlainReader_is_in [] (mVar 0) (maCons (mC d_LETTERS) maNil)) (mOr (mMeth 5 "is_in" 1 F_PlainReader_is_in [] (mVar 0) (maCons (mC d_DIGITS) maNil)) (m2 (fEq false) (mMeth 5 "sign" 0 F_PlainReader_sign [] (mVar 0) maNil) (mC (.str "-")))) x h = .ok (.d (.bl (hdIn letL (z.drop p) || (hdIn digL (z.drop p) || decide ((z.drop p).take 1 = [45]))))) h := by
  rintro x rfl
  have e0 : ∀ h, mVar 0 (mkEnv 2 [.ref a]) h = .ok (.d (.ref a)) h := fun _ => rfl
  have il := s.met1 (m := "is_in") (e0 h) rfl (x := mC d_LETTERS) (h1 := h) rfl (v_isin in_letA s)
  have id := s.met1 (m := "is_in") (e0 h) rfl (x := mC d_DIGITS) (h1 := h) rfl (v_isin in_digA s)
  have im := v_eqm false s (e0 h) "-" [45] s_min
  have ee := or_b il (or_b id im)
  simp only [Bool.false_eq_true, if_false] at ee
  exact ee
theorem rv_noop (G : Fn) (s : St a b z p cs st h) (hn : ∀ t, z.drop p ≠ 40 :: t) (o : RS) (ho : rvA (mkEnv 2 [.ref a]) h = o) : fnOf 2 1 (m_PlainReader_read_value G) [.ref a] h = o.fin := by
  have e0 : ∀ h, mVar 0 (mkEnv 2 [.ref a]) h = .ok (.d (.ref a)) h := fun _ => rfl
  refine (fnOf_eq 2 1 _ _ _ rfl).trans (congrArg RS.fin ?_)
  rw [rv_parts]
  have q1 := v_eqs false s (e0 h) "(" [40] s_op
  refine Eq.trans (seq_nx (env1 := mkEnv 2 [.ref a]) (h1 := h) (if_skip (q1.trans (show _ = R.ok false h from congrArg (fun b => R.ok b h) ?_)))) ho
  refine decide_eq_false fun q => ?_
  cases hz : z.drop p with
  | nil => rw [hz] at q; cases q
  | cons c r =>
    rw [hz] at q
    have q : c = 40 := by simpa using q
    exact hn r (by rw [hz, q])
theorem rv_at (G : Fn) {q c1 : Nat} {t : List Nat} {d : D} {h' : Hc} (s : St a b z p (c :: cs) (top :: st) h) (e : z.drop p = c1 :: t) (k : AtR a b z q (c :: cs) (top :: st) h c1 d h') (hl : top.length < 100000) :
    ∃ h', fnOf 2 1 (m_PlainReader_read_value G) [.ref a] h = .ok .non h' ∧ St a b z q (c :: cs) ((top ++ [d]) :: st) h' := by
  have e0 : ∀ h, mVar 0 (mkEnv 2 [.ref a]) h = .ok (.d (.ref a)) h := fun _ => rfl
  obtain ⟨s2, k⟩ := k
  have hc1 : c1 ≠ 40 := by
    rcases k with ⟨k, _⟩ | ⟨_, k | k, _⟩
    · exact (sgn_no c1 (let_sgn c1 k)).2.1
    · exact (sgn_no c1 (dig_sgn c1 k)).2.1
    · omega
  have il := s.met1 (m := "is_in") (e0 h) rfl (x := mC d_LETTERS) (h1 := h) rfl (v_isin in_letA s)
  have e2 : (mIf (asB (mMeth 5 "is_in" 1 F_PlainReader_is_in [] (mVar 0) (maCons (mC d_LETTERS) maNil))) (mMeth 5 "read_word" 0 F_PlainReader_read_word [] (mVar 0) maNil) (mMeth 5 "read_integer" 0 F_PlainReader_read_integer [] (mVar 0) maNil)) (mkEnv 2 [.ref a]) h = .ok (.d d) h' := by
    unfold mIf
    rcases k with ⟨k, er⟩ | ⟨k, _, er⟩
    · rw [asB_of il, show hdIn letL (z.drop p) = true by rw [e]; exact hdIn_yes k]
      exact s.met0 (m := "read_word") (e0 h) rfl er
    · rw [asB_of il, show hdIn letL (z.drop p) = false by rw [e]; exact decide_eq_false k]
      exact s.met0 (m := "read_integer") (e0 h) rfl er
  have hb : (hdIn letL (z.drop p) || (hdIn digL (z.drop p) || decide ((z.drop p).take 1 = [45]))) = true := by
    rw [e]
    rcases k with ⟨k, _⟩ | ⟨_, k | k, _⟩
    · rw [hdIn_yes k]; rfl
    · rw [hdIn_yes k, Bool.true_or, Bool.or_true]
    · rw [k]
      show (_ || (_ || true)) = true
      rw [Bool.or_true, Bool.or_true]
  refine ⟨_, rv_noop G s (fun t' et => by rw [e] at et; cases et; exact hc1 rfl) (.nx [some (.d (.ref a)), some (.d d)] (h'.set c (Cell.lst (top ++ [d])))) ?_, s2.add d⟩
  unfold rvA
  have ee := v_ahead s _ rfl
  rw [hb] at ee
  refine Eq.trans (seq_nx (env1 := mkEnv 2 [.ref a]) (h1 := h) (drop_of (s.met1 (m := "expect") (e0 h) rfl ee (v_expect s)))) ?_
  refine Eq.trans (seq_nx (env1 := [some (.d (.ref a)), some (.d d)]) (h1 := h') (set_d e2)) ?_
  exact s2.app1 (j := 1) rfl (fun _ => rfl) hl
theorem rv_X0 (G : Fn) (s : St a b z p cs st h) (hn : ∀ t, z.drop p ≠ 40 :: t) (hb : (hdIn letL (z.drop p) || (hdIn digL (z.drop p) || decide ((z.drop p).take 1 = [45]))) = false) : fnOf 2 1 (m_PlainReader_read_value G) [.ref a] h = .exc (bad p) h := by
  have e0 : ∀ h, mVar 0 (mkEnv 2 [.ref a]) h = .ok (.d (.ref a)) h := fun _ => rfl
  refine rv_noop G s hn (.exc (mkEnv 2 [.ref a]) (bad p) h) ?_
  unfold rvA
  have ee := v_ahead s _ rfl
  rw [hb] at ee
  exact seq_exc (drop_ex (s.met1X (m := "expect") (e0 h) rfl ee (v_expF s)))
theorem rv_X1 (G : Fn) {t : List Nat} (s : St a b z p cs st h) (e : z.drop p = 45 :: 48 :: t) : ∃ h', fnOf 2 1 (m_PlainReader_read_value G) [.ref a] h = .exc (bad (p + 1)) h' := by
  have e0 : ∀ h, mVar 0 (mkEnv 2 [.ref a]) h = .ok (.d (.ref a)) h := fun _ => rfl
  obtain ⟨h', er⟩ := v_intX s e
  refine ⟨h', rv_noop G s (fun t' et => by rw [e] at et; cases et) (.exc (mkEnv 2 [.ref a]) (bad (p + 1)) h') ?_⟩
  unfold rvA
  have ee := v_ahead s _ rfl
  have hb : (hdIn letL (z.drop p) || (hdIn digL (z.drop p) || decide ((z.drop p).take 1 = [45]))) = true := by
    rw [e]
    show (_ || (_ || true)) = true
    rw [Bool.or_true, Bool.or_true]
  rw [hb] at ee
  refine Eq.trans (seq_nx (env1 := mkEnv 2 [.ref a]) (h1 := h) (drop_of (s.met1 (m := "expect") (e0 h) rfl ee (v_expect s)))) ?_
  refine seq_exc (set_ex ?_)
  have il := s.met1 (m := "is_in") (e0 h) rfl (x := mC d_LETTERS) (h1 := h) rfl (v_isin in_letA s)
  unfold mIf
  rw [asB_of il, show hdIn letL (z.drop p) = false by rw [e]; exact decide_eq_false (show ¬ 45 ∈ letL by decide +kernel)]
  exact s.met0X (m := "read_integer") (e0 h) rfl er
theorem v_room (s : St a b z p cs st h) : m2 fLe (mA1 fLen (maCons (m1 (fFld g0 "held") (mVar 0)) maNil)) (mC d_MOST_TUPLES) (mkEnv 2 [.ref a]) h = .ok (.d (.bl (decide (cs.length ≤ 60)))) h := by
  refine (m2_of (y := .d (.int 60)) (h2 := h) (s.count rfl) rfl).trans ?_
  show R.ok (Vl.d (.bl (decide ((cs.length : Int) ≤ 60)))) h = _
  refine congrArg (fun b => R.ok (Vl.d (.bl b)) h) ?_
  rw [Bool.eq_iff_iff, decide_eq_true_iff, decide_eq_true_iff]
  omega
theorem rv_X2 (G : Fn) {t : List Nat} (s : St a b z p cs st h) (e : z.drop p = 40 :: t) (hc : ¬ cs.length ≤ 60) : fnOf 2 1 (m_PlainReader_read_value G) [.ref a] h = .exc (bad p) h := by
  have e0 : ∀ h, mVar 0 (mkEnv 2 [.ref a]) h = .ok (.d (.ref a)) h := fun _ => rfl
  refine (fnOf_eq 2 1 _ _ _ rfl).trans (congrArg RS.fin (a₂ := .exc (mkEnv 2 [.ref a]) (bad p) h) ?_)
  rw [rv_parts]
  have q1 := v_eqs false s (e0 h) "(" [40] s_op
  rw [e] at q1
  refine seq_exc ((if_t (q1.trans (show _ = R.ok true h from rfl))).trans ?_)
  unfold rvT
  have ec := v_room s
  rw [decide_eq_false hc] at ec
  exact seq_exc (drop_ex (s.met1X (m := "expect") (e0 h) rfl ec (v_expF s)))
theorem rv_open (G : Fn) {t : List Nat} (s : St a b z p (c :: cs) (top :: st) h) (e : z.drop p = 40 :: t) (hc : cs.length + 1 ≤ 60) :
    ∃ h1, St a b z (p + 1) (h.length :: c :: cs) ([] :: top :: st) h1 ∧ (∀ r, t = 41 :: r → fnOf 2 1 (m_PlainReader_read_value G) [.ref a] h = .ok .non h1) ∧ (∀ h2, (∀ r, t ≠ 41 :: r) → G [.ref a] h1 = .ok .non h2 → fnOf 2 1 (m_PlainReader_read_value G) [.ref a] h = .ok .non h2) ∧ (∀ y h2, (∀ r, t ≠ 41 :: r) → G [.ref a] h1 = .exc y h2 → fnOf 2 1 (m_PlainReader_read_value G) [.ref a] h = .exc y h2) := by
  have e0 : ∀ h, mVar 0 (mkEnv 2 [.ref a]) h = .ok (.d (.ref a)) h := fun _ => rfl
  have s1 := s.go (p + 1)
  have s2 := s1.push
  rw [show (h.set a (insC z (p + 1) b)).length = h.length from List.length_set ..] at s2
  refine ⟨_, s2, ?_⟩
  have et : z.drop (p + 1) = t := dr_add (w := [40]) e
  have q1 := v_eqs false s (e0 h) "(" [40] s_op
  rw [e] at q1
  have q1 := q1.trans (show _ = R.ok true h from rfl)
  have ec := v_room s
  rw [decide_eq_true (by rw [List.length_cons]; omega)] at ec
  have go : ∀ o : RS, (mSeq (mIfS (asB (m2 (fEq false) (mMeth 5 "sign" 0 F_PlainReader_sign [] (mVar 0) maNil) (mC (.str ")")))) mRetN mSkip) (mSeq (mDrop (mMeth 5 "read_value" 0 G [] (mVar 0) maNil)) mRetN)) (mkEnv 2 [.ref a]) ((h.set a (insC z (p + 1) b) ++ [Cell.lst []]).set b (Cell.lst ((c :: cs).reverse.map D.ref ++ [D.ref h.length]))) = o → rvT G (mkEnv 2 [.ref a]) h = o := by
    intro o ho
    unfold rvT
    refine Eq.trans (seq_nx (env1 := mkEnv 2 [.ref a]) (h1 := h) (drop_of (s.met1 (m := "expect") (e0 h) rfl ec (v_expect s)))) ?_
    refine Eq.trans (seq_nx (s.inc rfl)) ?_
    have ea := s1.app0 (i := 0) (env := mkEnv 2 [.ref a]) rfl (by rw [List.length_cons]; omega)
    rw [show (h.set a (insC z (p + 1) b)).length = h.length from List.length_set ..] at ea
    exact (seq_nx ea).trans ho
  have goR : ∀ hh : Hc, rvT G (mkEnv 2 [.ref a]) h = .ret .non hh → fnOf 2 1 (m_PlainReader_read_value G) [.ref a] h = .ok .non hh := by
    intro hh ho
    refine (fnOf_eq 2 1 _ _ _ rfl).trans (congrArg RS.fin (a₂ := .ret .non hh) ?_)
    rw [rv_parts]
    exact seq_ret ((if_t q1).trans ho)
  have goX : ∀ (env' : Vi.Env) (y : D) (hh : Hc), rvT G (mkEnv 2 [.ref a]) h = .exc env' y hh → fnOf 2 1 (m_PlainReader_read_value G) [.ref a] h = .exc y hh := by
    intro env' y hh ho
    refine (fnOf_eq 2 1 _ _ _ rfl).trans (congrArg RS.fin (a₂ := .exc env' y hh) ?_)
    rw [rv_parts]
    exact seq_exc ((if_t q1).trans ho)
  have q2 := v_eqs false s2 (e0 _) ")" [41] s_cl
  rw [et] at q2
  have tkn : (∀ r, t ≠ 41 :: r) → decide (t.take 1 = [41]) = false := fun hn => decide_eq_false fun q => by
    cases t with
    | nil => cases q
    | cons x r =>
      have q : x = 41 := by simpa using q
      exact hn r (by rw [q])
  refine ⟨fun r hr => ?_, fun h2 hn eg => ?_, fun y h2 hn eg => ?_⟩
  · refine goR _ (go _ ?_)
    rw [hr] at q2
    exact seq_ret ((if_t (q2.trans (show _ = R.ok true _ from rfl))).trans rfl)
  · refine goR h2 (go _ ?_)
    refine Eq.trans (seq_nx (if_skip (q2.trans (show _ = R.ok false _ from congrArg (fun b => R.ok b _) (tkn hn))))) ?_
    exact (seq_nx (drop_of (s2.met0 (m := "read_value") (e0 _) rfl eg))).trans rfl
  · refine goX (mkEnv 2 [.ref a]) y h2 (go _ ?_)
    refine Eq.trans (seq_nx (if_skip (q2.trans (show _ = R.ok false _ from congrArg (fun b => R.ok b _) (tkn hn))))) ?_
    exact seq_exc (drop_ex (s2.met0X (m := "read_value") (e0 _) rfl eg))
theorem v_close {c2 : Nat} {acc : List D} {r : List Nat} (s : St a b z p (c2 :: c :: cs) (acc :: top :: st) h) (e : z.drop p = 41 :: r) (hl : top.length < 100000) :
    ∃ h', F_PlainReader_close [.ref a] h = .ok .non h' ∧ St a b z (p + 1) (c :: cs) ((top ++ [.tup acc]) :: st) h' := by
  have e0 : mVar 0 (mkEnv 2 [.ref a]) h = .ok (.d (.ref a)) h := rfl
  have s1 := s.go (p + 1)
  have s2 := s1.drop
  refine ⟨_, (fnOf_eq 2 1 _ _ _ rfl).trans ?_, s2.add (.tup acc)⟩
  refine congrArg RS.fin (a₂ := .nx [some (.d (.ref a)), some (.d (.tup acc))] _) ?_
  unfold m_PlainReader_close
  have im := v_eqm false s e0 ")" [41] s_cl
  rw [e] at im
  have im := im.trans (show _ = R.ok (Vl.d (.bl true)) h from rfl)
  refine Eq.trans (seq_nx (env1 := mkEnv 2 [.ref a]) (h1 := h) (drop_of (s.met1 (m := "expect") e0 rfl im (v_expect s)))) ?_
  refine Eq.trans (seq_nx (s.inc rfl)) ?_
  refine Eq.trans (seq_nx (set_d (s1.pop1 rfl))) ?_
  exact s2.app1 (j := 1) rfl (fun _ => rfl) hl
def raC : MB := asB (m2 fGt (mA1 fLen (maCons (m1 (fFld g0 "held") (mVar 0)) maNil)) (mC (.int 1)))
def raB : MS := (mIfS (asB (m2 (fEq false) (mMeth 5 "sign" 0 F_PlainReader_sign [] (mVar 0) maNil) (mC (.str " ")))) (mSeq (mAugFldC g0 0 "place" (mC (.int 1))) (mDrop (mMeth 5 "read_value" 0 F_PlainReader_read_value [] (mVar 0) maNil))) (mDrop (mMeth 5 "close" 0 F_PlainReader_close [] (mVar 0) maNil)))
theorem ra_parts : m_PlainReader_read_all = mSeq (mDrop (mMeth 5 "read_value" 0 F_PlainReader_read_value [] (mVar 0) maNil)) (mSeq (mWhile 20000 raC raB) (mSeq (mDrop (mMeth 5 "expect" 1 F_PlainReader_expect [] (mVar 0) (maCons (m2 (fEq false) (mMeth 5 "sign" 0 F_PlainReader_sign [] (mVar 0) maNil) (mC (.str ""))) maNil))) (mRet (m2 fIx (m2 fIx (m1 (fFld g0 "held") (mVar 0)) (mC (.int 0))) (mC (.int 0)))))) := rfl
abbrev envR (a : Nat) : Vi.Env := [some (.d (.ref a))]
theorem ra_cond (s : St a b z p cs st h) : raC (envR a) h = .ok (decide (1 < cs.length)) h := by
  unfold raC
  refine asB_of ((m2_of (y := .d (.int 1)) (h2 := h) (s.count rfl) rfl).trans ?_)
  show R.ok (Vl.d (.bl (decide ((1 : Int) < (cs.length : Nat))))) h = _
  refine congrArg (fun b => R.ok (Vl.d (.bl b)) h) ?_
  rw [Bool.eq_iff_iff, decide_eq_true_iff, decide_eq_true_iff]
  omega
theorem ra_more {r : List Nat} (s : St a b z p cs st h) (hc : 1 < cs.length) (e : z.drop p = 32 :: r) : (∀ h1, F_PlainReader_read_value [.ref a] (h.set a (insC z (p + 1) b)) = .ok .non h1 → ∀ N, mWhile (N + 1) raC raB (envR a) h = mWhile N raC raB (envR a) h1) ∧ (∀ y h1, F_PlainReader_read_value [.ref a] (h.set a (insC z (p + 1) b)) = .exc y h1 → ∀ N, mWhile (N + 1) raC raB (envR a) h = .exc (envR a) y h1) := by
  have q := v_eqs false s (env := envR a) (i := 0) rfl " " [32] s_sp
  rw [e] at q
  have q := q.trans (show _ = R.ok true h from rfl)
  refine ⟨fun h1 ev N => ?_, fun y h1 ev N => ?_⟩
  · rw [mWhile_succ, ra_cond s, decide_eq_true hc]
    show (raB (envR a) h).again (mWhile N raC raB) = _
    have e1 : raB (envR a) h = .nx (envR a) h1 := by
      unfold raB
      refine Eq.trans (if_t q) ?_
      refine Eq.trans (seq_nx (s.inc rfl)) ?_
      exact drop_of ((s.go (p + 1)).met0 (m := "read_value") rfl rfl ev)
    rw [e1]
    rfl
  · rw [mWhile_succ, ra_cond s, decide_eq_true hc]
    show (raB (envR a) h).again (mWhile N raC raB) = _
    have e1 : raB (envR a) h = .exc (envR a) y h1 := by
      unfold raB
      refine Eq.trans (if_t q) ?_
      refine Eq.trans (seq_nx (s.inc rfl)) ?_
      exact drop_ex ((s.go (p + 1)).met0X (m := "read_value") rfl rfl ev)
    rw [e1]
    rfl
theorem v_closeX (s : St a b z p cs st h) (hn : ∀ r, z.drop p ≠ 41 :: r) : F_PlainReader_close [.ref a] h = .exc (bad p) h := by
  have e0 : mVar 0 (mkEnv 2 [.ref a]) h = .ok (.d (.ref a)) h := rfl
  refine (fnOf_eq 2 1 _ _ _ rfl).trans (congrArg RS.fin (a₂ := .exc (mkEnv 2 [.ref a]) (bad p) h) ?_)
  unfold m_PlainReader_close
  have im := v_eqm false s e0 ")" [41] s_cl
  have im := im.trans (show _ = R.ok (Vl.d (.bl false)) h from congrArg (fun b => R.ok (Vl.d (.bl b)) h) (decide_eq_false fun q => by
    cases hz : z.drop p with
    | nil => rw [hz] at q; cases q
    | cons x r =>
      rw [hz] at q
      have q : x = 41 := by simpa using q
      exact hn r (by rw [hz, q])))
  exact seq_exc (drop_ex (s.met1X (m := "expect") e0 rfl im (v_expF s)))
theorem ra_close (s : St a b z p cs st h) (hc : 1 < cs.length) (hn : ∀ r, z.drop p ≠ 32 :: r) : (∀ h1, F_PlainReader_close [.ref a] h = .ok .non h1 → ∀ N, mWhile (N + 1) raC raB (envR a) h = mWhile N raC raB (envR a) h1) ∧ (∀ y h1, F_PlainReader_close [.ref a] h = .exc y h1 → ∀ N, mWhile (N + 1) raC raB (envR a) h = .exc (envR a) y h1) := by
  have q := v_eqs false s (env := envR a) (i := 0) rfl " " [32] s_sp
  have q := q.trans (show _ = R.ok false h from congrArg (fun b => R.ok b h) (decide_eq_false fun q => by
    cases hz : z.drop p with
    | nil => rw [hz] at q; cases q
    | cons x r =>
      rw [hz] at q
      have q : x = 32 := by simpa using q
      exact hn r (by rw [hz, q])))
  refine ⟨fun h1 ev N => ?_, fun y h1 ev N => ?_⟩
  · rw [mWhile_succ, ra_cond s, decide_eq_true hc]
    show (raB (envR a) h).again (mWhile N raC raB) = _
    have e1 : raB (envR a) h = .nx (envR a) h1 := by
      unfold raB
      exact (if_f q).trans (drop_of (s.met0 (m := "close") rfl rfl ev))
    rw [e1]
    rfl
  · rw [mWhile_succ, ra_cond s, decide_eq_true hc]
    show (raB (envR a) h).again (mWhile N raC raB) = _
    have e1 : raB (envR a) h = .exc (envR a) y h1 := by
      unfold raB
      exact (if_f q).trans (drop_ex (s.met0X (m := "close") rfl rfl ev))
    rw [e1]
    rfl
end
end G75
namespace G75
open PySem L2 Vi
structure Post (a b : Nat) (z : List Nat) (p : Nat) (st : List (List D)) (k : K) (lv : Nat) (p' : Nat) (cs' : List Nat) (st' : List (List D)) (h' : Hc) : Prop where
  s : St a b z p' cs' st' h'
  ne : 1 ≤ cs'.length
  le : cs'.length ≤ 61
  fo : Fok st'
  sz : ∀ x ∈ st', x.length + sp (z.drop p') ≤ 20000
  nz : cs'.length = 1 → ∀ x ∈ st', x ≠ []
  ou : out k lv (z.drop p) p = out .whole (cs'.length - 1) (z.drop p') p'
  dn : sp (z.drop p') ≤ sp (z.drop p)
  ac : ∃ w st1, Ac w st1 st' ∧ ∀ f, Rd w st1 (z.drop p') f → Rd [] st (z.drop p) f
section
variable {a b : Nat} {z : List Nat}
theorem stI_none {lv c : Nat} (h1 : ¬ (c = 40 ∧ lv < 60)) (h2 : c ∉ letL) (h3 : c ∉ d9L) (h4 : c ≠ 45) (h5 : c ≠ 48) : stI lv c = none := by
  unfold stI
  rw [if_neg h1, if_neg h2, if_neg h3, if_neg h4, if_neg h5]
theorem stI_let {lv c : Nat} (h : c ∈ letL) : stI lv c = some (.word 1, lv) := by
  unfold stI
  rw [if_neg (fun q => (sgn_no c (let_sgn c h)).2.1 q.1), if_pos h]
theorem stI_d9 {lv c : Nat} (h : c ∈ digL) (h0 : c ≠ 48) : stI lv c = some (.int 1, lv) := by
  unfold stI
  rw [if_neg (fun q => (sgn_no c (dig_sgn c h)).2.1 q.1), if_neg (dig_let c h), if_pos (dig_d9 c h h0)]
theorem stI_min {lv : Nat} : stI lv 45 = some (.minus, lv) := by
  unfold stI
  rw [if_neg (by omega), if_neg (by decide +kernel), if_neg (by decide +kernel), if_pos rfl]
theorem stI_0 {lv : Nat} : stI lv 48 = some (.whole, lv) := by
  unfold stI
  rw [if_neg (by omega), if_neg (by decide +kernel), if_neg (by decide +kernel), if_neg (by decide), if_pos rfl]
theorem Wv.spc {l : List Nat} {d : D} (h : Wv l d) : ∀ c ∈ l, spc c = false := by
  cases h with
  | emp => decide
  | wrd c s _ h _ => exact fun x hx => sgn_spc x (h x hx)
  | zero => decide
  | pos w _ h _ => exact fun x hx => sgn_spc x (dig_sgn x (h x hx))
  | neg w _ h _ =>
    intro x hx
    rcases List.mem_cons.mp hx with rfl | hx
    · decide
    · exact sgn_spc x (dig_sgn x (h x hx))
theorem at_post (f : Nat) {p c : Nat} {cs : List Nat} {top : List D} {st : List (List D)} {h h' : Hc} {l r : List Nat} {d : D} {c1 : Nat} {t : List Nat} (s : St a b z p (c :: cs) (top :: st) h) (hl : cs.length ≤ 60) (fo : Fok (top :: st)) (sz : ∀ x ∈ top :: st, x.length + 1 + sp (z.drop p) ≤ 20000)
    (e : z.drop p = l ++ r) (ec : l ++ r = c1 :: t) (w : Wv l d) (k : AtR a b z (p + l.length) (c :: cs) (top :: st) h c1 d h') (ou : out .item cs.length (l ++ r) p = out .whole cs.length r (p + l.length)) :
    ∃ p' cs' st' h', R_PlainReader_read_value (f + 1) [.ref a] h = .ok .non h' ∧ Post a b z p (top :: st) .item cs.length p' cs' st' h' := by
  have er : z.drop (p + l.length) = r := dr_add e
  have stl := s.frs.len
  have ht := sz top (List.mem_cons_self ..)
  obtain ⟨h2, e2, s2⟩ := rv_at (R_PlainReader_read_value f) s (e.trans ec) k (by omega)
  have dn : sp r ≤ sp (z.drop p) := by rw [e]; exact sp_le l r
  refine ⟨_, _, _, h2, e2, ⟨s2, by rw [List.length_cons]; omega, by rw [List.length_cons]; omega, fo.add (Pd.at w.pa _), ?_, ?_, ?_, by rw [er]; exact dn, l, top :: st, .add l d top st w, ?_⟩⟩
  · rw [er]
    intro x hx
    rcases List.mem_cons.mp hx with rfl | hx
    · rw [List.length_append, List.length_singleton]; omega
    · have := sz x (List.mem_cons_of_mem _ hx); omega
  · intro h1 x hx
    have h1 : cs.length = 0 := by rw [List.length_cons] at h1; omega
    have : st = [] := by
      rw [List.length_cons, List.length_cons] at stl
      exact List.length_eq_zero_iff.mp (by omega)
    rw [this, List.mem_singleton] at hx
    rw [hx]
    exact fun q => by simp at q
  · rw [er, e, ou]
    rfl
  · rw [er, e]
    exact fun g hg => Rd.app l [] w.spc (by rw [List.nil_append]; exact hg)
theorem dw_of {c1 : Nat} {t : List Nat} (h : c1 ∈ digL) (h0 : c1 ≠ 48) : ∃ w r, c1 :: t = (c1 :: w) ++ r ∧ Dw (c1 :: w) r ∧ out (.int 1) = out (.int 1) := by
  obtain ⟨w, r, e1, e2, e3, e4⟩ := munch digL (c1 :: t) 4000
  cases w with
  | nil =>
    rcases e4 with e4 | e4
    · exact absurd h (e4 c1 t e1.symm)
    · exact absurd (show (0 : Nat) = 4000 from e4) (by decide)
  | cons x w =>
    have : c1 = x := by
      rw [List.cons_append] at e1
      exact (List.cons.inj e1).1
    subst this
    exact ⟨w, r, e1, ⟨⟨c1, w, rfl, h, h0⟩, e2, e3, e4⟩, rfl⟩
theorem rv_main : ∀ (f p c : Nat) (cs : List Nat) (top : List D) (st : List (List D)) (h : Hc), St a b z p (c :: cs) (top :: st) h → cs.length ≤ 60 → 61 ≤ f + cs.length → Fok (top :: st) → (∀ x ∈ top :: st, x.length + 1 + sp (z.drop p) ≤ 20000) →
    (∃ q h', R_PlainReader_read_value f [.ref a] h = .exc (bad q) h' ∧ out .item cs.length (z.drop p) p = some q) ∨ ∃ p' cs' st' h', R_PlainReader_read_value f [.ref a] h = .ok .non h' ∧ Post a b z p (top :: st) .item cs.length p' cs' st' h'
  | 0, p, c, cs, top, st, h, s, hl, hf, fo, sz => by omega
  | f + 1, p, c, cs, top, st, h, s, hl, hf, fo, sz => by
    have stl := s.frs.len
    rw [List.length_cons, List.length_cons] at stl
    have ht := sz top (List.mem_cons_self ..)
    cases hz : z.drop p with
    | nil =>
      exact .inl ⟨p, h, rv_X0 (R_PlainReader_read_value f) s (fun t q => by rw [hz] at q; cases q) (by rw [hz]; rfl), if_pos (.inr rfl)⟩
    | cons c1 t =>
      by_cases h40 : c1 = 40
      · subst h40
        by_cases hc : cs.length + 1 ≤ 60
        · have o1 : out .item cs.length (40 :: t) p = out .first (cs.length + 1) t (p + 1) := out_c (show stI cs.length 40 = _ from if_pos ⟨rfl, by omega⟩)
          obtain ⟨h1, s1, g1, g2, g3⟩ := rv_open (R_PlainReader_read_value f) s hz hc
          have et : z.drop (p + 1) = t := dr_add (w := [40]) hz
          have dn : sp t ≤ sp (z.drop p) := by rw [hz]; exact sp_le [40] t
          have sz1 : ∀ x ∈ [] :: top :: st, x.length + 1 + sp t ≤ 20000 := fun x hx => by
            rcases List.mem_cons.mp hx with rfl | hx
            · show 0 + 1 + sp t ≤ 20000; omega
            · have := sz x hx; omega
          by_cases h41 : ∃ r, t = 41 :: r
          · obtain ⟨r, rfl⟩ := h41
            refine .inr ⟨p + 1, _, _, h1, g1 r rfl, ⟨s1, by rw [List.length_cons]; omega, by rw [List.length_cons, List.length_cons]; omega, fo.push, ?_, fun q => by rw [List.length_cons, List.length_cons] at q; omega, ?_, by rw [et]; exact dn, [], _, .skip _, ?_⟩⟩
            · rw [et]
              intro x hx
              have := sz1 x hx
              omega
            · rw [et, hz, o1, out_c (show stp .first (cs.length + 1) 41 = some (.whole, cs.length) from by
                show (if (41 : Nat) = 41 then some (K.whole, cs.length + 1 - 1) else stI (cs.length + 1) 41) = _
                rw [if_pos rfl]
                rfl), List.length_cons, List.length_cons]
              exact (out_c (show stp .whole (cs.length + 1 + 1 - 1) 41 = some (.whole, cs.length) from by
                show stB _ _ = _
                unfold stB
                rw [if_neg (by omega), if_pos ⟨by omega, rfl⟩]
                rfl)).symm
            · rw [et, hz]
              exact fun g hg => .op _ _ _ hg
          · have hn : ∀ r, t ≠ 41 :: r := fun r q => h41 ⟨r, q⟩
            have o2 : out .first (cs.length + 1) t (p + 1) = out .item (cs.length + 1) t (p + 1) := out_eq (fun x r q => by
              show (if x = 41 then some (K.whole, cs.length + 1 - 1) else stI (cs.length + 1) x) = stI (cs.length + 1) x
              rw [if_neg]
              rintro rfl
              exact hn r q) rfl
            rcases rv_main f (p + 1) h.length (c :: cs) [] (top :: st) h1 s1 (by rw [List.length_cons]; omega) (by rw [List.length_cons]; omega) fo.push (by rw [et]; exact sz1) with ⟨q, h', e1, e2⟩ | ⟨p', cs', st', h', e1, P⟩
            · refine .inl ⟨q, h', g3 _ h' hn e1, ?_⟩
              rw [o1, o2, ← et]
              exact e2
            · refine .inr ⟨p', cs', st', h', g2 h' hn e1, ⟨P.s, P.ne, P.le, P.fo, P.sz, P.nz, ?_, ?_, ?_⟩⟩
              · rw [hz, o1, o2, ← P.ou, et]
                rfl
              · have := P.dn
                rw [et] at this
                omega
              · obtain ⟨w, st1, ha, hr⟩ := P.ac
                refine ⟨w, st1, ha, fun g hg => ?_⟩
                rw [hz]
                have := hr g hg
                rw [et] at this
                exact .op _ _ _ this
        · refine .inl ⟨p, h, rv_X2 (R_PlainReader_read_value f) s hz (by rw [List.length_cons]; omega), ?_⟩
          exact out_n (show stI cs.length 40 = none from stI_none (by omega) (by decide +kernel) (by decide +kernel) (by decide) (by decide))
      · have n40 : ∀ t', z.drop p ≠ 40 :: t' := fun t' q => by
          rw [hz] at q
          exact h40 (List.cons.inj q).1
        rw [← hz]
        by_cases hlt : c1 ∈ letL
        · obtain ⟨w, r, e1, e2, e3, e4⟩ := munch sgnL (c1 :: t) 12
          cases w with
          | nil =>
            rcases e4 with e4 | e4
            · exact absurd (let_sgn c1 hlt) (e4 c1 t e1.symm)
            · exact absurd (show (0 : Nat) = 12 from e4) (by decide)
          | cons x w =>
            have : c1 = x := (List.cons.inj e1).1
            subst this
            obtain ⟨h', er, s2⟩ := v_word s (hz.trans e1) e2 e3 e4
            have oo : out .item cs.length (c1 :: w ++ r) p = out .whole cs.length r (p + (c1 :: w).length) := by
              rw [List.cons_append, out_c (show stp .item cs.length c1 = _ from stI_let hlt), out_word w r 1 (p + 1) (fun x hx => e2 x (List.mem_cons_of_mem _ hx)) (by rw [List.length_cons] at e3; omega) (by rw [List.length_cons] at e4; rcases e4 with e4 | e4; exact .inl e4; exact .inr (by omega)), List.length_cons, show p + 1 + w.length = p + (w.length + 1) by omega]
            exact .inr (at_post f s hl fo sz (hz.trans e1) e1.symm (.wrd c1 w hlt e2 e3) ⟨s2, .inl ⟨hlt, er⟩⟩ oo)
        · by_cases hd : c1 ∈ digL
          · by_cases h48 : c1 = 48
            · subst h48
              obtain ⟨h', er, s2⟩ := v_int0 s hz
              exact .inr (at_post f (l := [48]) (r := t) s hl fo sz hz rfl .zero ⟨s2, .inr ⟨hlt, .inl hd, er⟩⟩ (out_c (show stp .item cs.length 48 = _ from stI_0)))
            · obtain ⟨w, r, e1, dw, _⟩ := dw_of (t := t) hd h48
              obtain ⟨h', er, s2⟩ := v_intP s (hz.trans e1) dw
              have oo : out .item cs.length (c1 :: w ++ r) p = out .whole cs.length r (p + (c1 :: w).length) := by
                have e3 := dw.ln
                have e4 := dw.nx
                rw [List.length_cons] at e3 e4
                rw [List.cons_append, out_c (show stp .item cs.length c1 = _ from stI_d9 hd h48), out_int w r 1 (p + 1) (fun x hx => dw.al x (List.mem_cons_of_mem _ hx)) (by omega) (by rcases e4 with e4 | e4; exact .inl e4; exact .inr (by omega)), List.length_cons, show p + 1 + w.length = p + (w.length + 1) by omega]
              exact .inr (at_post f s hl fo sz (hz.trans e1) e1.symm (.pos _ dw.hd dw.al dw.ln) ⟨s2, .inr ⟨hlt, .inl hd, er⟩⟩ oo)
          · by_cases h45 : c1 = 45
            · subst h45
              have o1 : out .item cs.length (45 :: t) p = out .minus cs.length t (p + 1) := out_c (show stp .item cs.length 45 = _ from stI_min)
              have mE : NoH digL t → (∃ q h', R_PlainReader_read_value (f + 1) [.ref a] h = .exc (bad q) h' ∧ out .item cs.length (z.drop p) p = some q) ∨ ∃ p' cs' st' h', R_PlainReader_read_value (f + 1) [.ref a] h = .ok .non h' ∧ Post a b z p (top :: st) .item cs.length p' cs' st' h' := fun hn => by
                obtain ⟨h', er, s2⟩ := v_intE s hz hn
                refine .inr (at_post f (l := [45]) (r := t) s hl fo sz hz rfl .emp ⟨s2, .inr ⟨hlt, .inr rfl, er⟩⟩ ?_)
                refine o1.trans (out_eq (fun x r q => ?_) rfl)
                show (if x ∈ d9L then some (K.int 1, cs.length) else stB cs.length x) = stB cs.length x
                rw [if_neg fun m => hn x r q (d9_dig x m).1]
              cases t with
              | nil => exact mE (fun x r q => by cases q)
              | cons x t =>
                by_cases hx : x ∈ digL
                · by_cases hx0 : x = 48
                  · subst hx0
                    obtain ⟨h', er⟩ := rv_X1 (R_PlainReader_read_value f) s hz
                    refine .inl ⟨p + 1, h', er, ?_⟩
                    rw [hz, o1]
                    refine out_n ?_
                    show (if (48 : Nat) ∈ d9L then some (K.int 1, cs.length) else stB cs.length 48) = none
                    rw [if_neg (by decide +kernel)]
                    unfold stB
                    rw [if_neg (by omega), if_neg (by omega)]
                  · obtain ⟨w, r, e1, dw, _⟩ := dw_of (t := t) hx hx0
                    have hz2 : z.drop p = 45 :: ((x :: w) ++ r) := hz.trans (congrArg (45 :: ·) e1)
                    obtain ⟨h', er, s2⟩ := v_intN s hz2 dw
                    rw [Nat.add_assoc, Nat.add_comm 1] at s2
                    have oo : out .item cs.length (45 :: (x :: w) ++ r) p = out .whole cs.length r (p + (45 :: (x :: w)).length) := by
                      have e3 := dw.ln
                      have e4 := dw.nx
                      rw [List.length_cons] at e3 e4
                      rw [List.cons_append, ← e1, o1, e1, List.cons_append, out_c (show stp .minus cs.length x = some (.int 1, cs.length) from if_pos (dig_d9 x hx hx0)), out_int w r 1 (p + 1 + 1) (fun x hx => dw.al x (List.mem_cons_of_mem _ hx)) (by omega) (by rcases e4 with e4 | e4; exact .inl e4; exact .inr (by omega)), List.length_cons, List.length_cons, show p + 1 + 1 + w.length = p + (w.length + 1 + 1) by omega]
                    exact .inr (at_post f (l := 45 :: (x :: w)) s hl fo sz hz2 rfl (.neg _ dw.hd dw.al dw.ln) ⟨s2, .inr ⟨hlt, .inr rfl, er⟩⟩ oo)
                · exact mE (fun y r q => by cases q; exact hx)
            · refine .inl ⟨p, h, rv_X0 (R_PlainReader_read_value f) s n40 ?_, ?_⟩
              · rw [hz]
                show (decide (c1 ∈ letL) || (decide (c1 ∈ digL) || decide ([c1] = [45]))) = false
                rw [decide_eq_false hlt, decide_eq_false hd]
                show decide ([c1] = [45]) = false
                exact decide_eq_false fun q => h45 (List.cons.inj q).1
              · rw [hz]
                exact out_n (show stI cs.length c1 = none from stI_none (fun q => h40 q.1) hlt (fun m => hd (d9_dig c1 m).1) h45 (fun q => hd (by rw [q]; decide +kernel)))
end
end G75
namespace G75
open PySem L2 Vi
theorem v_make (z : List Nat) (h : Hc) : mA1 (fMakeC 5 1 FI_PlainReader_xinitx []) (maCons (mVar 0) maNil) [some (.d (.str (cS z)))] h = .ok (.d (.ref (h ++ [Cell.lst []] ++ [Cell.lst [.ref h.length]]).length)) (h ++ [Cell.lst []] ++ [Cell.lst [.ref h.length]] ++ [insC z 0 (h ++ [Cell.lst []]).length]) := rfl
theorem st_made {z : List Nat} (hz : z.length ≤ 10000000) (h : Hc) : St (h ++ [Cell.lst []] ++ [Cell.lst [.ref h.length]]).length (h ++ [Cell.lst []]).length z 0 [h.length] [[]] (h ++ [Cell.lst []] ++ [Cell.lst [.ref h.length]] ++ [insC z 0 (h ++ [Cell.lst []]).length]) := by
  refine ⟨?_, ?_, ⟨?_, trivial⟩, ?_, hz⟩
  · rw [List.getElem?_append_right (Nat.le_refl _), Nat.sub_self]
    rfl
  · rw [List.getElem?_append_left (by simp), List.getElem?_append_right (Nat.le_refl _), Nat.sub_self]
    rfl
  · rw [List.getElem?_append_left (by simp), List.getElem?_append_left (by simp), List.getElem?_append_right (Nat.le_refl _), Nat.sub_self]
    rfl
  · simp
section
variable {a b : Nat} {z : List Nat}
theorem stB_sp {lv : Nat} (h : 0 < lv) : stp .whole lv 32 = some (.item, lv) := if_pos ⟨h, rfl⟩
theorem stB_cl {lv : Nat} (h : 0 < lv) : stp .whole lv 41 = some (.whole, lv - 1) := by
  show stB lv 41 = _
  unfold stB
  rw [if_neg (by omega), if_pos ⟨h, rfl⟩]
theorem stB_no {lv c : Nat} (h1 : lv = 0 ∨ (c ≠ 32 ∧ c ≠ 41)) : stp .whole lv c = none := by
  show stB lv c = _
  unfold stB
  rw [if_neg (by omega), if_neg (by omega)]
theorem rl_main : ∀ (N p : Nat) (cs : List Nat) (st : List (List D)) (h : Hc) (w : List Nat) (st1 : List (List D)), St a b z p cs st h → 1 ≤ cs.length → cs.length ≤ 61 → Fok st → (∀ x ∈ st, x.length + sp (z.drop p) ≤ 20000) → (cs.length = 1 → ∀ x ∈ st, x ≠ []) → Ac w st1 st → sp (z.drop p) < N →
    (∃ q h', mWhile N raC raB (envR a) h = .exc (envR a) (bad q) h' ∧ out .whole (cs.length - 1) (z.drop p) p = some q) ∨
    ∃ p' c' x h' w' st1', mWhile N raC raB (envR a) h = .nx (envR a) h' ∧ St a b z p' [c'] [x] h' ∧ out .whole (cs.length - 1) (z.drop p) p = out .whole 0 (z.drop p') p' ∧ x ≠ [] ∧ Fok [x] ∧ Ac w' st1' [x] ∧ ∀ f, Rd w' st1' (z.drop p') f → Rd w st1 (z.drop p) f
  | 0, p, cs, st, h, w, st1, s, h1, h2, fo, sz, nz, ac, hN => by omega
  | N + 1, p, cs, st, h, w, st1, s, h1, h2, fo, sz, nz, ac, hN => by
    have stl := s.frs.len
    by_cases hc : 1 < cs.length
    · by_cases h32 : ∃ r, z.drop p = 32 :: r
      · obtain ⟨r, hz⟩ := h32
        obtain ⟨g1, g2⟩ := ra_more s hc hz
        have et : z.drop (p + 1) = r := dr_add (w := [32]) hz
        have s1 := s.go (p + 1)
        have spr : sp (z.drop p) = 1 + sp r := by rw [hz]; rfl
        have o1 : out .whole (cs.length - 1) (z.drop p) p = out .item (cs.length - 1) r (p + 1) := by
          rw [hz]
          exact out_c (stB_sp (by omega))
        match cs, st, s1, stl, h2, fo, sz, ac, o1, hc, g1, g2 with
        | c :: cs, top :: st, s1, stl, h2, fo, sz, ac, o1, hc, g1, g2 =>
          rw [List.length_cons] at h2 hc o1
          rcases rv_main 64 (p + 1) c cs top st _ s1 (by omega) (by omega) fo (by rw [et]; intro x hx; have := sz x hx; omega) with ⟨q, h', e1, e2⟩ | ⟨p', cs', st', h', e1, P⟩
          · refine .inl ⟨q, h', g2 _ h' e1 N, ?_⟩
            rw [List.length_cons, o1, ← et]
            exact e2
          · obtain ⟨w2, st2, ha, hr⟩ := P.ac
            have dn := P.dn
            rw [et] at dn hr
            have eo := P.ou
            rw [et] at eo
            have o2 : out .whole ((c :: cs).length - 1) (z.drop p) p = out .whole (cs'.length - 1) (z.drop p') p' := o1.trans eo
            have rr : ∀ f, Rd w2 st2 (z.drop p') f → Rd w st1 (z.drop p) f := fun f hf => by
              rw [hz]
              exact .sp _ _ _ _ _ ac (hr f hf)
            rcases rl_main N p' cs' st' h' w2 st2 P.s P.ne P.le P.fo P.sz P.nz ha (by omega) with ⟨q, h3, e3, e4⟩ | ⟨p3, c3, x, h3, w3, st3, e3, s3, e4, e5, e6, e7, e8⟩
            · exact .inl ⟨q, h3, (g1 h' e1 N).trans e3, o2.trans e4⟩
            · exact .inr ⟨p3, c3, x, h3, w3, st3, (g1 h' e1 N).trans e3, s3, o2.trans e4, e5, e6, e7, fun f hf => rr f (e8 f hf)⟩
      · have n32 : ∀ r, z.drop p ≠ 32 :: r := fun r q => h32 ⟨r, q⟩
        obtain ⟨g1, g2⟩ := ra_close s hc n32
        by_cases h41 : ∃ r, z.drop p = 41 :: r
        · obtain ⟨r, hz⟩ := h41
          have et : z.drop (p + 1) = r := dr_add (w := [41]) hz
          have spr : sp (z.drop p) = 1 + sp r := by rw [hz]; rfl
          have o1 : out .whole (cs.length - 1) (z.drop p) p = out .whole (cs.length - 1 - 1) r (p + 1) := by
            rw [hz]
            exact out_c (stB_cl (by omega))
          match cs, st, s, stl, h2, fo, sz, ac, o1, hc, g1, g2 with
          | c2 :: c :: cs, acc :: top :: st, s, stl, h2, fo, sz, ac, o1, hc, g1, g2 =>
            rw [List.length_cons, List.length_cons] at h2 hc
            have stl2 := s.frs.len
            rw [List.length_cons, List.length_cons, List.length_cons, List.length_cons] at stl2
            have b1 := sz acc (List.mem_cons_self ..)
            have b2 := sz top (List.mem_cons_of_mem _ (List.mem_cons_self ..))
            obtain ⟨h', e1, s2⟩ := v_close s hz (by omega)
            have sz2 : ∀ x ∈ (top ++ [.tup acc]) :: st, x.length + sp (z.drop (p + 1)) ≤ 20000 := by
              rw [et]
              intro x hx
              rcases List.mem_cons.mp hx with rfl | hx
              · rw [List.length_append, List.length_singleton]; omega
              · have := sz x (List.mem_cons_of_mem _ (List.mem_cons_of_mem _ hx)); omega
            have nz2 : (c :: cs).length = 1 → ∀ x ∈ (top ++ [.tup acc]) :: st, x ≠ [] := fun q x hx => by
              rw [List.length_cons] at q
              have : st = [] := List.length_eq_zero_iff.mp (by omega)
              rw [this, List.mem_singleton] at hx
              rw [hx]
              exact fun q => by simp at q
            have rr : ∀ f, Rd [41] (acc :: top :: st) (z.drop (p + 1)) f → Rd w st1 (z.drop p) f := fun f hf => by
              rw [hz]
              rw [et] at hf
              exact .cl _ _ _ _ _ ac hf
            have o2 : out .whole ((c2 :: c :: cs).length - 1) (z.drop p) p = out .whole ((c :: cs).length - 1) (z.drop (p + 1)) (p + 1) := by
              rw [et]
              exact o1
            rcases rl_main N (p + 1) (c :: cs) _ h' [41] (acc :: top :: st) s2 (by rw [List.length_cons]; omega) (by rw [List.length_cons]; omega) (fo.close (by omega) (by omega)) sz2 nz2 (.close _ _ _) (by rw [et]; omega) with ⟨q, h3, e3, e4⟩ | ⟨p3, c3, x, h3, w3, st3, e3, s3, e4, e5, e6, e7, e8⟩
            · exact .inl ⟨q, h3, (g1 h' e1 N).trans e3, o2.trans e4⟩
            · exact .inr ⟨p3, c3, x, h3, w3, st3, (g1 h' e1 N).trans e3, s3, o2.trans e4, e5, e6, e7, fun f hf => rr f (e8 f hf)⟩
        · have n41 : ∀ r, z.drop p ≠ 41 :: r := fun r q => h41 ⟨r, q⟩
          refine .inl ⟨p, h, g2 _ h (v_closeX s n41) N, ?_⟩
          cases hz : z.drop p with
          | nil => exact if_pos (.inl (by omega))
          | cons c r => exact out_n (stB_no (.inr ⟨fun q => n32 r (by rw [hz, q]), fun q => n41 r (by rw [hz, q])⟩))
    · have h3 : cs.length = 1 := by omega
      match cs, st, s, stl, h3, fo, nz, ac with
      | [c], [x], s, stl, h3, fo, nz, ac =>
        refine .inr ⟨p, c, x, h, w, st1, ?_, s, rfl, nz rfl x (List.mem_cons_self ..), fo, ac, fun f hf => hf⟩
        rw [mWhile_succ, ra_cond s]
        rfl
end
theorem v_read (z : List Nat) (hl : z.length ≤ 10000000) (hs : sp z + 1 ≤ 20000) (h : Hc) : (∃ q h', F_read_plain [.str (cS z)] h = .exc (bad q) h' ∧ out .item 0 z 0 = some q) ∨ ∃ d x h', F_read_plain [.str (cS z)] h = .ok d h' ∧ out .item 0 z 0 = none ∧ Rd [] [[]] z [x] ∧ x[0]? = some d ∧ Pd 60 d := by
  have s0 := st_made (z := z) hl h
  have mk := v_make z h
  generalize ea : (h ++ [Cell.lst []] ++ [Cell.lst [.ref h.length]]).length = a at *
  generalize eb : (h ++ [Cell.lst []]).length = b at *
  generalize eh : h ++ [Cell.lst []] ++ [Cell.lst [.ref h.length]] ++ [insC z 0 b] = h0 at *
  have e0 : ∀ h, mVar 0 (envR a) h = .ok (.d (.ref a)) h := fun _ => rfl
  have e2 : ins? 5 (.d (.ref a)) h0 = some (insF z 0 b) := by
    show (match h0[a]? with
      | some (.ins c' fs) => if c' = 5 then some fs else none
      | _ => none) = _
    rw [s0.ins]
    rfl
  have up : ∀ R0 : R D, F_PlainReader_read_all [.ref a] h0 = R0 → mMeth 5 "read_all" 0 F_PlainReader_read_all [] (mA1 (fMakeC 5 1 FI_PlainReader_xinitx []) (maCons (mVar 0) maNil)) maNil [some (.d (.str (cS z)))] h = R0.bind fun d h' => R.ok (Vl.d d) h' := fun R0 hr => by
    unfold mMeth
    rw [mk, R.bind_ok, e2]
    show ((F_PlainReader_read_all [.ref a] h0).bind fun d h' => R.ok (Vl.d d) h') = _
    rw [hr]
  have upX : ∀ q h', F_PlainReader_read_all [.ref a] h0 = .exc (bad q) h' → F_read_plain [.str (cS z)] h = .exc (bad q) h' := fun q h' hr => (fnOf_eq 1 1 _ _ _ rfl).trans (congrArg RS.fin (a₂ := .exc [some (.d (.str (cS z)))] (bad q) h') (ret_ex (up _ hr)))
  have upO : ∀ d h', F_PlainReader_read_all [.ref a] h0 = .ok d h' → F_read_plain [.str (cS z)] h = .ok d h' := fun d h' hr => (fnOf_eq 1 1 _ _ _ rfl).trans (congrArg RS.fin (a₂ := .ret d h') (ret_of (up _ hr)))
  have fin : ∀ o : RS, (mSeq (mDrop (mMeth 5 "read_value" 0 F_PlainReader_read_value [] (mVar 0) maNil)) (mSeq (mWhile 20000 raC raB) (mSeq (mDrop (mMeth 5 "expect" 1 F_PlainReader_expect [] (mVar 0) (maCons (m2 (fEq false) (mMeth 5 "sign" 0 F_PlainReader_sign [] (mVar 0) maNil) (mC (.str ""))) maNil))) (mRet (m2 fIx (m2 fIx (m1 (fFld g0 "held") (mVar 0)) (mC (.int 0))) (mC (.int 0))))))) (envR a) h0 = o → F_PlainReader_read_all [.ref a] h0 = o.fin := fun o ho => (fnOf_eq 1 1 _ _ _ rfl).trans (congrArg RS.fin ((congrFun (congrFun ra_parts _) _).trans ho))
  rcases rv_main 64 0 h.length [] [] [] h0 s0 (by decide) (by decide) ⟨fun _ m => (by cases m), trivial⟩ (by rw [List.drop_zero]; intro x hx; rw [List.mem_singleton.mp hx, List.length_nil]; omega) with ⟨q, h1, r1, r2⟩ | ⟨p1, cs1, st1, h1, r1, P⟩
  · rw [List.drop_zero] at r2
    refine .inl ⟨q, h1, upX q h1 (fin (.exc (envR a) (bad q) h1) ?_), r2⟩
    exact seq_exc (drop_ex (s0.met0X (m := "read_value") (e0 _) rfl r1))
  · obtain ⟨w1, sw1, ac1, rd1⟩ := P.ac
    have dn := P.dn
    have ou1 := P.ou
    rw [List.drop_zero] at dn ou1
    have go1 : ∀ o : RS, (mSeq (mWhile 20000 raC raB) (mSeq (mDrop (mMeth 5 "expect" 1 F_PlainReader_expect [] (mVar 0) (maCons (m2 (fEq false) (mMeth 5 "sign" 0 F_PlainReader_sign [] (mVar 0) maNil) (mC (.str ""))) maNil))) (mRet (m2 fIx (m2 fIx (m1 (fFld g0 "held") (mVar 0)) (mC (.int 0))) (mC (.int 0)))))) (envR a) h1 = o → F_PlainReader_read_all [.ref a] h0 = o.fin := fun o ho => fin o ((seq_nx (env1 := envR a) (h1 := h1) (drop_of (s0.met0 (m := "read_value") (e0 _) rfl r1))).trans ho)
    rcases rl_main 20000 p1 cs1 st1 h1 w1 sw1 P.s P.ne P.le P.fo P.sz P.nz ac1 (by omega) with ⟨q, h2, r3, r4⟩ | ⟨p2, c2, x, h2, w2, sw2, r3, s2, r4, nx, fo, ac2, rd2⟩
    · exact .inl ⟨q, h2, upX q h2 (go1 (.exc (envR a) (bad q) h2) (seq_exc r3)), ou1.trans r4⟩
    · have q := v_eqm false s2 (e0 _) "" [] s_e
      cases hz : z.drop p2 with
      | cons c r =>
        rw [hz] at q r4
        refine .inl ⟨p2, h2, upX p2 h2 (go1 (.exc (envR a) (bad p2) h2) ((seq_nx r3).trans ?_)), ?_⟩
        · exact seq_exc (drop_ex (s2.met1X (m := "expect") (e0 _) rfl (q.trans rfl) (v_expF s2)))
        · exact ou1.trans (r4.trans (out_n (stB_no (.inl rfl))))
      | nil =>
        rw [hz] at q r4
        match x, nx, s2, fo, ac2 with
        | d :: x, _, s2, fo, ac2 =>
          refine .inr ⟨d, d :: x, h2, upO d h2 (go1 (.ret d h2) ((seq_nx r3).trans ?_)), ?_, ?_, rfl, fo.1 d (List.mem_cons_self ..)⟩
          · refine Eq.trans (seq_nx (env1 := envR a) (h1 := h2) (drop_of (s2.met1 (m := "expect") (e0 _) rfl (q.trans rfl) (v_expect s2)))) ?_
            refine ret_of ?_
            have g1 : m2 fIx (m1 (fFld g0 "held") (mVar 0)) (mC (.int 0)) (envR a) h2 = .ok (.d (.ref c2)) h2 := by
              refine (m2_of (y := .d (.int 0)) (h2 := h2) (s2.hld (e0 _)) rfl).trans ?_
              exact (fIx_ref b 0 h2 _ s2.out).trans rfl
            refine (m2_of (y := .d (.int 0)) (h2 := h2) g1 rfl).trans ?_
            refine (fIx_ref c2 0 h2 _ s2.frs.1).trans ?_
            rw [show atI (d :: x) 0 = some d from by simp [atI, ixN]]
          · exact ou1.trans (r4.trans rfl)
          · have := rd1 [d :: x] (rd2 [d :: x] (by rw [hz]; exact .nil _ _ _ ac2))
            rwa [List.drop_zero] at this
end G75
namespace G75
open PySem L2 Vi
def kN : K → PySem.Str
  | .item => "item"
  | .first => "first"
  | .word _ => "word"
  | .int _ => "int"
  | .minus => "minus"
  | .whole => "whole"
def kC : K → Nat
  | .word n => n
  | .int n => n
  | _ => 0
def stD (k : K) (lv : Nat) : D := .tup [.str (kN k), .int (kC k : Nat), .int (lv : Nat)]
def opD : Option (K × Nat) → D
  | none => .non
  | some (k, lv) => stD k lv
abbrev letS : PySem.Str := "abcdefghijklmnopqrstuvwxyz"
abbrev digS : PySem.Str := "0123456789"
abbrev sgnS : PySem.Str := "abcdefghijklmnopqrstuvwxyz0123456789"
theorem cat_sgn : letS ++ digS = sgnS := by decide +kernel
theorem cat_n : letS.cps.size + digS.cps.size ≤ 100000 := by decide +kernel
abbrev envS (k : K) (lv c : Nat) : Vi.Env := [some (.d (stD k lv)), some (.d (.str (cS [c]))), some (.d (.str (kN k))), some (.d (.int (kC k : Nat))), some (.d (.int (lv : Nat))), some (.d (.str letS))]
section
variable {k : K} {lv c : Nat} {h : Hc} {env : Vi.Env}
theorem ch {t : MB} {e : ME} {rest : MS} {b : Bool} {d : D} (ht : t env h = .ok b h) (he : b = true → e env h = .ok (.d d) h) : mSeq (mIfS t (mRet e) mSkip) rest env h = if b = true then .ret d h else rest env h := by
  cases b with
  | false => exact (seq_nx (if_skip ht)).trans (if_neg (by decide)).symm
  | true => exact (seq_ret ((if_t ht).trans (ret_of (he rfl)))).trans (if_pos rfl).symm
theorem c_sg (x : PySem.Str) (x0 : Nat) (ex : x = cS [x0]) : asB (m2 (fEq false) (mVar 1) (mC (.str x))) (envS k lv c) h = .ok (decide (c = x0)) h := by
  refine asB_of ((m2_of (x := .d (.str (cS [c]))) (y := .d (.str x)) (h1 := h) (h2 := h) rfl rfl).trans ((eq_txt false _ _ h).trans ?_))
  rw [ex, cS_dec]
  refine congrArg (fun b => R.ok (Vl.d (.bl b)) h) ?_
  show decide ([c] = [x0]) = decide (c = x0)
  rw [Bool.eq_iff_iff, decide_eq_true_iff, decide_eq_true_iff]
  exact ⟨fun e => (List.cons.inj e).1, fun e => by rw [e]⟩
theorem c_kd (x : PySem.Str) : asB (m2 (fEq false) (mVar 2) (mC (.str x))) (envS k lv c) h = .ok (decide (kN k = x)) h := by
  refine asB_of ((m2_of (x := .d (.str (kN k))) (y := .d (.str x)) (h1 := h) (h2 := h) rfl rfl).trans ((eq_txt false _ _ h).trans rfl))
theorem c_in (x : PySem.Str) {m : ME} (em : m (envS k lv c) h = .ok (.d (.str x)) h) : asB (m2 (fIn false) (mVar 1) m) (envS k lv c) h = .ok (decide (c ∈ x.cps.toList)) h := by
  refine asB_of ((m2_of (x := .d (.str (cS [c]))) (y := .d (.str x)) (h1 := h) (h2 := h) rfl em).trans ?_)
  show R.ok (Vl.d (nB false (hasSub x (cS ([c] : List Nat))))) h = _
  rw [sub1]
  rfl
theorem c_lv60 : asB (m2 fLt (mVar 4) (mC (.int 60))) (envS k lv c) h = .ok (decide (lv < 60)) h := by
  refine asB_of ((m2_of (x := .d (.int (lv : Nat))) (y := .d (.int 60)) (h1 := h) (h2 := h) rfl rfl).trans ?_)
  show R.ok (Vl.d (.bl (decide ((lv : Int) < 60)))) h = _
  refine congrArg (fun b => R.ok (Vl.d (.bl b)) h) ?_
  rw [Bool.eq_iff_iff, decide_eq_true_iff, decide_eq_true_iff]
  omega
theorem c_lv0 : asB (m2 fGt (mVar 4) (mC (.int 0))) (envS k lv c) h = .ok (decide (0 < lv)) h := by
  refine asB_of ((m2_of (x := .d (.int (lv : Nat))) (y := .d (.int 0)) (h1 := h) (h2 := h) rfl rfl).trans ?_)
  show R.ok (Vl.d (.bl (decide ((0 : Int) < (lv : Int))))) h = _
  refine congrArg (fun b => R.ok (Vl.d (.bl b)) h) ?_
  rw [Bool.eq_iff_iff, decide_eq_true_iff, decide_eq_true_iff]
  omega
theorem c_ct (n : Nat) : asB (m2 fLt (mVar 3) (mC (.int (n : Nat)))) (envS k lv c) h = .ok (decide (kC k < n)) h := by
  refine asB_of ((m2_of (x := .d (.int (kC k : Nat))) (y := .d (.int (n : Nat))) (h1 := h) (h2 := h) rfl rfl).trans ?_)
  show R.ok (Vl.d (.bl (decide (((kC k : Nat) : Int) < (n : Int))))) h = _
  refine congrArg (fun b => R.ok (Vl.d (.bl b)) h) ?_
  rw [Bool.eq_iff_iff, decide_eq_true_iff, decide_eq_true_iff]
  omega
theorem and2 {x y : MB} {u v : Bool} (e1 : x env h = .ok u h) (e2 : y env h = .ok v h) : tAndM x y env h = .ok (u && v) h := by
  cases u with
  | false => exact and_ff e1
  | true => exact (and_tt e1).trans e2
theorem t_k (x : PySem.Str) (n : Int) : mA1 fTup (maCons (mC (.str x)) (maCons (mC (.int n)) (maCons (mVar 4) maNil))) (envS k lv c) h = .ok (.d (.tup [.str x, .int n, .int (lv : Nat)])) h := rfl
theorem t_up (x : PySem.Str) (n : Int) : mA1 fTup (maCons (mC (.str x)) (maCons (mC (.int n)) (maCons (m2 (fAdd false) (mVar 4) (mC (.int 1))) maNil))) (envS k lv c) h = .ok (.d (.tup [.str x, .int n, .int ((lv + 1 : Nat) : Int)])) h := rfl
theorem t_dn (x : PySem.Str) (n : Int) (hl : 0 < lv) : mA1 fTup (maCons (mC (.str x)) (maCons (mC (.int n)) (maCons (m2 fSub (mVar 4) (mC (.int 1))) maNil))) (envS k lv c) h = .ok (.d (.tup [.str x, .int n, .int ((lv - 1 : Nat) : Int)])) h := by
  rw [show (((lv - 1 : Nat)) : Int) = (lv : Int) - 1 by omega]
  rfl
theorem t_ct (x : PySem.Str) : mA1 fTup (maCons (mC (.str x)) (maCons (m2 (fAdd false) (mVar 3) (mC (.int 1))) (maCons (mVar 4) maNil))) (envS k lv c) h = .ok (.d (.tup [.str x, .int ((kC k + 1 : Nat) : Int), .int (lv : Nat)])) h := rfl
def spC : MS := (mSeq (mIfS (tAndM (asB (m2 (fEq false) (mVar 1) (mC (.str ")")))) (asB (m2 (fEq false) (mVar 2) (mC (.str "first"))))) (mRet (mA1 fTup (maCons (mC (.str "whole")) (maCons (mC (.int 0)) (maCons (m2 fSub (mVar 4) (mC (.int 1))) maNil))))) mSkip) (mSeq (mIfS (tAndM (asB (m2 (fEq false) (mVar 1) (mC (.str "(")))) (asB (m2 fLt (mVar 4) (mC (.int 60))))) (mRet (mA1 fTup (maCons (mC (.str "first")) (maCons (mC (.int 0)) (maCons (m2 (fAdd false) (mVar 4) (mC (.int 1))) maNil))))) mSkip) (mSeq (mIfS (asB (m2 (fIn false) (mVar 1) (mVar 5))) (mRet (mA1 fTup (maCons (mC (.str "word")) (maCons (mC (.int 1)) (maCons (mVar 4) maNil))))) mSkip) (mSeq (mIfS (asB (m2 (fIn false) (mVar 1) (mC (.str "123456789")))) (mRet (mA1 fTup (maCons (mC (.str "int")) (maCons (mC (.int 1)) (maCons (mVar 4) maNil))))) mSkip) (mSeq (mIfS (asB (m2 (fEq false) (mVar 1) (mC (.str "-")))) (mRet (mA1 fTup (maCons (mC (.str "minus")) (maCons (mC (.int 0)) (maCons (mVar 4) maNil))))) mSkip) (mRet (mIf (asB (m2 (fEq false) (mVar 1) (mC (.str "0")))) (mA1 fTup (maCons (mC (.str "whole")) (maCons (mC (.int 0)) (maCons (mVar 4) maNil)))) (mC .non))))))))
def spE : MS := (mSeq (mIfS (tAndM (asB (m2 fGt (mVar 4) (mC (.int 0)))) (asB (m2 (fEq false) (mVar 1) (mC (.str " "))))) (mRet (mA1 fTup (maCons (mC (.str "item")) (maCons (mC (.int 0)) (maCons (mVar 4) maNil))))) mSkip) (mSeq (mIfS (tAndM (asB (m2 fGt (mVar 4) (mC (.int 0)))) (asB (m2 (fEq false) (mVar 1) (mC (.str ")"))))) (mRet (mA1 fTup (maCons (mC (.str "whole")) (maCons (mC (.int 0)) (maCons (m2 fSub (mVar 4) (mC (.int 1))) maNil))))) mSkip) (mRet (mC .non))))
def spW (r : MS) : MS := mSeq (mIfS (tAndM (asB (m2 (fEq false) (mVar 2) (mC (.str "word")))) (tAndM (asB (m2 fLt (mVar 3) (mC (.int 12)))) (asB (m2 (fIn false) (mVar 1) (m2 (fAdd false) (mVar 5) (mC (.str "0123456789"))))))) (mRet (mA1 fTup (maCons (mC (.str "word")) (maCons (m2 (fAdd false) (mVar 3) (mC (.int 1))) (maCons (mVar 4) maNil))))) mSkip) r
def spI (r : MS) : MS := mSeq (mIfS (tAndM (asB (m2 (fEq false) (mVar 2) (mC (.str "int")))) (tAndM (asB (m2 fLt (mVar 3) (mC (.int 4000)))) (asB (m2 (fIn false) (mVar 1) (mC (.str "0123456789")))))) (mRet (mA1 fTup (maCons (mC (.str "int")) (maCons (m2 (fAdd false) (mVar 3) (mC (.int 1))) (maCons (mVar 4) maNil))))) mSkip) r
def spM (r : MS) : MS := mSeq (mIfS (tAndM (asB (m2 (fEq false) (mVar 2) (mC (.str "minus")))) (asB (m2 (fIn false) (mVar 1) (mC (.str "123456789"))))) (mRet (mA1 fTup (maCons (mC (.str "int")) (maCons (mC (.int 1)) (maCons (mVar 4) maNil))))) mSkip) r
theorem step_parts : m__law_p10_step = (mSeq (mUnp (gtT 3 (gtCons (gtN 2) (gtCons (gtN 3) (gtCons (gtN 4) gtNil)))) (mVar 0)) (mSeq (mSet 5 (mC (.str "abcdefghijklmnopqrstuvwxyz"))) (mSeq (mIfS (asB (m2 (fIn false) (mVar 2) (mA1 (fLst false) (maCons (mC (.str "item")) (maCons (mC (.str "first")) maNil))))) spC mSkip) (spW (spI (spM spE)))))) := rfl
theorem v_spC (hl : k = .first → 0 < lv) (hk : k = .item ∨ k = .first) : spC (envS k lv c) h = .ret (opD (stp k lv c)) h := by
  unfold spC
  have e1 : decide (kN k = ("first" : PySem.Str)) = decide (k = .first) := by rcases hk with rfl | rfl <;> decide +kernel
  have s1 := and2 (c_sg (k := k) (lv := lv) (c := c) (h := h) ")" 41 s_cl) (c_kd "first")
  rw [e1] at s1
  rw [ch (d := .tup [.str "whole", .int 0, .int ((lv - 1 : Nat) : Int)]) s1 (fun q => t_dn _ _ (by
    rw [Bool.and_eq_true, decide_eq_true_iff, decide_eq_true_iff] at q
    exact hl q.2))]
  rw [ch (d := .tup [.str "first", .int 0, .int ((lv + 1 : Nat) : Int)]) (and2 (c_sg "(" 40 s_op) c_lv60) (fun _ => t_up _ _)]
  rw [ch (d := .tup [.str "word", .int 1, .int (lv : Nat)]) (c_in letS rfl) (fun _ => t_k _ _)]
  rw [ch (d := .tup [.str "int", .int 1, .int (lv : Nat)]) (c_in "123456789" rfl) (fun _ => t_k _ _)]
  rw [ch (d := .tup [.str "minus", .int 0, .int (lv : Nat)]) (c_sg "-" 45 s_min) (fun _ => t_k _ _)]
  have e0 : mRet (mIf (asB (m2 (fEq false) (mVar 1) (mC (.str "0")))) (mA1 fTup (maCons (mC (.str "whole")) (maCons (mC (.int 0)) (maCons (mVar 4) maNil)))) (mC .non)) (envS k lv c) h = .ret (opD (if c = 48 then some (.whole, lv) else none)) h := by
    refine ret_of ?_
    unfold mIf
    rw [c_sg "0" 48 s_0]
    by_cases h0 : c = 48
    · rw [decide_eq_true h0, if_pos h0]; rfl
    · rw [decide_eq_false h0, if_neg h0]; rfl
  rw [e0]
  have hI : (if (decide (c = 40) && decide (lv < 60)) = true then RS.ret (.tup [.str "first", .int 0, .int ((lv + 1 : Nat) : Int)]) h else if decide (c ∈ letS.cps.toList) = true then .ret (.tup [.str "word", .int 1, .int (lv : Nat)]) h else if decide (c ∈ ("123456789" : PySem.Str).cps.toList) = true then .ret (.tup [.str "int", .int 1, .int (lv : Nat)]) h else if decide (c = 45) = true then .ret (.tup [.str "minus", .int 0, .int (lv : Nat)]) h else .ret (opD (if c = 48 then some (.whole, lv) else none)) h) = .ret (opD (stI lv c)) h := by
    unfold stI
    simp only [Bool.and_eq_true, decide_eq_true_iff]
    show (if c = 40 ∧ lv < 60 then _ else if c ∈ letL then _ else if c ∈ d9L then _ else if c = 45 then _ else _) = _
    by_cases a1 : c = 40 ∧ lv < 60
    · rw [if_pos a1, if_pos a1]; rfl
    rw [if_neg a1, if_neg a1]
    by_cases a2 : c ∈ letL
    · rw [if_pos a2, if_pos a2]; rfl
    rw [if_neg a2, if_neg a2]
    by_cases a3 : c ∈ d9L
    · rw [if_pos a3, if_pos a3]; rfl
    rw [if_neg a3, if_neg a3]
    by_cases a4 : c = 45
    · rw [if_pos a4, if_pos a4]; rfl
    rw [if_neg a4, if_neg a4]
  rw [hI]
  rcases hk with rfl | rfl
  · rw [decide_eq_false (p := K.item = K.first) (by decide), Bool.and_false, if_neg (by decide)]
    rfl
  · rw [decide_eq_true (p := K.first = K.first) rfl, Bool.and_true]
    simp only [decide_eq_true_iff]
    show _ = RS.ret (opD (if c = 41 then some (K.whole, lv - 1) else stI lv c)) h
    split <;> rfl
theorem v_spE : spE (envS k lv c) h = .ret (opD (stB lv c)) h := by
  unfold spE
  rw [ch (d := .tup [.str "item", .int 0, .int (lv : Nat)]) (and2 c_lv0 (c_sg " " 32 s_sp)) (fun _ => t_k _ _)]
  rw [ch (d := .tup [.str "whole", .int 0, .int ((lv - 1 : Nat) : Int)]) (and2 c_lv0 (c_sg ")" 41 s_cl)) (fun q => t_dn _ _ (by
    rw [Bool.and_eq_true, decide_eq_true_iff] at q
    exact q.1))]
  unfold stB
  simp only [Bool.and_eq_true, decide_eq_true_iff]
  split
  · rfl
  · split <;> rfl
theorem c_kin : asB (m2 (fIn false) (mVar 2) (mA1 (fLst false) (maCons (mC (.str "item")) (maCons (mC (.str "first")) maNil)))) (envS k lv c) h = .ok (decide (kN k ∈ (["item", "first"] : List PySem.Str))) h :=
  asB_of ((m2_of (x := .d (.str (kN k))) (y := .d (.lst [.str "item", .str "first"])) (h1 := h) (h2 := h) rfl rfl).trans (in_txt (kN k) false h _ ["item", "first"] rfl (fun z e => by cases e)))
theorem v_step (hl : k = .first → 0 < lv) : F__law_p10_step [stD k lv, .str (cS [c])] h = .ok (opD (stp k lv c)) h := by
  refine (fnOf_eq 6 2 _ _ _ rfl).trans (congrArg RS.fin (a₂ := .ret (opD (stp k lv c)) h) ?_)
  rw [step_parts]
  refine Eq.trans (seq_nx (env1 := [some (.d (stD k lv)), some (.d (.str (cS [c]))), some (.d (.str (kN k))), some (.d (.int (kC k : Nat))), some (.d (.int (lv : Nat))), none]) (h1 := h) rfl) ?_
  refine Eq.trans (seq_nx (env1 := envS k lv c) (h1 := h) rfl) ?_
  have kin := c_kin (k := k) (lv := lv) (c := c) (h := h)
  have sw : ∀ r : MS, spW r (envS k lv c) h = if (decide (kN k = ("word" : PySem.Str)) && (decide (kC k < 12) && decide (c ∈ sgnL))) = true then .ret (stD (.word (kC k + 1)) lv) h else r (envS k lv c) h := fun r => by
    have ea : m2 (fAdd false) (mVar 5) (mC (.str "0123456789")) (envS k lv c) h = .ok (.d (.str sgnS)) h := by
      rw [← cat_sgn]
      exact (m2_of (x := .d (.str letS)) (y := .d (.str digS)) (h1 := h) (h2 := h) rfl rfl).trans (fAdd_str false letS digS h cat_n)
    exact ch (d := stD (.word (kC k + 1)) lv) (and2 (c_kd "word") (and2 (c_ct 12) (c_in sgnS ea))) (fun _ => t_ct _)
  have si : ∀ r : MS, spI r (envS k lv c) h = if (decide (kN k = ("int" : PySem.Str)) && (decide (kC k < 4000) && decide (c ∈ digL))) = true then .ret (stD (.int (kC k + 1)) lv) h else r (envS k lv c) h := fun r =>
    ch (d := stD (.int (kC k + 1)) lv) (and2 (c_kd "int") (and2 (c_ct 4000) (c_in digS rfl))) (fun _ => t_ct _)
  have sm : ∀ r : MS, spM r (envS k lv c) h = if (decide (kN k = ("minus" : PySem.Str)) && decide (c ∈ d9L)) = true then .ret (stD (.int 1) lv) h else r (envS k lv c) h := fun r =>
    ch (d := stD (.int 1) lv) (and2 (c_kd "minus") (c_in "123456789" rfl)) (fun _ => t_k _ _)
  cases k with
  | item =>
    rw [decide_eq_true (by decide +kernel)] at kin
    exact seq_ret ((if_t kin).trans (v_spC hl (.inl rfl)))
  | first =>
    rw [decide_eq_true (by decide +kernel)] at kin
    exact seq_ret ((if_t kin).trans (v_spC hl (.inr rfl)))
  | word n =>
    rw [decide_eq_false (show ¬ kN (.word n) ∈ (["item", "first"] : List PySem.Str) by show ¬ ("word" : PySem.Str) ∈ _; decide +kernel)] at kin
    refine (seq_nx (if_skip kin)).trans ?_
    rw [sw, si, sm, v_spE]
    rw [decide_eq_true (p := kN (.word n) = ("word" : PySem.Str)) rfl, decide_eq_false (p := kN (.word n) = ("int" : PySem.Str)) (by show ¬ ("word" : PySem.Str) = _; decide +kernel), decide_eq_false (p := kN (.word n) = ("minus" : PySem.Str)) (by show ¬ ("word" : PySem.Str) = _; decide +kernel)]
    simp only [Bool.true_and, Bool.false_and, Bool.false_eq_true, if_false, Bool.and_eq_true, decide_eq_true_iff]
    show _ = RS.ret (opD (if n < 12 ∧ c ∈ sgnL then some (K.word (n + 1), lv) else stB lv c)) h
    show (if n < 12 ∧ c ∈ sgnL then _ else _) = _
    split <;> rfl
  | int n =>
    rw [decide_eq_false (show ¬ kN (.int n) ∈ (["item", "first"] : List PySem.Str) by show ¬ ("int" : PySem.Str) ∈ _; decide +kernel)] at kin
    refine (seq_nx (if_skip kin)).trans ?_
    rw [sw, si, sm, v_spE]
    rw [decide_eq_false (p := kN (.int n) = ("word" : PySem.Str)) (by show ¬ ("int" : PySem.Str) = _; decide +kernel), decide_eq_true (p := kN (.int n) = ("int" : PySem.Str)) rfl, decide_eq_false (p := kN (.int n) = ("minus" : PySem.Str)) (by show ¬ ("int" : PySem.Str) = _; decide +kernel)]
    simp only [Bool.true_and, Bool.false_and, Bool.false_eq_true, if_false, Bool.and_eq_true, decide_eq_true_iff]
    show _ = RS.ret (opD (if n < 4000 ∧ c ∈ digL then some (K.int (n + 1), lv) else stB lv c)) h
    show (if n < 4000 ∧ c ∈ digL then _ else _) = _
    split <;> rfl
  | minus =>
    rw [decide_eq_false (show ¬ kN .minus ∈ (["item", "first"] : List PySem.Str) by decide +kernel)] at kin
    refine (seq_nx (if_skip kin)).trans ?_
    rw [sw, si, sm, v_spE]
    rw [decide_eq_false (p := kN .minus = ("word" : PySem.Str)) (by decide +kernel), decide_eq_false (p := kN .minus = ("int" : PySem.Str)) (by decide +kernel), decide_eq_true (p := kN .minus = ("minus" : PySem.Str)) rfl]
    simp only [Bool.true_and, Bool.false_and, Bool.false_eq_true, if_false, Bool.and_eq_true, decide_eq_true_iff]
    show _ = RS.ret (opD (if c ∈ d9L then some (K.int 1, lv) else stB lv c)) h
    split <;> rfl
  | whole =>
    rw [decide_eq_false (show ¬ kN .whole ∈ (["item", "first"] : List PySem.Str) by decide +kernel)] at kin
    refine (seq_nx (if_skip kin)).trans ?_
    rw [sw, si, sm, v_spE]
    rw [decide_eq_false (p := kN .whole = ("word" : PySem.Str)) (by decide +kernel), decide_eq_false (p := kN .whole = ("int" : PySem.Str)) (by decide +kernel), decide_eq_false (p := kN .whole = ("minus" : PySem.Str)) (by decide +kernel)]
    rfl
end
end G75
namespace G75
open PySem L2 Vi
theorem rangeD_s (p : Int) (n : Nat) : rangeD p (n + 1) = .int p :: rangeD (p + 1) n := by
  unfold rangeD
  rw [List.range_succ_eq_map, List.map_cons, List.map_map]
  refine congr (congrArg List.cons ?_) ?_
  · show D.int (p + ((0 : Nat) : Int)) = _
    rw [show p + ((0 : Nat) : Int) = p by omega]
  · refine List.map_congr_left fun i _ => ?_
    show D.int (p + ((i + 1 : Nat) : Int)) = D.int (p + 1 + (i : Int))
    rw [show p + ((i + 1 : Nat) : Int) = p + 1 + (i : Int) by omega]
theorem at_sign {z : List Nat} {p c : Nat} {r : List Nat} (e : z.drop p = c :: r) (hl : z.length ≤ 100000) (h : Hc) : fIx (.d (.str (cS z))) (.d (.int (p : Nat))) h = .ok (.d (.str (cS [c]))) h := by
  have hp : p < z.length := by
    have := congrArg List.length e
    rw [List.length_drop, List.length_cons] at this
    omega
  refine fIx_str (cS z) p c h ?_ (by rw [show (cS z).cps.size = z.length from SX.S_len z]; exact hl)
  show atI z (p : Int) = some c
  unfold atI ixN
  rw [if_pos (by omega), if_pos (by omega)]
  show z[((p : Int)).toNat]? = _
  rw [Int.toNat_natCast, List.getElem?_eq_getElem hp]
  have : z.drop p = z[p] :: z.drop (p + 1) := List.drop_eq_getElem_cons hp
  rw [e] at this
  rw [(List.cons.inj this).1]
def plB : MS := (mSeq (mSet 1 (mA1 (fCallN 2 F__law_p10_step []) (maCons (mVar 1) (maCons (m2 fIx (mVar 0) (mVar 2)) maNil)))) (mIfS (asB (m2 (fIsN false) (mVar 1) (mC .non))) (mRet (mVar 2)) mSkip))
def plF : MS := (mSeq (mIfS (tOrM (asB (m2 fGt (m2 fIx (mVar 1) (mC (.int 2))) (mC (.int 0)))) (asB (m2 (fIn false) (m2 fIx (mVar 1) (mC (.int 0))) (mA1 (fLst false) (maCons (mC (.str "item")) (maCons (mC (.str "first")) maNil)))))) (mRet (mA1 fLen (maCons (mVar 0) maNil))) mSkip) (mRet (mC .non)))
theorem place_parts : m__law_p10_place = (mSeq (mSet 1 (mA1 fTup (maCons (mC (.str "item")) (maCons (mC (.int 0)) (maCons (mC (.int 0)) maNil))))) (mSeq (mForR (gtN 2) (maCons (mA1 fLen (maCons (mVar 0) maNil)) maNil) plB) plF)) := rfl
abbrev envQ (z : List Nat) (d : D) (kv : Option Sl) : Vi.Env := [some (.d (.str (cS z))), some (.d d), kv]
theorem stI_inv {lv c : Nat} {k' : K} {lv' : Nat} (e : stI lv c = some (k', lv')) : k' = .first → 0 < lv' := by
  unfold stI at e
  split at e
  · cases e; intro _; omega
  · split at e
    · cases e; intro q; cases q
    · split at e
      · cases e; intro q; cases q
      · split at e
        · cases e; intro q; cases q
        · split at e
          · cases e; intro q; cases q
          · cases e
theorem stB_inv {lv c : Nat} {k' : K} {lv' : Nat} (e : stB lv c = some (k', lv')) : k' = .first → 0 < lv' := by
  unfold stB at e
  split at e
  · cases e; intro q; cases q
  · split at e
    · cases e; intro q; cases q
    · cases e
theorem stp_inv {k : K} {lv c : Nat} {k' : K} {lv' : Nat} (e : stp k lv c = some (k', lv')) : k' = .first → 0 < lv' := by
  cases k with
  | item => exact stI_inv e
  | first =>
    have e : (if c = 41 then some (K.whole, lv - 1) else stI lv c) = some (k', lv') := e
    split at e
    · cases e; intro q; cases q
    · exact stI_inv e
  | word n =>
    have e : (if n < 12 ∧ c ∈ sgnL then some (K.word (n + 1), lv) else stB lv c) = some (k', lv') := e
    split at e
    · cases e; intro q; cases q
    · exact stB_inv e
  | int n =>
    have e : (if n < 4000 ∧ c ∈ digL then some (K.int (n + 1), lv) else stB lv c) = some (k', lv') := e
    split at e
    · cases e; intro q; cases q
    · exact stB_inv e
  | minus =>
    have e : (if c ∈ d9L then some (K.int 1, lv) else stB lv c) = some (k', lv') := e
    split at e
    · cases e; intro q; cases q
    · exact stB_inv e
  | whole => exact stB_inv e
section
variable {z : List Nat} {h : Hc}
theorem pl_loop (hl : z.length ≤ 100000) : ∀ (r : List Nat) (p : Nat) (k : K) (lv : Nat) (kv : Option Sl), z.drop p = r → (k = .first → 0 < lv) →
    (∃ q : Nat, forL (gtN 2) plB (rangeD (p : Nat) r.length) (envQ z (stD k lv) kv) h = .ret (.int (q : Nat)) h ∧ out k lv r p = some q) ∨
    ∃ k' lv' kv', forL (gtN 2) plB (rangeD (p : Nat) r.length) (envQ z (stD k lv) kv) h = .nx (envQ z (stD k' lv') kv') h ∧ out k lv r p = if 0 < lv' ∨ open_ k' = true then some (p + r.length) else none
  | [], p, k, lv, kv, e, hk => .inr ⟨k, lv, kv, rfl, rfl⟩
  | c :: r, p, k, lv, kv, e, hk => by
    have e2 : z.drop (p + 1) = r := dr_add (w := [c]) e
    have es := v_step (k := k) (lv := lv) (c := c) (h := h) hk
    have ei : m2 fIx (mVar 0) (mVar 2) (envQ z (stD k lv) (some (.d (.int (p : Nat))))) h = .ok (.d (.str (cS [c]))) h := (m2_of (x := .d (.str (cS z))) (y := .d (.int (p : Nat))) (h1 := h) (h2 := h) rfl rfl).trans (at_sign e hl h)
    have ec : mSet 1 (mA1 (fCallN 2 F__law_p10_step []) (maCons (mVar 1) (maCons (m2 fIx (mVar 0) (mVar 2)) maNil))) (envQ z (stD k lv) (some (.d (.int (p : Nat))))) h = .nx (envQ z (opD (stp k lv c)) (some (.d (.int (p : Nat))))) h := set_d (call2 (x := stD k lv) (h1 := h) rfl ei es)
    rw [List.length_cons, rangeD_s]
    cases hs : stp k lv c with
    | none =>
      rw [hs] at ec
      refine .inl ⟨p, for_ret (env1 := envQ z (stD k lv) (some (.d (.int (p : Nat))))) rfl ?_, out_n hs⟩
      exact (seq_nx ec).trans ((if_t (h1 := h) (asB_of (b := true) rfl)).trans rfl)
    | some kl =>
      obtain ⟨k', lv'⟩ := kl
      rw [hs] at ec
      have eb : plB (envQ z (stD k lv) (some (.d (.int (p : Nat))))) h = .nx (envQ z (stD k' lv') (some (.d (.int (p : Nat))))) h := (seq_nx ec).trans (if_skip (h1 := h) (asB_of (b := false) rfl))
      have ef := for_nx (T := gtN 2) (b := plB) (x := .int (p : Nat)) (r := rangeD ((p : Nat) + 1 : Int) r.length) (env := envQ z (stD k lv) kv) (h := h) (env1 := envQ z (stD k lv) (some (.d (.int (p : Nat))))) rfl eb
      rw [ef, out_c hs, show ((p : Nat) : Int) + 1 = ((p + 1 : Nat) : Int) by omega]
      rcases pl_loop hl r (p + 1) k' lv' (some (.d (.int (p : Nat)))) e2 (stp_inv hs) with ⟨q, f1, f2⟩ | ⟨k2, lv2, kv2, f1, f2⟩
      · exact .inl ⟨q, f1, f2⟩
      · exact .inr ⟨k2, lv2, kv2, f1, by rw [f2, show p + 1 + r.length = p + (r.length + 1) by omega]⟩
theorem k_open (k : K) : nB false (decide (kN k ∈ (["item", "first"] : List PySem.Str))) = .bl (open_ k) := by
  cases k with
  | word n =>
    show nB false (decide (("word" : PySem.Str) ∈ (["item", "first"] : List PySem.Str))) = .bl false
    rw [decide_eq_false (by decide +kernel)]; rfl
  | int n =>
    show nB false (decide (("int" : PySem.Str) ∈ (["item", "first"] : List PySem.Str))) = .bl false
    rw [decide_eq_false (by decide +kernel)]; rfl
  | item => rw [decide_eq_true (by decide +kernel)]; rfl
  | first => rw [decide_eq_true (by decide +kernel)]; rfl
  | minus => rw [decide_eq_false (by decide +kernel)]; rfl
  | whole => rw [decide_eq_false (by decide +kernel)]; rfl
def plD : Option Nat → D
  | none => .non
  | some q => .int (q : Nat)
theorem len_txt (hl : z.length ≤ 100000) (h : Hc) : fLen [.d (.str (cS z))] h = .ok (.d (.int (z.length : Nat))) h := by
  show (if (cS z).length ≤ 100000 then R.ok (Vl.d (.int ((cS z).length : Nat))) h else .stuck) = _
  rw [SX.S_len, if_pos hl]
theorem fin_c (hl : z.length ≤ 100000) (k : K) (lv : Nat) (kv : Option Sl) : plF (envQ z (stD k lv) kv) h = .ret (plD (if 0 < lv ∨ open_ k = true then some z.length else none)) h := by
  have c1 : asB (m2 fGt (m2 fIx (mVar 1) (mC (.int 2))) (mC (.int 0))) (envQ z (stD k lv) kv) h = .ok (decide (0 < lv)) h := by
    have e1 : m2 fIx (mVar 1) (mC (.int 2)) (envQ z (stD k lv) kv) h = .ok (.d (.int (lv : Nat))) h := (m2_of (x := .d (stD k lv)) (y := .d (.int 2)) (h1 := h) (h2 := h) rfl rfl).trans ((fIx_tup _ 2 h).trans (by rw [show atI [D.str (kN k), .int (kC k : Nat), .int (lv : Nat)] 2 = some (.int (lv : Nat)) from by simp [atI, ixN]]))
    refine asB_of ((m2_of (y := .d (.int 0)) (h2 := h) e1 rfl).trans ?_)
    show R.ok (Vl.d (.bl (decide ((0 : Int) < (lv : Int))))) h = _
    refine congrArg (fun b => R.ok (Vl.d (.bl b)) h) ?_
    rw [Bool.eq_iff_iff, decide_eq_true_iff, decide_eq_true_iff]
    omega
  have c2 : asB (m2 (fIn false) (m2 fIx (mVar 1) (mC (.int 0))) (mA1 (fLst false) (maCons (mC (.str "item")) (maCons (mC (.str "first")) maNil)))) (envQ z (stD k lv) kv) h = .ok (open_ k) h := by
    have e1 : m2 fIx (mVar 1) (mC (.int 0)) (envQ z (stD k lv) kv) h = .ok (.d (.str (kN k))) h := (m2_of (x := .d (stD k lv)) (y := .d (.int 0)) (h1 := h) (h2 := h) rfl rfl).trans ((fIx_tup _ 0 h).trans (by rw [show atI [D.str (kN k), .int (kC k : Nat), .int (lv : Nat)] 0 = some (.str (kN k)) from by simp [atI, ixN]]))
    refine asB_of ((m2_of (y := .d (.lst [.str "item", .str "first"])) (h2 := h) e1 rfl).trans ((in_txt (kN k) false h _ ["item", "first"] rfl (fun z e => by cases e)).trans ?_))
    exact congrArg (fun b => R.ok (Vl.d b) h) (k_open k)
  have c3 : tOrM (asB (m2 fGt (m2 fIx (mVar 1) (mC (.int 2))) (mC (.int 0)))) (asB (m2 (fIn false) (m2 fIx (mVar 1) (mC (.int 0))) (mA1 (fLst false) (maCons (mC (.str "item")) (maCons (mC (.str "first")) maNil))))) (envQ z (stD k lv) kv) h = .ok (decide (0 < lv ∨ open_ k = true)) h := by
    by_cases h0 : 0 < lv
    · rw [decide_eq_true h0] at c1
      rw [or_t c1, decide_eq_true (.inl h0)]
    · rw [decide_eq_false h0] at c1
      rw [or_f c1, c2]
      refine congrArg (fun b => R.ok b h) ?_
      rw [Bool.eq_iff_iff, decide_eq_true_iff]
      exact ⟨fun q => .inr q, fun q => q.resolve_left h0⟩
  unfold plF
  by_cases hc : 0 < lv ∨ open_ k = true
  · rw [if_pos hc]
    rw [decide_eq_true hc] at c3
    exact seq_ret ((if_t c3).trans (ret_of ((a1_of (h1 := h) rfl).trans (len_txt hl h))))
  · rw [if_neg hc]
    rw [decide_eq_false hc] at c3
    exact (seq_nx (if_skip c3)).trans rfl
theorem v_place (hl : z.length ≤ 100000) : F__law_p10_place [.str (cS z)] h = .ok (plD (out .item 0 z 0)) h := by
  refine (fnOf_eq 3 1 _ _ _ rfl).trans (congrArg RS.fin (a₂ := .ret (plD (out .item 0 z 0)) h) ?_)
  rw [place_parts]
  refine (seq_nx (env1 := envQ z (stD .item 0) none) (h1 := h) rfl).trans ?_
  have ef : mForR (gtN 2) (maCons (mA1 fLen (maCons (mVar 0) maNil)) maNil) plB (envQ z (stD .item 0) none) h = forL (gtN 2) plB (rangeD ((0 : Nat) : Int) z.length) (envQ z (stD .item 0) none) h := for_r (j := z.length) (h1 := h) (by omega) ((a1_of (h1 := h) rfl).trans (len_txt hl h))
  rcases pl_loop (h := h) hl z 0 .item 0 none rfl (fun q => by cases q) with ⟨q, f1, f2⟩ | ⟨k', lv', kv', f1, f2⟩
  · rw [f2]
    exact seq_ret (ef.trans f1)
  · rw [f2, Nat.zero_add]
    exact (seq_nx (ef.trans f1)).trans (fin_c hl k' lv' kv')
end
end G75
namespace G75
open PySem L2 Vi
theorem repl1 (y : Nat) (w : List Nat) : ∀ l : List Nat, PySem.StrLaws.replL [y] w l = l.flatMap fun c => if c = y then w else [c]
  | [] => PySem.StrLaws.replL_nil
  | c :: r => by
    by_cases h : c = y
    · rw [PySem.StrLaws.replL_hit (by simp) (by rw [h]; rfl), List.flatMap_cons, if_pos h]
      show w ++ PySem.StrLaws.replL [y] w r = _
      rw [repl1 y w r]
    · rw [PySem.StrLaws.replL_miss (by simpa using h), List.flatMap_cons, if_neg h, repl1 y w r]
      rfl
theorem repl_S (y : Nat) (w l : List Nat) : Txt.replace (cS l) (cS [y]) (cS w) = cS (l.flatMap fun c => if c = y then w else [c]) := by
  have e := PySem.StrLaws.replace_list (x := cS l) (y := cS [y]) (z := cS w) (Nat.le_of_eq (SX.S_len [y]).symm)
  have e2 : (Txt.replace (cS l) (cS [y]) (cS w)).cps.toList = l.flatMap fun c => if c = y then w else [c] := e.trans (repl1 y w l)
  rw [← SX.S_tl (Txt.replace (cS l) (cS [y]) (cS w)), e2]
theorem flat_len (y : Nat) (w : List Nat) (hw : w.length = 2) : ∀ l : List Nat, (l.flatMap fun c => if c = y then w else [c]).length ≤ 2 * l.length
  | [] => Nat.le_refl _
  | c :: r => by
    rw [List.flatMap_cons, List.length_append, List.length_cons]
    have := flat_len y w hw r
    split
    · omega
    · rw [List.length_singleton]; omega
theorem v_repl (y : Nat) (w l : List Nat) (xy xw : PySem.Str) (ey : xy = cS [y]) (ew : xw = cS w) (hw : w.length = 2) (hl : l.length ≤ 1000000) (h : Hc) : fRepl xy xw (.d (.str (cS l))) h = .ok (.d (.str (cS (l.flatMap fun c => if c = y then w else [c])))) h := by
  subst ey ew
  show (if (cS l).length + ((cS l).length + 1) * (cS w).length ≤ 16777216 then R.ok (Vl.d (.str (Txt.replace (cS l) (cS [y]) (cS w)))) h else .stuck) = _
  rw [SX.S_len, SX.S_len, hw, if_pos (by omega), repl_S]
def r2 (z : List Nat) : List Nat := (z.flatMap fun c => if c = 40 then [40, 32] else [c]).flatMap fun c => if c = 41 then [32, 41] else [c]
def toks (w z : List Nat) : List (List Nat) := TL.spl [32] 0 w (r2 z)
theorem spl32 (w r : List Nat) : TL.spl [32] 0 w (32 :: r) = w :: TL.spl [32] 0 [] r := by
  rw [TL.spl_hit (by rfl)]
  rfl
theorem splc {c : Nat} (w r : List Nat) (hc : c ≠ 32) : TL.spl [32] 0 w (c :: r) = TL.spl [32] 0 (w ++ [c]) r := by
  have : ¬ TL.pre [32] (c :: r) = true := by
    show ¬ ([c] == [32]) = true
    simpa using hc
  show (if TL.pre [32] (c :: r) = true then _ else _) = _
  rw [if_neg this]
theorem tk_nil (w : List Nat) : toks w [] = [w] := rfl
theorem tk_sp (w r : List Nat) : toks w (32 :: r) = w :: toks [] r := spl32 w (r2 r)
theorem tk_op (w r : List Nat) : toks w (40 :: r) = (w ++ [40]) :: toks [] r := by
  show TL.spl [32] 0 w (40 :: 32 :: r2 r) = _
  rw [splc _ _ (by decide), spl32]
  rfl
theorem tk_cl (w r : List Nat) : toks w (41 :: r) = w :: toks [41] r := by
  show TL.spl [32] 0 w (32 :: 41 :: r2 r) = _
  rw [spl32, splc _ _ (by decide)]
  rfl
theorem tk_ch {c : Nat} (w r : List Nat) (hc : spc c = false) : toks w (c :: r) = toks (w ++ [c]) r := by
  have hc : ¬ (c = 32 ∨ c = 40 ∨ c = 41) := of_decide_eq_false hc
  have e : r2 (c :: r) = c :: r2 r := by
    unfold r2
    rw [List.flatMap_cons, if_neg (by omega), List.flatMap_append, List.flatMap_cons, if_neg (by omega)]
    rfl
  unfold toks
  rw [e, splc _ _ (by omega)]
theorem tk_len : ∀ (z w : List Nat), (toks w z).length ≤ z.length + 1
  | [], w => Nat.le_refl _
  | c :: z, w => by
    have h0 := tk_len z []
    have h1 := tk_len z [41]
    have h2 := tk_len z (w ++ [c])
    rw [List.length_cons]
    by_cases c1 : c = 32
    · rw [c1, tk_sp, List.length_cons]; omega
    · by_cases c2 : c = 40
      · rw [c2, tk_op, List.length_cons]; omega
      · by_cases c3 : c = 41
        · rw [c3, tk_cl, List.length_cons]; omega
        · rw [tk_ch _ _ (decide_eq_false (by omega))]; omega
theorem s_spcl : (" )" : PySem.Str) = cS [32, 41] := by decide +kernel
theorem s_opsp : ("( " : PySem.Str) = cS [40, 32] := by decide +kernel
theorem v_toks {z : List Nat} (hl : z.length ≤ 100000) {env : Vi.Env} {h : Hc} (e0 : mVar 0 env h = .ok (.d (.str (cS z))) h) : mStr1 (fSplit false) (m1 (fRepl ")" " )") (m1 (fRepl "(" "( ") (mVar 0))) (mC (.str " ")) env h = .ok (.d (.lst ((toks [] z).map fun w => .str (cS w)))) h := by
  have l1 := flat_len 40 [40, 32] rfl z
  have l2 := flat_len 41 [32, 41] rfl (z.flatMap fun c => if c = 40 then [40, 32] else [c])
  have e1 : m1 (fRepl "(" "( ") (mVar 0) env h = .ok (.d (.str (cS (z.flatMap fun c => if c = 40 then [40, 32] else [c])))) h := (m1_of e0).trans (v_repl 40 [40, 32] z _ _ s_op s_opsp rfl (by omega) h)
  have e2 : m1 (fRepl ")" " )") (m1 (fRepl "(" "( ") (mVar 0)) env h = .ok (.d (.str (cS (r2 z)))) h := (m1_of e1).trans (v_repl 41 [32, 41] _ _ _ s_cl s_spcl rfl (by omega) h)
  unfold mStr1
  rw [e2, R.bind_ok]
  show (mC (.str " ") env h).bind (fun y h2 => fSplit false (cS (r2 z)) y h2) = _
  rw [show mC (.str " ") env h = .ok (.d (.str " ")) h from rfl, R.bind_ok, s_sp]
  have hr : (r2 z).length ≤ 400000 := by
    show ((z.flatMap fun c => if c = 40 then [40, 32] else [c]).flatMap fun c => if c = 41 then [32, 41] else [c]).length ≤ 400000
    omega
  show (if (cS [32]).length ≠ 0 ∧ (cS (r2 z)).length + 2 ≤ sizeLine then R.ok (Vl.ofL false ((Txt.split (cS (r2 z)) (cS [32])).map D.str)) h else .stuck) = _
  rw [if_pos ⟨by decide, by rw [SX.S_len]; exact Nat.le_trans (Nat.add_le_add_right hr 2) (by decide)⟩, SX.split_S (by decide) (by decide), List.map_map]
  rfl
theorem seen_low {l : List Nat} (h : ∀ c ∈ l, c < 128 ∧ c ≠ 0) : numSeenOf (cS l) = l := by
  have hall : (cS l).cps.all (· < 128) = true := by
    rw [← Array.all_toList, List.all_eq_true]
    intro c hc
    exact decide_eq_true (h c hc).1
  have e : numTextOf (cS l) = l := by
    show (if (cS l).cps.all (· < 128) then (cS l).cps.toList else _) = l
    rw [if_pos hall]
  show (numTextOf (cS l)).takeWhile (· != 0) = l
  rw [e]
  clear e hall
  induction l with
  | nil => rfl
  | cons c r ih =>
    have hc := (h c (List.mem_cons_self ..)).2
    rw [List.takeWhile_cons, if_pos (by simp; omega), ih fun x hx => h x (List.mem_cons_of_mem _ hx)]
theorem int_neg {l : List Nat} (h : ∀ c ∈ l, c ∈ digL) (h1 : l ≠ []) (h2 : l.length ≤ 4200) (H : Hc) : fIntB [.d (.str (cS (45 :: l)))] H = .ok (.d (.int (-((PySem.NumText.digitsVal l : Nat) : Int)))) H := by
  have hl : (cS (45 :: l)).length = l.length + 1 := SX.S_len (45 :: l)
  have e := PySem.intText_neg (x := cS (45 :: l)) (cs := l) rfl (fun c hc => dig_rng' c (h c hc)) h1 (by rw [hl]; omega)
  have hs : (numSeenOf (cS (45 :: l))).length = l.length + 1 := by
    rw [seen_low, List.length_cons]
    intro c hc
    rcases List.mem_cons.mp hc with rfl | hc
    · exact ⟨by decide, by decide⟩
    · have := dig_rng' c (h c hc)
      omega
  show (match PySem.intText? (cS (45 :: l)) with
    | some n => if (cS (45 :: l)).length ≤ 640 then R.ok (Vl.d (.int n)) H else if 640 < (numSeenOf (cS (45 :: l))).length ∧ (cS (45 :: l)).length ≤ 16777216 then .ok (.d (.int n)) H else .stuck
    | none => .stuck) = _
  rw [e]
  dsimp only
  by_cases hk : (cS (45 :: l)).length ≤ 640
  · rw [if_pos hk]
  · rw [if_neg hk, if_pos ⟨by rw [hs]; omega, by omega⟩]
end G75
namespace G75
open PySem L2 Vi
structure Sk (b : Nat) (cs : List Nat) (st : List (List D)) (h : Hc) : Prop where
  out : h[b]? = some (.lst (cs.reverse.map D.ref))
  frs : Frs h cs st
  nd : (b :: cs).Nodup
def rdL : ME := (m2 fIx (mVar 1) (m2 fSub (mA1 fLen (maCons (mVar 1) maNil)) (mC (.int 1))))
def rdA (e : ME) : MS := mDrop (mMetM lmAppend rdL (maCons e maNil))
section
variable {b c : Nat} {cs : List Nat} {st : List (List D)} {top : List D} {h : Hc} {env : Vi.Env}
theorem Sk.nb (s : Sk b cs st h) : b ∉ cs := (List.nodup_cons.mp s.nd).1
theorem Sk.push (s : Sk b cs st h) : Sk b (h.length :: cs) ([] :: st) ((h ++ [Cell.lst []]).set b (Cell.lst (cs.reverse.map D.ref ++ [D.ref h.length]))) := by
  have hb := get_lt s.out
  refine ⟨?_, ⟨?_, Frs.set s.frs.app s.nb⟩, ?_⟩
  · rw [List.getElem?_set_self (by rw [List.length_append]; omega), List.reverse_cons, List.map_append]
    rfl
  · rw [List.getElem?_set_ne (by omega), List.getElem?_append_right (Nat.le_refl _), Nat.sub_self]
    rfl
  · have hc := s.frs.lt
    have nd := s.nd
    simp only [List.nodup_cons, List.mem_cons, not_or] at nd ⊢
    exact ⟨⟨by omega, nd.1⟩, fun m => by have := hc _ m; omega, nd.2⟩
theorem Sk.add (s : Sk b (c :: cs) (top :: st) h) (d : D) : Sk b (c :: cs) ((top ++ [d]) :: st) (h.set c (Cell.lst (top ++ [d]))) := by
  have nd := s.nd
  simp only [List.nodup_cons, List.mem_cons, not_or] at nd
  refine ⟨?_, ⟨?_, ?_⟩, s.nd⟩
  · rw [List.getElem?_set_ne (fun e => nd.1.1 e.symm)]; exact s.out
  · rw [List.getElem?_set_self (get_lt s.frs.1)]
  · exact s.frs.2.set nd.2.1
theorem Sk.drop (s : Sk b (c :: cs) (top :: st) h) : Sk b cs st (h.set b (Cell.lst (cs.reverse.map D.ref))) := by
  have nd := s.nd
  simp only [List.nodup_cons, List.mem_cons, not_or] at nd
  refine ⟨?_, ?_, ?_⟩
  · rw [List.getElem?_set_self (get_lt s.out)]
  · exact s.frs.2.set nd.1.2
  · simp only [List.nodup_cons, List.mem_cons, not_or]
    exact ⟨nd.1.2, nd.2.2⟩
theorem Sk.last (s : Sk b (c :: cs) (top :: st) h) (e0 : mVar 1 env h = .ok (.d (.ref b)) h) : rdL env h = .ok (.d (.ref c)) h := by
  have e := s.out
  have hl : ((c :: cs).reverse.map D.ref).length = cs.length + 1 := by rw [List.length_map, List.length_reverse, List.length_cons]
  have el : mA1 fLen (maCons (mVar 1) maNil) env h = .ok (.d (.int ((cs.length + 1 : Nat) : Int))) h := by
    refine (a1_of e0).trans ?_
    show (match lst? h (.d (.ref b)) with
      | some ys => R.ok (Vl.d (.int ys.length)) h
      | none => _) = _
    rw [lst_ref e]
    show R.ok (Vl.d (.int (((c :: cs).reverse.map D.ref).length : Nat))) h = _
    rw [hl]
  have em : m2 fSub (mA1 fLen (maCons (mVar 1) maNil)) (mC (.int 1)) env h = .ok (.d (.int (cs.length : Nat))) h := by
    refine (m2_of (y := .d (.int 1)) (h2 := h) el rfl).trans ?_
    show R.ok (Vl.d (.int (((cs.length + 1 : Nat) : Int) - 1))) h = _
    rw [show ((cs.length + 1 : Nat) : Int) - 1 = ((cs.length : Nat) : Int) by omega]
  refine (m2_of (F := fIx) e0 em).trans ?_
  rw [fIx_ref b (cs.length : Nat) h _ e]
  have : atI ((c :: cs).reverse.map D.ref) ((cs.length : Nat) : Int) = some (.ref c) := by
    unfold atI ixN
    rw [if_pos (by omega), if_pos (by rw [hl]; omega)]
    show ((c :: cs).reverse.map D.ref)[(((cs.length : Nat)) : Int).toNat]? = _
    rw [Int.toNat_natCast, List.reverse_cons, List.map_append, List.getElem?_append_right (by rw [List.length_map, List.length_reverse]; exact Nat.le_refl _), List.length_map, List.length_reverse, Nat.sub_self]
    rfl
  rw [this]
theorem Sk.app1 (s : Sk b (c :: cs) (top :: st) h) (e0 : mVar 1 env h = .ok (.d (.ref b)) h) {e : ME} {d : D} (e1 : e env h = .ok (.d d) h) (hl : top.length < 100000) : rdA e env h = .nx env (h.set c (Cell.lst (top ++ [d]))) := by
  unfold rdA mDrop mMetM
  rw [s.last e0, R.bind_ok]
  have hc := s.frs.1
  have e2 : isLc h (.d (.ref c)) = some c := by
    show (match h[c]? with
      | some (.lst _) => some c
      | _ => none) = _
    rw [hc]
  rw [e2]
  dsimp only
  rw [ma_cons e1 ma_nil, R.bind_ok]
  have e3 : fMet lmAppend c [.d d] h = .ok (.d .non) (h.set c (Cell.lst (top ++ [d]))) := by
    unfold fMet
    rw [show datas [Vl.d d] = some [d] from rfl, hc]
    dsimp only
    rw [show lmAppend top [d] = some (top ++ [d], D.non) from if_pos hl]
  rw [e3]
  rfl
theorem Sk.app0 (s : Sk b cs st h) (e0 : mVar 1 env h = .ok (.d (.ref b)) h) (hl : cs.length < 100000) :
    mDrop (mMetM lmAppend (mVar 1) (maCons (mA1 fLstC maNil) maNil)) env h = .nx env ((h ++ [Cell.lst []]).set b (Cell.lst (cs.reverse.map D.ref ++ [D.ref h.length]))) := by
  unfold mDrop mMetM
  rw [e0, R.bind_ok]
  have hc := s.out
  have e2 : isLc h (.d (.ref b)) = some b := by
    show (match h[b]? with
      | some (.lst _) => some b
      | _ => none) = _
    rw [hc]
  rw [e2]
  dsimp only
  rw [ma_cons (d := .d (.ref h.length)) (h1 := h ++ [Cell.lst []]) rfl ma_nil, R.bind_ok]
  have e3 : fMet lmAppend b [.d (.ref h.length)] (h ++ [Cell.lst []]) = .ok (.d .non) ((h ++ [Cell.lst []]).set b (Cell.lst (cs.reverse.map D.ref ++ [D.ref h.length]))) := by
    unfold fMet
    rw [show datas [Vl.d (D.ref h.length)] = some [D.ref h.length] from rfl, List.getElem?_append_left (get_lt hc), hc]
    dsimp only
    rw [show lmAppend (cs.reverse.map D.ref) [D.ref h.length] = some (cs.reverse.map D.ref ++ [D.ref h.length], D.non) from if_pos (by rw [List.length_map, List.length_reverse]; exact hl)]
  rw [e3]
  rfl
theorem Sk.pop1 (s : Sk b (c :: cs) (top :: st) h) (e0 : mVar 1 env h = .ok (.d (.ref b)) h) : mA1 fTuple (maCons (mMetM lmPop (mVar 1) maNil) maNil) env h = .ok (.d (.tup top)) (h.set b (Cell.lst (cs.reverse.map D.ref))) := by
  have hc := s.out
  have e1 : mMetM lmPop (mVar 1) maNil env h = .ok (.d (.ref c)) (h.set b (Cell.lst (cs.reverse.map D.ref))) := by
    unfold mMetM
    rw [e0, R.bind_ok]
    have e2 : isLc h (.d (.ref b)) = some b := by
      show (match h[b]? with
        | some (.lst _) => some b
        | _ => none) = _
      rw [hc]
    rw [e2]
    dsimp only
    rw [ma_nil, R.bind_ok]
    unfold fMet
    rw [show datas [] = some [] from rfl, hc]
    have e3 : lmPop ((c :: cs).reverse.map D.ref) [] = some (cs.reverse.map D.ref, D.ref c) := by
      rw [List.reverse_cons, List.map_append]
      show (((cs.reverse.map D.ref ++ [D.ref c])[(cs.reverse.map D.ref ++ [D.ref c]).length - 1]?).map fun d => ((cs.reverse.map D.ref ++ [D.ref c]).dropLast, d)) = _
      rw [List.length_append, List.length_singleton, Nat.add_sub_cancel, List.getElem?_append_right (Nat.le_refl _), Nat.sub_self, List.dropLast_concat]
      rfl
    dsimp only
    rw [e3]
  refine (a1_of e1).trans ?_
  have s1 : (h.set b (Cell.lst (cs.reverse.map D.ref)))[c]? = some (.lst top) := by
    rw [List.getElem?_set_ne (fun e : b = c => s.nb (e ▸ List.mem_cons_self ..))]
    exact s.frs.1
  show (match lst? (h.set b (Cell.lst (cs.reverse.map D.ref))) (.d (.ref c)) with
    | some ys => R.ok (Vl.d (.tup ys)) _
    | none => _) = _
  rw [lst_ref s1]
end
def rdP : MS := (mDrop (mMetM lmAppend (mVar 1) (maCons (mA1 fLstC maNil) maNil)))
def rdC : MS := mSeq (mSet 3 (mA1 fTuple (maCons (mMetM lmPop (mVar 1) maNil) maNil))) (rdA (mVar 3))
def rdS : MB := (asB (m2 (fIn false) (mVar 2) (mA1 (fLst false) (maCons (mC (.str "yes")) (maCons (mC (.str "no")) (maCons (mC (.str "none")) maNil))))))
def rdN : MB := (tAndM (asB (m2 (fEq true) (mVar 2) (mC (.str "")))) (asB (m2 (fIn false) (m2 fIx (mVar 2) (mC (.int 0))) (mC (.str "-0123456789")))))
def rdW : MB := (asB (m2 (fEq true) (mVar 2) (mC (.str ""))))
def rdB : MS := (mIfS (asB (m2 (fEq false) (mVar 2) (mC (.str "(")))) rdP (mIfS (asB (m2 (fEq false) (mVar 2) (mC (.str ")")))) rdC (mIfS (asB (m2 (fEq false) (mVar 2) (mC (.str "-")))) (rdA (mC (.str ""))) (mIfS rdS (rdA (mA1 (fCallN 1 F__law_p10_special []) (maCons (mVar 2) maNil))) (mIfS rdN (rdA (mA1 fIntB (maCons (mVar 2) maNil))) (mIfS rdW (rdA (mVar 2)) mSkip))))))
theorem read_parts : m__law_p10_read = (mSeq (mSet 1 (mA1 fLstC (maCons (mA1 fLstC maNil) maNil))) (mSeq (mForL (gtN 2) (mStr1 (fSplit false) (m1 (fRepl ")" " )") (m1 (fRepl "(" "( ") (mVar 0))) (mC (.str " "))) rdB) (mRet (m2 fIx (m2 fIx (mVar 1) (mC (.int 0))) (mC (.int 0)))))) := rfl
abbrev envT (t : D) (b : Nat) (w : Option Sl) (x : Option Sl) : Vi.Env := [some (.d t), some (.d (.ref b)), w, x]
abbrev wS (w : List Nat) : Option Sl := some (.d (.str (cS w)))
section
variable {t : D} {b : Nat} {w : List Nat} {x : Option Sl} {h : Hc}
theorem c_wd (y : PySem.Str) (l : List Nat) (ey : y = cS l) : asB (m2 (fEq false) (mVar 2) (mC (.str y))) (envT t b (wS w) x) h = .ok (decide (w = l)) h := by
  refine asB_of ((m2_of (x := .d (.str (cS w))) (y := .d (.str y)) (h1 := h) (h2 := h) rfl rfl).trans ((eq_txt false _ _ h).trans ?_))
  rw [ey, cS_dec]
  rfl
theorem c_wn : rdW (envT t b (wS w) x) h = .ok (!decide (w = [])) h := by
  refine asB_of ((m2_of (x := .d (.str (cS w))) (y := .d (.str "")) (h1 := h) (h2 := h) rfl rfl).trans ((eq_txt true _ _ h).trans ?_))
  rw [s_e, cS_dec]
  rfl
theorem c_ws : rdS (envT t b (wS w) x) h = .ok (decide (w = cYes ∨ w = cNo ∨ w = cNone)) h := by
  refine asB_of ((m2_of (x := .d (.str (cS w))) (y := .d (.lst [.str "yes", .str "no", .str "none"])) (h1 := h) (h2 := h) rfl rfl).trans ((in_txt (cS w) false h _ ["yes", "no", "none"] rfl (fun z e => by cases e)).trans ?_))
  refine congrArg (fun b => R.ok (Vl.d (.bl b)) h) ?_
  show decide (cS w ∈ (["yes", "no", "none"] : List PySem.Str)) = _
  rw [Bool.eq_iff_iff, decide_eq_true_iff, decide_eq_true_iff, s_yes, s_no, s_none]
  simp only [List.mem_cons, List.not_mem_nil, or_false]
  exact ⟨fun q => by rcases q with q | q | q; exact .inl (cS_inj q); exact .inr (.inl (cS_inj q)); exact .inr (.inr (cS_inj q)), fun q => by rcases q with q | q | q; exact .inl (by rw [q]); exact .inr (.inl (by rw [q])); exact .inr (.inr (by rw [q]))⟩
theorem c_wi {c : Nat} {s : List Nat} (hl : s.length ≤ 50000) : rdN (envT t b (wS (c :: s)) x) h = .ok (decide (c ∈ (Str.ofString "-0123456789").cps.toList)) h := by
  unfold rdN
  refine (and_tt (h1 := h) (c_wn.trans (congrArg (fun b => R.ok b h) (by rw [decide_eq_false (by simp)]; rfl)))).trans ?_
  have ei : m2 fIx (mVar 2) (mC (.int 0)) (envT t b (wS (c :: s)) x) h = .ok (.d (.str (cS [c]))) h := (m2_of (x := .d (.str (cS (c :: s)))) (y := .d (.int 0)) (h1 := h) (h2 := h) rfl rfl).trans (at_sign (z := c :: s) (p := 0) (c := c) (r := s) rfl (by rw [List.length_cons]; omega) h)
  refine asB_of ((m2_of (y := .d (.str "-0123456789")) (h2 := h) ei rfl).trans ?_)
  show R.ok (Vl.d (nB false (hasSub "-0123456789" (cS ([c] : List Nat))))) h = _
  rw [sub1]
  rfl
theorem v_special {w : List Nat} (hw : w = cYes ∨ w = cNo ∨ w = cNone) (h : Hc) : F__law_p10_special [.str (cS w)] h = .ok (wordV w) h := by
  rcases hw with rfl | rfl | rfl
  · rw [wordV_yes, ← s_yes]; rfl
  · rw [wordV_no, ← s_no]; rfl
  · rw [wordV_none, ← s_none]; rfl
theorem dig_pm : ∀ c ∈ digL, c ∈ (Str.ofString "-0123456789").cps.toList := by decide +kernel
theorem let_pm : ∀ c ∈ letL, c ∉ (Str.ofString "-0123456789").cps.toList := by decide +kernel
theorem hd_ne {w : List Nat} {c : Nat} {s : List Nat} (e : w = c :: s) (l : List Nat) (hc : ∀ a r, l = a :: r → c ≠ a) : w ≠ l := by
  rintro rfl
  exact hc c s e rfl
theorem rdA_up {w : List Nat} {e : ME} {d : D} {cs : List Nat} {top : List D} {st : List (List D)} (s : Sk b cs (top :: st) h) (e1 : e (envT t b (wS w) x) h = .ok (.d d) h) (hl : top.length < 100000) : ∃ h', rdA e (envT t b (wS w) x) h = .nx (envT t b (wS w) x) h' ∧ Sk b cs ((top ++ [d]) :: st) h' := by
  cases cs with
  | nil => exact absurd s.frs id
  | cons c cs => exact ⟨_, s.app1 rfl e1 hl, s.add d⟩
theorem rd_step {st st' : List (List D)} {cs : List Nat} (a : Ac w st st') (s : Sk b cs st h) (hc : cs.length < 100000) (ht : ∀ x ∈ st, x.length < 100000) :
    ∃ cs' x' h', rdB (envT t b (wS w) x) h = .nx (envT t b (wS w) x') h' ∧ Sk b cs' st' h' ∧ cs'.length ≤ cs.length + 1 := by
  have i1 := c_wd (t := t) (b := b) (w := w) (x := x) (h := h) "(" [40] s_op
  have i2 := c_wd (t := t) (b := b) (w := w) (x := x) (h := h) ")" [41] s_cl
  have i3 := c_wd (t := t) (b := b) (w := w) (x := x) (h := h) "-" [45] s_min
  have i4 := c_ws (t := t) (b := b) (w := w) (x := x) (h := h)
  have i6 := c_wn (t := t) (b := b) (w := w) (x := x) (h := h)
  unfold rdB
  cases a with
  | skip =>
    rw [decide_eq_false (by decide)] at i1 i2 i3 i4
    have i5 : rdN (envT t b (wS []) x) h = .ok false h := and_ff (h1 := h) (c_wn.trans rfl)
    refine ⟨cs, x, h, (if_f i1).trans ((if_f i2).trans ((if_f i3).trans ((if_f i4).trans ((if_f i5).trans ((if_skip (i6.trans rfl))))))), s, by omega⟩
  | push =>
    rw [decide_eq_true rfl] at i1
    exact ⟨_, x, _, (if_t i1).trans (s.app0 rfl hc), s.push, by rw [List.length_cons]; omega⟩
  | close y z st =>
    rw [decide_eq_false (by decide)] at i1
    rw [decide_eq_true rfl] at i2
    match cs, s with
    | c2 :: c :: cs, s =>
      have s1 := s.drop
      refine ⟨c :: cs, some (.d (.tup y)), _, (if_f i1).trans ((if_t i2).trans ((seq_nx (env1 := envT t b (wS [41]) (some (.d (.tup y)))) (set_d (s.pop1 rfl))).trans (s1.app1 (e := mVar 3) rfl rfl (ht z (by simp))))), s1.add _, by rw [List.length_cons, List.length_cons, List.length_cons]; omega⟩
    | [c2], s => exact absurd s.frs.2 id
    | [], s => exact absurd s.frs id
  | add w d y st wv =>
    have hy := ht y (List.mem_cons_self ..)
    cases wv with
    | emp =>
      rw [decide_eq_false (by decide)] at i1 i2
      rw [decide_eq_true rfl] at i3
      obtain ⟨h', e1, s1⟩ := rdA_up (t := t) (x := x) (w := [45]) (e := mC (.str "")) (d := .str (cS [])) s (by rw [s_e]; rfl) hy
      exact ⟨cs, x, h', (if_f i1).trans ((if_f i2).trans ((if_t i3).trans e1)), s1, by omega⟩
    | wrd c r hc1 hs hn =>
      have n := sgn_no c (let_sgn c hc1)
      rw [decide_eq_false (hd_ne rfl _ fun a r q => by cases q; exact n.2.1)] at i1
      rw [decide_eq_false (hd_ne rfl _ fun a r q => by cases q; exact n.2.2.1)] at i2
      rw [decide_eq_false (hd_ne rfl _ fun a r q => by cases q; exact n.2.2.2)] at i3
      by_cases hw : c :: r = cYes ∨ c :: r = cNo ∨ c :: r = cNone
      · rw [decide_eq_true hw] at i4
        obtain ⟨h', e1, s1⟩ := rdA_up (t := t) (x := x) (w := c :: r) (e := mA1 (fCallN 1 F__law_p10_special []) (maCons (mVar 2) maNil)) (d := wordV (c :: r)) s (call1 (h1 := h) rfl (v_special hw h)) hy
        exact ⟨cs, x, h', (if_f i1).trans ((if_f i2).trans ((if_f i3).trans ((if_t i4).trans e1))), s1, by omega⟩
      · rw [decide_eq_false hw] at i4
        have i5 := c_wi (t := t) (b := b) (c := c) (s := r) (x := x) (h := h) (by rw [List.length_cons] at hn; omega)
        rw [decide_eq_false (let_pm c hc1)] at i5
        have i7 : rdW (envT t b (wS (c :: r)) x) h = .ok true h := i6.trans (congrArg (fun b => R.ok b h) (by rw [decide_eq_false (by simp)]; rfl))
        have ew : wordV (c :: r) = .str (cS (c :: r)) := by
          have n1 : c :: r ≠ cYes := fun q => hw (.inl q)
          have n2 : c :: r ≠ cNo := fun q => hw (.inr (.inl q))
          have n3 : c :: r ≠ cNone := fun q => hw (.inr (.inr q))
          exact wordV_w ⟨by rw [List.length_cons]; omega, hn, fun a q => by cases q; exact hc1, hs, n1, n2, n3⟩
        rw [ew]
        obtain ⟨h', e1, s1⟩ := rdA_up (t := t) (x := x) (w := c :: r) (e := mVar 2) (d := .str (cS (c :: r))) s rfl hy
        exact ⟨cs, x, h', (if_f i1).trans ((if_f i2).trans ((if_f i3).trans ((if_f i4).trans ((if_f i5).trans ((if_t i7).trans e1))))), s1, by omega⟩
    | zero =>
      rw [decide_eq_false (by decide)] at i1 i2 i3 i4
      have i5 := c_wi (t := t) (b := b) (c := 48) (s := []) (x := x) (h := h) (by decide)
      rw [decide_eq_true (by decide +kernel)] at i5
      obtain ⟨h', e1, s1⟩ := rdA_up (t := t) (x := x) (w := [48]) (e := mA1 fIntB (maCons (mVar 2) maNil)) (d := .int 0) s ((a1_of (h1 := h) rfl).trans ((int_digs (l := [48]) (by decide +kernel) (by decide) (by decide) h).trans rfl)) hy
      exact ⟨cs, x, h', (if_f i1).trans ((if_f i2).trans ((if_f i3).trans ((if_f i4).trans ((if_t i5).trans e1)))), s1, by omega⟩
    | pos w hd al ln =>
      obtain ⟨c, r, rfl, hcd, h0⟩ := hd
      have n := sgn_no c (dig_sgn c hcd)
      have rg := dig_rng' c hcd
      rw [decide_eq_false (hd_ne rfl _ fun a r q => by cases q; exact n.2.1)] at i1
      rw [decide_eq_false (hd_ne rfl _ fun a r q => by cases q; exact n.2.2.1)] at i2
      rw [decide_eq_false (hd_ne rfl _ fun a r q => by cases q; exact n.2.2.2)] at i3
      rw [decide_eq_false (fun q => by
        rcases q with q | q | q
        · have := (List.cons.inj q).1; omega
        · have := (List.cons.inj q).1; omega
        · have := (List.cons.inj q).1; omega)] at i4
      have i5 := c_wi (t := t) (b := b) (c := c) (s := r) (x := x) (h := h) (by rw [List.length_cons] at ln; omega)
      rw [decide_eq_true (dig_pm c hcd)] at i5
      obtain ⟨h', e1, s1⟩ := rdA_up (t := t) (x := x) (w := c :: r) (e := mA1 fIntB (maCons (mVar 2) maNil)) (d := .int (PySem.NumText.digitsVal (c :: r) : Nat)) s ((a1_of (h1 := h) rfl).trans (int_digs al (by simp) (by omega) h)) hy
      exact ⟨cs, x, h', (if_f i1).trans ((if_f i2).trans ((if_f i3).trans ((if_f i4).trans ((if_t i5).trans e1)))), s1, by omega⟩
    | neg w hd al ln =>
      have hne : w ≠ [] := by obtain ⟨c, r, rfl, _⟩ := hd; simp
      rw [decide_eq_false (hd_ne rfl _ fun a r q => by cases q; decide)] at i1
      rw [decide_eq_false (hd_ne rfl _ fun a r q => by cases q; decide)] at i2
      rw [decide_eq_false (fun q => hne (List.cons.inj q).2)] at i3
      rw [decide_eq_false (fun q => by
        rcases q with q | q | q
        · have := (List.cons.inj q).1; omega
        · have := (List.cons.inj q).1; omega
        · have := (List.cons.inj q).1; omega)] at i4
      have i5 := c_wi (t := t) (b := b) (c := 45) (s := w) (x := x) (h := h) (by omega)
      rw [decide_eq_true (by decide +kernel)] at i5
      obtain ⟨h', e1, s1⟩ := rdA_up (t := t) (x := x) (w := 45 :: w) (e := mA1 fIntB (maCons (mVar 2) maNil)) (d := .int (-((PySem.NumText.digitsVal w : Nat) : Int))) s ((a1_of (h1 := h) rfl).trans (int_neg al hne (by omega) h)) hy
      exact ⟨cs, x, h', (if_f i1).trans ((if_f i2).trans ((if_f i3).trans ((if_f i4).trans ((if_t i5).trans e1)))), s1, by omega⟩
end
end G75
namespace G75
open PySem L2 Vi
theorem Ac.sz {w : List Nat} {st st' : List (List D)} (a : Ac w st st') {n : Nat} (hn : ∀ x ∈ st, x.length ≤ n) : ∀ x ∈ st', x.length ≤ n + 1 := by
  cases a with
  | skip => exact fun x hx => Nat.le_succ_of_le (hn x hx)
  | push =>
    intro x hx
    rcases List.mem_cons.mp hx with rfl | hx
    · exact Nat.zero_le _
    · exact Nat.le_succ_of_le (hn x hx)
  | close y z st =>
    intro x hx
    rcases List.mem_cons.mp hx with rfl | hx
    · have := hn z (List.mem_cons_of_mem _ (List.mem_cons_self ..))
      rw [List.length_append, List.length_singleton]; omega
    · exact Nat.le_succ_of_le (hn x (List.mem_cons_of_mem _ (List.mem_cons_of_mem _ hx)))
  | add w d y st wv =>
    intro x hx
    rcases List.mem_cons.mp hx with rfl | hx
    · have := hn y (List.mem_cons_self ..)
      rw [List.length_append, List.length_singleton]; omega
    · exact Nat.le_succ_of_le (hn x (List.mem_cons_of_mem _ hx))
section
variable {t : D} {b : Nat}
theorem rd_one {w : List Nat} {st st' f : List (List D)} (a : Ac w st st') {ws : List (List Nat)} {n : Nat}
    (ih : ∀ (cs : List Nat) (wv x : Option Sl) (h : Hc) (n : Nat), Sk b cs st' h → cs.length + ws.length ≤ 99000 → (∀ x ∈ st', x.length ≤ n) → n + ws.length ≤ 99000 → ∃ cs' wv' x' h', forL (gtN 2) rdB (ws.map fun w => D.str (cS w)) (envT t b wv x) h = .nx (envT t b wv' x') h' ∧ Sk b cs' f h') :
    ∀ (cs : List Nat) (wv x : Option Sl) (h : Hc) (n : Nat), Sk b cs st h → cs.length + (w :: ws).length ≤ 99000 → (∀ x ∈ st, x.length ≤ n) → n + (w :: ws).length ≤ 99000 → ∃ cs' wv' x' h', forL (gtN 2) rdB ((w :: ws).map fun w => D.str (cS w)) (envT t b wv x) h = .nx (envT t b wv' x') h' ∧ Sk b cs' f h' := by
  intro cs wv x h n s hc hn hw
  rw [List.length_cons] at hc hw
  obtain ⟨cs1, x1, h1, e1, s1, l1⟩ := rd_step (t := t) (x := x) a s (by omega) (fun y hy => by have := hn y hy; omega)
  obtain ⟨cs2, wv2, x2, h2, e2, s2⟩ := ih cs1 (wS w) x1 h1 (n + 1) s1 (by omega) (a.sz hn) (by omega)
  exact ⟨cs2, wv2, x2, h2, (for_nx (env1 := envT t b (wS w) x) rfl e1).trans e2, s2⟩
theorem rd_loop {w : List Nat} {st : List (List D)} {z : List Nat} {f : List (List D)} (r : Rd w st z f) : ∀ (cs : List Nat) (wv x : Option Sl) (h : Hc) (n : Nat), Sk b cs st h → cs.length + (toks w z).length ≤ 99000 → (∀ x ∈ st, x.length ≤ n) → n + (toks w z).length ≤ 99000 → ∃ cs' wv' x' h', forL (gtN 2) rdB ((toks w z).map fun w => D.str (cS w)) (envT t b wv x) h = .nx (envT t b wv' x') h' ∧ Sk b cs' f h' := by
  induction r with
  | nil w st st' a =>
    rw [tk_nil]
    exact rd_one (ws := []) (n := 0) a fun cs wv x h n s _ _ _ => ⟨cs, wv, x, h, rfl, s⟩
  | sp w st st' r f a _ ih =>
    rw [tk_sp]
    exact rd_one (n := 0) a ih
  | cl w st st' r f a _ ih =>
    rw [tk_cl]
    exact rd_one (n := 0) a ih
  | op st r f _ ih =>
    rw [tk_op]
    exact rd_one (w := [40]) (n := 0) (.push st) ih
  | ch w st c r f hc _ ih =>
    rw [tk_ch _ _ hc]
    exact ih
end
theorem v_pread {z : List Nat} {x : List D} {d : D} (hl : z.length ≤ 90000) (r : Rd [] [[]] z [x]) (hx : x[0]? = some d) (h : Hc) : ∃ h', F__law_p10_read [.str (cS z)] h = .ok d h' := by
  have e0 : mSet 1 (mA1 fLstC (maCons (mA1 fLstC maNil) maNil)) (mkEnv 4 [.str (cS z)]) h = .nx (envT (.str (cS z)) (h ++ [Cell.lst []]).length none none) (h ++ [Cell.lst []] ++ [Cell.lst [.ref h.length]]) := rfl
  have s0 : Sk (h ++ [Cell.lst []]).length [h.length] [[]] (h ++ [Cell.lst []] ++ [Cell.lst [.ref h.length]]) := by
    refine ⟨?_, ⟨?_, trivial⟩, ?_⟩
    · rw [List.getElem?_append_right (Nat.le_refl _), Nat.sub_self]
      rfl
    · rw [List.getElem?_append_left (by simp), List.getElem?_append_right (Nat.le_refl _), Nat.sub_self]
      rfl
    · simp
  generalize (h ++ [Cell.lst []]).length = b at *
  generalize h ++ [Cell.lst []] ++ [Cell.lst [.ref h.length]] = h0 at *
  have tl := tk_len z []
  obtain ⟨cs', wv, x', h', e1, s1⟩ := rd_loop (t := .str (cS z)) (b := b) r [h.length] none none h0 0 s0 (by rw [List.length_singleton]; omega) (fun y hy => by rw [List.mem_singleton.mp hy]; exact Nat.le_refl _) (by omega)
  have e2 : mForL (gtN 2) (mStr1 (fSplit false) (m1 (fRepl ")" " )") (m1 (fRepl "(" "( ") (mVar 0))) (mC (.str " "))) rdB (envT (.str (cS z)) b none none) h0 = .nx (envT (.str (cS z)) b wv x') h' := by
    unfold mForL
    rw [v_toks (by omega) rfl, R.thenS_ok]
    exact e1
  match cs', s1 with
  | [c], s1 =>
    refine ⟨h', (fnOf_eq 4 1 _ _ _ rfl).trans (congrArg RS.fin (a₂ := .ret d h') ?_)⟩
    rw [read_parts]
    refine (seq_nx e0).trans ((seq_nx e2).trans (ret_of ?_))
    have g1 : m2 fIx (mVar 1) (mC (.int 0)) (envT (.str (cS z)) b wv x') h' = .ok (.d (.ref c)) h' := by
      refine (m2_of (x := .d (.ref b)) (y := .d (.int 0)) (h1 := h') (h2 := h') rfl rfl).trans ?_
      exact (fIx_ref b 0 h' _ s1.out).trans rfl
    refine (m2_of (y := .d (.int 0)) (h2 := h') g1 rfl).trans ?_
    refine (fIx_ref c 0 h' _ s1.frs.1).trans ?_
    rw [show atI x 0 = some d from ?_]
    cases x with
    | nil => cases hx
    | cons y x =>
      have hx : some y = some d := hx
      cases hx
      simp [atI, ixN]
  | [], s1 => exact absurd s1.frs id
  | c :: c2 :: cs, s1 => exact absurd s1.frs.2 id
def rfM : MS := (mSeq (mIfS (tOrM (asB (mIsX g0 xsB (.own 1) 2)) (tOrM (asB (mIsX g0 xsB (.own 3) 2)) (asB (mIsX g0 xsB (.own 4) 2)))) (mRet (mC (.bl false))) mSkip) (mRet (mAnd (mIsX g0 xsB (.own 0) 2) (mAnd (mA1 (fCallN 1 F__law_is_int []) (maCons (mXf xsB xnB "place" 2) maNil)) (m2 (fEq false) (mXf xsB xnB "place" 2) (mVar 1))))))
abbrev envX (z : List Nat) (q : Nat) : Vi.Env := [some (.d (.str (cS z))), some (.d (.int (q : Nat))), some (.xc 2 [("class_name", .str "BadText"), ("place", .int (q : Nat))])]
theorem rf_ms (z : List Nat) (q : Nat) (h : Hc) : rfM (envX z q) h = .ret (.bl true) h := by
  have c1 : ∀ t, (t = .own 1 ∨ t = .own 3 ∨ t = .own 4) → asB (mIsX g0 xsB t 2) (envX z q) h = .ok false h := fun t ht => by
    rcases ht with rfl | rfl | rfl <;> exact asB_of rfl
  have c0 : mIsX g0 xsB (.own 0) 2 (envX z q) h = .ok (.d (.bl true)) h := rfl
  have cx : mXf xsB xnB "place" 2 (envX z q) h = .ok (.d (.int (q : Nat))) h := rfl
  have ci : mA1 (fCallN 1 F__law_is_int []) (maCons (mXf xsB xnB "place" 2) maNil) (envX z q) h = .ok (.d (.bl true)) h := call1 (h1 := h) cx rfl
  unfold rfM
  refine (seq_nx (env1 := envX z q) (h1 := h) (if_skip ((or_f (c1 _ (.inl rfl))).trans ((or_f (c1 _ (.inr (.inl rfl)))).trans (c1 _ (.inr (.inr rfl))))))).trans ?_
  refine ret_of ((and_t c0).trans ((and_t ci).trans ((m2_of (y := .d (.int (q : Nat))) (h2 := h) cx rfl).trans ((eqI false _ _ h).trans ?_))))
  rw [decide_eq_true rfl]
  rfl
theorem v_refused {z : List Nat} {q : Nat} {h h' : Hc} (e : F_read_plain [.str (cS z)] h = .exc (bad q) h') : F__law_p10_refused [.str (cS z), .int (q : Nat)] h = .ok (.bl true) h' := by
  refine (fnOf_eq 3 2 _ _ _ rfl).trans (congrArg RS.fin (a₂ := .ret (.bl true) h') (seq_ret ?_))
  have em : mDrop (mA1 (fCallN 1 F_read_plain []) (maCons (mVar 0) maNil)) (mkEnv 3 [.str (cS z), .int (q : Nat)]) h = .exc (mkEnv 3 [.str (cS z), .int (q : Nat)]) (bad q) h' := by
    refine drop_ex ?_
    rw [mA1_eq, ma_cons (d := .d (.str (cS z))) (h1 := h) rfl ma_nil]
    show (fCallN 1 F_read_plain [] [.d (.str (cS z))] h) = _
    show ((F_read_plain [.str (cS z)] h).bind fun d h' => R.ok (Vl.d d) h') = _
    rw [e]
    rfl
  show mTryF 2 cat_BadText _ rfM _ h = _
  unfold mTryF
  rw [em]
  dsimp only
  rw [show cat_BadText 2 = some true from rfl]
  dsimp only
  unfold mTry
  rw [em]
  dsimp only
  rw [show cat_BadText 2 = some true from rfl]
  dsimp only
  refine (if_pos rfl).trans ?_
  show unX 2 (rfM (envX z q) h') = _
  rw [rf_ms]
  rfl
end G75
namespace G75
open PySem L2 Vi
theorem mul_mem (l : Array Nat) : ∀ (k : Nat) (acc : Array Nat), ∀ c ∈ ((List.replicate k l).foldl (· ++ ·) acc).toList, c ∈ acc.toList ∨ c ∈ l.toList
  | 0, acc, c, h => .inl h
  | k + 1, acc, c, h => by
    rw [List.replicate_succ, List.foldl_cons] at h
    rcases mul_mem l k (acc ++ l) c h with h | h
    · rw [Array.toList_append, List.mem_append] at h
      exact h
    · exact .inr h
theorem mul_S (l : List Nat) (k : Nat) : ∃ m, Txt.mul (cS l) (k : Int) = cS m ∧ (∀ c ∈ m, c ∈ l) ∧ m.length = l.length * k := by
  refine ⟨(Txt.mul (cS l) (k : Int)).cps.toList, (SX.S_tl _).symm, ?_, ?_⟩
  · intro c hc
    unfold Txt.mul at hc
    split at hc
    · cases hc
    · split at hc
      · exact hc
      · rcases mul_mem _ _ _ c hc with h | h
        · cases h
        · exact h
  · have e := PyProof.Rows.len_mul (cS l) (k : Int)
    rw [if_neg (by rw [decide_eq_true_iff]; omega), SX.S_len] at e
    show (Txt.mul (cS l) (k : Int)).length = l.length * k
    exact_mod_cast e
theorem mulS (l : List Nat) (k : Nat) (hk : k ≤ 10000) (hl : l.length ≤ 1000) (h : Hc) : ∃ m, fMulS (.d (.str (cS l))) (.d (.int (k : Nat))) h = .ok (.d (.str (cS m))) h ∧ (∀ c ∈ m, c ∈ l) ∧ m.length = l.length * k := by
  obtain ⟨m, e1, e2, e3⟩ := mul_S l k
  refine ⟨m, ?_, e2, e3⟩
  show (if 0 ≤ (k : Int) ∧ (k : Int) ≤ 10000 ∧ (cS l).length ≤ 1000 then R.ok (Vl.d (.str (Txt.mul (cS l) k))) h else .stuck) = _
  rw [if_pos ⟨by omega, by omega, by rw [SX.S_len]; exact hl⟩, e1]
theorem addS (a b : List Nat) (h : Hc) (hl : a.length + b.length ≤ 100000) : fAdd false (.d (.str (cS a))) (.d (.str (cS b))) h = .ok (.d (.str (cS (a ++ b)))) h := by
  have e : (cS a).cps.size + (cS b).cps.size ≤ 100000 := by
    show (cS a).length + (cS b).length ≤ 100000
    rw [SX.S_len, SX.S_len]
    exact hl
  rw [fAdd_str false _ _ h e, SX.S_cat]
section
variable {t : Hc} {m : Int} {h : Hc} {env : Vi.Env} {i : Nat}
theorem dw {many : Int} (g : BG t m h) (hm : m < 2 ^ 60) (h0 : 1 ≤ many) (h1 : many < 2 ^ 140) (e0 : mVar i env h = .ok (.d (.ref 0)) h) :
    ∃ r h', mA1 (fCallN 2 F__law_draw []) (maCons (mVar i) (maCons (mC (.int many)) maNil)) env h = .ok (.d (.int r)) h' ∧ BG t (m + 1) h' ∧ 0 ≤ r ∧ r < many := by
  obtain ⟨r, h', e, g2, r0, r1⟩ := draw2 g hm h0 h1
  exact ⟨r, h', call2 (x := .ref 0) (y := .int many) (h1 := h) e0 rfl e, g2, r0, r1⟩
theorem mk_num {x d k : Nat} {a b c : ME} {h1 h2 h3 : Hc} (hx : x < 10 ^ 3) (hd : d < 10) (hl : (dg x).length + k ≤ 4000) (ea : a env h = .ok (.d (.int (x : Nat))) h1) (eb : b env h1 = .ok (.d (.int (d : Nat))) h2) (ec : c env h2 = .ok (.d (.int (k : Nat))) h3) :
    ∃ n : Nat, mA1 fIntB (maCons (m2 (fAdd false) (mA1 fStrB (maCons a maNil)) (m2 fMulS (mA1 fStrB (maCons b maNil)) c)) maNil) env h = .ok (.d (.int (n : Nat))) h3 ∧ n < 10 ^ 4000 := by
  have lx := dg_len (k := 3) (by decide) hx
  have ld := dg_len (k := 1) (by decide) (show d < 10 ^ 1 by omega)
  have big : ∀ y : Nat, y < 10 ^ 3 → (Int.natAbs (y : Int)) < 10 ^ 4300 := fun y hy => by
    rw [Int.natAbs_natCast]
    exact Nat.lt_of_lt_of_le hy (Nat.pow_le_pow_right (by decide) (by decide))
  have dgc : ∀ y : Nat, cInt (y : Int) = dg y := fun y => by
    unfold cInt
    rw [if_neg (by omega), Int.natAbs_natCast]
  have e1 : mA1 fStrB (maCons a maNil) env h = .ok (.d (.str (cS (dg x)))) h1 := by
    rw [a1_of ea, strB_int (big x hx), dgc]
  have e2 : mA1 fStrB (maCons b maNil) env h1 = .ok (.d (.str (cS (dg d)))) h2 := by
    rw [a1_of eb, strB_int (big d (by omega)), dgc]
  obtain ⟨w, e3, w1, w2⟩ := mulS (dg d) k (by omega) (by omega) h3
  have e4 := (m2_of e2 ec).trans e3
  have lw : w.length ≤ k := by
    rw [w2]
    exact Nat.le_trans (Nat.mul_le_mul_right k ld) (by omega)
  have e5 := (m2_of e1 e4).trans (addS (dg x) w h3 (by omega))
  have hd : ∀ c ∈ dg x ++ w, c ∈ digL := fun c hc => by
    rcases List.mem_append.mp hc with hc | hc
    · exact dg_dig x c hc
    · exact dg_dig d c (w1 c hc)
  have ln : (dg x ++ w).length ≤ 4000 := by rw [List.length_append]; omega
  refine ⟨PySem.NumText.digitsVal (dg x ++ w), (a1_of e5).trans (int_digs hd (fun e => dg_ne x (List.append_eq_nil_iff.mp e).1) (by omega) h3), ?_⟩
  exact Nat.lt_of_lt_of_le (digs_lt hd) (Nat.pow_le_pow_right (by decide) ln)
theorem p40 : (10 : Int) ^ 40 < 2 ^ 140 ∧ (10 : Int) ^ 40 ≥ 1 := by decide +kernel
theorem v_number (g : BG t m h) (hm : m < 2 ^ 59) : ∃ (z : Int) (h' : Hc), F__law_p10_number [.ref 0] h = .ok (.int z) h' ∧ BG t (m + 11) h' ∧ z.natAbs < 10 ^ 4000 := by
  have sm : ∀ y : Nat, y < 10 ^ 40 → y < 10 ^ 4000 := fun y hy => Nat.lt_of_lt_of_le hy (Nat.pow_le_pow_right (by decide) (by decide))
  have go : ∀ (out : RS), m__law_p10_number (mkEnv 3 [.ref 0]) h = out → F__law_p10_number [.ref 0] h = out.fin := fun out ho => (fnOf_eq 3 1 _ _ _ rfl).trans (congrArg RS.fin ho)
  have e0 : ∀ (v1 v2 : Option Sl) (h : Hc), mVar 0 [some (.d (.ref 0)), v1, v2] h = .ok (.d (.ref 0)) h := fun _ _ _ => rfl
  obtain ⟨way, h1, q1, g1, a1, a2⟩ := dw (env := mkEnv 3 [.ref 0]) (i := 0) (many := 8) g (by omega) (by omega) (by omega) rfl
  obtain ⟨z0, h2, q2, g2, b1, b2⟩ := dw (env := [some (.d (.ref 0)), some (.d (.int way)), none]) (i := 0) (many := 12) g1 (by omega) (by omega) (by omega) rfl
  have w1 : ∃ (z : Int) (h3 : Hc), (mIfS (asB (m2 (fEq false) (mVar 1) (mC (.int 1)))) (mSet 2 (mA1 (fCallN 2 F__law_draw []) (maCons (mVar 0) (maCons (m2 fPow (mC (.int 10)) (mC (.int 40))) maNil)))) mSkip) [some (.d (.ref 0)), some (.d (.int way)), some (.d (.int z0))] h2 = .nx [some (.d (.ref 0)), some (.d (.int way)), some (.d (.int z))] h3 ∧ BG t (m + 3) h3 ∧ z.natAbs < 10 ^ 4000 := by
    by_cases hw : way = 1
    · obtain ⟨r, h3, e, g3, r0, r1⟩ := draw2 (many := 10 ^ 40) g2 (by omega) p40.2 p40.1
      refine ⟨r, h3, ?_, g3.up (by omega), sm _ ?_⟩
      · refine Eq.trans (if_t (h1 := h2) (by rw [c_eq rfl, decide_eq_true hw])) ?_
        refine set_d (call2 (x := .ref 0) (y := .int (10 ^ 40)) (h1 := h2) (h2 := h2) rfl ?_ e)
        rfl
      · have : ((r.natAbs : Nat) : Int) < ((10 ^ 40 : Nat) : Int) := by
          rw [show ((r.natAbs : Nat) : Int) = r by omega]
          exact r1
        exact_mod_cast this
    · exact ⟨z0, h2, if_skip (by rw [c_eq rfl, decide_eq_false hw]), g2.up (by omega), sm _ (Nat.lt_of_lt_of_le (show z0.natAbs < 12 by omega) (by decide))⟩
  obtain ⟨z1, h3, q3, g3, c1⟩ := w1
  have w2 : ∃ (z : Int) (h4 : Hc), (mIfS (asB (m2 (fEq false) (mVar 1) (mC (.int 2)))) (mSet 2 (mA1 fIntB (maCons (m2 (fAdd false) (mA1 fStrB (maCons (m2 (fAdd false) (mC (.int 1)) (mA1 (fCallN 2 F__law_draw []) (maCons (mVar 0) (maCons (mC (.int 999)) maNil)))) maNil)) (m2 fMulS (mA1 fStrB (maCons (mA1 (fCallN 2 F__law_draw []) (maCons (mVar 0) (maCons (mC (.int 10)) maNil))) maNil)) (mA1 (fCallN 2 F__law_draw []) (maCons (mVar 0) (maCons (mC (.int 40)) maNil))))) maNil))) mSkip) [some (.d (.ref 0)), some (.d (.int way)), some (.d (.int z1))] h3 = .nx [some (.d (.ref 0)), some (.d (.int way)), some (.d (.int z))] h4 ∧ BG t (m + 6) h4 ∧ z.natAbs < 10 ^ 4000 := by
    by_cases hw : way = 2
    · obtain ⟨r, k1, e1, j1, r0, r1⟩ := dw (env := [some (.d (.ref 0)), some (.d (.int way)), some (.d (.int z1))]) (i := 0) (many := 999) g3 (by omega) (by omega) (by omega) rfl
      obtain ⟨s, k2, e2, j2, s0, s1⟩ := dw (env := [some (.d (.ref 0)), some (.d (.int way)), some (.d (.int z1))]) (i := 0) (many := 10) j1 (by omega) (by omega) (by omega) rfl
      obtain ⟨u, k3, e3, j3, u0, u1⟩ := dw (env := [some (.d (.ref 0)), some (.d (.int way)), some (.d (.int z1))]) (i := 0) (many := 40) j2 (by omega) (by omega) (by omega) rfl
      have f1 : m2 (fAdd false) (mC (.int 1)) (mA1 (fCallN 2 F__law_draw []) (maCons (mVar 0) (maCons (mC (.int 999)) maNil))) [some (.d (.ref 0)), some (.d (.int way)), some (.d (.int z1))] h3 = .ok (.d (.int ((r.natAbs + 1 : Nat) : Int))) k1 := by
        refine (m2_of (x := .d (.int 1)) (h1 := h3) rfl e1).trans ?_
        show R.ok (Vl.d (.int (1 + r))) k1 = _
        rw [show ((r.natAbs + 1 : Nat) : Int) = 1 + r by omega]
      have lx := dg_len (m := r.natAbs + 1) (k := 3) (by decide) (by omega)
      obtain ⟨n, e4, hn⟩ := mk_num (x := r.natAbs + 1) (d := s.natAbs) (k := u.natAbs) (by omega) (by omega) (by omega) f1 (by rw [show ((s.natAbs : Nat) : Int) = s by omega]; exact e2) (by rw [show ((u.natAbs : Nat) : Int) = u by omega]; exact e3)
      exact ⟨n, k3, (if_t (h1 := h3) (by rw [c_eq rfl, decide_eq_true hw])).trans (set_d e4), j3.up (by omega), by rw [Int.natAbs_natCast]; exact hn⟩
    · exact ⟨z1, h3, if_skip (by rw [c_eq rfl, decide_eq_false hw]), g3.up (by omega), c1⟩
  obtain ⟨z2, h4, q4, g4, c2⟩ := w2
  have w3 : ∃ (z : Int) (h5 : Hc), (mIfS (tAndM (asB (m2 (fEq false) (mVar 1) (mC (.int 3)))) (asB (m2 (fEq false) (mA1 (fCallN 2 F__law_draw []) (maCons (mVar 0) (maCons (mC (.int 6)) maNil))) (mC (.int 5))))) (mSet 2 (mA1 fIntB (maCons (m2 (fAdd false) (mA1 fStrB (maCons (m2 (fAdd false) (mC (.int 1)) (mA1 (fCallN 2 F__law_draw []) (maCons (mVar 0) (maCons (mC (.int 9)) maNil)))) maNil)) (m2 fMulS (mA1 fStrB (maCons (mA1 (fCallN 2 F__law_draw []) (maCons (mVar 0) (maCons (mC (.int 10)) maNil))) maNil)) (mA1 (fCallN 2 F__law_pick []) (maCons (mVar 0) (maCons (mA1 (fLst false) (maCons (mC (.int 399)) (maCons (mC (.int 400)) (maCons (mC (.int 3998)) (maCons (mC (.int 3999)) maNil))))) maNil))))) maNil))) mSkip) [some (.d (.ref 0)), some (.d (.int way)), some (.d (.int z2))] h4 = .nx [some (.d (.ref 0)), some (.d (.int way)), some (.d (.int z))] h5 ∧ BG t (m + 10) h5 ∧ z.natAbs < 10 ^ 4000 := by
    by_cases hw : way = 3
    · obtain ⟨y, k0, e6, j0, y0, y1⟩ := dw (env := [some (.d (.ref 0)), some (.d (.int way)), some (.d (.int z2))]) (i := 0) (many := 6) g4 (by omega) (by omega) (by omega) rfl
      have ct : (tAndM (asB (m2 (fEq false) (mVar 1) (mC (.int 3)))) (asB (m2 (fEq false) (mA1 (fCallN 2 F__law_draw []) (maCons (mVar 0) (maCons (mC (.int 6)) maNil))) (mC (.int 5))))) [some (.d (.ref 0)), some (.d (.int way)), some (.d (.int z2))] h4 = .ok (decide (y = 5)) k0 := by
        refine (and_tt (h1 := h4) (by rw [c_eq rfl, decide_eq_true hw])).trans ?_
        exact asB_of ((m2_of (y := .d (.int 5)) (h2 := k0) e6 rfl).trans ((eqI false _ _ _).trans rfl))
      by_cases hy : y = 5
      · rw [decide_eq_true hy] at ct
        obtain ⟨r, k1, e1, j1, r0, r1⟩ := dw (env := [some (.d (.ref 0)), some (.d (.int way)), some (.d (.int z2))]) (i := 0) (many := 9) j0 (by omega) (by omega) (by omega) rfl
        obtain ⟨s, k2, e2, j2, s0, s1⟩ := dw (env := [some (.d (.ref 0)), some (.d (.int way)), some (.d (.int z2))]) (i := 0) (many := 10) j1 (by omega) (by omega) (by omega) rfl
        obtain ⟨u, k3, e3, j3, hu⟩ := pick_of (env := [some (.d (.ref 0)), some (.d (.int way)), some (.d (.int z2))]) (i := 0) (h := k2) (h1 := k2) (xs := [D.int 399, .int 400, .int 3998, .int 3999]) (e := mA1 (fLst false) (maCons (mC (.int 399)) (maCons (mC (.int 400)) (maCons (mC (.int 3998)) (maCons (mC (.int 3999)) maNil))))) rfl rfl j2 (by omega) (by decide) (by decide)
        have f1 : m2 (fAdd false) (mC (.int 1)) (mA1 (fCallN 2 F__law_draw []) (maCons (mVar 0) (maCons (mC (.int 9)) maNil))) [some (.d (.ref 0)), some (.d (.int way)), some (.d (.int z2))] k0 = .ok (.d (.int ((r.natAbs + 1 : Nat) : Int))) k1 := by
          refine (m2_of (x := .d (.int 1)) (h1 := k0) rfl e1).trans ?_
          show R.ok (Vl.d (.int (1 + r))) k1 = _
          rw [show ((r.natAbs + 1 : Nat) : Int) = 1 + r by omega]
        have lx := dg_len (m := r.natAbs + 1) (k := 1) (by decide) (by omega)
        have hu2 : ∃ q : Nat, u = .int (q : Int) ∧ q ≤ 3999 := by
          simp only [List.mem_cons, List.not_mem_nil, or_false] at hu
          rcases hu with rfl | rfl | rfl | rfl
          · exact ⟨399, rfl, by decide⟩
          · exact ⟨400, rfl, by decide⟩
          · exact ⟨3998, rfl, by decide⟩
          · exact ⟨3999, rfl, by decide⟩
        obtain ⟨q, rfl, hq⟩ := hu2
        obtain ⟨n, e4, hn⟩ := mk_num (x := r.natAbs + 1) (d := s.natAbs) (k := q) (by omega) (by omega) (by omega) f1 (by rw [show ((s.natAbs : Nat) : Int) = s by omega]; exact e2) e3
        exact ⟨n, k3, (if_t ct).trans (set_d e4), j3.up (by omega), by rw [Int.natAbs_natCast]; exact hn⟩
      · rw [decide_eq_false hy] at ct
        exact ⟨z2, k0, if_skip ct, j0.up (by omega), c2⟩
    · exact ⟨z2, h4, if_skip (and_ff (by rw [c_eq rfl, decide_eq_false hw])), g4.up (by omega), c2⟩
  obtain ⟨z3, h5, q5, g5, c3⟩ := w3
  obtain ⟨y, h6, q6, g6, y0, y1⟩ := dw (env := [some (.d (.ref 0)), some (.d (.int way)), some (.d (.int z3))]) (i := 0) (many := 3) g5 (by omega) (by omega) (by omega) rfl
  have ct : asB (m2 (fEq false) (mA1 (fCallN 2 F__law_draw []) (maCons (mVar 0) (maCons (mC (.int 3)) maNil))) (mC (.int 1))) [some (.d (.ref 0)), some (.d (.int way)), some (.d (.int z3))] h5 = .ok (decide (y = 1)) h6 := asB_of ((m2_of (y := .d (.int 1)) (h2 := h6) q6 rfl).trans ((eqI false _ _ _).trans rfl))
  refine ⟨if y = 1 then -z3 else z3, h6, go (.ret (.int (if y = 1 then -z3 else z3)) h6) ?_, g6.up (by omega), by split <;> omega⟩
  unfold m__law_p10_number
  refine Eq.trans (seq_nx (set_d q1)) ?_
  refine Eq.trans (seq_nx (set_d q2)) ?_
  refine Eq.trans (seq_nx q3) ?_
  refine Eq.trans (seq_nx q4) ?_
  refine Eq.trans (seq_nx q5) ?_
  by_cases hy : y = 1
  · rw [decide_eq_true hy] at ct
    rw [if_pos hy]
    exact seq_ret ((if_t ct).trans rfl)
  · rw [decide_eq_false hy] at ct
    rw [if_neg hy]
    exact (seq_nx (if_skip ct)).trans rfl
end
end G75
namespace G75
open PySem L2 Vi
structure Pw (n : Nat) (w : List Nat) : Prop where
  n : w.length = n
  first : ∀ c, w.head? = some c → c ∈ letL
  all : ∀ c ∈ w, c ∈ sgnL
theorem Pw.one {c : Nat} (h : c ∈ letL) : Pw 1 [c] := ⟨rfl, fun d e => by
  have e : some c = some d := e
  cases e
  exact h, fun d hd => by
  rw [List.mem_singleton.mp hd]
  exact let_sgn c h⟩
theorem Pw.more {n c : Nat} {w : List Nat} (p : Pw n w) (hn : 1 ≤ n) (h : c ∈ sgnL) : Pw (n + 1) (w ++ [c]) := by
  refine ⟨by rw [List.length_append, p.n]; rfl, fun d hd => ?_, fun d hd => ?_⟩
  · cases w with
    | nil => have := p.n; rw [List.length_nil] at this; omega
    | cons x r => exact p.first d hd
  · rcases List.mem_append.mp hd with hd | hd
    · exact p.all d hd
    · rw [List.mem_singleton.mp hd]
      exact h
section
variable {t : Hc} {m : Int} {h : Hc} {env : Vi.Env} {i : Nat}
abbrev envW (sz w kv : Option Sl) : Vi.Env := [some (.d (.ref 0)), some (.d (.str letS)), sz, w, kv]
def wdB : MS := (mSet 3 (m2 (fAdd false) (mVar 3) (m2 fIx (m2 (fAdd false) (mVar 1) (mC (.str "0123456789"))) (mA1 (fCallN 2 F__law_draw []) (maCons (mVar 0) (maCons (mC (.int 36)) maNil))))))
theorem wd_loop {sz : Option Sl} : ∀ (xs : List D) (j : Nat) (m : Int) (w : List Nat) (kv : Option Sl) (h : Hc), BG t m h → m + xs.length < 2 ^ 59 → 1 ≤ j → j + xs.length ≤ 100 → Pw j w →
    ∃ w' kv' h', forL (gtN 4) wdB xs (envW sz (some (.d (.str (cS w)))) kv) h = .nx (envW sz (some (.d (.str (cS w')))) kv') h' ∧ BG t (m + xs.length) h' ∧ Pw (j + xs.length) w'
  | [], j, m, w, kv, h, g, _, _, _, p => ⟨w, kv, h, rfl, by simpa using g, p⟩
  | z :: xs, j, m, w, kv, h, g, hm, hj, hs, p => by
    simp only [List.length_cons] at hm hs ⊢
    obtain ⟨r, h2, e, g2, r1, r2⟩ := dw (env := envW sz (some (.d (.str (cS w)))) (some (.d z))) (i := 0) (many := 36) g (by omega) (by omega) (by omega) rfl
    obtain ⟨c, ec, hc⟩ := atI_get (xs := sgnL) r1 (show r < ((36 : Nat) : Int) from r2)
    obtain ⟨w', kv', h', e4, g4, p4⟩ := wd_loop (sz := sz) xs (j + 1) (m + 1) (w ++ [c]) (some (.d z)) h2 g2 (by omega) (by omega) (by omega) (p.more hj hc)
    refine ⟨w', kv', h', ?_, g4.up (by omega), by rw [show j + (xs.length + 1) = j + 1 + xs.length by omega]; exact p4⟩
    have e1 : m2 (fAdd false) (mVar 1) (mC (.str "0123456789")) (envW sz (some (.d (.str (cS w)))) (some (.d z))) h = .ok (.d (.str sgnS)) h := by
      refine (m2_of (x := .d (.str letS)) (y := .d (.str digS)) (h1 := h) rfl rfl).trans ?_
      rw [fAdd_str false letS digS h cat_n, cat_sgn]
    have e2 := (m2_of e1 e).trans (fIx_str sgnS r c h2 ec (by decide +kernel))
    have e3 := (m2_of (F := fAdd false) (a := mVar 3) (x := .d (.str (cS w))) (h1 := h) rfl e2).trans (addS w [c] h2 (by rw [p.n, List.length_singleton]; omega))
    exact (for_nx (env1 := envW sz (some (.d (.str (cS w)))) (some (.d z))) rfl (set_d e3)).trans e4
abbrev wordsL : List PySem.Str := ["y", "n", "ye", "yess", "yes1", "non", "nones", "no1", "noneyesno", "z9", "a", "none0"]
theorem words_ok : ∀ x ∈ wordsL, (1 ≤ x.cps.toList.length ∧ x.cps.toList.length ≤ 12) ∧ (∀ c ∈ x.cps.toList.head?, c ∈ letL) ∧ ∀ c ∈ x.cps.toList, c ∈ sgnL := by decide +kernel
theorem v_pword (g : BG t m h) (hm : m < 2 ^ 58) : ∃ (w : List Nat) (h' : Hc), F__law_p10_word [.ref 0] h = .ok (.str (cS w)) h' ∧ BG t (m + 20) h' ∧ Wd w := by
  have go : ∀ (out : RS), m__law_p10_word (mkEnv 5 [.ref 0]) h = out → F__law_p10_word [.ref 0] h = out.fin := fun out ho => (fnOf_eq 5 1 _ _ _ rfl).trans (congrArg RS.fin ho)
  obtain ⟨r8, h1, q1, g1, a1, a2⟩ := dw (env := envW none none none) (i := 0) (many := 8) g (by omega) (by omega) (by omega) rfl
  have ql : mA1 (fLst false) (maCons (mC (.int 1)) (maCons (mC (.int 2)) (maCons (mC (.int 3)) (maCons (mC (.int 4)) (maCons (m2 (fAdd false) (mC (.int 5)) (mA1 (fCallN 2 F__law_draw []) (maCons (mVar 0) (maCons (mC (.int 8)) maNil)))) (maCons (mC (.int 12)) maNil)))))) (envW none none none) h = .ok (.d (.lst [.int 1, .int 2, .int 3, .int 4, .int (5 + r8), .int 12])) h1 := by
    refine lst_of (ds := [.int 1, .int 2, .int 3, .int 4, .int (5 + r8), .int 12]) ?_ (by simp)
    exact ma_cons (h1 := h) rfl (ma_cons (h1 := h) rfl (ma_cons (h1 := h) rfl (ma_cons (h1 := h) rfl (ma_cons ((m2_of (F := fAdd false) (a := mC (.int 5)) (x := .d (.int 5)) (h1 := h) rfl q1).trans rfl) (ma_cons (h1 := h1) rfl ma_nil)))))
  obtain ⟨sz, h2, q2, g2, hs⟩ := pick_of (i := 0) (h1 := h1) (env := envW none none none) (h := h) rfl ql g1 (by omega) (by simp) (by simp)
  have hs2 : ∃ k : Nat, sz = .int ((k + 1 : Nat) : Int) ∧ k ≤ 11 := by
    simp only [List.mem_cons, List.not_mem_nil, or_false] at hs
    rcases hs with rfl | rfl | rfl | rfl | rfl | rfl
    · exact ⟨0, rfl, by omega⟩
    · exact ⟨1, rfl, by omega⟩
    · exact ⟨2, rfl, by omega⟩
    · exact ⟨3, rfl, by omega⟩
    · exact ⟨(4 + r8).natAbs, by rw [show (((4 + r8).natAbs + 1 : Nat) : Int) = 5 + r8 by omega], by omega⟩
    · exact ⟨11, rfl, by omega⟩
  obtain ⟨k, rfl, hk⟩ := hs2
  obtain ⟨r, h3, q3, g3, r1, r2⟩ := dw (env := envW (some (.d (.int ((k + 1 : Nat) : Int)))) none none) (i := 0) (many := 26) g2 (by omega) (by omega) (by omega) rfl
  obtain ⟨c, ec, hc⟩ := atI_get (xs := letL) r1 (show r < ((26 : Nat) : Int) from r2)
  have e3 := (m2_of (F := fIx) (a := mVar 1) (x := .d (.str letS)) (h1 := h2) rfl q3).trans (fIx_str letS r c h3 ec (by decide +kernel))
  obtain ⟨w, kv, h4, q4, g4, p4⟩ := wd_loop (t := t) (sz := some (.d (.int ((k + 1 : Nat) : Int)))) (rangeD 0 k) 1 _ [c] none h3 g3 (by rw [rangeD_len]; omega) (by omega) (by rw [rangeD_len]; omega) (Pw.one hc)
  rw [rangeD_len] at g4 p4
  have f4 : mForR (gtN 4) (maCons (m2 fSub (mVar 2) (mC (.int 1))) maNil) wdB (envW (some (.d (.int ((k + 1 : Nat) : Int)))) (some (.d (.str (cS [c])))) none) h3 = .nx (envW (some (.d (.int ((k + 1 : Nat) : Int)))) (some (.d (.str (cS w)))) kv) h4 := by
    refine (for_r (j := k) (h1 := h3) (by omega) ?_).trans q4
    refine (m2_of (F := fSub) (x := .d (.int ((k + 1 : Nat) : Int))) (y := .d (.int 1)) (h1 := h3) (h2 := h3) rfl rfl).trans ?_
    show R.ok (Vl.d (.int (((k + 1 : Nat) : Int) - 1))) h3 = _
    rw [show (((k + 1 : Nat) : Int) - 1) = (k : Int) by omega]
  obtain ⟨y, h5, q5, g5, y0, y1⟩ := dw (env := envW (some (.d (.int ((k + 1 : Nat) : Int)))) (some (.d (.str (cS w)))) kv) (i := 0) (many := 9) g4 (by omega) (by omega) (by omega) rfl
  have c5 : asB (m2 (fEq false) (mA1 (fCallN 2 F__law_draw []) (maCons (mVar 0) (maCons (mC (.int 9)) maNil))) (mC (.int 4))) (envW (some (.d (.int ((k + 1 : Nat) : Int)))) (some (.d (.str (cS w)))) kv) h4 = .ok (decide (y = 4)) h5 := asB_of ((m2_of (y := .d (.int 4)) (h2 := h5) q5 rfl).trans ((eqI false _ _ _).trans rfl))
  have s5 : ∃ (w' : List Nat) (h6 : Hc), (mIfS (asB (m2 (fEq false) (mA1 (fCallN 2 F__law_draw []) (maCons (mVar 0) (maCons (mC (.int 9)) maNil))) (mC (.int 4)))) (mSet 3 (mA1 (fCallN 2 F__law_pick []) (maCons (mVar 0) (maCons (mA1 (fLst false) (maCons (mC (.str "y")) (maCons (mC (.str "n")) (maCons (mC (.str "ye")) (maCons (mC (.str "yess")) (maCons (mC (.str "yes1")) (maCons (mC (.str "non")) (maCons (mC (.str "nones")) (maCons (mC (.str "no1")) (maCons (mC (.str "noneyesno")) (maCons (mC (.str "z9")) (maCons (mC (.str "a")) (maCons (mC (.str "none0")) maNil))))))))))))) maNil)))) mSkip) (envW (some (.d (.int ((k + 1 : Nat) : Int)))) (some (.d (.str (cS w)))) kv) h4 = .nx (envW (some (.d (.int ((k + 1 : Nat) : Int)))) (some (.d (.str (cS w')))) kv) h6 ∧ BG t (m + 17) h6 ∧ (1 ≤ w'.length ∧ w'.length ≤ 12) ∧ (∀ c, w'.head? = some c → c ∈ letL) ∧ ∀ c ∈ w', c ∈ sgnL := by
    by_cases hy : y = 4
    · rw [decide_eq_true hy] at c5
      obtain ⟨x, h6, q6, g6, hx⟩ := pick_of (env := envW (some (.d (.int ((k + 1 : Nat) : Int)))) (some (.d (.str (cS w)))) kv) (i := 0) (h := h5) (h1 := h5) (xs := wordsL.map D.str) (e := mA1 (fLst false) (maCons (mC (.str "y")) (maCons (mC (.str "n")) (maCons (mC (.str "ye")) (maCons (mC (.str "yess")) (maCons (mC (.str "yes1")) (maCons (mC (.str "non")) (maCons (mC (.str "nones")) (maCons (mC (.str "no1")) (maCons (mC (.str "noneyesno")) (maCons (mC (.str "z9")) (maCons (mC (.str "a")) (maCons (mC (.str "none0")) maNil))))))))))))) rfl rfl g5 (by omega) (by simp) (by simp)
      obtain ⟨v, hv, rfl⟩ := List.mem_map.mp hx
      obtain ⟨b1, b2, b3⟩ := words_ok v hv
      refine ⟨v.cps.toList, h6, ?_, g6.up (by omega), b1, fun c hc => b2 c hc, b3⟩
      rw [show cS v.cps.toList = v from SX.S_tl v]
      exact (if_t c5).trans (set_d q6)
    · rw [decide_eq_false hy] at c5
      exact ⟨w, h5, if_skip c5, g5.up (by omega), ⟨by rw [p4.n]; omega, by rw [p4.n]; omega⟩, p4.first, p4.all⟩
  obtain ⟨w', h6, q6, g6, b1, b2, b3⟩ := s5
  have ci : asB (m2 (fIn false) (mVar 3) (mA1 (fLst false) (maCons (mC (.str "yes")) (maCons (mC (.str "no")) (maCons (mC (.str "none")) maNil))))) (envW (some (.d (.int ((k + 1 : Nat) : Int)))) (some (.d (.str (cS w')))) kv) h6 = .ok (decide (cS w' ∈ (["yes", "no", "none"] : List PySem.Str))) h6 := by
    refine asB_of ((m2_of (x := .d (.str (cS w'))) (y := .d (.lst ((["yes", "no", "none"] : List PySem.Str).map D.str))) (h1 := h6) (h2 := h6) rfl rfl).trans ?_)
    exact (in_txt (cS w') false h6 _ (["yes", "no", "none"] : List PySem.Str) rfl (fun z e => by cases e)).trans rfl
  have pre : ∀ out : RS, (mSeq (mIfS (asB (m2 (fIn false) (mVar 3) (mA1 (fLst false) (maCons (mC (.str "yes")) (maCons (mC (.str "no")) (maCons (mC (.str "none")) maNil)))))) (mRet (m2 (fAdd false) (mVar 3) (mC (.str "x")))) mSkip) (mRet (mVar 3))) (envW (some (.d (.int ((k + 1 : Nat) : Int)))) (some (.d (.str (cS w')))) kv) h6 = out → F__law_p10_word [.ref 0] h = out.fin := fun out ho => go out (by
    unfold m__law_p10_word
    refine Eq.trans (seq_nx (env1 := envW none none none) (h1 := h) rfl) ?_
    refine Eq.trans (seq_nx (set_d q2)) ?_
    refine Eq.trans (seq_nx (set_d e3)) ?_
    refine Eq.trans (seq_nx f4) ?_
    exact (seq_nx q6).trans ho)
  by_cases hi : cS w' ∈ (["yes", "no", "none"] : List PySem.Str)
  · rw [decide_eq_true hi] at ci
    have hw : w' = cYes ∨ w' = cNo ∨ w' = cNone := by
      simp only [List.mem_cons, List.not_mem_nil, or_false] at hi
      rcases hi with e | e | e
      · exact .inl (cS_inj (e.trans s_yes))
      · exact .inr (.inl (cS_inj (e.trans s_no)))
      · exact .inr (.inr (cS_inj (e.trans s_none)))
    have sx : ("x" : PySem.Str) = cS [120] := by decide +kernel
    refine ⟨w' ++ [120], h6, pre (.ret (.str (cS (w' ++ [120]))) h6) (seq_ret ((if_t ci).trans (ret_of ?_))), g6.up (by omega), ?_⟩
    · rw [sx]
      exact (m2_of (x := .d (.str (cS w'))) (y := .d (.str (cS [120]))) (h1 := h6) rfl rfl).trans (addS w' [120] h6 (by rw [List.length_singleton]; omega))
    · rcases hw with rfl | rfl | rfl <;> exact ⟨by decide, by decide, by decide +kernel, by decide +kernel, by decide, by decide, by decide⟩
  · rw [decide_eq_false hi] at ci
    refine ⟨w', h6, pre (.ret (.str (cS w')) h6) ((seq_nx (if_skip ci)).trans rfl), g6.up (by omega), b1.1, b1.2, b2, b3, fun e => hi ?_, fun e => hi ?_, fun e => hi ?_⟩
    · rw [e, ← s_yes]; exact List.mem_cons_self ..
    · rw [e, ← s_no]; exact List.mem_cons_of_mem _ (List.mem_cons_self ..)
    · rw [e, ← s_none]; exact List.mem_cons_of_mem _ (List.mem_cons_of_mem _ (List.mem_cons_self ..))
theorem v_atom (g : BG t m h) (hm : m < 2 ^ 57) : ∃ (d : D) (l : List Nat) (h' : Hc), F__law_p10_atom [.ref 0] h = .ok d h' ∧ BG t (m + 22) h' ∧ At l d := by
  have go : ∀ (out : RS), m__law_p10_atom (mkEnv 2 [.ref 0]) h = out → F__law_p10_atom [.ref 0] h = out.fin := fun out ho => (fnOf_eq 2 1 _ _ _ rfl).trans (congrArg RS.fin ho)
  obtain ⟨way, h1, q1, g1, a1, a2⟩ := dw (env := mkEnv 2 [.ref 0]) (i := 0) (many := 9) g (by omega) (by omega) (by omega) rfl
  have c1 : ∀ k h, asB (m2 (fEq false) (mVar 1) (mC (.int k))) [some (.d (.ref 0)), some (.d (.int way))] h = .ok (decide (way = k)) h := fun k h => c_eq rfl
  have c0 : asB (m2 fLt (mVar 1) (mC (.int 3))) [some (.d (.ref 0)), some (.d (.int way))] h1 = .ok (decide (way < 3)) h1 := c_lt rfl
  unfold m__law_p10_atom at go
  by_cases w0 : way < 3
  · rw [decide_eq_true w0] at c0
    obtain ⟨w, h2, e2, g2, hw⟩ := v_pword g1 (by omega)
    exact ⟨.str (cS w), w, h2, go (.ret (.str (cS w)) h2) ((seq_nx (set_d q1)).trans (seq_ret ((if_t c0).trans (ret_of (call1 (h1 := h1) rfl e2))))), g2.up (by omega), .wrd w hw⟩
  rw [decide_eq_false w0] at c0
  by_cases w3 : way = 3
  · exact ⟨.str "", [45], h1, go (.ret (.str "") h1) ((seq_nx (set_d q1)).trans ((seq_nx (if_skip c0)).trans (seq_ret ((if_t ((c1 3 h1).trans (by rw [decide_eq_true w3]))).trans rfl)))), g1.up (by omega), by rw [s_e]; exact .emp⟩
  by_cases w4 : way = 4
  · exact ⟨.non, cNone, h1, go (.ret .non h1) ((seq_nx (set_d q1)).trans ((seq_nx (if_skip c0)).trans ((seq_nx (if_skip ((c1 3 h1).trans (by rw [decide_eq_false w3])))).trans (seq_ret ((if_t ((c1 4 h1).trans (by rw [decide_eq_true w4]))).trans rfl))))), g1.up (by omega), .non⟩
  by_cases w5 : way = 5
  · obtain ⟨y, h2, q2, g2, y0, y1⟩ := dw (env := [some (.d (.ref 0)), some (.d (.int way))]) (i := 0) (many := 2) g1 (by omega) (by omega) (by omega) rfl
    have e2 : m2 (fEq false) (mA1 (fCallN 2 F__law_draw []) (maCons (mVar 0) (maCons (mC (.int 2)) maNil))) (mC (.int 1)) [some (.d (.ref 0)), some (.d (.int way))] h1 = .ok (.d (.bl (decide (y = 1)))) h2 := (m2_of (y := .d (.int 1)) (h2 := h2) q2 rfl).trans ((eqI false _ _ _).trans rfl)
    have at_ : ∃ l, At l (.bl (decide (y = 1))) := by
      by_cases hy : y = 1
      · exact ⟨cYes, by rw [decide_eq_true hy]; exact .yes⟩
      · exact ⟨cNo, by rw [decide_eq_false hy]; exact .no⟩
    obtain ⟨l, hl⟩ := at_
    exact ⟨_, l, h2, go (.ret (.bl (decide (y = 1))) h2) ((seq_nx (set_d q1)).trans ((seq_nx (if_skip c0)).trans ((seq_nx (if_skip ((c1 3 h1).trans (by rw [decide_eq_false w3])))).trans ((seq_nx (if_skip ((c1 4 h1).trans (by rw [decide_eq_false w4])))).trans (seq_ret ((if_t ((c1 5 h1).trans (by rw [decide_eq_true w5]))).trans (ret_of e2))))))), g2.up (by omega), hl⟩
  · obtain ⟨z, h2, e2, g2, hz⟩ := v_number g1 (by omega)
    exact ⟨.int z, cInt z, h2, go (.ret (.int z) h2) ((seq_nx (set_d q1)).trans ((seq_nx (if_skip c0)).trans ((seq_nx (if_skip ((c1 3 h1).trans (by rw [decide_eq_false w3])))).trans ((seq_nx (if_skip ((c1 4 h1).trans (by rw [decide_eq_false w4])))).trans ((seq_nx (if_skip ((c1 5 h1).trans (by rw [decide_eq_false w5])))).trans (ret_of (call1 (h1 := h1) rfl e2))))))), g2.up (by omega), .int z hz⟩
end
end G75
namespace G75
open PySem L2 Vi
section
variable {t : Hc} {m : Int} {h : Hc} {env : Vi.Env} {i : Nat}
def nn : Nat → Nat
  | 0 => 1
  | j + 1 => 2 + 4 * nn j
def cc : Nat → Nat
  | 0 => 24
  | j + 1 => 24 + 5 * cc j
theorem Txs.all {α : Type} {R : Nat → List Nat → D → Prop} {a : Nat} (fl : α → List Nat) (fd : α → D) : ∀ zs : List α, (∀ z ∈ zs, R a (fl z) (fd z)) → Txs R (a * zs.length) (zs.map fl) (zs.map fd)
  | [], _ => trivial
  | z :: zs, h => ⟨a, a * zs.length, h z (List.mem_cons_self ..), Txs.all fl fd zs fun y hy => h y (List.mem_cons_of_mem _ hy), by rw [List.length_cons, Nat.mul_succ]; omega⟩
theorem cc_up : ∀ j, j ≤ 3 → 24 ≤ cc j ∧ cc j ≤ 4000
  | 0, _ => by decide
  | 1, _ => by decide
  | 2, _ => by decide
  | 3, _ => by decide
def Bd (A S : Nat) (l : List Nat) : Prop := l.length ≤ A ∧ sp l ≤ S
theorem Bd.up {A S A' S' : Nat} {l : List Nat} (h : Bd A S l) (ha : A ≤ A') (hs : S ≤ S') : Bd A' S' l := ⟨Nat.le_trans h.1 ha, Nat.le_trans h.2 hs⟩
theorem sp_0 : ∀ l : List Nat, (∀ c ∈ l, c ≠ 32 ∧ c ≠ 41) → sp l = 0
  | [], _ => rfl
  | c :: l, h => by
    have hc := h c (List.mem_cons_self ..)
    show (if c = 32 ∨ c = 41 then 1 else 0) + sp l = 0
    rw [if_neg (by omega), sp_0 l fun x hx => h x (List.mem_cons_of_mem _ hx)]
theorem At.bd {l : List Nat} {d : D} (a : At l d) : Bd 4001 0 l := by
  refine ⟨by have := a.len; omega, ?_⟩
  cases a with
  | wrd _ q => exact Nat.le_of_eq (sp_0 l fun c hc => by have := sgn_no c (q.all c hc); exact ⟨this.1, this.2.2.1⟩)
  | emp => decide
  | non => decide
  | yes => decide
  | no => decide
  | int z q =>
    have dd : ∀ c ∈ dg z.natAbs, c ≠ 32 ∧ c ≠ 41 := fun c hc => by have := dig_rng' c (dg_dig _ c hc); omega
    refine Nat.le_of_eq (sp_0 _ ?_)
    unfold cInt
    split
    · intro c hc
      rcases List.mem_cons.mp hc with rfl | hc
      · decide
      · exact dd c hc
    · exact dd
theorem sp_drop : ∀ l : List Nat, sp (l.drop 1) ≤ sp l
  | [] => Nat.le_refl _
  | c :: l => by
    show sp l ≤ (if c = 32 ∨ c = 41 then 1 else 0) + sp l
    omega
theorem tail_bd {A S : Nat} : ∀ ls : List (List Nat), (∀ l ∈ ls, Bd A S l) → (tailT ls).length ≤ (A + 1) * ls.length ∧ sp (tailT ls) ≤ (S + 1) * ls.length
  | [], _ => ⟨Nat.zero_le _, Nat.zero_le _⟩
  | l :: ls, h => by
    obtain ⟨i1, i2⟩ := tail_bd ls fun x hx => h x (List.mem_cons_of_mem _ hx)
    obtain ⟨h1, h2⟩ := h l (List.mem_cons_self ..)
    rw [tailT_cons, List.length_cons, List.length_append, List.length_cons, Nat.mul_succ, Nat.mul_succ]
    show _ ∧ 1 + sp (l ++ tailT ls) ≤ _
    rw [sp_app]
    omega
theorem par_bd (x : List Nat) : (40 :: (x ++ [41])).length = x.length + 2 ∧ sp (40 :: (x ++ [41])) = sp x + 1 := by
  constructor
  · rw [List.length_cons, List.length_append, List.length_singleton]
  · show 0 + sp (x ++ [41]) = _
    rw [sp_app, Nat.zero_add]
    rfl
theorem tup_bd {A S n : Nat} {ls : List (List Nat)} (h : ∀ l ∈ ls, Bd A S l) (hn : ls.length ≤ n) : Bd ((A + 1) * n + 2) ((S + 1) * n + 1) (40 :: (inT ls ++ [41])) := by
  obtain ⟨i1, i2⟩ := tail_bd ls h
  obtain ⟨p1, p2⟩ := par_bd (inT ls)
  have l1 := inT_len ls
  have l2 : sp (inT ls) ≤ sp (tailT ls) := by rw [← drop_tail]; exact sp_drop _
  have m1 : (A + 1) * ls.length ≤ (A + 1) * n := Nat.mul_le_mul_left _ hn
  have m2 : (S + 1) * ls.length ≤ (S + 1) * n := Nat.mul_le_mul_left _ hn
  exact ⟨by rw [p1]; omega, by rw [p2]; omega⟩
theorem bd1 {A S : Nat} {l : List Nat} (h : Bd A S l) : Bd (A + 7) (S + 3) (40 :: (inT [l] ++ [41])) := by
  obtain ⟨p1, p2⟩ := par_bd (inT [l])
  have e : inT [l] = l := List.append_nil l
  rw [e] at p1 p2 ⊢
  exact ⟨by rw [p1]; have := h.1; omega, by rw [p2]; have := h.2; omega⟩
theorem bd2 {A S : Nat} {l x : List Nat} (h : Bd A S l) (hx : x.length ≤ 4 ∧ sp x ≤ 1) : Bd (A + 7) (S + 3) (40 :: (inT [l, x] ++ [41])) ∧ Bd (A + 7) (S + 3) (40 :: (inT [x, l] ++ [41])) := by
  obtain ⟨p1, p2⟩ := par_bd (inT [l, x])
  obtain ⟨p3, p4⟩ := par_bd (inT [x, l])
  obtain ⟨h1, h2⟩ := h
  have e1 : inT [l, x] = l ++ (32 :: x) := congrArg (fun y => l ++ (32 :: y)) (List.append_nil x)
  have e2 : inT [x, l] = x ++ (32 :: l) := congrArg (fun y => x ++ (32 :: y)) (List.append_nil l)
  rw [e1] at p1 p2 ⊢
  rw [e2] at p3 p4 ⊢
  have q1 : sp (l ++ (32 :: x)) = sp l + (1 + sp x) := sp_app l (32 :: x)
  have q2 : sp (x ++ (32 :: l)) = sp x + (1 + sp l) := sp_app x (32 :: l)
  have r1 : (l ++ (32 :: x)).length = l.length + (x.length + 1) := by rw [List.length_append, List.length_cons]
  have r2 : (x ++ (32 :: l)).length = x.length + (l.length + 1) := by rw [List.length_append, List.length_cons]
  exact ⟨⟨by rw [p1]; omega, by rw [p2]; omega⟩, ⟨by rw [p3]; omega, by rw [p4]; omega⟩⟩
def LL : Nat → Nat
  | 0 => 4001
  | k + 1 => (LL k + 1) * 4 + 2
def SS : Nat → Nat
  | 0 => 0
  | k + 1 => (SS k + 1) * 4 + 1
theorem LL_ge : ∀ k, 4001 ≤ LL k
  | 0 => Nat.le_refl _
  | k + 1 => by
    have := LL_ge k
    show 4001 ≤ (LL k + 1) * 4 + 2
    omega
theorem v_value : ∀ (lev f : Nat) (m : Int) (h : Hc), lev ≤ 3 → lev < f → BG t m h → m + cc lev < 2 ^ 56 → ∃ (d : D) (l : List Nat) (h' : Hc), R__law_p10_value f [.ref 0, .int (lev : Nat)] h = .ok d h' ∧ BG t (m + cc lev) h' ∧ Tx lev (nn lev) l d ∧ Bd (LL lev) (SS lev) l
  | 0, f + 1, m, h, _, _, g, hm => by
    obtain ⟨d, l, h', e, g1, a⟩ := v_atom g (by omega)
    refine ⟨d, l, h', ?_, g1.up (by show m + 22 ≤ m + (24 : Nat); omega), Tx.at a (by decide) 0, a.bd⟩
    rw [R__law_p10_value_s]
    refine (fnOf_eq 3 2 _ _ _ rfl).trans (congrArg RS.fin (a₂ := .ret d h') ?_)
    refine seq_ret ?_
    refine Eq.trans (if_t (h1 := h) (or_t ?_)) (ret_of (call1 (h1 := h) rfl e))
    exact (c_eq (x := ((0 : Nat) : Int)) rfl).trans rfl
  | lev + 1, f + 1, m, h, hl, hf, g, hm => by
    rw [R__law_p10_value_s]
    have e0 : ∀ h, mVar 0 (mkEnv 3 [.ref 0, .int ((lev + 1 : Nat) : Int)]) h = .ok (.d (.ref 0)) h := fun _ => rfl
    have up := cc_up lev (by omega)
    have ccs : (cc (lev + 1) : Nat) = 24 + 5 * cc lev := rfl
    obtain ⟨y, h1, q1, g1, y0, y1⟩ := dw (env := mkEnv 3 [.ref 0, .int ((lev + 1 : Nat) : Int)]) (i := 0) (many := 4) g (by omega) (by omega) (by omega) rfl
    have ct : (tOrM (asB (m2 (fEq false) (mVar 1) (mC (.int 0)))) (asB (m2 (fEq false) (mA1 (fCallN 2 F__law_draw []) (maCons (mVar 0) (maCons (mC (.int 4)) maNil))) (mC (.int 3))))) (mkEnv 3 [.ref 0, .int ((lev + 1 : Nat) : Int)]) h = .ok (decide (y = 3)) h1 := by
      refine (or_f (h1 := h) ((c_eq (x := ((lev + 1 : Nat) : Int)) rfl).trans (by rw [decide_eq_false (by omega)]))).trans ?_
      exact asB_of ((m2_of (y := .d (.int 3)) (h2 := h1) q1 rfl).trans ((eqI false _ _ _).trans rfl))
    by_cases hy : y = 3
    · rw [decide_eq_true hy] at ct
      obtain ⟨d, l, h', e, g2, a⟩ := v_atom g1 (by omega)
      refine ⟨d, l, h', ?_, g2.up (by omega), Tx.at a (by show 1 ≤ 2 + 4 * nn lev; omega) _, a.bd.up (LL_ge _) (Nat.zero_le _)⟩
      refine (fnOf_eq 3 2 _ _ _ rfl).trans (congrArg RS.fin (a₂ := .ret d h') ?_)
      exact seq_ret ((if_t ct).trans (ret_of (call1 (h1 := h1) rfl e)))
    · rw [decide_eq_false hy] at ct
      obtain ⟨j, h2, q2, g2, j0, j1⟩ := dw (env := mkEnv 3 [.ref 0, .int ((lev + 1 : Nat) : Int)]) (i := 0) (many := 5) g1 (by omega) (by omega) (by omega) rfl
      obtain ⟨zs, h3, q3, g3, z1, z2⟩ := comp_bg (t := t) (c := (cc lev : Int)) (M := 2 ^ 56 - (cc lev : Int)) (by omega) (gtN 2) (mA1 (fCallN 2 (R__law_p10_value f) []) (maCons (mVar 0) (maCons (m2 fSub (mVar 1) (mC (.int 1))) maNil))) (fun i : Nat => D.int (0 + (i : Int))) (fun _ (y : List Nat × D) => y.2) (fun _ y => Tx lev (nn lev) y.1 y.2 ∧ Bd (LL lev) (SS lev) y.1) (wipeE (mkEnv 3 [.ref 0, .int ((lev + 1 : Nat) : Int)]) [2]) (List.range j.natAbs) [] (m + 1 + 1) h2 (fun x hx m' h' g' hm' => by
        obtain ⟨d, l, h'', e, g'', tx⟩ := v_value lev f m' h' (by omega) (by omega) g' (by omega)
        refine ⟨_, (l, d), h'', rfl, call2 (x := .ref 0) (y := .int (lev : Nat)) (h1 := h') (h2 := h') rfl ?_ e, g'', tx⟩
        refine (m2_of (F := fSub) (x := .d (.int ((lev + 1 : Nat) : Int))) (y := .d (.int 1)) (h1 := h') (h2 := h') rfl rfl).trans ?_
        show R.ok (Vl.d (.int (((lev + 1 : Nat) : Int) - 1))) h' = _
        rw [show (((lev + 1 : Nat) : Int) - 1) = (lev : Int) by omega]) g2 (by rw [List.length_range]; have : (cc lev : Int) * (j.natAbs : Int) ≤ (cc lev : Int) * 4 := Int.mul_le_mul_of_nonneg_left (by omega) (by omega); omega) (by rw [List.length_range, List.length_nil]; omega)
      have lz : zs.length = j.natAbs := by
        have := congrArg List.length z1
        rwa [List.length_map, List.length_range] at this
      have tt := Txs.all (R := Tx lev) (a := nn lev) (fun z : Nat × (List Nat × D) => z.2.1) (fun z => z.2.2) zs (fun z hz => (z2 z hz).1)
      refine ⟨.tup (zs.map fun z => z.2.2), _, h3, ?_, g3.up ?_, Tx.tup tt ?_, tup_bd (fun l hl => by
        obtain ⟨y, hy, rfl⟩ := List.mem_map.mp hl
        exact (z2 y hy).2) (by rw [List.length_map]; omega)⟩
      · refine (fnOf_eq 3 2 _ _ _ rfl).trans (congrArg RS.fin (a₂ := .ret (.tup (zs.map fun z => z.2.2)) h3) ?_)
        refine Eq.trans (seq_nx (if_skip ct)) ?_
        have ec : mCompR false [2] (gtN 2) mYes (mA1 (fCallN 2 (R__law_p10_value f) []) (maCons (mVar 0) (maCons (m2 fSub (mVar 1) (mC (.int 1))) maNil))) (maCons (mA1 (fCallN 2 F__law_draw []) (maCons (mVar 0) (maCons (mC (.int 5)) maNil))) maNil) (mkEnv 3 [.ref 0, .int ((lev + 1 : Nat) : Int)]) h1 = .ok (.d (.lst (zs.map fun z => z.2.2))) h3 := by
          unfold mCompR
          rw [ma_cons q2 ma_nil, R.bind_ok]
          dsimp only
          rw [if_pos ⟨by omega, by omega⟩]
          rw [List.nil_append] at q3
          rw [show rangeD 0 j.toNat = (List.range j.natAbs).map (fun i : Nat => D.int (0 + (i : Int))) by rw [show j.toNat = j.natAbs by omega]; rfl]
          exact q3
        exact ret_of ((a1_of ec).trans rfl)
      · rw [List.length_range]
        have : (cc lev : Int) * (j.natAbs : Int) ≤ (cc lev : Int) * 4 := Int.mul_le_mul_of_nonneg_left (by omega) (by omega)
        omega
      · show nn lev * zs.length + 2 ≤ 2 + 4 * nn lev
        have : nn lev * zs.length ≤ nn lev * 4 := Nat.mul_le_mul_left _ (by omega)
        omega
theorem i9 {z : Int} (h : z.natAbs < 10) : z.natAbs < 10 ^ 4000 := Nat.lt_of_lt_of_le (show z.natAbs < 10 ^ 1 by omega) (Nat.pow_le_pow_right (by decide) (by decide))
theorem wd_of (x : PySem.Str) (hl : x.cps.toList.length ≤ 4 ∧ sp x.cps.toList ≤ 1) (h : (1 ≤ x.cps.toList.length ∧ x.cps.toList.length ≤ 12) ∧ (∀ c ∈ x.cps.toList.head?, c ∈ letL) ∧ (∀ c ∈ x.cps.toList, c ∈ sgnL) ∧ x.cps.toList ≠ cYes ∧ x.cps.toList ≠ cNo ∧ x.cps.toList ≠ cNone) : ∃ l, At l (.str x) ∧ l.length ≤ 4 ∧ sp l ≤ 1 := ⟨x.cps.toList, by
  have := At.wrd x.cps.toList ⟨h.1.1, h.1.2, h.2.1, h.2.2.1, h.2.2.2.1, h.2.2.2.2.1, h.2.2.2.2.2⟩
  rwa [show cS x.cps.toList = x from SX.S_tl x] at this, hl⟩
theorem small_at {d : D} (h : ∃ l, At l d ∧ l.length ≤ 4 ∧ sp l ≤ 1) : ∃ l, Tx 1 2 l d ∧ l.length ≤ 4 ∧ sp l ≤ 1 := by
  obtain ⟨l, a, b⟩ := h
  exact ⟨l, Tx.at a (by decide) 1, b⟩
theorem small1 {d : D} (h : d ∈ [D.str "", .str "a", .int 0, .non, .bl true, .tup []]) : ∃ l, Tx 1 2 l d ∧ l.length ≤ 4 ∧ sp l ≤ 1 := by
  simp only [List.mem_cons, List.not_mem_nil, or_false] at h
  rcases h with rfl | rfl | rfl | rfl | rfl | rfl
  · exact small_at ⟨_, by rw [s_e]; exact .emp, by decide⟩
  · exact small_at (wd_of "a" (by decide +kernel) (by decide +kernel))
  · exact small_at ⟨_, .int 0 (i9 (by decide)), by decide +kernel⟩
  · exact small_at ⟨_, .non, by decide⟩
  · exact small_at ⟨_, .yes, by decide⟩
  · exact ⟨_, Tx.tup (k := 0) (m := 0) (ls := []) (ds := []) trivial (by decide), by decide⟩
theorem small2 {d : D} (h : d ∈ [D.int 7, .str "no1", .bl false, .str "", .int (-1)]) : ∃ l, Tx 1 2 l d ∧ l.length ≤ 4 ∧ sp l ≤ 1 := by
  simp only [List.mem_cons, List.not_mem_nil, or_false] at h
  rcases h with rfl | rfl | rfl | rfl | rfl
  · exact small_at ⟨_, .int 7 (i9 (by decide)), by decide +kernel⟩
  · exact small_at (wd_of "no1" (by decide +kernel) (by decide +kernel))
  · exact small_at ⟨_, .no, by decide⟩
  · exact small_at ⟨_, by rw [s_e]; exact .emp, by decide⟩
  · exact small_at ⟨_, .int (-1) (i9 (by decide)), by decide +kernel⟩
def wpB : MS := (mSeq (mSet 5 (mA1 (fCallN 2 F__law_draw []) (maCons (mVar 0) (maCons (mC (.int 4)) maNil)))) (mIfS (asB (m2 fLt (mVar 5) (mC (.int 2)))) (mSet 1 (mA1 fTup (maCons (mVar 1) maNil))) (mIfS (asB (m2 (fEq false) (mVar 5) (mC (.int 2)))) (mSet 1 (mA1 fTup (maCons (mA1 (fCallN 2 F__law_pick []) (maCons (mVar 0) (maCons (mA1 (fLst false) (maCons (mC (.str "")) (maCons (mC (.str "a")) (maCons (mC (.int 0)) (maCons (mC .non) (maCons (mC (.bl true)) (maCons (mA1 fTup maNil) maNil))))))) maNil))) (maCons (mVar 1) maNil)))) (mSet 1 (mA1 fTup (maCons (mVar 1) (maCons (mA1 (fCallN 2 F__law_pick []) (maCons (mVar 0) (maCons (mA1 (fLst false) (maCons (mC (.int 7)) (maCons (mC (.str "no1")) (maCons (mC (.bl false)) (maCons (mC (.str "")) (maCons (m1 fNeg (mC (.int 1))) maNil)))))) maNil))) maNil)))))))
def wpL : MS := (mSet 3 (mA1 (fCallN 2 F__law_pick []) (maCons (mVar 0) (maCons (mA1 (fLst false) (maCons (mC (.int 0)) (maCons (mC (.int 0)) (maCons (mA1 fMin2 (maCons (mVar 2) (maCons (m2 (fAdd false) (mC (.int 1)) (mA1 (fCallN 2 F__law_draw []) (maCons (mVar 0) (maCons (mC (.int 8)) maNil)))) maNil))) (maCons (mA1 (fCallN 2 F__law_draw []) (maCons (mVar 0) (maCons (m2 (fAdd false) (mVar 2) (mC (.int 1))) maNil))) (maCons (mVar 2) maNil)))))) maNil))))
theorem wp_parts : m__law_p10_wrapped = mSeq wpL (mSeq (mForR (gtN 4) (maCons (mVar 3) maNil) wpB) (mRet (mVar 1))) := rfl
abbrev envP (v : D) (mn kv w : Option Sl) : Vi.Env := [some (.d (.ref 0)), some (.d v), some (.d (.int 58)), mn, kv, w]
theorem wp_turn {v : D} {mn kv w : Option Sl} {k n : Nat} {l : List Nat} (tx : Tx k n l v) (hk : 1 ≤ k) (g : BG t m h) (hm : m < 2 ^ 57) {A S : Nat} (bd : Bd A S l) :
    ∃ (v' : D) (l' : List Nat) (w' : Option Sl) (h' : Hc), wpB (envP v mn kv w) h = .nx (envP v' mn kv w') h' ∧ BG t (m + 2) h' ∧ Tx (k + 1) (n + 4) l' v' ∧ Bd (A + 7) (S + 3) l' := by
  obtain ⟨y, h1, q1, g1, y0, y1⟩ := dw (env := envP v mn kv w) (i := 0) (many := 4) g (by omega) (by omega) (by omega) rfl
  have c0 : asB (m2 fLt (mVar 5) (mC (.int 2))) (envP v mn kv (some (.d (.int y)))) h1 = .ok (decide (y < 2)) h1 := c_lt rfl
  have c1 : asB (m2 (fEq false) (mVar 5) (mC (.int 2))) (envP v mn kv (some (.d (.int y)))) h1 = .ok (decide (y = 2)) h1 := c_eq rfl
  by_cases w0 : y < 2
  · rw [decide_eq_true w0] at c0
    refine ⟨.tup [v], _, some (.d (.int y)), h1, (seq_nx (set_d q1)).trans ((if_t c0).trans rfl), g1.up (by omega), Tx.tup (Txs.cons (a := n) (b := 0) tx Txs.nil (Nat.le_refl _)) (by omega), bd1 bd⟩
  rw [decide_eq_false w0] at c0
  by_cases w2 : y = 2
  · rw [decide_eq_true w2] at c1
    obtain ⟨x, h2, q2, g2, hx⟩ := pick_of (env := envP v mn kv (some (.d (.int y)))) (i := 0) (h := h1) (h1 := h1) (xs := [D.str "", .str "a", .int 0, .non, .bl true, .tup []]) (e := mA1 (fLst false) (maCons (mC (.str "")) (maCons (mC (.str "a")) (maCons (mC (.int 0)) (maCons (mC .non) (maCons (mC (.bl true)) (maCons (mA1 fTup maNil) maNil))))))) rfl rfl g1 (by omega) (by simp) (by simp)
    obtain ⟨lx, tx2, bx⟩ := small1 hx
    refine ⟨.tup [x, v], _, some (.d (.int y)), h2, (seq_nx (set_d q1)).trans ((if_f c0).trans ((if_t c1).trans (set_d ?_))), g2.up (by omega), Tx.tup (Txs.cons (a := 2) (b := n) (tx2.le hk) (Txs.cons (a := n) (b := 0) tx Txs.nil (Nat.le_refl _)) (Nat.le_refl _)) (by omega), (bd2 bd bx).2⟩
    rw [mA1_eq, ma_cons q2 (ma_cons (d := .d v) (h1 := h2) rfl ma_nil)]
    rfl
  · rw [decide_eq_false w2] at c1
    obtain ⟨x, h2, q2, g2, hx⟩ := pick_of (env := envP v mn kv (some (.d (.int y)))) (i := 0) (h := h1) (h1 := h1) (xs := [D.int 7, .str "no1", .bl false, .str "", .int (-1)]) (e := mA1 (fLst false) (maCons (mC (.int 7)) (maCons (mC (.str "no1")) (maCons (mC (.bl false)) (maCons (mC (.str "")) (maCons (m1 fNeg (mC (.int 1))) maNil)))))) rfl rfl g1 (by omega) (by simp) (by simp)
    obtain ⟨lx, tx2, bx⟩ := small2 hx
    refine ⟨.tup [v, x], _, some (.d (.int y)), h2, (seq_nx (set_d q1)).trans ((if_f c0).trans ((if_f c1).trans (set_d ?_))), g2.up (by omega), Tx.tup (Txs.cons (a := n) (b := 2) tx (Txs.cons (a := 2) (b := 0) (tx2.le hk) Txs.nil (Nat.le_refl _)) (Nat.le_refl _)) (by omega), (bd2 bd bx).1⟩
    rw [mA1_eq, ma_cons (d := .d v) (h1 := h1) rfl (ma_cons q2 ma_nil)]
    rfl
theorem wp_loop {mn : Option Sl} : ∀ (xs : List D) (k n : Nat) (l : List Nat) (v : D) (m : Int) (kv w : Option Sl) (h : Hc) (A S : Nat), Bd A S l → Tx k n l v → 1 ≤ k → BG t m h → m + 2 * xs.length < 2 ^ 57 →
    ∃ (v' : D) (l' : List Nat) (kv' w' : Option Sl) (h' : Hc), forL (gtN 4) wpB xs (envP v mn kv w) h = .nx (envP v' mn kv' w') h' ∧ BG t (m + 2 * xs.length) h' ∧ Tx (k + xs.length) (n + 4 * xs.length) l' v' ∧ Bd (A + 7 * xs.length) (S + 3 * xs.length) l'
  | [], k, n, l, v, m, kv, w, h, A, S, bd, tx, _, g, _ => ⟨v, l, kv, w, h, rfl, by simpa using g, tx, bd⟩
  | x :: xs, k, n, l, v, m, kv, w, h, A, S, bd, tx, hk, g, hm => by
    rw [List.length_cons] at hm
    obtain ⟨v1, l1, w1, h1, e1, g1, t1, b1⟩ := wp_turn (mn := mn) (kv := some (.d x)) (w := w) tx hk g (by omega) bd
    obtain ⟨v2, l2, kv2, w2, h2, e2, g2, t2, b2⟩ := wp_loop (mn := mn) xs (k + 1) (n + 4) l1 v1 (m + 2) (some (.d x)) w1 h1 (A + 7) (S + 3) b1 t1 (by omega) g1 (by omega)
    refine ⟨v2, l2, kv2, w2, h2, (for_nx (env1 := envP v mn (some (.d x)) w) rfl e1).trans e2, g2.up (by rw [List.length_cons]; omega), ?_, b2.up (by rw [List.length_cons]; omega) (by rw [List.length_cons]; omega)⟩
    rw [List.length_cons, show k + (xs.length + 1) = k + 1 + xs.length by omega, show n + 4 * (xs.length + 1) = n + 4 + 4 * xs.length by omega]
    exact t2
theorem v_wrapped {v : D} {n : Nat} {l : List Nat} (tx : Tx 2 n l v) {A S : Nat} (bd : Bd A S l) (g : BG t m h) (hm : m < 2 ^ 56) : ∃ (v' : D) (l' : List Nat) (h' : Hc), F__law_p10_wrapped [.ref 0, v, .int 58] h = .ok v' h' ∧ BG t (m + 120) h' ∧ Tx 60 (n + 232) l' v' ∧ Bd (A + 406) (S + 174) l' := by
  obtain ⟨r, h1, q1, g1, r0, r1⟩ := dw (env := envP v none none none) (i := 0) (many := 8) g (by omega) (by omega) (by omega) rfl
  obtain ⟨s, h2, q2, g2, s0, s1⟩ := draw2 (many := 59) g1 (by omega) (by omega) (by omega)
  have e1 : mA1 fMin2 (maCons (mVar 2) (maCons (m2 (fAdd false) (mC (.int 1)) (mA1 (fCallN 2 F__law_draw []) (maCons (mVar 0) (maCons (mC (.int 8)) maNil)))) maNil)) (envP v none none none) h = .ok (.d (.int (if 1 + r < 58 then 1 + r else 58))) h1 := by
    rw [mA1_eq, ma_cons (d := .d (.int 58)) (h1 := h) rfl (ma_cons ((m2_of (F := fAdd false) (a := mC (.int 1)) (x := .d (.int 1)) (h1 := h) rfl q1).trans rfl) ma_nil)]
    rfl
  have e2 : mA1 (fCallN 2 F__law_draw []) (maCons (mVar 0) (maCons (m2 (fAdd false) (mVar 2) (mC (.int 1))) maNil)) (envP v none none none) h1 = .ok (.d (.int s)) h2 := call2 (x := .ref 0) (y := .int 59) (h1 := h1) (h2 := h1) rfl rfl q2
  have ql := lst_of (ds := [.int 0, .int 0, .int (if 1 + r < 58 then 1 + r else 58), .int s, .int 58]) (ma_cons (a := mC (.int 0)) (h1 := h) rfl (ma_cons (a := mC (.int 0)) (h1 := h) rfl (ma_cons e1 (ma_cons e2 (ma_cons (a := mVar 2) (d := .d (.int 58)) (h1 := h2) rfl ma_nil))))) (by simp)
  obtain ⟨x, h3, q3, g3, hx⟩ := pick_of (i := 0) rfl ql g2 (by omega) (by simp) (by simp)
  have hx2 : ∃ k : Nat, x = .int (k : Int) ∧ k ≤ 58 := by
    simp only [List.mem_cons, List.not_mem_nil, or_false] at hx
    rcases hx with rfl | rfl | rfl | rfl | rfl
    · exact ⟨0, rfl, by omega⟩
    · exact ⟨0, rfl, by omega⟩
    · exact ⟨(if 1 + r < 58 then 1 + r else 58).natAbs, congrArg D.int (by split <;> omega), by split <;> omega⟩
    · exact ⟨s.natAbs, congrArg D.int (by omega), by omega⟩
    · exact ⟨58, rfl, by omega⟩
  obtain ⟨k, rfl, hk⟩ := hx2
  obtain ⟨v', l', kv, w, h4, q4, g4, t4, b4⟩ := wp_loop (t := t) (mn := some (.d (.int (k : Int)))) (rangeD 0 k) 2 n l v _ none none h3 A S bd tx (by decide) g3 (by rw [rangeD_len]; omega)
  rw [rangeD_len] at g4 t4 b4
  refine ⟨v', l', h4, ?_, g4.up (by omega), (t4.le (by omega)).upn (by omega), b4.up (by omega) (by omega)⟩
  refine (fnOf_eq 6 3 _ _ _ rfl).trans (congrArg RS.fin (a₂ := .ret v' h4) ?_)
  rw [wp_parts]
  refine Eq.trans (seq_nx (set_d q3)) ?_
  refine Eq.trans (seq_nx ((for_r (j := k) (h1 := h3) (by omega) rfl).trans q4)) ?_
  rfl
end
end G75
namespace G75
open PySem L2 Vi
def spF : MS := (mSeq (mIfS (asB (m2 (fEq false) (mVar 5) (mC (.int 0)))) (mRet (m2 (fAddT false) (mSlT false (mVar 1) moN (moS (mVar 3))) (mSlT false (mVar 1) (moS (m2 (fAddT false) (mVar 3) (mC (.int 1)))) moN))) mSkip) (mSeq (mIfS (asB (m2 (fEq false) (mVar 5) (mC (.int 1)))) (mRet (m2 (fAddT false) (m2 (fAddT false) (mSlT false (mVar 1) moN (moS (mVar 3))) (mVar 4)) (mSlT false (mVar 1) (moS (mVar 3)) moN))) mSkip) (mSeq (mIfS (asB (m2 (fEq false) (mVar 5) (mC (.int 2)))) (mRet (m2 (fAddT false) (m2 (fAddT false) (mSlT false (mVar 1) moN (moS (mVar 3))) (mVar 4)) (mSlT false (mVar 1) (moS (m2 (fAddT false) (mVar 3) (mC (.int 1)))) moN))) mSkip) (mSeq (mIfS (asB (m2 (fEq false) (mVar 5) (mC (.int 3)))) (mRet (mSlT false (mVar 1) moN (moS (mVar 3)))) mSkip) (mSeq (mIfS (asB (m2 (fEq false) (mVar 5) (mC (.int 4)))) (mRet (m2 (fAddT false) (mVar 1) (mVar 4))) mSkip) (mSeq (mIfS (asB (m2 (fEq false) (mVar 5) (mC (.int 5)))) (mRet (m2 (fAddT false) (m2 (fAddT false) (mSlT false (mVar 1) moN (moS (mVar 3))) (mSlT false (mVar 1) (moS (mVar 3)) (moS (m2 (fAddT false) (mVar 3) (mC (.int 1)))))) (mSlT false (mVar 1) (moS (mVar 3)) moN))) mSkip) (mRet (mVar 1))))))))
theorem spoilt_parts : m__law_p10_spoilt = mSeq (mSet 2 (m2 (fAddT false) (mA1 (fListS false) (maCons (mC (.str "()- 0123456789abcxyzenos_.,:;+ABN")) maNil)) (mA1 (fLst false) (maCons (mC (.str "\n")) (maCons (mC (.str "\t")) maNil))))) (mSeq (mSet 3 (mA1 (fCallN 2 F__law_draw []) (maCons (mVar 0) (maCons (m2 (fAddT false) (mA1 fLen (maCons (mVar 1) maNil)) (mC (.int 1))) maNil)))) (mSeq (mSet 4 (mA1 (fCallN 2 F__law_pick []) (maCons (mVar 0) (maCons (mVar 2) maNil)))) (mSeq (mSet 5 (mA1 (fCallN 2 F__law_draw []) (maCons (mVar 0) (maCons (mC (.int 7)) maNil)))) spF))) := rfl
abbrev spS : List D := chD "()- 0123456789abcxyzenos_.,:;+ABN" ++ [.str "\n", .str "\t"]
theorem spS_one : ∀ x ∈ spS, ∃ c, x = .str (cS [c]) := by
  intro x hx
  rcases List.mem_append.mp hx with hx | hx
  · unfold chD at hx
    obtain ⟨c, _, rfl⟩ := List.mem_map.mp hx
    exact ⟨c, rfl⟩
  · simp only [List.mem_cons, List.not_mem_nil, or_false] at hx
    rcases hx with rfl | rfl
    · exact ⟨10, by rw [show ("\n" : PySem.Str) = cS [10] by decide +kernel]⟩
    · exact ⟨9, by rw [show ("\t" : PySem.Str) = cS [9] by decide +kernel]⟩
theorem sp_cut (l : List Nat) (p : Nat) : sp (l.take p) + sp (l.drop p) = sp l := by
  rw [← sp_app, List.take_append_drop]
theorem sp_len : ∀ l : List Nat, sp l ≤ l.length
  | [] => Nat.le_refl _
  | c :: l => by
    have := sp_len l
    show (if c = 32 ∨ c = 41 then 1 else 0) + sp l ≤ l.length + 1
    split <;> omega
theorem sp_next (l : List Nat) (p : Nat) : sp (l.drop (p + 1)) ≤ sp (l.drop p) := by
  rw [← List.drop_drop]
  exact sp_drop _
section
variable {t : Hc} {m : Int} {h : Hc} {env : Vi.Env}
abbrev envZ (l : List Nat) (s : Option Sl) (p c : Nat) (w : Option Sl) : Vi.Env := [some (.d (.ref 0)), some (.d (.str (cS l))), s, some (.d (.int (p : Nat))), some (.d (.str (cS [c]))), w]
section
variable {l : List Nat} {s w : Option Sl} {p c : Nat}
theorem sl_to (hl : l.length ≤ 100000) : mSlT false (mVar 1) moN (moS (mVar 3)) (envZ l s p c w) h = .ok (.d (.str (cS (l.take p)))) h := by
  show (if (cS l).length ≤ 16777216 then R.ok (Vl.d (.str (Txt.slice (cS l) none (some (p : Int))))) h else .stuck) = _
  rw [if_pos (by rw [SX.S_len]; omega), SX.slice_to (by omega), Int.toNat_natCast]
theorem sl_fr (hl : l.length ≤ 100000) : mSlT false (mVar 1) (moS (mVar 3)) moN (envZ l s p c w) h = .ok (.d (.str (cS (l.drop p)))) h := by
  show (if (cS l).length ≤ 16777216 then R.ok (Vl.d (.str (Txt.slice (cS l) (some (p : Int)) none))) h else .stuck) = _
  rw [if_pos (by rw [SX.S_len]; omega), SX.slice_from (by omega), Int.toNat_natCast]
theorem sl_fr1 (hl : l.length ≤ 100000) : mSlT false (mVar 1) (moS (m2 (fAddT false) (mVar 3) (mC (.int 1)))) moN (envZ l s p c w) h = .ok (.d (.str (cS (l.drop (p + 1))))) h := by
  show (if (cS l).length ≤ 16777216 then R.ok (Vl.d (.str (Txt.slice (cS l) (some ((p : Int) + 1)) none))) h else .stuck) = _
  rw [if_pos (by rw [SX.S_len]; omega), SX.slice_from (by omega), show ((p : Int) + 1).toNat = p + 1 by omega]
theorem sl_mid (hl : l.length ≤ 100000) : mSlT false (mVar 1) (moS (mVar 3)) (moS (m2 (fAddT false) (mVar 3) (mC (.int 1)))) (envZ l s p c w) h = .ok (.d (.str (cS ((l.drop p).take 1)))) h := by
  show (if (cS l).length ≤ 16777216 then R.ok (Vl.d (.str (Txt.slice (cS l) (some (p : Int)) (some ((p : Int) + 1))))) h else .stuck) = _
  rw [if_pos (by rw [SX.S_len]; omega), show ((p : Int) + 1) = ((p + 1 : Nat) : Int) by omega, slice2 l (Nat.le_succ p), show p + 1 - p = 1 by omega]
theorem spF_ok (hl : l.length ≤ 90000) (y : Int) (hy : 0 ≤ y ∧ y < 7) : ∃ l', spF (envZ l s p c (some (.d (.int y)))) h = .ret (.str (cS l')) h ∧ Bd (l.length + 1) (sp l + 1) l' := by
  have t1 : (l.take p).length ≤ l.length := by rw [List.length_take]; omega
  have t2 : (l.take p).length + (l.drop p).length = l.length := by rw [← List.length_append, List.take_append_drop]
  have t3 : (l.drop (p + 1)).length ≤ (l.drop p).length := by rw [List.length_drop, List.length_drop]; omega
  have t4 : ((l.drop p).take 1).length ≤ 1 := by rw [List.length_take]; omega
  have s1 := sp_cut l p
  have s2 := sp_next l p
  have s3 : sp ((l.drop p).take 1) ≤ 1 := Nat.le_trans (sp_len _) t4
  have s4 : sp [c] ≤ 1 := sp_len [c]
  have c0 : ∀ k : Int, asB (m2 (fEq false) (mVar 5) (mC (.int k))) (envZ l s p c (some (.d (.int y)))) h = .ok (decide (y = k)) h := fun k => asB_of ((m2_of (x := .d (.int y)) (y := .d (.int k)) (h1 := h) (h2 := h) rfl rfl).trans ((eqI false _ _ h).trans rfl))
  have a0 := sl_to (l := l) (s := s) (w := some (.d (.int y))) (p := p) (c := c) (h := h) (by omega)
  have a1 := sl_fr (l := l) (s := s) (w := some (.d (.int y))) (p := p) (c := c) (h := h) (by omega)
  have a2 := sl_fr1 (l := l) (s := s) (w := some (.d (.int y))) (p := p) (c := c) (h := h) (by omega)
  have a3 := sl_mid (l := l) (s := s) (w := some (.d (.int y))) (p := p) (c := c) (h := h) (by omega)
  have a4 : mVar 4 (envZ l s p c (some (.d (.int y)))) h = .ok (.d (.str (cS [c]))) h := rfl
  have a5 : mVar 1 (envZ l s p c (some (.d (.int y)))) h = .ok (.d (.str (cS l))) h := rfl
  have b2 := addT_of (a := l.take p) (b := [c]) a0 a4 (by rw [List.length_singleton]; omega)
  have lb2 : (l.take p ++ [c]).length = (l.take p).length + 1 := by rw [List.length_append, List.length_singleton]
  have b3 := addT_of (a := l.take p) (b := (l.drop p).take 1) a0 a3 (by omega)
  have lb3 : (l.take p ++ (l.drop p).take 1).length ≤ (l.take p).length + 1 := by rw [List.length_append]; omega
  unfold spF
  have i0 := c0 0
  by_cases h0 : y = 0
  · rw [decide_eq_true h0] at i0
    refine ⟨l.take p ++ l.drop (p + 1), seq_ret ((if_t i0).trans (ret_of (addT_of a0 a2 (by omega)))), by rw [List.length_append]; omega, by rw [sp_app]; omega⟩
  rw [decide_eq_false h0] at i0
  have i1 := c0 1
  by_cases h1 : y = 1
  · rw [decide_eq_true h1] at i1
    refine ⟨l.take p ++ [c] ++ l.drop p, (seq_nx (if_skip i0)).trans (seq_ret ((if_t i1).trans (ret_of (addT_of b2 a1 (by omega))))), by rw [List.length_append]; omega, by rw [sp_app, sp_app]; omega⟩
  rw [decide_eq_false h1] at i1
  have i2 := c0 2
  by_cases h2 : y = 2
  · rw [decide_eq_true h2] at i2
    refine ⟨l.take p ++ [c] ++ l.drop (p + 1), (seq_nx (if_skip i0)).trans ((seq_nx (if_skip i1)).trans (seq_ret ((if_t i2).trans (ret_of (addT_of b2 a2 (by omega)))))), by rw [List.length_append]; omega, by rw [sp_app, sp_app]; omega⟩
  rw [decide_eq_false h2] at i2
  have i3 := c0 3
  by_cases h3 : y = 3
  · rw [decide_eq_true h3] at i3
    refine ⟨l.take p, (seq_nx (if_skip i0)).trans ((seq_nx (if_skip i1)).trans ((seq_nx (if_skip i2)).trans (seq_ret ((if_t i3).trans (ret_of a0))))), by omega, by omega⟩
  rw [decide_eq_false h3] at i3
  have i4 := c0 4
  by_cases h4 : y = 4
  · rw [decide_eq_true h4] at i4
    refine ⟨l ++ [c], (seq_nx (if_skip i0)).trans ((seq_nx (if_skip i1)).trans ((seq_nx (if_skip i2)).trans ((seq_nx (if_skip i3)).trans (seq_ret ((if_t i4).trans (ret_of (addT_of a5 a4 (by rw [List.length_singleton]; omega)))))))), by rw [List.length_append, List.length_singleton]; omega, by rw [sp_app]; omega⟩
  rw [decide_eq_false h4] at i4
  have i5 := c0 5
  by_cases h5 : y = 5
  · rw [decide_eq_true h5] at i5
    refine ⟨l.take p ++ (l.drop p).take 1 ++ l.drop p, (seq_nx (if_skip i0)).trans ((seq_nx (if_skip i1)).trans ((seq_nx (if_skip i2)).trans ((seq_nx (if_skip i3)).trans ((seq_nx (if_skip i4)).trans (seq_ret ((if_t i5).trans (ret_of (addT_of b3 a1 (by omega))))))))), by rw [List.length_append]; omega, by rw [sp_app, sp_app]; omega⟩
  rw [decide_eq_false h5] at i5
  exact ⟨l, (seq_nx (if_skip i0)).trans ((seq_nx (if_skip i1)).trans ((seq_nx (if_skip i2)).trans ((seq_nx (if_skip i3)).trans ((seq_nx (if_skip i4)).trans ((seq_nx (if_skip i5)).trans (ret_of a5)))))), by omega, by omega⟩
end
theorem v_spoilt {l : List Nat} (hl : l.length ≤ 90000) (g : BG t m h) (hm : m < 2 ^ 57) : ∃ l' h', F__law_p10_spoilt [.ref 0, .str (cS l)] h = .ok (.str (cS l')) h' ∧ BG t (m + 3) h' ∧ Bd (l.length + 1) (sp l + 1) l' := by
  have el : m2 (fAddT false) (mA1 fLen (maCons (mVar 1) maNil)) (mC (.int 1)) [some (.d (.ref 0)), some (.d (.str (cS l))), some (.d (.lst spS)), none, none, none] h = .ok (.d (.int ((l.length + 1 : Nat) : Int))) h := (m2_of (x := .d (.int (l.length : Nat))) (y := .d (.int 1)) (h2 := h) ((a1_of (h1 := h) rfl).trans (len_txt (z := l) (by omega) h)) rfl).trans rfl
  obtain ⟨p, h1, e1, g1, p0, p1⟩ := draw2 (many := ((l.length + 1 : Nat) : Int)) g (by omega) (by omega) (by omega)
  obtain ⟨p, rfl⟩ : ∃ q : Nat, p = (q : Int) := ⟨p.toNat, by omega⟩
  obtain ⟨x, h2, e2, g2, hx⟩ := pick_of (env := [some (.d (.ref 0)), some (.d (.str (cS l))), some (.d (.lst spS)), some (.d (.int (p : Int))), none, none]) (i := 0) (e := mVar 2) (xs := spS) (h := h1) rfl rfl g1 (by omega) (by decide +kernel) (by decide +kernel)
  obtain ⟨c, rfl⟩ := spS_one x hx
  obtain ⟨y, h3, e3, g3, y0, y1⟩ := dw (env := [some (.d (.ref 0)), some (.d (.str (cS l))), some (.d (.lst spS)), some (.d (.int (p : Int))), some (.d (.str (cS [c]))), none]) (i := 0) (many := 7) g2 (by omega) (by omega) (by omega) rfl
  obtain ⟨l', e4, b4⟩ := spF_ok (l := l) (s := some (.d (.lst spS))) (p := p) (c := c) (h := h3) hl y ⟨y0, y1⟩
  have e0 : (mSet 2 (m2 (fAddT false) (mA1 (fListS false) (maCons (mC (.str "()- 0123456789abcxyzenos_.,:;+ABN")) maNil)) (mA1 (fLst false) (maCons (mC (.str "\n")) (maCons (mC (.str "\t")) maNil))))) (mkEnv 6 [.ref 0, .str (cS l)]) h = .nx [some (.d (.ref 0)), some (.d (.str (cS l))), some (.d (.lst spS)), none, none, none] h := set_d rfl
  refine ⟨l', h3, (fnOf_eq 6 2 _ _ _ rfl).trans (congrArg RS.fin (a₂ := .ret (.str (cS l')) h3) ?_), g3.up (by omega), b4⟩
  rw [spoilt_parts]
  refine (seq_nx e0).trans ?_
  refine (seq_nx (set_d (call2 (x := .ref 0) (h1 := h) rfl el e1))).trans ?_
  refine (seq_nx (set_d e2)).trans ?_
  exact (seq_nx (set_d e3)).trans e4
end
end G75
namespace G75
open PySem L2 Vi
abbrev odA : List PySem.Str := ["", " ", "  ", "-", "--", "-0", "0", "00", "01", "-01", "+1", "1-", "1 ", " 1", "a b", "a ", " a", "A", "aB", "1a"]
abbrev odB : List PySem.Str := ["(", ")", "()", "( )", "(a )", "( a)", "(a  b)", "(a b", "(a)b", "(a)(b)", "(()", "())", "(-)", "(- -1)"]
theorem od_ok : ∀ x ∈ odA ++ odB, x.cps.toList.length ≤ 30 := by decide +kernel
theorem add_lst (xs ys : List D) (h : Hc) (hl : xs.length + ys.length ≤ 100000) : fAddT false (.d (.lst xs)) (.d (.lst ys)) h = .ok (.d (.lst (xs ++ ys))) h := by
  show (if xs.length + ys.length ≤ 100000 then R.ok (Vl.ofL false (xs ++ ys)) h else .stuck) = _
  rw [if_pos hl]
  rfl
def odM : MS := (mSet 1 (m2 (fAddT false) (mVar 1) (mA1 (fLst false) (maCons (m2 fMulS (mC (.str "a")) (mC (.int 12))) (maCons (m2 fMulS (mC (.str "b")) (mC (.int 13))) (maCons (m2 (fAddT false) (m2 fMulS (mC (.str "(")) (mC (.int 60))) (m2 fMulS (mC (.str ")")) (mC (.int 60)))) (maCons (m2 (fAddT false) (m2 fMulS (mC (.str "(")) (mC (.int 61))) (m2 fMulS (mC (.str ")")) (mC (.int 61)))) (maCons (m2 fMulS (mC (.str "7")) (mC (.int 4000))) (maCons (m2 (fAddT false) (mC (.str "-")) (m2 fMulS (mC (.str "8")) (mC (.int 4001)))) maNil)))))))))
def odF : MS := (mSeq (mIfS (asB (m2 (fEq false) (mA1 (fCallN 2 F__law_draw []) (maCons (mVar 0) (maCons (mC (.int 4)) maNil))) (mC (.int 1)))) (mRet (m2 (fAddT false) (m2 (fAddT false) (mC (.str "(")) (mVar 2)) (mC (.str " x)")))) mSkip) (mRet (mVar 2)))
theorem odd_parts : m__law_p10_odd = mSeq (mSet 1 (mA1 (fLst false) (maCons (mC (.str "")) (maCons (mC (.str " ")) (maCons (mC (.str "  ")) (maCons (mC (.str "-")) (maCons (mC (.str "--")) (maCons (mC (.str "-0")) (maCons (mC (.str "0")) (maCons (mC (.str "00")) (maCons (mC (.str "01")) (maCons (mC (.str "-01")) (maCons (mC (.str "+1")) (maCons (mC (.str "1-")) (maCons (mC (.str "1 ")) (maCons (mC (.str " 1")) (maCons (mC (.str "a b")) (maCons (mC (.str "a ")) (maCons (mC (.str " a")) (maCons (mC (.str "A")) (maCons (mC (.str "aB")) (maCons (mC (.str "1a")) maNil)))))))))))))))))))))) (mSeq (mSet 1 (m2 (fAddT false) (mVar 1) (mA1 (fLst false) (maCons (mC (.str "(")) (maCons (mC (.str ")")) (maCons (mC (.str "()")) (maCons (mC (.str "( )")) (maCons (mC (.str "(a )")) (maCons (mC (.str "( a)")) (maCons (mC (.str "(a  b)")) (maCons (mC (.str "(a b")) (maCons (mC (.str "(a)b")) (maCons (mC (.str "(a)(b)")) (maCons (mC (.str "(()")) (maCons (mC (.str "())")) (maCons (mC (.str "(-)")) (maCons (mC (.str "(- -1)")) maNil))))))))))))))))) (mSeq odM (mSeq (mSet 2 (mA1 (fCallN 2 F__law_pick []) (maCons (mVar 0) (maCons (mVar 1) maNil)))) odF))) := rfl
def Fit (l : List Nat) : Prop := Bd 85000 900 l
section
variable {t : Hc} {m : Int} {h : Hc} {env : Vi.Env}
theorem mul_of (x : PySem.Str) (l : List Nat) (k : Nat) (ex : x = cS l) (hk : k ≤ 10000) (hl : l.length = 1) : ∃ w, m2 fMulS (mC (.str x)) (mC (.int (k : Nat))) env h = .ok (.d (.str (cS w))) h ∧ (∀ c ∈ w, c ∈ l) ∧ w.length = k := by
  subst ex
  obtain ⟨w, e, h1, h2⟩ := mulS l k hk (by omega) h
  exact ⟨w, (m2_of (h1 := h) (h2 := h) rfl rfl).trans e, h1, by rw [h2, hl]; omega⟩
theorem mul_sp {w l : List Nat} (h : ∀ c ∈ w, c ∈ l) (hl : ∀ c ∈ l, c ≠ 32 ∧ c ≠ 41) : sp w = 0 := sp_0 w fun c hc => hl c (h c hc)
theorem odM_ok : ∃ ws : List (List Nat), odM [some (.d (.ref 0)), some (.d (.lst ((odA ++ odB).map D.str))), none] h = .nx [some (.d (.ref 0)), some (.d (.lst ((odA ++ odB).map D.str ++ ws.map fun w => .str (cS w)))), none] h ∧ (∀ w ∈ ws, Bd 9000 200 w) ∧ ws.length = 6 := by
  obtain ⟨w1, e1, q1, l1⟩ := mul_of (env := [some (.d (.ref 0)), some (.d (.lst ((odA ++ odB).map D.str))), none]) (h := h) "a" [97] 12 (by decide +kernel) (by decide) rfl
  obtain ⟨w2, e2, q2, l2⟩ := mul_of (env := [some (.d (.ref 0)), some (.d (.lst ((odA ++ odB).map D.str))), none]) (h := h) "b" [98] 13 (by decide +kernel) (by decide) rfl
  obtain ⟨w3, e3, q3, l3⟩ := mul_of (env := [some (.d (.ref 0)), some (.d (.lst ((odA ++ odB).map D.str))), none]) (h := h) "(" [40] 60 s_op (by decide) rfl
  obtain ⟨w4, e4, q4, l4⟩ := mul_of (env := [some (.d (.ref 0)), some (.d (.lst ((odA ++ odB).map D.str))), none]) (h := h) ")" [41] 60 s_cl (by decide) rfl
  obtain ⟨w5, e5, q5, l5⟩ := mul_of (env := [some (.d (.ref 0)), some (.d (.lst ((odA ++ odB).map D.str))), none]) (h := h) "(" [40] 61 s_op (by decide) rfl
  obtain ⟨w6, e6, q6, l6⟩ := mul_of (env := [some (.d (.ref 0)), some (.d (.lst ((odA ++ odB).map D.str))), none]) (h := h) ")" [41] 61 s_cl (by decide) rfl
  obtain ⟨w7, e7, q7, l7⟩ := mul_of (env := [some (.d (.ref 0)), some (.d (.lst ((odA ++ odB).map D.str))), none]) (h := h) "7" [55] 4000 (by decide +kernel) (by decide) rfl
  obtain ⟨w8, e8, q8, l8⟩ := mul_of (env := [some (.d (.ref 0)), some (.d (.lst ((odA ++ odB).map D.str))), none]) (h := h) "8" [56] 4001 (by decide +kernel) (by decide) rfl
  have a34 := addT_of e3 e4 (by omega)
  have a56 := addT_of e5 e6 (by omega)
  have a8 := addT_of (ma := mC (.str "-")) (a := [45]) (by rw [s_min]; rfl) e8 (by rw [List.length_singleton]; omega)
  refine ⟨[w1, w2, w3 ++ w4, w5 ++ w6, w7, [45] ++ w8], ?_, ?_, rfl⟩
  · refine set_d ((m2_of (x := .d (.lst ((odA ++ odB).map D.str))) (h1 := h) rfl (lst_of (ds := [w1, w2, w3 ++ w4, w5 ++ w6, w7, [45] ++ w8].map fun w => .str (cS w)) (ma_cons e1 (ma_cons e2 (ma_cons a34 (ma_cons a56 (ma_cons e7 (ma_cons a8 ma_nil)))))) (by rw [List.length_map]; show 6 ≤ 100000; omega))).trans (add_lst _ _ h ?_))
    rw [List.length_map, List.length_map]
    show 34 + 6 ≤ 100000
    omega
  · intro w hw
    simp only [List.mem_cons, List.not_mem_nil, or_false] at hw
    have z : ∀ (w l : List Nat), (∀ c ∈ w, c ∈ l) → (∀ c ∈ l, c ≠ 32 ∧ c ≠ 41) → sp w ≤ 0 := fun w l a b => Nat.le_of_eq (mul_sp a b)
    rcases hw with rfl | rfl | rfl | rfl | rfl | rfl
    · have := z _ _ q1 (by decide); exact ⟨by omega, by omega⟩
    · have := z _ _ q2 (by decide); exact ⟨by omega, by omega⟩
    · have := z _ _ q3 (by decide)
      have := sp_len w4
      exact ⟨by rw [List.length_append]; omega, by rw [sp_app]; omega⟩
    · have := z _ _ q5 (by decide)
      have := sp_len w6
      exact ⟨by rw [List.length_append]; omega, by rw [sp_app]; omega⟩
    · have := z _ _ q7 (by decide); exact ⟨by omega, by omega⟩
    · have := z _ _ q8 (by decide)
      have h45 : sp [45] = 0 := by decide
      exact ⟨by rw [List.length_append, List.length_singleton]; omega, by rw [sp_app]; omega⟩
theorem v_odd (g : BG t m h) (hm : m < 2 ^ 57) : ∃ l h', F__law_p10_odd [.ref 0] h = .ok (.str (cS l)) h' ∧ BG t (m + 2) h' ∧ Fit l := by
  obtain ⟨ws, eM, bM, lM⟩ := odM_ok (h := h)
  obtain ⟨x, h1, e1, g1, hx⟩ := pick_of (env := [some (.d (.ref 0)), some (.d (.lst ((odA ++ odB).map D.str ++ ws.map fun w => .str (cS w)))), none]) (i := 0) (e := mVar 1) (h := h) rfl rfl g (by omega) (by rw [List.length_append]; exact Nat.lt_of_lt_of_le (show 0 < ((odA ++ odB).map D.str).length by decide) (Nat.le_add_right _ _)) (by rw [List.length_append, List.length_map, List.length_map, lM]; decide)
  obtain ⟨l, rfl, bl⟩ : ∃ l, x = .str (cS l) ∧ Bd 9000 200 l := by
    rcases List.mem_append.mp hx with hx | hx
    · obtain ⟨y, hy, rfl⟩ := List.mem_map.mp hx
      have := od_ok y hy
      exact ⟨y.cps.toList, by rw [show cS y.cps.toList = y from SX.S_tl y], by omega, Nat.le_trans (sp_len _) (by omega)⟩
    · obtain ⟨w, hw, rfl⟩ := List.mem_map.mp hx
      exact ⟨w, rfl, bM w hw⟩
  obtain ⟨y, h2, e2, g2, y0, y1⟩ := dw (env := [some (.d (.ref 0)), some (.d (.lst ((odA ++ odB).map D.str ++ ws.map fun w => .str (cS w)))), some (.d (.str (cS l)))]) (i := 0) (many := 4) g1 (by omega) (by omega) (by omega) rfl
  have c1 : asB (m2 (fEq false) (mA1 (fCallN 2 F__law_draw []) (maCons (mVar 0) (maCons (mC (.int 4)) maNil))) (mC (.int 1))) [some (.d (.ref 0)), some (.d (.lst ((odA ++ odB).map D.str ++ ws.map fun w => .str (cS w)))), some (.d (.str (cS l)))] h1 = .ok (decide (y = 1)) h2 := asB_of ((m2_of (y := .d (.int 1)) (h2 := h2) e2 rfl).trans ((eqI false _ _ _).trans rfl))
  have fin : ∀ l', odF [some (.d (.ref 0)), some (.d (.lst ((odA ++ odB).map D.str ++ ws.map fun w => .str (cS w)))), some (.d (.str (cS l)))] h1 = .ret (.str (cS l')) h2 → F__law_p10_odd [.ref 0] h = .ok (.str (cS l')) h2 := fun l' ef => by
    refine (fnOf_eq 3 1 _ _ _ rfl).trans (congrArg RS.fin (a₂ := .ret (.str (cS l')) h2) ?_)
    rw [odd_parts]
    have s1 : (mSet 1 (mA1 (fLst false) (maCons (mC (.str "")) (maCons (mC (.str " ")) (maCons (mC (.str "  ")) (maCons (mC (.str "-")) (maCons (mC (.str "--")) (maCons (mC (.str "-0")) (maCons (mC (.str "0")) (maCons (mC (.str "00")) (maCons (mC (.str "01")) (maCons (mC (.str "-01")) (maCons (mC (.str "+1")) (maCons (mC (.str "1-")) (maCons (mC (.str "1 ")) (maCons (mC (.str " 1")) (maCons (mC (.str "a b")) (maCons (mC (.str "a ")) (maCons (mC (.str " a")) (maCons (mC (.str "A")) (maCons (mC (.str "aB")) (maCons (mC (.str "1a")) maNil)))))))))))))))))))))) (mkEnv 3 [.ref 0]) h = .nx [some (.d (.ref 0)), some (.d (.lst (odA.map D.str))), none] h := set_d rfl
    have s2 : (mSet 1 (m2 (fAddT false) (mVar 1) (mA1 (fLst false) (maCons (mC (.str "(")) (maCons (mC (.str ")")) (maCons (mC (.str "()")) (maCons (mC (.str "( )")) (maCons (mC (.str "(a )")) (maCons (mC (.str "( a)")) (maCons (mC (.str "(a  b)")) (maCons (mC (.str "(a b")) (maCons (mC (.str "(a)b")) (maCons (mC (.str "(a)(b)")) (maCons (mC (.str "(()")) (maCons (mC (.str "())")) (maCons (mC (.str "(-)")) (maCons (mC (.str "(- -1)")) maNil))))))))))))))))) [some (.d (.ref 0)), some (.d (.lst (odA.map D.str))), none] h = .nx [some (.d (.ref 0)), some (.d (.lst ((odA ++ odB).map D.str))), none] h := set_d rfl
    exact (seq_nx s1).trans ((seq_nx s2).trans ((seq_nx eM).trans ((seq_nx (set_d e1)).trans ef)))
  unfold odF at fin
  by_cases hy : y = 1
  · rw [decide_eq_true hy] at c1
    have q1 := addT_of (ma := mC (.str "(")) (mb := mVar 2) (env := [some (.d (.ref 0)), some (.d (.lst ((odA ++ odB).map D.str ++ ws.map fun w => .str (cS w)))), some (.d (.str (cS l)))]) (a := [40]) (b := l) (h := h2) (h1 := h2) (h2 := h2) (by rw [s_op]; rfl) rfl (by rw [List.length_singleton]; have := bl.1; omega)
    have q2 := addT_of (mb := mC (.str " x)")) (b := [32, 120, 41]) q1 (by rw [show (" x)" : PySem.Str) = cS [32, 120, 41] by decide +kernel]; rfl) (by rw [List.length_append, List.length_singleton]; have := bl.1; show 1 + l.length + 3 ≤ _; omega)
    refine ⟨[40] ++ l ++ [32, 120, 41], h2, fin _ (seq_ret ((if_t c1).trans (ret_of q2))), g2.up (by omega), ?_, ?_⟩
    · rw [List.length_append, List.length_append, List.length_singleton]
      have := bl.1
      show 1 + l.length + 3 ≤ _
      omega
    · rw [sp_app, sp_app, show sp [40] = 0 by decide, show sp [32, 120, 41] = 2 by decide]
      have := bl.2
      omega
  · rw [decide_eq_false hy] at c1
    exact ⟨l, h2, fin _ ((seq_nx (if_skip c1)).trans rfl), g2.up (by omega), bl.up (by decide) (by decide)⟩
def anB : MS := (mSet 1 (mA1 (fCallN 2 F__law_p10_spoilt []) (maCons (mVar 0) (maCons (mVar 1) maNil))))
def anP : ME := (mA1 (fCallN 2 F__law_pick []) (maCons (mVar 0) (maCons (mA1 (fLst false) (maCons (mC (.int 0)) (maCons (mC (.int 1)) (maCons (mC (.int 1)) (maCons (mC (.int 2)) maNil))))) maNil)))
def anC : MB := (asB (m2 (fEq false) (mA1 (fCallN 2 F__law_draw []) (maCons (mVar 0) (maCons (mC (.int 3)) maNil))) (mC (.int 1))))
def anT : ME := (mA1 (fCallN 1 F__law_p10_text []) (maCons (mA1 (fCallN 3 F__law_p10_wrapped []) (maCons (mVar 0) (maCons (mA1 (fCallN 2 F__law_p10_value []) (maCons (mVar 0) (maCons (mC (.int 2)) maNil))) (maCons (mC (.int 58)) maNil)))) maNil))
theorem any_parts : m__law_p10_any = (mSeq (mIfS anC (mRet (mA1 (fCallN 1 F__law_p10_odd []) (maCons (mVar 0) maNil))) mSkip) (mSeq (mSet 1 anT) (mSeq (mForR (gtN 2) (maCons anP maNil) anB) (mRet (mVar 1))))) := rfl
theorem an_loop : ∀ (xs : List D) (m : Int) (h : Hc) (l : List Nat) (kv : Option Sl) (A S : Nat), Bd A S l → A + xs.length ≤ 85000 → BG t m h → m + 3 * xs.length < 2 ^ 57 →
    ∃ l' kv' h', forL (gtN 2) anB xs [some (.d (.ref 0)), some (.d (.str (cS l))), kv] h = .nx [some (.d (.ref 0)), some (.d (.str (cS l'))), kv'] h' ∧ BG t (m + 3 * xs.length) h' ∧ Bd (A + xs.length) (S + xs.length) l'
  | [], m, h, l, kv, A, S, b, ha, g, hm => ⟨l, kv, h, rfl, by simpa using g, b⟩
  | x :: xs, m, h, l, kv, A, S, b, ha, g, hm => by
    rw [List.length_cons] at ha hm
    obtain ⟨l1, h1, e1, g1, b1⟩ := v_spoilt (l := l) (by have := b.1; omega) g (by omega)
    obtain ⟨l2, kv2, h2, e2, g2, b2⟩ := an_loop xs (m + 3) h1 l1 (some (.d x)) (A + 1) (S + 1) (b1.up (by have := b.1; omega) (by have := b.2; omega)) (by omega) g1 (by omega)
    refine ⟨l2, kv2, h2, (for_nx (env1 := [some (.d (.ref 0)), some (.d (.str (cS l))), some (.d x)]) rfl (set_d (call2 (x := .ref 0) (y := .str (cS l)) (h1 := h) (h2 := h) rfl rfl e1))).trans e2, g2.up (by rw [List.length_cons]; omega), b2.up (by rw [List.length_cons]; omega) (by rw [List.length_cons]; omega)⟩
theorem v_any (g : BG t m h) (hm : m < 2 ^ 55) : ∃ l h', F__law_p10_any [.ref 0] h = .ok (.str (cS l)) h' ∧ BG t (m + 4000) h' ∧ Fit l := by
  have cc2 : cc 2 = 744 := by decide
  have nn2 : nn 2 = 26 := by decide
  have LL2 : LL 2 = 64046 := by decide
  have SS2 : SS 2 = 25 := by decide
  obtain ⟨y, h1, e1, g1, y0, y1⟩ := dw (env := mkEnv 3 [.ref 0]) (i := 0) (many := 3) g (by omega) (by omega) (by omega) rfl
  have c1 : anC (mkEnv 3 [.ref 0]) h = .ok (decide (y = 1)) h1 := asB_of ((m2_of (y := .d (.int 1)) (h2 := h1) e1 rfl).trans ((eqI false _ _ _).trans rfl))
  have fin : ∀ l' h2, (mSeq (mIfS anC (mRet (mA1 (fCallN 1 F__law_p10_odd []) (maCons (mVar 0) maNil))) mSkip) (mSeq (mSet 1 anT) (mSeq (mForR (gtN 2) (maCons anP maNil) anB) (mRet (mVar 1))))) (mkEnv 3 [.ref 0]) h = .ret (.str (cS l')) h2 → F__law_p10_any [.ref 0] h = .ok (.str (cS l')) h2 := fun l' h2 ef => (fnOf_eq 3 1 _ _ _ rfl).trans (congrArg RS.fin (a₂ := .ret (.str (cS l')) h2) ((congrFun (congrFun any_parts _) _).trans ef))
  by_cases hy : y = 1
  · rw [decide_eq_true hy] at c1
    obtain ⟨l, h2, e2, g2, f⟩ := v_odd g1 (by omega)
    exact ⟨l, h2, fin l h2 (seq_ret ((if_t c1).trans (ret_of (call1 (x := .ref 0) (h1 := h1) rfl e2)))), g2.up (by omega), f⟩
  · rw [decide_eq_false hy] at c1
    obtain ⟨d, l, h2, e2, g2, t2, b2⟩ := v_value 2 6 (m + 1) h1 (by decide) (by decide) g1 (by omega)
    obtain ⟨d3, l3, h3, e3, g3, t3, b3⟩ := v_wrapped t2 b2 g2 (by omega)
    have et := v_text 60 70 _ l3 d3 h3 (by decide) (by omega) t3
    have eT : anT (mkEnv 3 [.ref 0]) h1 = .ok (.d (.str (cS l3))) h3 := call1 (x := d3) (h1 := h3) (call3 (x := .ref 0) (y := d) (z := .int 58) (h1 := h1) (h2 := h2) (h3 := h2) rfl (call2 (x := .ref 0) (y := .int 2) (h1 := h1) (h2 := h1) rfl rfl e2) rfl e3) et
    obtain ⟨x, h4, e4, g4, hx⟩ := pick_of (env := [some (.d (.ref 0)), some (.d (.str (cS l3))), none]) (i := 0) (h := h3) (h1 := h3) (xs := [.int 0, .int 1, .int 1, .int 2]) (e := mA1 (fLst false) (maCons (mC (.int 0)) (maCons (mC (.int 1)) (maCons (mC (.int 1)) (maCons (mC (.int 2)) maNil))))) rfl rfl g3 (by omega) (by decide) (by decide)
    obtain ⟨k, rfl, hk⟩ : ∃ k : Nat, x = .int (k : Int) ∧ k ≤ 2 := by
      simp only [List.mem_cons, List.not_mem_nil, or_false] at hx
      rcases hx with rfl | rfl | rfl | rfl
      · exact ⟨0, rfl, by omega⟩
      · exact ⟨1, rfl, by omega⟩
      · exact ⟨1, rfl, by omega⟩
      · exact ⟨2, rfl, by omega⟩
    obtain ⟨l5, kv, h5, e5, g5, b5⟩ := an_loop (rangeD 0 k) _ h4 l3 none _ _ b3 (by rw [rangeD_len, LL2]; omega) g4 (by rw [rangeD_len]; omega)
    rw [rangeD_len] at g5 b5
    refine ⟨l5, h5, fin l5 h5 ?_, g5.up (by omega), b5.up (by rw [LL2]; omega) (by rw [SS2]; omega)⟩
    refine (seq_nx (if_skip c1)).trans ((seq_nx (set_d eT)).trans ?_)
    exact (seq_nx ((for_r (j := k) (h1 := h4) (by omega) e4).trans e5)).trans rfl
end
end G75
namespace G75
open PySem L2 Vi
theorem sm_pa {d : D} (a : Pa d) (G : Fn) (h : Hc) : fnOf 3 2 (m__law_p10_same G) [d, d] h = .ok (.bl true) h := by
  rcases a with ⟨x, rfl⟩ | rfl | ⟨b, rfl⟩ | ⟨z, rfl⟩
  · exact sm_str x G h
  · rw [same_skip rfl]; rfl
  · rw [same_skip rfl]
    refine congrArg RS.fin (a₂ := .ret (.bl true) h) ?_
    unfold smR
    refine Eq.trans (seq_nx (env1 := [some (.d (.bl b)), some (.d (.bl b)), none]) (h1 := h) rfl) ?_
    refine seq_ret ?_
    refine Eq.trans (if_t (h1 := h) (asB_of (b := true) rfl)) ?_
    refine ret_of ?_
    rw [and_t rfl]
    refine (m2_of (h1 := h) rfl rfl).trans ((eq_gen false (Sh.bl b) (Sh.bl b) (by decide) (by decide) (fun s e => by cases e) h).trans ?_)
    rw [eqD_self (Sh.bl b)]
    rfl
  · rw [same_skip rfl]
    refine congrArg RS.fin (a₂ := .ret (.bl true) h) ?_
    unfold smR
    refine Eq.trans (seq_nx (env1 := [some (.d (.int z)), some (.d (.int z)), none]) (h1 := h) rfl) ?_
    refine Eq.trans (seq_nx (env1 := [some (.d (.int z)), some (.d (.int z)), none]) (h1 := h) rfl) ?_
    refine Eq.trans (seq_nx (env1 := [some (.d (.int z)), some (.d (.int z)), none]) (h1 := h) rfl) ?_
    refine ret_of ?_
    have e : mA1 (fCallN 1 F__law_is_int []) (maCons (mVar 0) maNil) [some (.d (.int z)), some (.d (.int z)), none] h = .ok (.d (.bl true)) h := call1 (h1 := h) rfl rfl
    rw [and_t e]
    refine (m2_of (h1 := h) rfl rfl).trans ((eqI false _ _ h).trans ?_)
    rw [decide_eq_true rfl]
    rfl
theorem v_sameP : ∀ (k f : Nat) (d : D) (h : Hc), k < f → Pd k d → R__law_p10_same f [d, d] h = .ok (.bl true) h
  | 0, f + 1, d, h, _, t => by rw [R__law_p10_same_s]; exact sm_pa t _ h
  | k + 1, f + 1, d, h, hf, t => by
    rw [R__law_p10_same_s]
    rcases t with t | ⟨ds, rfl, hl, t⟩
    · exact sm_pa t _ h
    · exact sm_tup (fun d hd => v_sameP k f d h (by omega) (t d hd)) hl
def lwT : MS := (mIfS (tNotM (asB (mA1 (fCallN 2 F__law_p10_refused []) (maCons (m2 fIx (mVar 2) (mVar 4)) (maCons (m2 fIx (mVar 3) (mVar 4)) maNil))))) (mRet (mC (.bl false))) mSkip)
def lwS : MS := (mIfS (tNotM (asB (mA1 (fCallN 2 F__law_p10_same []) (maCons (mA1 (fCallN 1 F_read_plain []) (maCons (m2 fIx (mVar 2) (mVar 4)) maNil)) (maCons (mA1 (fCallN 1 F__law_p10_read []) (maCons (m2 fIx (mVar 2) (mVar 4)) maNil)) maNil))))) (mRet (mC (.bl false))) mSkip)
def lwB : MS := mIfS (asB (m2 (fIsN true) (m2 fIx (mVar 3) (mVar 4)) (mC .non))) lwT lwS
def lwA : MS := (mSet 2 (mCompR false [4] (gtN 4) mYes (mA1 (fCallN 1 F__law_p10_any []) (maCons (mVar 1) maNil)) (maCons (mC (.int 6)) maNil)))
def lwP : MS := (mSet 3 (mComp false [5] (gtN 5) mYes (mA1 (fCallN 1 F__law_p10_place []) (maCons (mVar 5) maNil)) (mVar 2)))
def lwK : ME := (mA1 (fLst false) (maCons (mC (.int 0)) (maCons (mC (.int 1)) (maCons (mC (.int 2)) (maCons (mC (.int 3)) (maCons (mC (.int 4)) (maCons (mC (.int 5)) (maCons (mC (.int 3)) (maCons (mC (.int 0)) (maCons (mC (.int 5)) (maCons (mC (.int 2)) (maCons (mC (.int 4)) (maCons (mC (.int 1)) maNil)))))))))))))
theorem law_parts : m_law = mSeq (mSet 1 (mA1 (fCallN 1 F__law_bag []) (maCons (mVar 0) maNil))) (mSeq lwA (mSeq lwP (mSeq (mForL (gtN 4) lwK lwB) (mRet (mC (.bl true)))))) := rfl
abbrev tsD (ls : List (List Nat)) : List D := ls.map fun l => .str (cS l)
abbrev psD (ls : List (List Nat)) : List D := ls.map fun l => plD (out .item 0 l 0)
abbrev envL (sc : D) (ls : List (List Nat)) (k : Option Sl) : Vi.Env := [some (.d sc), some (.d (.ref 0)), some (.d (.lst (tsD ls))), some (.d (.lst (psD ls))), k, none]
theorem at_of {ls : List (List Nat)} {i : Nat} {l : List Nat} (e : ls[i]? = some l) (f : List Nat → D) : atI (ls.map f) (i : Nat) = some (f l) := by
  have hi : i < ls.length := (List.getElem?_eq_some_iff.mp e).1
  unfold atI ixN
  rw [if_pos (by omega), if_pos (by rw [List.length_map]; omega)]
  show (ls.map f)[((i : Nat) : Int).toNat]? = _
  rw [Int.toNat_natCast, List.getElem?_map, e]
  rfl
theorem lw_turn {sc : D} {ls : List (List Nat)} {i : Nat} {l : List Nat} (e : ls[i]? = some l) (fit : Fit l) (h : Hc) : ∃ h', lwB (envL sc ls (some (.d (.int (i : Nat))))) h = .nx (envL sc ls (some (.d (.int (i : Nat))))) h' := by
  have et : ∀ h, m2 fIx (mVar 2) (mVar 4) (envL sc ls (some (.d (.int (i : Nat))))) h = .ok (.d (.str (cS l))) h := fun h => by
    refine (m2_of (x := .d (.lst (tsD ls))) (y := .d (.int (i : Nat))) (h1 := h) (h2 := h) rfl rfl).trans ((fIx_lst _ _ h).trans ?_)
    rw [at_of e fun l => .str (cS l)]
  have ep : ∀ h, m2 fIx (mVar 3) (mVar 4) (envL sc ls (some (.d (.int (i : Nat))))) h = .ok (.d (plD (out .item 0 l 0))) h := fun h => by
    refine (m2_of (x := .d (.lst (psD ls))) (y := .d (.int (i : Nat))) (h1 := h) (h2 := h) rfl rfl).trans ((fIx_lst _ _ h).trans ?_)
    rw [at_of e fun l => plD (out .item 0 l 0)]
  have hl := fit.1
  have hs := fit.2
  rcases v_read l (by omega) (by omega) h with ⟨q, h', e1, e2⟩ | ⟨d, x, h', e1, e2, e3, e4, e5⟩
  · rw [e2] at ep
    have c1 : asB (m2 (fIsN true) (m2 fIx (mVar 3) (mVar 4)) (mC .non)) (envL sc ls (some (.d (.int (i : Nat))))) h = .ok true h := asB_of ((m2_of (y := .d .non) (h2 := h) (ep h) rfl).trans rfl)
    refine ⟨h', (if_t c1).trans (if_skip ?_)⟩
    exact not_b (b := true) (asB_of (call2 (et h) (ep h) (v_refused e1)))
  · rw [e2] at ep
    have c1 : asB (m2 (fIsN true) (m2 fIx (mVar 3) (mVar 4)) (mC .non)) (envL sc ls (some (.d (.int (i : Nat))))) h = .ok false h := asB_of ((m2_of (y := .d .non) (h2 := h) (ep h) rfl).trans rfl)
    obtain ⟨h2, e6⟩ := v_pread (by omega) e3 e4 h'
    refine ⟨h2, (if_f c1).trans (if_skip ?_)⟩
    exact not_b (b := true) (asB_of (call2 (call1 (et h) e1) (call1 (et h') e6) (v_sameP 60 70 d h2 (by decide) e5)))
theorem lw_loop {sc : D} {ls : List (List Nat)} : ∀ (xs : List Nat), (∀ i ∈ xs, ∃ l, ls[i]? = some l ∧ Fit l) → ∀ (k : Option Sl) (h : Hc), ∃ (k' : Option Sl) (h' : Hc), forL (gtN 4) lwB (xs.map fun i => .int (i : Nat)) (envL sc ls k) h = .nx (envL sc ls k') h'
  | [], _, k, h => ⟨k, h, rfl⟩
  | i :: xs, hx, k, h => by
    obtain ⟨l, e, f⟩ := hx i (List.mem_cons_self ..)
    obtain ⟨h1, q1⟩ := lw_turn (sc := sc) e f h
    obtain ⟨k2, h2, q2⟩ := lw_loop (sc := sc) xs (fun w hw => hx w (List.mem_cons_of_mem _ hw)) (some (.d (.int (i : Nat)))) h1
    exact ⟨k2, h2, (for_nx (env1 := envL sc ls (some (.d (.int (i : Nat))))) rfl q1).trans q2⟩
theorem says : Says1 F_law 63 := by
  intro ns hl
  have g0 : BG [] 0 (bagC [] ns 0 0 (ns.sum % 1000003) 0 0) := ⟨ns, 0, 0, ns.sum % 1000003, 0, 0, rfl, by omega, by omega, Int.emod_nonneg _ (by omega), by have := Int.emod_lt_of_pos ns.sum (show (0 : Int) < 1000003 by omega); omega, by omega, by omega, by omega⟩
  have e1 : mA1 (fCallN 1 F__law_bag []) (maCons (mVar 0) maNil) (mkEnv 6 [.kl (ns.map D.int)]) [] = .ok (.d (.ref 0)) (bagC [] ns 0 0 (ns.sum % 1000003) 0 0) := call1 (h1 := []) rfl (v_bag ns)
  generalize bagC [] ns 0 0 (ns.sum % 1000003) 0 0 = h0 at g0 e1
  obtain ⟨zs, h1, q1, g1, z1, z2⟩ := comp_bg (t := []) (c := 4000) (M := 2 ^ 50) (by omega) (gtN 4) (mA1 (fCallN 1 F__law_p10_any []) (maCons (mVar 1) maNil)) (fun i : Nat => D.int (0 + (i : Int))) (fun _ (y : List Nat) => .str (cS y)) (fun _ y => Fit y) (wipeE [some (.d (.kl (ns.map D.int))), some (.d (.ref 0)), none, none, none, none] [4]) (List.range 6) [] 0 h0 (fun x hx m' h' g' hm' => by
    obtain ⟨l, h2, e2, g2, f2⟩ := v_any g' (by omega)
    exact ⟨_, l, h2, rfl, call1 (x := .ref 0) (h1 := h') rfl e2, g2, f2⟩) g0 (by rw [List.length_range]; decide) (by simp)
  have lz : (zs.map (·.2)).length = 6 := by
    have := congrArg List.length z1
    rw [List.length_map, List.length_range] at this
    rw [List.length_map]
    exact this
  have zf : ∀ l ∈ zs.map (·.2), Fit l := fun l hm => by
    obtain ⟨z, hz, rfl⟩ := List.mem_map.mp hm
    exact z2 z hz
  have q1 : compL false (gtN 4) mYes (mA1 (fCallN 1 F__law_p10_any []) (maCons (mVar 1) maNil)) (rangeD 0 6) [] (wipeE [some (.d (.kl (ns.map D.int))), some (.d (.ref 0)), none, none, none, none] [4]) h0 = .ok (.d (.lst (tsD (zs.map (·.2))))) h1 := by
    rw [tsD, List.map_map]
    exact q1
  generalize zs.map (·.2) = ls at lz zf q1
  have s2 : lwA [some (.d (.kl (ns.map D.int))), some (.d (.ref 0)), none, none, none, none] h0 = .nx [some (.d (.kl (ns.map D.int))), some (.d (.ref 0)), some (.d (.lst (tsD ls))), none, none, none] h1 := by
    refine set_d (d := .lst (tsD ls)) ?_
    unfold mCompR
    rw [ma_cons (a := mC (.int 6)) (d := .d (.int 6)) (h1 := h0) rfl ma_nil, R.bind_ok]
    dsimp only
    rw [if_pos ⟨by omega, by omega⟩]
    exact q1
  have s3 : lwP [some (.d (.kl (ns.map D.int))), some (.d (.ref 0)), some (.d (.lst (tsD ls))), none, none, none] h1 = .nx (envL (.kl (ns.map D.int)) ls none) h1 := by
    refine set_d (d := .lst (psD ls)) ?_
    have go : ∀ (xs : List (List Nat)) (acc : List D), (∀ l ∈ xs, Fit l) → acc.length + xs.length < 16000000 → compL false (gtN 5) mYes (mA1 (fCallN 1 F__law_p10_place []) (maCons (mVar 5) maNil)) (tsD xs) acc (wipeE [some (.d (.kl (ns.map D.int))), some (.d (.ref 0)), some (.d (.lst (tsD ls))), none, none, none] [5]) h1 = .ok (.d (.lst (acc ++ psD xs))) h1 := by
      intro xs
      induction xs with
      | nil =>
        intro acc _ _
        show R.ok (Vl.d (.lst acc)) h1 = _
        rw [show psD [] = [] from rfl, List.append_nil]
      | cons l xs ih =>
        intro acc hx ha
        rw [List.length_cons] at ha
        have ev : mA1 (fCallN 1 F__law_p10_place []) (maCons (mVar 5) maNil) [some (.d (.kl (ns.map D.int))), some (.d (.ref 0)), some (.d (.lst (tsD ls))), none, none, some (.d (.str (cS l)))] h1 = .ok (.d (plD (out .item 0 l 0))) h1 := call1 (x := .str (cS l)) (h1 := h1) rfl (v_place (by have := (hx l (List.mem_cons_self ..)).1; omega))
        show (match mA1 (fCallN 1 F__law_p10_place []) (maCons (mVar 5) maNil) [some (.d (.kl (ns.map D.int))), some (.d (.ref 0)), some (.d (.lst (tsD ls))), none, none, some (.d (.str (cS l)))] h1 with
            | .ok (.d y) h2 => if acc.length < 16000000 then compL false (gtN 5) mYes (mA1 (fCallN 1 F__law_p10_place []) (maCons (mVar 5) maNil)) (tsD xs) (acc ++ [y]) (wipeE [some (.d (.kl (ns.map D.int))), some (.d (.ref 0)), some (.d (.lst (tsD ls))), none, none, none] [5]) h2 else .stuck
            | _ => .stuck) = _
        rw [ev]
        dsimp only
        rw [if_pos (by omega), ih _ (fun w hw => hx w (List.mem_cons_of_mem _ hw)) (by rw [List.length_append, List.length_singleton]; omega), List.append_assoc]
        rfl
    exact go ls [] zf (by rw [List.length_nil]; omega)
  obtain ⟨k', h4, q4⟩ := lw_loop (sc := .kl (ns.map D.int)) (ls := ls) [0, 1, 2, 3, 4, 5, 3, 0, 5, 2, 4, 1] (fun i hi => by
    have : i < ls.length := by
      rw [lz]
      revert i
      decide
    exact ⟨ls[i], List.getElem?_eq_getElem this, zf _ (List.getElem_mem this)⟩) none h1
  refine ⟨h4, ?_⟩
  refine (fnOf_eq 6 1 m_law _ [] rfl).trans (congrArg RS.fin (a₂ := .ret (.bl true) h4) ?_)
  rw [law_parts]
  refine Eq.trans (seq_nx (set_d e1)) ?_
  refine Eq.trans (seq_nx s2) ?_
  refine Eq.trans (seq_nx s3) ?_
  have e4 : mForL (gtN 4) lwK lwB (envL (.kl (ns.map D.int)) ls none) h1 = .nx (envL (.kl (ns.map D.int)) ls k') h4 := by
    unfold mForL
    rw [show lwK (envL (.kl (ns.map D.int)) ls none) h1 = .ok (.d (.lst ([0, 1, 2, 3, 4, 5, 3, 0, 5, 2, 4, 1].map fun i : Nat => .int (i : Nat)))) h1 from rfl, R.thenS_ok]
    exact q4
  exact (seq_nx e4).trans rfl
end G75
set_option maxHeartbeats 0
open PySem PySem.W PySem.Calls PyProof.Rows
theorem G75.ends (hs : Vi.Says1 G75.F_law 63) : PySem.Challenge.rw_swornlots_k75_bad_plain_texts.Holds := by
  w_on; o_law
  refine HeadRun.head_imp (r := G75.hR) (q := view G75.hR.prog [37]) (H := G75.hk) (ob := G75.ob) (M := 20000) (loose := G75.nl0 ++ G75.nl1) (d := HeadRun.topDef G75.hR.prog 37) (kwd := []) G75.ob_eq G75.run
    (by kernel_rfl) (by kernel_rfl) (by kernel_rfl) (by rfl) (by first | assumption | decide +kernel) (by decide +kernel) ⟨rfl, rfl, rfl, rfl, rfl, by decide +kernel⟩ ?hw ?hc
  case hw => w_witness2
  case hc =>
    refine Vi.walk_G (l := PySem.Challenge.rw_swornlots_k75_bad_plain_texts) (n := 63) (k := 78) (x := "_law_script") (F := G75.F_law) rfl (by decide) (by kernel_rfl) ⟨rfl, by decide, by decide⟩ hs ?T
    intro w mg fa h Y G hmg0
    obtain ⟨K, KX, c, ct⟩ := Y
    have hmg : mg ("law" : PySem.Str) = some (.ref fa) := by
      have e : (HeadRun.topDef G75.hR.prog 37).name = ("law" : PySem.Str) := by kernel_rfl
      rw [← e]
      exact hmg0
    have ok : G75.PDx.ok K = true := Vi.SaysV.fact c 0
    obtain ⟨fd, F⟩ := Vi.SaysV.fun_ c 35
    have b := L2.FunD.bindsA (ps := ["_law_script"]) F fun _ _ _ _ _ _ us hl => match us, hl with | [_], _ => rfl
    refine ⟨K, fd, G75.PDx.gi K, rfl, KX, fun s u => b s [u] rfl, fun base kin gn => ?_⟩
    have Z : G75.Gn w K mg base := ⟨⟨c, kin, gn, ok⟩, ct⟩
    obtain rfl : fa = G75.r_law.pth K := by
      have z := (He.glo_ok kin gn (Vi.SaysV.fact c 28)).symm.trans hmg
      cases z
      rfl
    exact G75.fg_law Z F
theorem PySem.Challenge.cw_swornlots_k75_bad_plain_texts_holds : PySem.Challenge.rw_swornlots_k75_bad_plain_texts.Holds :=
  G75.ends G75.says

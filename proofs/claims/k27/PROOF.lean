import PyProof.Rows.All
import Wide.All
import OpenK.AllK
import Wide.FinOn
import HandS.Base
import HandS.Call
import HandS.List
import HandS.Comp
import HandS.Ends
import HandS.Iter
import HandS.Text
import HandS.Words
import HandS.Lambda
import HandS.IsInst
import HandS.Conv
import HandS.Zip
import HandS.Property
import HandS.Star
import HandS.Sort
import HandS.Dict
import HandS.Flow
import HandS.WrittenGet
import KE.KUnpackStar
import KE.GoesNew
import HandS.Codes
import PyProof.P3Eq
import HandS.SetFor
import HandS.Strs
import PyProof.ReprReads
import HandS.RevRange
import PyProof.EnumMake
import KE.GoesMore
import HandS.Style
import HandS.TupAny
import HandS.EndBits
import HandS.WideBits
import HandS.More
import PyProof.Rows.EqBoolInt
import HandS.TryOnly
import HandS.Deep
import HandS.Small
import KE.KDictDisplayH
import HandS.DictComp
import HandS.CallLocal
import HandS.ListItems
import PyProof.FString5
import PyProof.TupleOfStr
import HandS.Exc
import HandS.SuiteRaise
import KE.KTryMore
import HandS.ExcIs
import HandS.ExcField
import HandS.HotCalls
import HandS.ExcOwn
import PyProof.ExcBaseAll.ArithmeticError
import HandS.EndTab
import HandS.EndOwn
import KE.KExcIs
import HandS.ExcInit
import PyProof.CallFns
import KE.DatumIndex
import HandS.TupSets
import KE.SortData
import KE.SortKeyHeap
import KE.KLam
import HandS.OwnEq
import KE.KCallOwn
import KE.KFmtOwn
import PyProof.InstEq
import PyProof.InstNe
import HandS.FStr
import HandS.MakeKwOnly
import HandS.RaiseMore
import HandS.MakeKw
import HandS.Replace
import HandS.ReplaceLit
import PyProof.Rows.SortStr
import HandS.SetTxt0
import PyProof.ReprHeadsTuple
import PyProof.ListStr
import KE.KExcInit
import HandS.TryMany
import HandS.TupMul
import HandS.HeadHook3
import HandS.ForMost
import PySem.Challenge.RW_rankedrules_k27_cases_refused
set_option Elab.async false
set_option linter.all false
set_option maxRecDepth 100000
set_option maxHeartbeats 4000000
set_option autoImplicit false
/-! A data layer over HandS's readings: what a slot holds is said as plain data (D), never as addresses. -/
namespace Dw
open PySem PySem.Spec PyProof.Rows L2

/-- a list of the written part -/
def SqK (K : PySem.W.Frag) (a : Addr) (xs : List V) : Prop :=
  ∃ (o : Obj) (its : Array Value) (n : Nat), K.lookup a = some o ∧ o.cls = .type "list" ∧ o.dict = none ∧ o.data = .seq its n ∧ its.size ≤ sizeLine ∧ Vals xs its.toList
/-- which addresses hold a table of code objects, and of what name these are -/
class Tabs0 where
  nm : Addr → Option Str
variable [Tabs0]
/-- a lambda's text -/
structure LamK where
  params : Arguments
  body : Expr
  scope : Scope
  qual : Str
/-- the function object at f, its cells cl, its code at c -/
def LamO (L : LamK) (cl : List (Str × Addr)) (f c : Addr) : HO := .ext fun h => ∃ pm ctv : Value, h.get? f = some (PySem.W.kla_obj "<lambda>" L.qual L.params L.body L.scope cl pm c ctv)
/-- a cell, as it is -/
def CellO (a : Addr) (o : Obj) : HO := .ext fun h => h.get? a = some o
/-- the cells cl hold vs, and stay so -/
def CellsO (H : Hp) (U : Addr → Prop) : List (Str × Addr) → List V → Prop
  | [], vs => vs = []
  | (_, a) :: r, vs => ∃ (v : V) (ws : List V) (o : Obj) (u : Value), vs = v :: ws ∧ o.data = .cell (some u) ∧ RelV v u ∧ H a = some (CellO a o) ∧ ¬ U a ∧ CellsO H U r ws
theorem CellsO.mono {H H' : Hp} {U U' : Addr → Prop} (k : ∀ a u, H a = some u → ¬ U a → H' a = some u ∧ ¬ U' a) : ∀ {cl : List (Str × Addr)} {vs : List V}, CellsO H U cl vs → CellsO H' U' cl vs
  | [], _, h => h
  | (_, a) :: r, _, ⟨v, ws, o, u, e, hd, hr, ha, nu, t⟩ => let ⟨h1, h2⟩ := k _ _ ha nu; ⟨v, ws, o, u, e, hd, hr, h1, h2, CellsO.mono k t⟩
/-- plain data -/
inductive D where
  | non | bl (b : Bool) | int (i : Int) | str (x : Str)
  | tup (ds : List D) | lst (ds : List D)
  | obj (C : Addr) (ns : List Str) (ds : List D)
  | raw (v : V)
  | purse
  | rng (lo hi : Int)
  | dct (ks : List Key) (ds : List D)
  | scr (K : PySem.W.Frag) (vs : List V)
  | tupN (ds : List D)
  | tag (d : D)
  | fnv (L : LamK) (cl : List (Str × Addr))
  | clo (L : LamK) (ns : List Str) (ds : List D)

/-- a world: the abstract heap, the addresses that may change (U), the purses among them (P) -/
structure Wd where
  H : Hp
  U : Addr → Prop
  P : Addr → Prop

/-- a tuple to be read, as it is -/
def TupAt (H : Hp) (a : Addr) (vs : List V) : Prop := Rd H a (.tup vs)
/-- .. one that is known to have no dict of its own -/
def TupN (H : Hp) (a : Addr) (vs : List V) : Prop := ∃ o : Obj, H a = some (.frz o (.tup vs)) ∧ o.cls = .type "tuple" ∧ o.dict = none
theorem TupAt.mk {H : Hp} {a : Addr} {vs : List V} (h : H a = some (.tup vs)) : TupAt H a vs := .inl h
theorem TupAt.sq {K : PySem.W.Frag} {H : Hp} {a : Addr} {vs : List V} (h : TupAt H a vs) : SqT K H a vs := .inl h
theorem TupN.at {H : Hp} {a : Addr} {vs : List V} (h : TupN H a vs) : TupAt H a vs := let ⟨o, e, _⟩ := h; .inr ⟨o, e⟩
theorem TupAt.imp {H H' : Hp} {a : Addr} {vs : List V} (s : ∀ u, H a = some u → H' a = some u) (h : TupAt H a vs) : TupAt H' a vs := h.elim (fun h => .inl (s _ h)) fun ⟨o, h⟩ => .inr ⟨o, s _ h⟩
theorem TupN.imp {H H' : Hp} {a : Addr} {vs : List V} (s : ∀ u, H a = some u → H' a = some u) (h : TupN H a vs) : TupN H' a vs := let ⟨o, e, c⟩ := h; ⟨o, s _ e, c⟩
theorem TupAt.same {H H' : Hp} {a : Addr} {vs : List V} (h : TupAt H a vs) (s : Same H H') : TupAt H' a vs := h.imp (s a)
theorem TupN.same {H H' : Hp} {a : Addr} {vs : List V} (h : TupN H a vs) (s : Same H H') : TupN H' a vs := h.imp (s a)
theorem TupAt.some {H : Hp} {a : Addr} {vs : List V} (h : TupAt H a vs) : ∃ u, H a = some u := h.elim (fun h => ⟨_, h⟩) fun ⟨_, h⟩ => ⟨_, h⟩
theorem TupAt.keep {H H' : Hp} {U U' : Addr → Prop} {a : Addr} {vs : List V} (h : TupAt H a vs) (n : ¬ U a) (k : ∀ u, H a = Option.some u → ¬ U a → H' a = Option.some u ∧ ¬ U' a) : TupAt H' a vs ∧ ¬ U' a := let ⟨u, e⟩ := h.some; ⟨h.imp fun u e => (k u e n).1, (k u e n).2⟩
mutual
def Rep (W : Wd) : D → V → Prop
  | .non, v => v = .non
  | .bl b, v => v = .bl b
  | .int i, v => v = .int i
  | .str x, v => v = .str x
  | .raw u, v => v = u
  | .tup ds, v => ∃ a vs, v = .ref a ∧ TupAt W.H a vs ∧ ¬ W.U a ∧ RepL W ds vs
  | .tupN ds, v => ∃ a vs, v = .ref a ∧ TupN W.H a vs ∧ ¬ W.U a ∧ RepL W ds vs
  | .lst ds, v => ∃ a vs, v = .ref a ∧ W.H a = some (.lst vs) ∧ ¬ W.U a ∧ RepL W ds vs
  | .obj C ns ds, v => ∃ a dx vs, v = .ref a ∧ W.H a = some (.ins C dx (ns.zip vs)) ∧ ¬ W.U a ∧ ns.length = vs.length ∧ RepL W ds vs
  | .purse, v => ∃ a, v = .ref a ∧ W.P a ∧ Tabs0.nm a = none ∧ ∀ p q, Tabs0.nm p = some q → W.P p
  | .rng lo hi, v => ∃ a, v = .ref a ∧ W.H a = some (.rng lo hi) ∧ ¬ W.U a
  | .dct ks ds, v => ∃ a vs, v = .ref a ∧ W.H a = some (.dK (ks.zip vs)) ∧ ¬ W.U a ∧ ks.length = vs.length ∧ RepL W ds vs
  | .scr K vs, v => ∃ a, v = .ref a ∧ ((∃ u, W.H a = some u ∧ ¬ W.U a ∧ (u = .lst vs ∨ ∃ o, u = .frz o (.lst vs))) ∨ SqK K a vs) ∧ ∀ p q, Tabs0.nm p = some q → W.P p
  | .tag d, v => Rep W d v ∧ ∀ p q, Tabs0.nm p = some q → W.P p
  | .fnv L cl, v => ∃ f c, v = .ref f ∧ W.H f = some (LamO L cl f c) ∧ ¬ W.U f ∧ W.H c = some (LamX.CodeO c L.qual) ∧ ¬ W.U c
  | .clo L ns ds, v => ∃ f c cl vs, v = .ref f ∧ W.H f = some (LamO L cl f c) ∧ ¬ W.U f ∧ W.H c = some (LamX.CodeO c L.qual) ∧ ¬ W.U c ∧ cl.map (·.1) = ns ∧ (cl.map (·.2)).Nodup ∧ f ∉ cl.map (·.2) ∧ c ∉ cl.map (·.2) ∧ CellsO W.H W.U cl vs ∧ RepL W ds vs
def RepL (W : Wd) : List D → List V → Prop
  | [], vs => vs = []
  | d :: ds, vs => ∃ v r, vs = v :: r ∧ Rep W d v ∧ RepL W ds r
end

def PurseAt (H : Hp) (a : Addr) : Prop := ∃ (x : Int × Int) (y : Int), 0 ≤ x.1 ∧ 0 ≤ y ∧ y < 2147483647 ∧ H a = some (.lst [.int x.1, .int y, .int x.2])

/-- what stands at an address that may change: a purse, or a table (of whose code objects none may change) -/
def OwnAt (H : Hp) (U : Addr → Prop) (a : Addr) : Prop := match Tabs0.nm a with | none => PurseAt H a | some q => LamX.TabS H a q ∧ ∀ (ps : Array Value) (pos : Pos) (c : Addr), H a = some (.tbl ps) → codeAmong pos ps.toList = some (.ref c) → ¬ U c
theorem OwnAt.purse {H : Hp} {U : Addr → Prop} {a : Addr} (h : OwnAt H U a) (n : Tabs0.nm a = none) : PurseAt H a := by
  unfold OwnAt at h
  rw [n] at h
  exact h
theorem OwnAt.of {H : Hp} {U : Addr → Prop} {a : Addr} (h : PurseAt H a) (n : Tabs0.nm a = none) : OwnAt H U a := by
  unfold OwnAt
  rw [n]
  exact h
theorem OwnAt.tab {H : Hp} {U : Addr → Prop} {a : Addr} {q : Str} (h : OwnAt H U a) (n : Tabs0.nm a = some q) : LamX.TabS H a q := by
  unfold OwnAt at h
  rw [n] at h
  exact h.1
theorem OwnAt.cod {H : Hp} {U : Addr → Prop} {a : Addr} {q : Str} (h : OwnAt H U a) (n : Tabs0.nm a = some q) : ∀ (ps : Array Value) (pos : Pos) (c : Addr), H a = some (.tbl ps) → codeAmong pos ps.toList = some (.ref c) → ¬ U c := by
  unfold OwnAt at h
  rw [n] at h
  exact h.2
theorem OwnAt.mk {H : Hp} {U : Addr → Prop} {a : Addr} {q : Str} (n : Tabs0.nm a = some q) (t : LamX.TabS H a q) (c : ∀ (ps : Array Value) (pos : Pos) (c : Addr), H a = some (.tbl ps) → codeAmong pos ps.toList = some (.ref c) → ¬ U c) : OwnAt H U a := by
  unfold OwnAt
  rw [n]
  exact ⟨t, c⟩
theorem OwnAt.sub {H : Hp} {U U' : Addr → Prop} {a : Addr} (k : ∀ b, U' b → U b) (h : OwnAt H U a) : OwnAt H U' a := by
  cases n : Tabs0.nm a with
  | none => exact .of (h.purse n) n
  | some q => exact .mk n (h.tab n) fun ps pos c e1 e2 z => h.cod n ps pos c e1 e2 (k c z)
theorem OwnAt.grow {H H' : Hp} {U : Addr → Prop} {a b : Addr} (s : Same H H') (nb : H b = none) (h : OwnAt H U a) : OwnAt H' (fun x => U x ∨ x = b) a := by
  cases n : Tabs0.nm a with
  | none =>
    obtain ⟨x, y, h1, h2, h3, e⟩ := h.purse n
    exact .of ⟨x, y, h1, h2, h3, s _ _ e⟩ n
  | some q =>
    have t := h.tab n
    obtain ⟨ps, e1, _, e3⟩ := id t
    refine .mk n (LamX.TabS.ext t s) fun ps' pos c q1 q2 z => ?_
    have q1' := (s _ _ e1).symm.trans q1
    cases q1'
    rcases z with z | z
    · exact h.cod n ps pos c e1 q2 z
    · obtain ⟨c', w1, w2⟩ := e3 pos _ q2
      cases w1
      rw [z, nb] at w2; cases w2
theorem OwnAt.back {H : Hp} {U : Addr → Prop} {a b : Addr} {vs : List V} (e : H b = some (.lst vs)) (h : OwnAt H U a) : OwnAt H (fun x => U x ∨ x = b) a := by
  cases n : Tabs0.nm a with
  | none => exact .of (h.purse n) n
  | some q =>
    have t := h.tab n
    obtain ⟨ps, e1, _, e3⟩ := id t
    refine .mk n t fun ps' pos c q1 q2 z => ?_
    rcases z with z | z
    · exact h.cod n ps' pos c q1 q2 z
    · have q1' := e1.symm.trans q1
      cases q1'
      obtain ⟨c', w1, w2⟩ := e3 pos _ q2
      cases w1
      rw [z, e] at w2; cases w2
theorem OwnAt.same {H H' : Hp} {U : Addr → Prop} {a : Addr} (s : Same H H') (h : OwnAt H U a) : OwnAt H' U a := by
  cases n : Tabs0.nm a with
  | none =>
    obtain ⟨x, y, h1, h2, h3, e⟩ := h.purse n
    exact .of ⟨x, y, h1, h2, h3, s _ _ e⟩ n
  | some q =>
    have t := h.tab n
    obtain ⟨ps, e1, _, e3⟩ := id t
    refine .mk n (LamX.TabS.ext t s) fun ps' pos c q1 q2 => ?_
    have q1' := (s _ _ e1).symm.trans q1
    cases q1'
    exact h.cod n ps pos c e1 q2
theorem OwnAt.upd {H : Hp} {U : Addr → Prop} {a b : Addr} {u : HO} (ha : ∀ h, H a ≠ some (.ext h)) (hb : b ≠ a) (h : OwnAt H U b) : OwnAt (L2.upd H a u) U b := by
  cases n : Tabs0.nm b with
  | none =>
    obtain ⟨x, y, h1, h2, h3, e⟩ := h.purse n
    exact .of ⟨x, y, h1, h2, h3, by rw [upd_ne hb]; exact e⟩ n
  | some q =>
    obtain ⟨ps, h1, h2, h3⟩ := h.tab n
    refine .mk n ⟨ps, by rw [upd_ne hb]; exact h1, h2, fun pos cv hc => ?_⟩ fun ps' pos c q1 q2 => ?_
    · obtain ⟨c, e1, e2⟩ := h3 pos cv hc
      refine ⟨c, e1, ?_⟩
      rw [upd_ne fun z : c = a => ?_]
      · exact e2
      · rw [z] at e2
        exact ha _ e2
    · rw [upd_ne hb] at q1
      exact h.cod n ps' pos c q1 q2
theorem no_ext {H : Hp} {a : Addr} {vs : List V} (h : H a = some (.lst vs)) : ∀ f, H a ≠ some (.ext f) := fun f z => by rw [h] at z; cases z
theorem no_extI {H : Hp} {a C dx : Addr} {fs : List (Str × V)} (h : H a = some (.ins C dx fs)) : ∀ f, H a ≠ some (.ext f) := fun f z => by rw [h] at z; cases z
theorem OwnAt.some {H : Hp} {U : Addr → Prop} {a : Addr} (h : OwnAt H U a) : H a ≠ none := by
  cases n : Tabs0.nm a with
  | none =>
    obtain ⟨x, y, h1, h2, h3, e⟩ := h.purse n
    rw [e]; exact fun z => nomatch z
  | some q =>
    obtain ⟨ps, h1, _⟩ := h.tab n
    rw [h1]; exact fun z => nomatch z
/-- F: what this def may not touch -/
structure WOk (F : Addr → Prop) (W : Wd) : Prop where
  dom : ∀ a, W.U a → W.H a ≠ none
  fu : ∀ a, F a → W.U a
  pu : ∀ a, W.P a → W.U a ∧ ¬ F a ∧ OwnAt W.H W.U a

structure Stp (F : Addr → Prop) (W W' : Wd) : Prop where
  keep : ∀ a u, W.H a = some u → ¬ W.U a → W'.H a = some u ∧ ¬ W'.U a
  pur : W'.P = W.P
  fr : ∀ a, F a → W'.H a = W.H a

theorem Stp.refl {F : Addr → Prop} (W : Wd) : Stp F W W := ⟨fun _ _ h n => ⟨h, n⟩, rfl, fun _ _ => rfl⟩
theorem Stp.trans {F : Addr → Prop} {W W1 W2 : Wd} (a : Stp F W W1) (b : Stp F W1 W2) : Stp F W W2 :=
  ⟨fun c u h n => let ⟨h1, n1⟩ := a.keep c u h n; b.keep c u h1 n1, b.pur.trans a.pur, fun c h => (b.fr c h).trans (a.fr c h)⟩

mutual
theorem Rep.mono {W W' : Wd} (k : ∀ a u, W.H a = some u → ¬ W.U a → W'.H a = some u ∧ ¬ W'.U a) (p : ∀ a, W.P a → W'.P a) : ∀ (d : D) (v : V), Rep W d v → Rep W' d v
  | .non, _, h => h
  | .bl _, _, h => h
  | .int _, _, h => h
  | .str _, _, h => h
  | .raw _, _, h => h
  | .tup ds, _, ⟨a, vs, e, h, n, r⟩ => let ⟨h', n'⟩ := h.keep n (k a); ⟨a, vs, e, h', n', RepL.mono k p ds vs r⟩
  | .tupN ds, _, ⟨a, vs, e, h, n, r⟩ => let ⟨_, n'⟩ := h.at.keep n (k a); ⟨a, vs, e, h.imp fun u e => (k a u e n).1, n', RepL.mono k p ds vs r⟩
  | .lst ds, _, ⟨a, vs, e, h, n, r⟩ => let ⟨h', n'⟩ := k _ _ h n; ⟨a, vs, e, h', n', RepL.mono k p ds vs r⟩
  | .obj C ns ds, _, ⟨a, dx, vs, e, h, n, l, r⟩ => let ⟨h', n'⟩ := k _ _ h n; ⟨a, dx, vs, e, h', n', l, RepL.mono k p ds vs r⟩
  | .purse, _, ⟨a, e, h, n, t⟩ => ⟨a, e, p a h, n, fun x q z => p x (t x q z)⟩
  | .rng lo hi, _, ⟨a, e, h, n⟩ => let ⟨h', n'⟩ := k _ _ h n; ⟨a, e, h', n'⟩
  | .dct ks ds, _, ⟨a, vs, e, h, n, l, r⟩ => let ⟨h', n'⟩ := k _ _ h n; ⟨a, vs, e, h', n', l, RepL.mono k p ds vs r⟩
  | .scr K vs, _, ⟨a, e, .inl ⟨u, h, n, q⟩, t⟩ => let ⟨h', n'⟩ := k _ _ h n; ⟨a, e, .inl ⟨u, h', n', q⟩, fun x q z => p x (t x q z)⟩
  | .scr K vs, _, ⟨a, e, .inr q, t⟩ => ⟨a, e, .inr q, fun x q z => p x (t x q z)⟩
  | .tag d, v, ⟨h, t⟩ => ⟨Rep.mono k p d v h, fun x q z => p x (t x q z)⟩
  | .fnv L cl, _, ⟨f, c, e, h1, n1, h2, n2⟩ => let ⟨h1', n1'⟩ := k _ _ h1 n1; let ⟨h2', n2'⟩ := k _ _ h2 n2; ⟨f, c, e, h1', n1', h2', n2'⟩
  | .clo L ns ds, _, ⟨f, c, cl, vs, e, h1, n1, h2, n2, a1, a2, a3, a4, q, r⟩ => let ⟨h1', n1'⟩ := k _ _ h1 n1; let ⟨h2', n2'⟩ := k _ _ h2 n2; ⟨f, c, cl, vs, e, h1', n1', h2', n2', a1, a2, a3, a4, q.mono k, RepL.mono k p ds vs r⟩
theorem RepL.mono {W W' : Wd} (k : ∀ a u, W.H a = some u → ¬ W.U a → W'.H a = some u ∧ ¬ W'.U a) (p : ∀ a, W.P a → W'.P a) : ∀ (ds : List D) (vs : List V), RepL W ds vs → RepL W' ds vs
  | [], _, h => h
  | d :: ds, _, ⟨v, r, e, h1, h2⟩ => ⟨v, r, e, Rep.mono k p d v h1, RepL.mono k p ds r h2⟩
end
theorem Rep.stp {F : Addr → Prop} {W W' : Wd} {d : D} {v : V} (s : Stp F W W') (h : Rep W d v) : Rep W' d v := Rep.mono s.keep (fun a h => by rw [s.pur]; exact h) d v h
theorem RepL.stp {F : Addr → Prop} {W W' : Wd} {d : List D} {v : List V} (s : Stp F W W') (h : RepL W d v) : RepL W' d v := RepL.mono s.keep (fun a h => by rw [s.pur]; exact h) d v h
/-- the world with another heap -/
abbrev Wd.at (W : Wd) (H : Hp) : Wd := ⟨H, W.U, W.P⟩
theorem Rep.same {W : Wd} {H : Hp} {d : D} {v : V} (s : Same W.H H) (h : Rep W d v) : Rep (W.at H) d v := Rep.mono (W' := W.at H) (fun a u e n => ⟨s a u e, n⟩) (fun _ h => h) d v h
theorem RepL.same {W : Wd} {H : Hp} {d : List D} {v : List V} (s : Same W.H H) (h : RepL W d v) : RepL (W.at H) d v := RepL.mono (W' := W.at H) (fun a u e n => ⟨s a u e, n⟩) (fun _ h => h) d v h
theorem Stp.of_same {F : Addr → Prop} {W : Wd} {H : Hp} (ok : WOk F W) (s : Same W.H H) : Stp F W (W.at H) :=
  ⟨fun a u e n => ⟨s a u e, n⟩, rfl, fun a h => by
    cases q : W.H a with
    | none => exact absurd q (ok.dom a (ok.fu a h))
    | some u => exact s a u q⟩
theorem WOk.same {F : Addr → Prop} {W : Wd} {H : Hp} (ok : WOk F W) (s : Same W.H H) : WOk F (W.at H) :=
  ⟨fun a h z => ok.dom a h (s.free z), ok.fu, fun a h => let ⟨u, f, o⟩ := ok.pu a h; ⟨u, f, o.same s⟩⟩
theorem WOk.new {F : Addr → Prop} {W : Wd} (ok : WOk F W) {a : Addr} (h : W.H a = none) : ¬ W.U a := fun u => ok.dom a u h

theorem RepL.length {W : Wd} : ∀ {ds : List D} {vs : List V}, RepL W ds vs → ds.length = vs.length
  | [], _, h => by rw [show _ = [] from h]; rfl
  | _ :: ds, _, ⟨_, r, e, _, h⟩ => by rw [e, List.length_cons, List.length_cons, RepL.length (ds := ds) h]
theorem RepL.get {W : Wd} : ∀ {ds : List D} {vs : List V} {i : Nat} {d : D}, RepL W ds vs → ds[i]? = some d → ∃ v, vs[i]? = some v ∧ Rep W d v
  | [], _, _, _, _, e => by simp at e
  | d :: ds, _, 0, d', ⟨v, r, e, h1, h2⟩, q => by
    have : d = d' := by simpa using q
    subst this
    exact ⟨v, by rw [e]; rfl, h1⟩
  | d :: ds, _, i + 1, d', ⟨v, r, e, h1, h2⟩, q => by
    obtain ⟨v', a, b⟩ := RepL.get (i := i) (d := d') h2 (by simpa using q)
    exact ⟨v', by rw [e]; simpa using a, b⟩
theorem RepL.append {W : Wd} : ∀ {ds es : List D} {vs us : List V}, RepL W ds vs → RepL W es us → RepL W (ds ++ es) (vs ++ us)
  | [], _, _, _, h, h' => by rw [show _ = [] from h]; exact h'
  | d :: ds, es, _, us, ⟨v, r, e, h1, h2⟩, h' => ⟨v, r ++ us, by rw [e]; rfl, h1, RepL.append h2 h'⟩
theorem RepL.take {W : Wd} : ∀ {ds : List D} {vs : List V} (n : Nat), RepL W ds vs → RepL W (ds.take n) (vs.take n)
  | _, _, 0, _ => by rw [List.take_zero, List.take_zero]; rfl
  | [], _, n + 1, h => by rw [show _ = [] from h]; rfl
  | d :: ds, _, n + 1, ⟨v, r, e, h1, h2⟩ => ⟨v, r.take n, by rw [e]; rfl, h1, RepL.take n h2⟩
theorem RepL.drop {W : Wd} : ∀ {ds : List D} {vs : List V} (n : Nat), RepL W ds vs → RepL W (ds.drop n) (vs.drop n)
  | _, _, 0, h => h
  | [], _, n + 1, h => by rw [show _ = [] from h]; rfl
  | d :: ds, _, n + 1, ⟨v, r, e, h1, h2⟩ => by rw [e]; exact RepL.drop n h2
theorem RepL.set {W : Wd} {d : D} {v : V} (h : Rep W d v) : ∀ {ds : List D} {vs : List V} (n : Nat), RepL W ds vs → RepL W (ds.set n d) (vs.set n v)
  | [], _, n, h' => by rw [show _ = [] from h']; rfl
  | _ :: ds, _, 0, ⟨u, r, e, h1, h2⟩ => by rw [e]; exact ⟨v, r, rfl, h, h2⟩
  | c :: ds, _, n + 1, ⟨u, r, e, h1, h2⟩ => by rw [e]; exact ⟨u, r.set n v, rfl, h1, RepL.set h n h2⟩
theorem RepL.one {W : Wd} {d : D} {v : V} (h : Rep W d v) : RepL W [d] [v] := ⟨v, [], rfl, h, rfl⟩
theorem RepL.ints {W : Wd} : ∀ {ns : List Int} {vs : List V}, RepL W (ns.map D.int) vs ↔ vs = ns.map V.int
  | [], vs => Iff.rfl
  | n :: ns, vs => by
    constructor
    · rintro ⟨v, r, e, h1, h2⟩
      rw [e, show v = .int n from h1, RepL.ints.mp h2]; rfl
    · intro e
      exact ⟨.int n, ns.map V.int, e, rfl, RepL.ints.mpr rfl⟩
theorem RepL.strs {W : Wd} : ∀ {ns : List Str} {vs : List V}, RepL W (ns.map D.str) vs ↔ vs = ns.map V.str
  | [], vs => Iff.rfl
  | n :: ns, vs => by
    constructor
    · rintro ⟨v, r, e, h1, h2⟩
      rw [e, show v = .str n from h1, RepL.strs.mp h2]; rfl
    · intro e
      exact ⟨.str n, ns.map V.str, e, rfl, RepL.strs.mpr rfl⟩
theorem RepL.bls {W : Wd} : ∀ {ns : List Bool} {vs : List V}, RepL W (ns.map D.bl) vs ↔ vs = ns.map V.bl
  | [], vs => Iff.rfl
  | n :: ns, vs => by
    constructor
    · rintro ⟨v, r, e, h1, h2⟩
      rw [e, show v = .bl n from h1, RepL.bls.mp h2]; rfl
    · intro e
      exact ⟨.bl n, ns.map V.bl, e, rfl, RepL.bls.mpr rfl⟩

mutual
/-- what is known less of -/
def weakD : D → D
  | .tupN ds => .tup (weakDs ds) | .tup ds => .tup (weakDs ds) | .lst ds => .lst (weakDs ds)
  | d => d
def weakDs : List D → List D
  | [] => []
  | d :: ds => weakD d :: weakDs ds
end
mutual
theorem Rep.weak {W : Wd} : ∀ (d : D) (v : V), Rep W d v → Rep W (weakD d) v
  | .tupN ds, _, ⟨a, vs, e, h, n, r⟩ => ⟨a, vs, e, h.at, n, RepL.weak ds vs r⟩
  | .tup ds, _, ⟨a, vs, e, h, n, r⟩ => ⟨a, vs, e, h, n, RepL.weak ds vs r⟩
  | .lst ds, _, ⟨a, vs, e, h, n, r⟩ => ⟨a, vs, e, h, n, RepL.weak ds vs r⟩
  | .non, _, h => h
  | .bl _, _, h => h
  | .int _, _, h => h
  | .str _, _, h => h
  | .raw _, _, h => h
  | .obj _ _ _, _, h => h
  | .purse, _, h => h
  | .rng _ _, _, h => h
  | .dct _ _, _, h => h
  | .scr _ _, _, h => h
  | .tag _, _, h => h
  | .fnv _ _, _, h => h
  | .clo _ _ _, _, h => h
theorem RepL.weak {W : Wd} : ∀ (ds : List D) (vs : List V), RepL W ds vs → RepL W (weakDs ds) vs
  | [], _, h => h
  | d :: ds, _, ⟨v, r, e, h1, h2⟩ => ⟨v, r, e, Rep.weak d v h1, RepL.weak ds r h2⟩
end
/-! ### the slots -/
/-- an own thing: a list, or a dict by its keys -/
structure Ow where
  ks : Option (List Key)
  ds : List D
@[reducible] def Ow.cell (o : Ow) (vs : List V) : HO := match o.ks with | none => .lst vs | some ks => .dK (ks.zip vs)
inductive Sl where
  | unset | val (d : D) | ownX (o : Ow)
@[reducible] def Sl.own (ds : List D) : Sl := .ownX ⟨none, ds⟩
@[reducible] def Sl.owd (ks : List Key) (ds : List D) : Sl := .ownX ⟨some ks, ds⟩
theorem Ow.ext (o : Ow) (vs : List V) : ∀ f, o.cell vs ≠ .ext f := fun f z => by
  obtain ⟨ks, ds⟩ := o
  cases ks <;> cases z
theorem no_extX {H : Hp} {a : Addr} {o : Ow} {vs : List V} (h : H a = some (o.cell vs)) : ∀ f, H a ≠ some (.ext f) := fun f z => by
  rw [h] at z
  exact o.ext vs f (Option.some.inj z)
abbrev Gam := List Sl

structure SR (F : Addr → Prop) (Γ : Gam) (σ : L2.St) (W : Wd) : Prop where
  ok : WOk F W
  len : Γ.length = σ.length
  val : ∀ (i : Nat) (d : D), Γ[i]? = some (Sl.val d) → ∃ v, σ[i]? = some (some v) ∧ Rep W d v
  ownX : ∀ (i : Nat) (ds : Ow), Γ[i]? = some (Sl.ownX ds) → ∃ a vs, σ[i]? = some (some (V.ref a)) ∧ W.U a ∧ ¬ F a ∧ ¬ W.P a ∧ W.H a = some (ds.cell vs) ∧ RepL W ds.ds vs
  apartX : ∀ (i j : Nat) (a : Addr) (ds es : Ow), Γ[i]? = some (Sl.ownX ds) → Γ[j]? = some (Sl.ownX es) → σ[i]? = some (some (V.ref a)) → σ[j]? = some (some (V.ref a)) → i = j
theorem SR.own {F : Addr → Prop} {Γ : Gam} {σ : L2.St} {W : Wd} (h : SR F Γ σ W) (i : Nat) (ds : List D) (e : Γ[i]? = some (Sl.own ds)) : ∃ a vs, σ[i]? = some (some (V.ref a)) ∧ W.U a ∧ ¬ F a ∧ ¬ W.P a ∧ W.H a = some (.lst vs) ∧ RepL W ds vs := h.ownX i ⟨none, ds⟩ e
theorem SR.owd {F : Addr → Prop} {Γ : Gam} {σ : L2.St} {W : Wd} (h : SR F Γ σ W) (i : Nat) (ks : List Key) (ds : List D) (e : Γ[i]? = some (Sl.owd ks ds)) : ∃ a vs, σ[i]? = some (some (V.ref a)) ∧ W.U a ∧ ¬ F a ∧ ¬ W.P a ∧ W.H a = some (.dK (ks.zip vs)) ∧ RepL W ds vs := h.ownX i ⟨some ks, ds⟩ e

theorem SR.same {F : Addr → Prop} {Γ : Gam} {σ : L2.St} {W : Wd} {H : Hp} (s : Same W.H H) (h : SR F Γ σ W) : SR F Γ σ (W.at H) :=
  ⟨h.ok.same s, h.len, fun i d e => let ⟨v, a, b⟩ := h.val i d e; ⟨v, a, b.same s⟩,
   fun i ds e => let ⟨a, vs, e1, u, f, p, q, r⟩ := h.ownX i ds e; ⟨a, vs, e1, u, f, p, s _ _ q, r.same s⟩, h.apartX⟩
/-- forgetting -/
theorem SR.weak {F : Addr → Prop} {Γ Γ' : Gam} {σ σ' : L2.St} {W : Wd} (h : SR F Γ σ W) (l : Γ'.length = σ'.length) (k : ∀ (i : Nat) (s : Sl), Γ'[i]? = some s → s = Sl.unset ∨ (Γ[i]? = some s ∧ σ'[i]? = σ[i]?)) : SR F Γ' σ' W := by
  have kv : ∀ (i : Nat) (d : D), Γ'[i]? = some (Sl.val d) → Γ[i]? = some (Sl.val d) ∧ σ'[i]? = σ[i]? := fun i d e => by
    rcases k i _ e with z | z
    · cases z
    · exact z
  have ko : ∀ (i : Nat) (d : Ow), Γ'[i]? = some (Sl.ownX d) → Γ[i]? = some (Sl.ownX d) ∧ σ'[i]? = σ[i]? := fun i d e => by
    rcases k i _ e with z | z
    · cases z
    · exact z
  refine ⟨h.ok, l, fun i d e => ?_, fun i ds e => ?_, fun i j a ds es e1 e2 e3 e4 => ?_⟩
  · obtain ⟨z, q⟩ := kv i d e
    rw [q]; exact h.val i d z
  · obtain ⟨z, q⟩ := ko i ds e
    rw [q]; exact h.ownX i ds z
  · obtain ⟨z1, q1⟩ := ko i ds e1
    obtain ⟨z2, q2⟩ := ko j es e2
    rw [q1] at e3; rw [q2] at e4
    exact h.apartX i j a ds es z1 z2 e3 e4
/-- a value is stored -/
theorem SR.set {F : Addr → Prop} {Γ : Gam} {σ : L2.St} {W : Wd} {i : Nat} {d : D} {v : V} (h : SR F Γ σ W) (r : Rep W d v) : SR F (Γ.set i (.val d)) (σ.set i (some v)) W := by
  refine ⟨h.ok, by simp [h.len], fun j e q => ?_, fun j ds q => ?_, fun j k a ds es q1 q2 q3 q4 => ?_⟩
  · by_cases hj : i = j
    · subst hj
      have hl : i < Γ.length := by
        have := (List.getElem?_eq_some_iff.mp q).1
        simpa using this
      rw [List.getElem?_set_self hl] at q
      cases q
      exact ⟨v, by rw [List.getElem?_set_self (by rw [← h.len]; exact hl)], r⟩
    · rw [List.getElem?_set_ne hj] at q ⊢
      exact h.val j e q
  · by_cases hj : i = j
    · subst hj
      have hl : i < Γ.length := by
        have := (List.getElem?_eq_some_iff.mp q).1
        simpa using this
      rw [List.getElem?_set_self hl] at q
      cases q
    · rw [List.getElem?_set_ne hj] at q ⊢
      exact h.ownX j ds q
  · have n : ∀ (j : Nat) (ds : Ow), (Γ.set i (.val d))[j]? = some (Sl.ownX ds) → i ≠ j := fun j ds q e => by
      subst e
      have hl : i < Γ.length := by
        have := (List.getElem?_eq_some_iff.mp q).1
        simpa using this
      rw [List.getElem?_set_self hl] at q
      cases q
    have n1 := n j ds q1
    have n2 := n k es q2
    rw [List.getElem?_set_ne n1] at q1 q3
    rw [List.getElem?_set_ne n2] at q2 q4
    exact h.apartX j k a ds es q1 q2 q3 q4
/-- what the callee may not touch: the frame and the own lists -/
def ownA (Γ : Gam) (σ : L2.St) (a : Addr) : Prop := ∃ (i : Nat) (ds : Ow), Γ[i]? = some (Sl.ownX ds) ∧ σ[i]? = some (some (V.ref a))
/-- behind a call -/
theorem SR.call {F : Addr → Prop} {Γ : Gam} {σ : L2.St} {W W' : Wd} (h : SR F Γ σ W) (s : Stp (fun a => F a ∨ ownA Γ σ a) W W') (ok : WOk (fun a => F a ∨ ownA Γ σ a) W') : SR F Γ σ W' := by
  refine ⟨⟨ok.dom, fun a z => ok.fu a (.inl z), fun a z => let ⟨u, f, p⟩ := ok.pu a z; ⟨u, fun w => f (.inl w), p⟩⟩, h.len, fun i d e => ?_, fun i ds e => ?_, h.apartX⟩
  · obtain ⟨v, a, b⟩ := h.val i d e
    exact ⟨v, a, b.stp s⟩
  · obtain ⟨a, vs, e1, u, f, p, q, r⟩ := h.ownX i ds e
    have o : ownA Γ σ a := ⟨i, ds, e, e1⟩
    exact ⟨a, vs, e1, ok.fu a (.inr o), f, fun z => (ok.pu a z).2.1 (.inr o), (s.fr a (.inr o)).trans q, r.stp s⟩
theorem SR.callOk {F : Addr → Prop} {Γ : Gam} {σ : L2.St} {W : Wd} (h : SR F Γ σ W) : WOk (fun a => F a ∨ ownA Γ σ a) W := by
  refine ⟨h.ok.dom, fun a z => ?_, fun a z => ?_⟩
  · rcases z with z | ⟨i, ds, e, q⟩
    · exact h.ok.fu a z
    · obtain ⟨b, vs, e1, u, _⟩ := h.ownX i ds e
      rw [q] at e1; cases e1
      exact u
  · obtain ⟨u, f, p⟩ := h.ok.pu a z
    refine ⟨u, fun w => ?_, p⟩
    rcases w with w | ⟨i, ds, e, q⟩
    · exact f w
    · obtain ⟨b, vs, e1, _, _, np, _⟩ := h.ownX i ds e
      rw [q] at e1; cases e1
      exact np z
theorem Stp.sub {F G : Addr → Prop} {W W' : Wd} (s : Stp G W W') (k : ∀ a, F a → G a) : Stp F W W' := ⟨s.keep, s.pur, fun a h => s.fr a (k a h)⟩
end Dw

/-! The judgements over data: Ev (pure), EvB (a list that is read), EvN (a new list), Dl (with draws), Ds (statements). -/
namespace Dw
open PySem PySem.Spec PyProof.Rows L2
variable [Tabs0]

def Ev (t : TE) (Γ : Gam) (d : D) : Prop := ∀ (F : Addr → Prop) (σ : L2.St) (W : Wd) (Q : VK), SR F Γ σ W → (∀ v H, Same W.H H → Rep (W.at H) d v → Q v H) → t σ W.H Q
def EvB (t : TE) (Γ : Gam) (ds : List D) : Prop := ∀ (F : Addr → Prop) (σ : L2.St) (W : Wd) (Q : VK), SR F Γ σ W → (∀ a vs H, Same W.H H → H a = some (.lst vs) → RepL (W.at H) ds vs → Q (.ref a) H) → t σ W.H Q
/-- the world where a is one's own, too -/
abbrev Wd.plus (W : Wd) (H : Hp) (a : Addr) : Wd := ⟨H, fun b => W.U b ∨ b = a, W.P⟩
theorem RepL.minus {W : Wd} {H : Hp} {a : Addr} {ds : List D} {vs : List V} (h : RepL (W.plus H a) ds vs) : RepL (W.at H) ds vs := RepL.mono (W := W.plus H a) (W' := W.at H) (fun b u e n => ⟨e, fun z => n (Or.inl z)⟩) (fun _ h => h) ds vs h
theorem RepL.plus {W : Wd} {H : Hp} {a : Addr} {ds : List D} {vs : List V} (n : W.H a = none) (s : Same W.H H) (h : RepL W ds vs) : RepL (W.plus H a) ds vs := RepL.mono (W := W) (W' := W.plus H a) (fun b u e nu => ⟨s b u e, fun z => z.elim nu fun z => by rw [z, n] at e; cases e⟩) (fun _ h => h) ds vs h
def EvN (t : TE) (Γ : Gam) (ds : List D) : Prop := ∀ (F : Addr → Prop) (σ : L2.St) (W : Wd) (Q : VK), SR F Γ σ W → (∀ a vs H, Same W.H H → W.H a = none → H a = some (.lst vs) → RepL (W.plus H a) ds vs → Q (.ref a) H) → t σ W.H Q
def EvT (t : TT) (Γ : Gam) (b : Bool) : Prop := ∀ (F : Addr → Prop) (σ : L2.St) (W : Wd) (Q : Bool → Hp → Prop), SR F Γ σ W → (∀ H, Same W.H H → Q b H) → t σ W.H Q
def EvA (t : TA) (Γ : Gam) (ds : List D) : Prop := ∀ (F : Addr → Prop) (σ : L2.St) (W : Wd) (Q : List V → Hp → Prop), SR F Γ σ W → (∀ vs H, Same W.H H → RepL (W.at H) ds vs → Q vs H) → t σ W.H Q

def Dl (t : TE) (Γ : Gam) (Q : D → Gam → Prop) : Prop := ∀ (F : Addr → Prop) (σ : L2.St) (W : Wd) (R : VK), SR F Γ σ W → (∀ v W' d Γ', Stp F W W' → SR F Γ' σ W' → Rep W' d v → Q d Γ' → R v W'.H) → t σ W.H R
def DlT (t : TT) (Γ : Gam) (Q : Bool → Gam → Prop) : Prop := ∀ (F : Addr → Prop) (σ : L2.St) (W : Wd) (R : Bool → Hp → Prop), SR F Γ σ W → (∀ b W' Γ', Stp F W W' → SR F Γ' σ W' → Q b Γ' → R b W'.H) → t σ W.H R
def DlA (t : TA) (Γ : Gam) (Q : List D → Gam → Prop) : Prop := ∀ (F : Addr → Prop) (σ : L2.St) (W : Wd) (R : List V → Hp → Prop), SR F Γ σ W → (∀ vs W' ds Γ', Stp F W W' → SR F Γ' σ W' → RepL W' ds vs → Q ds Γ' → R vs W'.H) → t σ W.H R

structure DE where
  nx : Gam → Prop
  rt : D → Prop
  bk : Gam → Prop := fun _ => False
  ct : Gam → Prop := fun _ => False
structure Lift (F : Addr → Prop) (W0 : Wd) (De : DE) (Dr : Ends) : Prop where
  nx : ∀ σ W Γ, Stp F W0 W → SR F Γ σ W → De.nx Γ → Dr.nx σ W.H
  rt : ∀ v W d, Stp F W0 W → WOk F W → Rep W d v → De.rt d → Dr.rt v W.H
  bk : ∀ σ W Γ, Stp F W0 W → SR F Γ σ W → De.bk Γ → Dr.bk σ W.H
  ct : ∀ σ W Γ, Stp F W0 W → SR F Γ σ W → De.ct Γ → Dr.ct σ W.H
theorem Lift.after {F : Addr → Prop} {W0 W1 : Wd} {De : DE} {Dr : Ends} (l : Lift F W0 De Dr) (s : Stp F W0 W1) : Lift F W1 De Dr :=
  ⟨fun σ W Γ a => l.nx σ W Γ (s.trans a), fun v W d a => l.rt v W d (s.trans a), fun σ W Γ a => l.bk σ W Γ (s.trans a), fun σ W Γ a => l.ct σ W Γ (s.trans a)⟩
def Ds (t : TS) (Γ : Gam) (De : DE) : Prop := ∀ (F : Addr → Prop) (σ : L2.St) (W : Wd) (Dr : Ends), SR F Γ σ W → Lift F W De Dr → t Dr σ W.H

/-! ### from the pure to the others -/
section
variable {t : TE} {Γ : Gam} {d : D} {ds : List D}
theorem Same.up {W : Wd} {H H' : Hp} (a : Same W.H H) (b : Same (W.at H).H H') : Same W.H H' := Same.trans a b
theorem EvN.b (h : EvN t Γ ds) : EvB t Γ ds := fun F σ W Q r k => h F σ W Q r fun a vs H s _ e l => k a vs H s e l.minus
theorem EvN.ev (h : EvN t Γ ds) : Ev t Γ (.lst ds) := fun F σ W Q r k => h F σ W Q r fun a vs H s n e l => k _ H s ⟨a, vs, rfl, e, r.ok.new n, l.minus⟩
theorem Ev.b (h : Ev t Γ (.lst ds)) : EvB t Γ ds := fun F σ W Q r k => h F σ W Q r fun v H s ⟨a, vs, e, q, _, l⟩ => by subst e; exact k a vs H s q l
theorem Ev.dl {Q : D → Gam → Prop} (h : Ev t Γ d) (q : Q d Γ) : Dl t Γ Q := fun F σ W R r k => h F σ W R r fun v H s l => k v (W.at H) d Γ (Stp.of_same r.ok s) (r.same s) l q
theorem Dl.imp {Q Q' : D → Gam → Prop} (h : Dl t Γ Q) (k : ∀ d Γ', Q d Γ' → Q' d Γ') : Dl t Γ Q' := fun F σ W R r z => h F σ W R r fun v W' d Γ' s r' l q => z v W' d Γ' s r' l (k d Γ' q)
theorem EvT.dl {t : TT} {b : Bool} {Q : Bool → Gam → Prop} (h : EvT t Γ b) (q : Q b Γ) : DlT t Γ Q := fun F σ W R r k => h F σ W R r fun H s => k b (W.at H) Γ (Stp.of_same r.ok s) (r.same s) q
theorem EvA.dl {t : TA} {Q : List D → Gam → Prop} (h : EvA t Γ ds) (q : Q ds Γ) : DlA t Γ Q := fun F σ W R r k => h F σ W R r fun vs H s l => k vs (W.at H) ds Γ (Stp.of_same r.ok s) (r.same s) l q
end

/-! ### names, constants -/
section
variable {Γ : Gam} {i : Nat} {d : D} {ds : List D}
theorem ev_var (h : Γ[i]? = some (.val d)) : Ev (tVar i) Γ d := fun F σ W Q r k => let ⟨v, e, l⟩ := r.val i d h; ⟨v, e, k v W.H (Same.refl _) l⟩
theorem ev_int {z : Int} : Ev (tC (.int z)) Γ (.int z) := fun F σ W Q r k => k _ W.H (Same.refl _) rfl
theorem ev_bl {z : Bool} : Ev (tC (.bl z)) Γ (.bl z) := fun F σ W Q r k => k _ W.H (Same.refl _) rfl
theorem ev_str {z : Str} : Ev (tC (.str z)) Γ (.str z) := fun F σ W Q r k => k _ W.H (Same.refl _) rfl
theorem ev_non : Ev (tC .non) Γ .non := fun F σ W Q r k => k _ W.H (Same.refl _) rfl
theorem ev_raw {z : V} : Ev (tC z) Γ (.raw z) := fun F σ W Q r k => k _ W.H (Same.refl _) rfl
end

/-! ### arguments -/
section
variable {Γ : Gam} {t : TE} {tr : TA} {d : D} {ds : List D}
theorem eva_nil : EvA tNil Γ [] := fun F σ W Q r k => k [] W.H (Same.refl _) rfl
theorem eva_cons (h : Ev t Γ d) (hr : EvA tr Γ ds) : EvA (tCons t tr) Γ (d :: ds) := fun F σ W Q r k =>
  h F σ W _ r fun v H s l => hr F σ (W.at H) _ (r.same s) fun vs H' s' l' => k (v :: vs) H' (Same.trans s s') ⟨v, vs, rfl, Rep.same (W := W.at H) s' l, l'⟩
theorem dla_nil {Q : List D → Gam → Prop} (q : Q [] Γ) : DlA tNil Γ Q := eva_nil.dl q
theorem dla_cons {Q : List D → Gam → Prop} (h : Dl t Γ fun d Γ1 => DlA tr Γ1 fun ds Γ2 => Q (d :: ds) Γ2) : DlA (tCons t tr) Γ Q := fun F σ W R r k =>
  h F σ W _ r fun v W1 d Γ1 s1 r1 l1 h1 => h1 F σ W1 _ r1 fun vs W2 ds Γ2 s2 r2 l2 q => k (v :: vs) W2 (d :: ds) Γ2 (s1.trans s2) r2 ⟨v, vs, rfl, l1.stp s2, l2⟩ q
end

/-! ### operators -/
/-- what a two-place operator gives on data -/
def DR2 (r : R2) (x y d : D) : Prop := ∀ (W : Wd) (u v : V) (Q : VK), (∀ a, W.U a → W.H a ≠ none) → Rep W x u → Rep W y v → (∀ z H, Same W.H H → Rep (W.at H) d z → Q z H) → r u v W.H Q
def DR1 (r : V → Hp → VK → Prop) (x d : D) : Prop := ∀ (W : Wd) (u : V) (Q : VK), (∀ a, W.U a → W.H a ≠ none) → Rep W x u → (∀ z H, Same W.H H → Rep (W.at H) d z → Q z H) → r u W.H Q
def DRL (r : List V → Hp → VK → Prop) (xs : List D) (d : D) : Prop := ∀ (W : Wd) (us : List V) (Q : VK), (∀ a, W.U a → W.H a ≠ none) → RepL W xs us → (∀ z H, Same W.H H → Rep (W.at H) d z → Q z H) → r us W.H Q
section
variable {Γ : Gam} {ta tb : TE} {r : R2} {x y d : D}
theorem ev_op (ha : Ev ta Γ x) (hb : Ev tb Γ y) (hr : DR2 r x y d) : Ev (tOp r ta tb) Γ d := fun F σ W Q g k =>
  ha F σ W _ g fun u H s l => hb F σ (W.at H) _ (g.same s) fun v H' s' l' => hr (W.at H') u v Q ((g.same s).same s').ok.dom (Rep.same (W := W.at H) s' l) l' fun z H'' s'' q => k z H'' (Same.trans s (Same.trans s' s'')) q
theorem dl_op {Q : D → Gam → Prop} (h : Dl ta Γ fun x Γ1 => Dl tb Γ1 fun y Γ2 => ∃ d, DR2 r x y d ∧ Q d Γ2) : Dl (tOp r ta tb) Γ Q := fun F σ W R g k =>
  h F σ W _ g fun u W1 x Γ1 s1 g1 l1 h1 => h1 F σ W1 _ g1 fun v W2 y Γ2 s2 g2 l2 ⟨d, hr, q⟩ => hr W2 u v R g2.ok.dom (l1.stp s2) l2 fun z H s3 l3 =>
    k z (W2.at H) d Γ2 ((s1.trans s2).trans (Stp.of_same g2.ok s3)) (g2.same s3) l3 q
theorem ev_un {r : V → Hp → VK → Prop} (ha : Ev ta Γ x) (hr : DR1 r x d) : Ev (tUn r ta) Γ d := fun F σ W Q g k =>
  ha F σ W _ g fun u H s l => hr (W.at H) u Q (g.same s).ok.dom l fun z H' s' q => k z H' (Same.trans s s') q
theorem ev_cb {r : List V → Hp → VK → Prop} {t : TA} {xs : List D} (ha : EvA t Γ xs) (hr : DRL r xs d) : Ev (tCB r t) Γ d := fun F σ W Q g k =>
  ha F σ W _ g fun us H s l => hr (W.at H) us Q (g.same s).ok.dom l fun z H' s' q => k z H' (Same.trans s s') q
end
/-- no new object -/
theorem dr2_flat {r : R2} {x y d : D} (h : ∀ (W : Wd) (u v : V) (Q : VK), Rep W x u → Rep W y v → (∀ z, Rep W d z → Q z W.H) → r u v W.H Q) : DR2 r x y d :=
  fun W u v Q _ a b k => h W u v Q a b fun z q => k z W.H (Same.refl _) q
theorem same_upd {H : Hp} {p : Addr} {o : HO} (h : H p = none) : Same H (upd H p o) := fun b x e => by
  rw [upd_ne (ne_of_none e h)]
  exact e
theorem rep_new_lst {W : Wd} {p : Addr} {ds : List D} {vs : List V} (dom : ∀ a, W.U a → W.H a ≠ none) (h : W.H p = none) (l : RepL W ds vs) : Rep (W.at (upd W.H p (.lst vs))) (.lst ds) (.ref p) :=
  ⟨p, vs, rfl, upd_same, fun u => dom p u h, l.same (same_upd h)⟩
theorem rep_new_tup {W : Wd} {p : Addr} {ds : List D} {vs : List V} (dom : ∀ a, W.U a → W.H a ≠ none) (h : W.H p = none) (l : RepL W ds vs) : Rep (W.at (upd W.H p (.tup vs))) (.tup ds) (.ref p) :=
  ⟨p, vs, rfl, .mk upd_same, fun u => dom p u h, l.same (same_upd h)⟩

section
variable {i j : Int} {x y : Str} {ds es : List D} {K : PySem.W.Frag}
theorem dr2_rI0 {g : Int → Int → V} {d : D} (h : ∀ W, Rep W d (g i j)) : DR2 (rI0 g) (.int i) (.int j) d := dr2_flat fun W u v Q a b k => ⟨i, j, a, b, k _ (h W)⟩
theorem dr2_rI {C : Int → Int → Prop} {g : Int → Int → V} {d : D} (hc : C i j) (h : ∀ W, Rep W d (g i j)) : DR2 (rI C g) (.int i) (.int j) d := dr2_flat fun W u v Q a b k => ⟨i, j, a, b, hc, k _ (h W)⟩
theorem dr2_add : DR2 (rI0 fun i j => .int (i + j)) (.int i) (.int j) (.int (i + j)) := dr2_rI0 fun _ => rfl
theorem dr2_sub : DR2 (rI0 fun i j => .int (i - j)) (.int i) (.int j) (.int (i - j)) := dr2_rI0 fun _ => rfl
theorem dr2_mul (h : CMul i j) : DR2 (rI CMul fun i j => .int (i * j)) (.int i) (.int j) (.int (i * j)) := dr2_rI h fun _ => rfl
theorem dr2_mod (h : 0 < j) : DR2 (rI (fun _ j => 0 < j) fun i j => .int (i % j)) (.int i) (.int j) (.int (i % j)) := dr2_rI h fun _ => rfl
theorem dr2_lt : DR2 (rI0 fun i j => .bl (decide (i < j))) (.int i) (.int j) (.bl (decide (i < j))) := dr2_rI0 fun _ => rfl
theorem dr2_le : DR2 (rI0 fun i j => .bl (decide (i ≤ j))) (.int i) (.int j) (.bl (decide (i ≤ j))) := dr2_rI0 fun _ => rfl
theorem dr2_gt : DR2 (rI0 fun i j => .bl (decide (j < i))) (.int i) (.int j) (.bl (decide (j < i))) := dr2_rI0 fun _ => rfl
theorem dr2_ge : DR2 (rI0 fun i j => .bl (decide (j ≤ i))) (.int i) (.int j) (.bl (decide (j ≤ i))) := dr2_rI0 fun _ => rfl
abbrev rAddStr : R2 := fun x y H Q => ∃ i j, x = .str i ∧ y = .str j ∧ i.length + j.length ≤ sizeLine ∧ Q (.str (i ++ j)) H
theorem dr2_add_str (h : x.length + y.length ≤ sizeLine) : DR2 rAddStr (.str x) (.str y) (.str (x ++ y)) := dr2_flat fun W u v Q a b k => ⟨x, y, a, b, h, k _ rfl⟩
theorem dr2_cat (h : ds.length + es.length ≤ sizeLine) : DR2 rCat (.lst ds) (.lst es) (.lst (ds ++ es)) := fun W u v Q dom ⟨a, vs, e1, h1, n1, l1⟩ ⟨b, ws, e2, h2, n2, l2⟩ k =>
  ⟨a, b, vs, ws, e1, e2, h1, h2, by rw [← l1.length, ← l2.length]; exact h, fun p hp => k _ _ (same_upd hp) (rep_new_lst dom hp (l1.append l2))⟩
theorem dr2_catT (n : ds ≠ []) (h : ds.length + es.length ≤ sizeLine) : DR2 (rCatT K) (.tup ds) (.tup es) (.tup (ds ++ es)) := by
  intro W u v Q dom ⟨a, vs, e1, h1, n1, l1⟩ ⟨b, ws, e2, h2, n2, l2⟩ k
  have nv : vs ≠ [] := fun z => by
    have := l1.length
    rw [z] at this
    exact n (List.length_eq_zero_iff.mp this)
  subst e1
  refine ⟨a, b, vs, ws, rfl, e2, h1.sq, h2.sq, nv, by rw [← l1.length, ← l2.length]; exact h, fun z => ?_, fun _ p hp => k _ _ (same_upd hp) (rep_new_tup dom hp (l1.append l2))⟩
  have e : es = [] := List.length_eq_zero_iff.mp (by rw [l2.length, z]; rfl)
  rw [e, List.append_nil] at k
  exact k _ W.H (Same.refl _) ⟨a, vs, rfl, h1, n1, l1⟩
theorem dr2_eq_int : DR2 rEq (.int i) (.int j) (.bl (decide (i = j))) := dr2_flat fun W u v Q a b k => by
  rw [show u = .int i from a, show v = .int j from b]
  exact ⟨rfl, k _ (congrArg V.bl (by simp))⟩
theorem dr2_eq_str : DR2 rEq (.str x) (.str y) (.bl (decide (x = y))) := dr2_flat fun W u v Q a b k => by
  rw [show u = .str x from a, show v = .str y from b]
  exact ⟨rfl, k _ (congrArg V.bl (by simp))⟩
theorem dr2_ne_str : DR2 rNe (.str x) (.str y) (.bl (!decide (x = y))) := dr2_flat fun W u v Q a b k => by
  rw [show u = .str x from a, show v = .str y from b]
  exact ⟨rfl, k _ (congrArg V.bl (by simp))⟩
end

/-! ### deep equality -/
mutual
def py : D → PyData
  | .non => .none | .bl b => .bool b | .int i => .int i | .str x => .str x
  | .tup ds => .tuple (pys ds) | .lst ds => .list (pys ds)
  | .tupN ds => .tuple (pys ds)
  | .obj _ _ _ => .none | .raw _ => .none | .purse => .none | .rng _ _ => .none | .dct _ _ => .none | .scr _ _ => .none | .tag _ => .none | .fnv _ _ => .none | .clo _ _ _ => .none
def pys : List D → List PyData
  | [] => []
  | d :: ds => py d :: pys ds
end
mutual
def isPy : D → Bool
  | .obj _ _ _ => false | .raw _ => false | .purse => false | .rng _ _ => false | .dct _ _ => false | .scr _ _ => false | .tag _ => false | .fnv _ _ => false | .clo _ _ _ => false
  | .tup ds => isPys ds | .lst ds => isPys ds | .tupN ds => isPys ds
  | _ => true
def isPys : List D → Bool
  | [] => true
  | d :: ds => isPy d && isPys ds
end
mutual
theorem dp_of {K : PySem.W.Frag} {W : Wd} : ∀ (d : D) (v : V), isPy d = true → Rep W d v → Dp K W.H v (py d)
  | .non, _, _, h => by rw [show _ = V.non from h]; exact .non
  | .bl b, _, _, h => by rw [show _ = V.bl b from h]; exact .bl b
  | .int b, _, _, h => by rw [show _ = V.int b from h]; exact .int b
  | .str b, _, _, h => by rw [show _ = V.str b from h]; exact .str b
  | .tup ds, _, p, ⟨a, vs, e, h, _, l⟩ => by rw [e]; exact .tup h.sq (dps_of ds vs p l)
  | .tupN ds, _, p, ⟨a, vs, e, h, _, l⟩ => by rw [e]; exact .tup h.at.sq (dps_of ds vs p l)
  | .lst ds, _, p, ⟨a, vs, e, h, _, l⟩ => by rw [e]; exact .lst (.of h) (dps_of ds vs p l)
  | .obj _ _ _, _, p, _ => nomatch p
  | .raw _, _, p, _ => nomatch p
  | .purse, _, p, _ => nomatch p
  | .rng _ _, _, p, _ => nomatch p
  | .dct _ _, _, p, _ => nomatch p
  | .scr _ _, _, p, _ => nomatch p
  | .tag _, _, p, _ => nomatch p
  | .fnv _ _, _, p, _ => nomatch p
  | .clo _ _ _, _, p, _ => nomatch p
theorem dps_of {K : PySem.W.Frag} {W : Wd} : ∀ (ds : List D) (vs : List V), isPys ds = true → RepL W ds vs → DpAll K W.H vs (pys ds)
  | [], _, _, h => by rw [show _ = [] from h]; exact .nil
  | d :: ds, _, p, ⟨v, r, e, h1, h2⟩ => by
    have p' : isPy d = true ∧ isPys ds = true := by simpa [isPys] using p
    rw [e]
    exact .cons (dp_of d v p'.1 h1) (dps_of ds r p'.2 h2)
end
section
variable {K : PySem.W.Frag} {x y : D} {ta tb : TE} {Γ : Gam} {ds es : List D}
theorem dr2_eqD (px : isPy x = true) (py' : isPy y = true) (sx : SeqAt.shaped (py x) = true) (sy : SeqAt.shaped (py y) = true) : DR2 (rEqD K) x y (.bl (PyData.eqv (py x) (py y))) :=
  dr2_flat fun W u v Q a b k => ⟨_, _, dp_of x u px a, dp_of y v py' b, sx, sy, k _ rfl⟩
theorem dr2_neD (px : isPy x = true) (py' : isPy y = true) (sx : SeqAt.shaped (py x) = true) (sy : SeqAt.shaped (py y) = true) : DR2 (rNeD K) x y (.bl (!PyData.eqv (py x) (py y))) :=
  dr2_flat fun W u v Q a b k => ⟨_, _, dp_of x u px a, dp_of y v py' b, sx, sy, k _ rfl⟩
end
end Dw

/-! Rules over data: tests, statements, calls, lists that are one's own. -/
namespace Dw
open PySem PySem.Spec PyProof.Rows L2
variable [Tabs0]

/-! ### tests -/
section
variable {Γ : Gam} {t ta tb : TE} {c ct' : TT} {a b : Bool} {d d1 d2 : D} {ds : List D} {K : PySem.W.Frag}
abbrev tTru (K : PySem.W.Frag) (ta : TE) : TT := fun σ H Q => ta σ H fun x H' => ∃ k, TruV K x H' k ∧ Q k H'
theorem evt_test (h : Ev t Γ (.bl b)) : EvT (tTest t) Γ b := fun F σ W Q g k => h F σ W _ g fun v H s l => ⟨b, l, k H s⟩
theorem evt_tru_bl (h : Ev t Γ (.bl b)) : EvT (tTru K t) Γ b := fun F σ W Q g k => h F σ W _ g fun v H s l => ⟨b, by rw [show v = .bl b from l]; rfl, k H s⟩
theorem evt_tru_lst (h : EvB t Γ ds) : EvT (tTru K t) Γ (!ds.isEmpty) := fun F σ W Q g k => h F σ W _ g fun v vs H s e l => ⟨_, .inl ⟨vs, .of e, by
  have := l.length
  cases ds <;> cases vs <;> simp_all⟩, k H s⟩
theorem evt_or (h : EvT c Γ a) (h' : a = false → EvT ct' Γ b) : EvT (tOr c ct') Γ (a || b) := fun F σ W Q g k => h F σ W _ g fun H s => by
  cases a with
  | false => exact h' rfl F σ (W.at H) Q (g.same s) fun H' s' => k H' (Same.trans s s')
  | true => exact k H s
theorem evt_not (h : EvT c Γ a) : EvT (tNot c) Γ (!a) := fun F σ W Q g k => h F σ W _ g fun H s => k H s
theorem evt_yes : EvT tYes Γ true := fun F σ W Q g k => k W.H (Same.refl _)
theorem dlt_test {Q : Bool → Gam → Prop} (h : Dl t Γ fun d Γ1 => ∃ b, d = .bl b ∧ Q b Γ1) : DlT (tTest t) Γ Q := fun F σ W R g k => h F σ W _ g fun v W1 d Γ1 s g1 l ⟨b, e, q⟩ => ⟨b, by rw [e] at l; exact l, k b W1 Γ1 s g1 q⟩
theorem dlt_tru_bl {Q : Bool → Gam → Prop} (h : Dl t Γ fun d Γ1 => ∃ b, d = .bl b ∧ Q b Γ1) : DlT (tTru K t) Γ Q := fun F σ W R g k => h F σ W _ g fun v W1 d Γ1 s g1 l ⟨b, e, q⟩ => ⟨b, by rw [e] at l; rw [show v = .bl b from l]; rfl, k b W1 Γ1 s g1 q⟩
theorem dlt_not {Q : Bool → Gam → Prop} (h : DlT c Γ fun b Γ1 => Q (!b) Γ1) : DlT (tNot c) Γ Q := fun F σ W R g k => h F σ W _ g fun b W1 Γ1 s g1 q => k (!b) W1 Γ1 s g1 q
theorem dlt_and {Q : Bool → Gam → Prop} (h : DlT c Γ fun b Γ1 => (b = true → DlT ct' Γ1 Q) ∧ (b = false → Q false Γ1)) : DlT (tAnd c ct') Γ Q := fun F σ W R g k => h F σ W _ g fun b W1 Γ1 s g1 q => by
  cases b with
  | true => exact q.1 rfl F σ W1 R g1 fun b' W2 Γ2 s2 g2 q2 => k b' W2 Γ2 (s.trans s2) g2 q2
  | false => exact k false W1 Γ1 s g1 (q.2 rfl)
theorem dlt_yes {Q : Bool → Gam → Prop} (h : Q true Γ) : DlT tYes Γ Q := evt_yes.dl h
/-! ### choice, and, or as values -/
theorem ev_if (h : EvT c Γ a) (h1 : a = true → Ev ta Γ d1) (h2 : a = false → Ev tb Γ d2) : Ev (tIf c ta tb) Γ (if a = true then d1 else d2) := fun F σ W Q g k => h F σ W _ g fun H s => by
  cases a with
  | true => exact h1 rfl F σ (W.at H) Q (g.same s) fun v H' s' l => k v H' (Same.trans s s') l
  | false => exact h2 rfl F σ (W.at H) Q (g.same s) fun v H' s' l => k v H' (Same.trans s s') l
theorem dl_if {Q : D → Gam → Prop} (h : DlT c Γ fun b Γ1 => (b = true → Dl ta Γ1 Q) ∧ (b = false → Dl tb Γ1 Q)) : Dl (tIf c ta tb) Γ Q := fun F σ W R g k => h F σ W _ g fun b W1 Γ1 s g1 q => by
  cases b with
  | true => exact q.1 rfl F σ W1 R g1 fun v W2 d Γ2 s2 g2 l q2 => k v W2 d Γ2 (s.trans s2) g2 l q2
  | false => exact q.2 rfl F σ W1 R g1 fun v W2 d Γ2 s2 g2 l q2 => k v W2 d Γ2 (s.trans s2) g2 l q2
theorem ev_andV (h : Ev ta Γ (.bl a)) (h' : a = true → Ev tb Γ (.bl b)) : Ev (tAndV ta tb) Γ (.bl (a && b)) := fun F σ W Q g k => h F σ W _ g fun v H s l => ⟨a, l, by
  cases a with
  | true => exact h' rfl F σ (W.at H) Q (g.same s) fun v H' s' l => k v H' (Same.trans s s') l
  | false => exact k _ H s rfl⟩
theorem ev_orV (h : Ev ta Γ (.bl a)) (h' : a = false → Ev tb Γ (.bl b)) : Ev (tOrV ta tb) Γ (.bl (a || b)) := fun F σ W Q g k => h F σ W _ g fun v H s l => ⟨a, l, by
  cases a with
  | false => exact h' rfl F σ (W.at H) Q (g.same s) fun v H' s' l => k v H' (Same.trans s s') l
  | true => exact k _ H s rfl⟩
theorem dl_andV {Q : D → Gam → Prop} (h : Dl ta Γ fun d Γ1 => ∃ a, d = .bl a ∧ (a = true → Dl tb Γ1 Q) ∧ (a = false → Q (.bl false) Γ1)) : Dl (tAndV ta tb) Γ Q := fun F σ W R g k => h F σ W _ g fun v W1 d Γ1 s g1 l ⟨a, e, q1, q2⟩ => ⟨a, by rw [e] at l; exact l, by
  cases a with
  | true => exact q1 rfl F σ W1 R g1 fun v W2 d Γ2 s2 g2 l q2 => k v W2 d Γ2 (s.trans s2) g2 l q2
  | false => exact k _ W1 (.bl false) Γ1 s g1 rfl (q2 rfl)⟩
end

/-! ### displays -/
section
variable {Γ : Gam} {t : TA} {ds : List D}
theorem evn_lst (h : EvA t Γ ds) (hz : ds.length ≤ sizeLine) : EvN (tLst t) Γ ds := fun F σ W Q g k => h F σ W _ g fun vs H s l => ⟨by rw [← l.length]; exact hz, fun p hp =>
  k p vs _ (Same.trans s (same_upd hp)) (s.free hp) upd_same (RepL.plus (W := W.at H) hp (same_upd hp) l)⟩
theorem ev_tup (h : EvA t Γ ds) (hz : ds.length ≤ sizeLine) : Ev (tTup t) Γ (.tup ds) := fun F σ W Q g k => h F σ W _ g fun vs H s l => ⟨by rw [← l.length]; exact hz, fun p hp =>
  k _ _ (Same.trans s (same_upd hp)) (rep_new_tup (W := W.at H) (g.same s).ok.dom hp l)⟩
theorem dl_lst {Q : D → Gam → Prop} (h : DlA t Γ fun ds Γ1 => ds.length ≤ sizeLine ∧ Q (.lst ds) Γ1) : Dl (tLst t) Γ Q := fun F σ W R g k => h F σ W _ g fun vs W1 ds Γ1 s g1 l ⟨hz, q⟩ => ⟨by rw [← l.length]; exact hz, fun p hp =>
  k _ (W1.at _) (.lst ds) Γ1 (s.trans (Stp.of_same g1.ok (same_upd hp))) (g1.same (same_upd hp)) (rep_new_lst g1.ok.dom hp l) q⟩
theorem dl_tup {Q : D → Gam → Prop} (h : DlA t Γ fun ds Γ1 => ds.length ≤ sizeLine ∧ Q (.tup ds) Γ1) : Dl (tTup t) Γ Q := fun F σ W R g k => h F σ W _ g fun vs W1 ds Γ1 s g1 l ⟨hz, q⟩ => ⟨by rw [← l.length]; exact hz, fun p hp =>
  k _ (W1.at _) (.tup ds) Γ1 (s.trans (Stp.of_same g1.ok (same_upd hp))) (g1.same (same_upd hp)) (rep_new_tup g1.ok.dom hp l) q⟩
end

/-! ### a list of one's own -/
theorem SR.plus {F : Addr → Prop} {Γ : Gam} {σ : L2.St} {W : Wd} {a : Addr} {H : Hp} (g : SR F Γ σ W) (s : Same W.H H) (n : W.H a = none) (ne : H a ≠ none) :
    Stp F W (W.plus H a) ∧ SR F Γ σ (W.plus H a) ∧ ¬ ownA Γ σ a ∧ ¬ F a ∧ ¬ W.P a := by
  have nu : ¬ W.U a := g.ok.new n
  have kp : ∀ b u, W.H b = some u → ¬ W.U b → H b = some u ∧ ¬ (W.U b ∨ b = a) := fun b u q nb => ⟨s b u q, fun z => z.elim nb fun z => by rw [z, n] at q; cases q⟩
  have st : Stp F W (W.plus H a) := ⟨kp, rfl, fun b h => by
    cases q : W.H b with
    | none => exact absurd q (g.ok.dom b (g.ok.fu b h))
    | some u => exact s b u q⟩
  refine ⟨st, ⟨⟨fun b h z => ?_, fun b h => Or.inl (g.ok.fu b h), fun b h => ?_⟩, g.len, fun j d q => ?_, fun j es q => ?_, g.apartX⟩, fun ⟨i, ds, e, q⟩ => ?_, fun z => nu (g.ok.fu a z), fun z => nu (g.ok.pu a z).1⟩
  · have z : H b = none := z
    rcases h with h | h
    · exact g.ok.dom b h (s.free z)
    · rw [h] at z; exact ne z
  · obtain ⟨u, f, o⟩ := g.ok.pu b h
    exact ⟨Or.inl u, f, o.grow s n⟩
  · obtain ⟨v, e1, r⟩ := g.val j d q
    exact ⟨v, e1, r.stp st⟩
  · obtain ⟨c, ws, e1, u, f, p, q1, r⟩ := g.ownX j es q
    exact ⟨c, ws, e1, Or.inl u, f, p, s _ _ q1, r.stp st⟩
  · obtain ⟨c, ws, e1, u, f, p, q1, r⟩ := g.ownX i ds e
    rw [q] at e1; cases e1
    exact nu u
theorem SR.adoptX {F : Addr → Prop} {Γ : Gam} {σ : L2.St} {W : Wd} {i : Nat} {a : Addr} {vs : List V} {ds : Ow} (g : SR F Γ σ W) (u : W.U a) (f : ¬ F a) (p : ¬ W.P a) (e : W.H a = some (ds.cell vs)) (l : RepL W ds.ds vs) (no : ¬ ownA Γ σ a) :
    SR F (Γ.set i (.ownX ds)) (σ.set i (some (.ref a))) W := by
  have lt : ∀ (k : Nat) (s : Sl), k = i → (Γ.set i (.ownX ds))[k]? = some s → i < Γ.length := fun k s hk q => by
    rw [hk] at q
    have := (List.getElem?_eq_some_iff.mp q).1
    simpa using this
  refine ⟨g.ok, by simp [g.len], fun j d q => ?_, fun j es q => ?_, fun j k c es fs q1 q2 q3 q4 => ?_⟩
  · by_cases hj : j = i
    · have hl := lt j _ hj q
      rw [hj, List.getElem?_set_self hl] at q; cases q
    · rw [List.getElem?_set_ne (Ne.symm hj)] at q ⊢
      exact g.val j d q
  · by_cases hj : j = i
    · have hl := lt j _ hj q
      rw [hj, List.getElem?_set_self hl] at q; cases q
      exact ⟨a, vs, by rw [hj, List.getElem?_set_self (by rw [← g.len]; exact hl)], u, f, p, e, l⟩
    · rw [List.getElem?_set_ne (Ne.symm hj)] at q ⊢
      exact g.ownX j es q
  · by_cases hj : j = i
    · have hl := lt j _ hj q1
      rw [hj, List.getElem?_set_self (by rw [← g.len]; exact hl)] at q3
      by_cases hk : k = i
      · rw [hj, hk]
      · rw [List.getElem?_set_ne (Ne.symm hk)] at q2 q4
        cases q3
        exact absurd ⟨k, fs, q2, q4⟩ no
    · rw [List.getElem?_set_ne (Ne.symm hj)] at q1 q3
      by_cases hk : k = i
      · have hl := lt k _ hk q2
        rw [hk, List.getElem?_set_self (by rw [← g.len]; exact hl)] at q4
        cases q4
        exact absurd ⟨j, es, q1, q3⟩ no
      · rw [List.getElem?_set_ne (Ne.symm hk)] at q2 q4
        exact g.apartX j k c es fs q1 q2 q3 q4
theorem SR.adopt {F : Addr → Prop} {Γ : Gam} {σ : L2.St} {W : Wd} {i : Nat} {a : Addr} {vs : List V} {ds : List D} (g : SR F Γ σ W) (u : W.U a) (f : ¬ F a) (p : ¬ W.P a) (e : W.H a = some (.lst vs)) (l : RepL W ds vs) (no : ¬ ownA Γ σ a) :
    SR F (Γ.set i (.own ds)) (σ.set i (some (.ref a))) W := g.adoptX (ds := ⟨none, ds⟩) u f p e l no
theorem SR.setOwn {F : Addr → Prop} {Γ : Gam} {σ : L2.St} {W : Wd} {i : Nat} {a : Addr} {vs : List V} {ds : List D} {H : Hp} (g : SR F Γ σ W) (s : Same W.H H) (n : W.H a = none) (e : H a = some (.lst vs)) (l : RepL (W.plus H a) ds vs) :
    Stp F W (W.plus H a) ∧ SR F (Γ.set i (.own ds)) (σ.set i (some (.ref a))) (W.plus H a) := by
  obtain ⟨st, g2, no, f, p⟩ := g.plus s n (by rw [e]; exact fun z => nomatch z)
  exact ⟨st, g2.adopt (Or.inr rfl) f p e l no⟩
end Dw

/-! Rules over data: own lists changed, statements, defs and their calls. -/
namespace Dw
open PySem PySem.Spec PyProof.Rows L2
variable [Tabs0]

/-! ### an own list is changed -/
theorem SR.writeX {F : Addr → Prop} {Γ : Gam} {σ : L2.St} {W : Wd} {i : Nat} {a : Addr} {vs : List V} {ds es : Ow} (g : SR F Γ σ W) (hi : Γ[i]? = some (.ownX ds)) (hs : σ[i]? = some (some (.ref a))) (l : RepL W es.ds vs) :
    Stp F W (W.at (upd W.H a (es.cell vs))) ∧ SR F (Γ.set i (.ownX es)) σ (W.at (upd W.H a (es.cell vs))) := by
  obtain ⟨a', us, e1, u, f, p, q, r⟩ := g.ownX i ds hi
  rw [hs] at e1; cases e1
  have kp : ∀ b o, W.H b = some o → ¬ W.U b → (upd W.H a (es.cell vs)) b = some o ∧ ¬ W.U b := fun b o e n => ⟨by rw [upd_ne (fun z : b = a => n (by rw [z]; exact u))]; exact e, n⟩
  have st : Stp F W (W.at (upd W.H a (es.cell vs))) := ⟨kp, rfl, fun b h => upd_ne (fun z : b = a => f (by rw [← z]; exact h))⟩
  refine ⟨st, ⟨⟨fun b h z => ?_, g.ok.fu, fun b h => ?_⟩, by simp [g.len], fun j d q' => ?_, fun j fs q' => ?_, fun j k c es' fs q1 q2 q3 q4 => ?_⟩⟩
  · have z : (upd W.H a (es.cell vs)) b = none := z
    by_cases hb : b = a
    · rw [hb, upd_same] at z; cases z
    · rw [upd_ne hb] at z; exact g.ok.dom b h z
  · obtain ⟨u', f', o⟩ := g.ok.pu b h
    exact ⟨u', f', o.upd (no_extX q) fun z : b = a => p (by rw [← z]; exact h)⟩
  · have hj : i ≠ j := fun z => by
      subst z
      have hl : i < Γ.length := (List.getElem?_eq_some_iff.mp hi).1
      rw [List.getElem?_set_self hl] at q'; cases q'
    rw [List.getElem?_set_ne hj] at q'
    obtain ⟨v, e1, r'⟩ := g.val j d q'
    exact ⟨v, e1, r'.stp st⟩
  · by_cases hj : i = j
    · subst hj
      have hl : i < Γ.length := (List.getElem?_eq_some_iff.mp hi).1
      rw [List.getElem?_set_self hl] at q'; cases q'
      exact ⟨a, vs, hs, u, f, p, upd_same, l.stp st⟩
    · rw [List.getElem?_set_ne hj] at q'
      obtain ⟨c, ws, e1, u', f', p', q1, r'⟩ := g.ownX j fs q'
      have nc : c ≠ a := fun z => hj (g.apartX i j a ds fs hi q' hs (z ▸ e1))
      exact ⟨c, ws, e1, u', f', p', (upd_ne nc).trans q1, r'.stp st⟩
  · have get : ∀ (j : Nat) (es' : Ow), (Γ.set i (.ownX es))[j]? = some (Sl.ownX es') → ∃ fs, Γ[j]? = some (Sl.ownX fs) := fun j es' q => by
      by_cases hj : i = j
      · subst hj; exact ⟨ds, hi⟩
      · rw [List.getElem?_set_ne hj] at q; exact ⟨es', q⟩
    obtain ⟨x, e1⟩ := get j es' q1
    obtain ⟨y, e2⟩ := get k fs q2
    exact g.apartX j k c x y e1 e2 q3 q4
theorem SR.write {F : Addr → Prop} {Γ : Gam} {σ : L2.St} {W : Wd} {i : Nat} {a : Addr} {vs : List V} {ds es : List D} (g : SR F Γ σ W) (hi : Γ[i]? = some (.own ds)) (hs : σ[i]? = some (some (.ref a))) (l : RepL W es vs) :
    Stp F W (W.at (upd W.H a (.lst vs))) ∧ SR F (Γ.set i (.own es)) σ (W.at (upd W.H a (.lst vs))) := g.writeX (ds := ⟨none, ds⟩) (es := ⟨none, es⟩) hi hs l
section
variable {K : PySem.W.Frag} {Γ : Gam} {i : Nat} {t : TA} {Q : D → Gam → Prop} {ds : List D}
/-- i's list is at the same place behind a step -/
theorem tyV_lst {K : PySem.W.Frag} {H : Hp} {a : Addr} {vs : List V} (h : H a = some (.lst vs)) : tyV K "list" (.ref a) H := .inl ⟨rfl, _, .inl (.inl h)⟩
theorem dl_append (h0 : ∃ ds, Γ[i]? = some (.own ds)) (h : DlA t Γ fun es Γ1 => ∃ e ds, es = [e] ∧ Γ1[i]? = some (.own ds) ∧ ds.length < sizeLine ∧ Q .non (Γ1.set i (.own (ds ++ [e])))) : Dl (tBM K "list" rAppend (tVar i) t) Γ Q := fun F σ W R g k => by
  obtain ⟨ds0, e0⟩ := h0
  obtain ⟨a, vs0, hs, _, _, _, q0, _⟩ := g.own i ds0 e0
  refine ⟨.ref a, hs, tyV_lst q0, h F σ W _ g fun us W1 es Γ1 s1 g1 l1 ⟨e, ds, e1, e2, hz, q⟩ => ?_⟩
  obtain ⟨a', vs, hs', u, f, p, q1, r1⟩ := g1.own i ds e2
  rw [hs] at hs'; cases hs'
  subst e1
  obtain ⟨v, _, rfl, l1, rfl⟩ := l1
  obtain ⟨st, g2⟩ := g1.write e2 hs (r1.append (RepL.one l1))
  exact ⟨a, vs, v, rfl, rfl, q1, by rw [← r1.length]; exact hz, k .non _ .non _ (s1.trans st) g2 rfl q⟩
end

/-! ### statements -/
section
variable {K : PySem.W.Frag} {Γ : Gam} {i j : Nat} {t u : TS} {te : TE} {De : DE} {ds es : List D}
theorem ds_next (h : De.nx Γ) : Ds tNext Γ De := fun F σ W Dr g l => l.nx σ W Γ (Stp.refl W) g h
theorem ds_seq (h : Ds t Γ { De with nx := fun Γ' => Ds u Γ' De }) : Ds (tSeq t u) Γ De := fun F σ W Dr g l => h F σ W { Dr with nx := u Dr } g
  ⟨fun σ1 W1 Γ1 s g1 q => q F σ1 W1 Dr g1 (l.after s), l.rt, l.bk, l.ct⟩
theorem ds_asg (h : Dl te Γ fun d Γ1 => De.nx (Γ1.set i (.val d))) : Ds (tAsg te (gName i)) Γ De := fun F σ W Dr g l => h F σ W _ g fun v W1 d Γ1 s g1 r q => l.nx _ W1 _ s (g1.set r) q
theorem ds_asg_own (h : EvN te Γ ds) (q : De.nx (Γ.set i (.own ds))) : Ds (tAsg te (gName i)) Γ De := fun F σ W Dr g l => h F σ W _ g fun a vs H s n e r =>
  let ⟨st, g2⟩ := g.setOwn (i := i) s n e r
  l.nx _ (W.plus H a) _ st g2 q
theorem ds_if {c : TT} (h : DlT c Γ fun b Γ1 => (b = true → Ds t Γ1 De) ∧ (b = false → Ds u Γ1 De)) : Ds (tIfS c t u) Γ De := fun F σ W Dr g l => h F σ W _ g fun b W1 Γ1 s g1 q => by
  cases b with
  | true => exact q.1 rfl F σ W1 Dr g1 (l.after s)
  | false => exact q.2 rfl F σ W1 Dr g1 (l.after s)
theorem ds_ret (h : Dl te Γ fun d _ => De.rt d) : Ds (tRet te) Γ De := fun F σ W Dr g l => h F σ W _ g fun v W1 d Γ1 s g1 r q => l.rt v W1 d s g1.ok r q
theorem ds_drop (h : Dl te Γ fun _ Γ1 => De.nx Γ1) : Ds (tDrop te) Γ De := fun F σ W Dr g l => h F σ W _ g fun v W1 d Γ1 s g1 r q => l.nx _ W1 _ s g1 q
/-- an own list is no longer changed -/
theorem SR.freeze {F : Addr → Prop} {σ : L2.St} {W : Wd} {a : Addr} (g : SR F Γ σ W) (hi : Γ[i]? = some (.own ds)) (hs : σ[i]? = some (some (.ref a))) :
    Stp F W ⟨W.H, fun b => W.U b ∧ b ≠ a, W.P⟩ ∧ SR F (Γ.set i (.val (.lst ds))) σ ⟨W.H, fun b => W.U b ∧ b ≠ a, W.P⟩ := by
  obtain ⟨a', us, e1, u, f, p, q, r⟩ := g.own i ds hi
  rw [hs] at e1; cases e1
  have st : Stp F W ⟨W.H, fun b => W.U b ∧ b ≠ a, W.P⟩ := ⟨fun b o e n => ⟨e, fun z => n z.1⟩, rfl, fun _ _ => rfl⟩
  have hl : i < Γ.length := (List.getElem?_eq_some_iff.mp hi).1
  refine ⟨st, ⟨⟨fun b h => g.ok.dom b h.1, fun b h => ⟨g.ok.fu b h, fun z => f (z ▸ h)⟩, fun b h => let ⟨u', f', pp⟩ := g.ok.pu b h; ⟨⟨u', fun z => p (z ▸ h)⟩, f', pp.sub fun _ z => z.1⟩⟩, by simp [g.len], fun j d q' => ?_, fun j fs q' => ?_, fun j k c es' fs q1 q2 q3 q4 => ?_⟩⟩
  · by_cases hj : i = j
    · subst hj
      rw [List.getElem?_set_self hl] at q'; cases q'
      exact ⟨.ref a, hs, a, us, rfl, q, fun z => z.2 rfl, r.stp st⟩
    · rw [List.getElem?_set_ne hj] at q'
      obtain ⟨v, e1, r'⟩ := g.val j d q'
      exact ⟨v, e1, r'.stp st⟩
  · have hj : i ≠ j := fun z => by
      subst z
      rw [List.getElem?_set_self hl] at q'; cases q'
    rw [List.getElem?_set_ne hj] at q'
    obtain ⟨c, ws, e1, u', f', p', q1, r'⟩ := g.ownX j fs q'
    exact ⟨c, ws, e1, ⟨u', fun z => hj (g.apartX i j a ⟨none, ds⟩ fs hi q' hs (z ▸ e1))⟩, f', p', q1, r'.stp st⟩
  · have get : ∀ (j : Nat) (es' : Ow), (Γ.set i (.val (.lst ds)))[j]? = some (Sl.ownX es') → Γ[j]? = some (Sl.ownX es') := fun j es' q => by
      by_cases hj : i = j
      · subst hj; rw [List.getElem?_set_self hl] at q; cases q
      · rw [List.getElem?_set_ne hj] at q; exact q
    exact g.apartX j k c es' fs (get j es' q1) (get k fs q2) q3 q4
theorem ds_freeze (i : Nat) (hi : Γ[i]? = some (.own ds)) (h : Ds t (Γ.set i (.val (.lst ds))) De) : Ds t Γ De := fun F σ W Dr g l => by
  obtain ⟨a, vs, hs, _⟩ := g.own i ds hi
  obtain ⟨st, g2⟩ := g.freeze hi hs
  exact h F σ ⟨W.H, fun b => W.U b ∧ b ≠ a, W.P⟩ Dr g2 (l.after st)
end

/-! ### a def's promise over data -/
/-- for each x : α that is ok, called with args x, it returns some d with rel x d -/
structure Spc where
  ty : Type
  args : ty → List D
  ok : ty → Prop
  rel : ty → D → Prop
def toSp (s : Spc) : Sp := fun vs H Q _ => ∃ (x : s.ty) (F : Addr → Prop) (W : Wd), W.H = H ∧ WOk F W ∧ RepL W (s.args x) vs ∧ s.ok x ∧ ∀ d v W', s.rel x d → Stp F W W' → WOk F W' → Rep W' d v → Q v W'.H
/-- the slots at a def's start -/
def Gz0 (n : Nat) (ds : List D) : Gam := ds.map Sl.val ++ List.replicate (n - ds.length) Sl.unset
theorem sr_start {F : Addr → Prop} {W : Wd} {N : List Str} {ds : List D} {vs : List V} (ok : WOk F W) (r : RepL W ds vs) : SR F (Gz0 N.length ds) (L2.start N vs) W := by
  have hl := r.length
  refine ⟨ok, by simp [Gz0, L2.start, hl], fun i d e => ?_, fun i d e => ?_, fun i j a ds' es e => ?_⟩
  · unfold Gz0 at e
    by_cases hi : i < ds.length
    · rw [List.getElem?_append_left (by simpa using hi), List.getElem?_map] at e
      cases q : ds[i]? with
      | none => rw [q] at e; cases e
      | some d' =>
        rw [q] at e; cases e
        obtain ⟨v, e1, r1⟩ := r.get q
        refine ⟨v, ?_, r1⟩
        unfold L2.start
        rw [List.getElem?_append_left (by simp [← hl, hi]), List.getElem?_map, e1]
        rfl
    · rw [List.getElem?_append_right (by simpa using hi)] at e
      have := List.mem_of_getElem? e
      rw [List.mem_replicate] at this
      cases this.2
  all_goals
    exfalso
    unfold Gz0 at e
    by_cases hi : i < ds.length
    · rw [List.getElem?_append_left (by simpa using hi), List.getElem?_map] at e
      cases q : ds[i]? with
      | none => rw [q] at e; cases e
      | some d' => rw [q] at e; cases e
    · rw [List.getElem?_append_right (by simpa using hi)] at e
      have := List.mem_of_getElem? e
      rw [List.mem_replicate] at this
      cases this.2
theorem body_of {s : Spc} {N : List Str} {t : TS} {vs : List V} {H : Hp} {Q : VK} {E : XK} (hs : toSp s vs H Q E) (hb : ∀ x, s.ok x → Ds t (Gz0 N.length (s.args x)) ⟨fun _ => s.rel x .non, s.rel x, fun _ => False, fun _ => False⟩) :
    t { nx := fun _ H' => Q .non H', rt := Q } (L2.start N vs) H := by
  obtain ⟨x, F, W, rfl, ok, r, hx, q⟩ := hs
  exact hb x hx F _ W _ (sr_start ok r) ⟨fun σ W' Γ st g h => q .non .non W' h st g.ok rfl, fun v W' d st ok' r' h => q d v W' h st ok' r', fun _ _ _ _ _ h => h.elim, fun _ _ _ _ _ h => h.elim⟩
theorem spc_len {s : Spc} {n : Nat} (h : ∀ x, (s.args x).length = n) : ∀ vs H Q E, toSp s vs H Q E → vs.length = n := fun vs H Q E ⟨x, F, W, _, _, r, _⟩ => by rw [← r.length]; exact h x
section
variable {P : Program} {w : World} {K : PySem.W.Frag} {mg : Str → Option Value} {base : Heap}
/-- THE RULE for a def that raises nothing -/
theorem fn_ok {x qual : Str} {st : Stmt} {f : Addr} {fd : FuncData} {N ps : List Str} {k : Nat} {s : Spc} (F : Fun K x qual st f fd) (S : FnScope N ps (defScope st)) (len : ∀ x, (s.args x).length = ps.length)
    (hbody : ∀ (cdv : Value) (A : Around) (outer : List Env) (s' : Shared) (H : Hp) (E : XK), Room k (A.deeper (envOfC qual (defScope st) s'.heap.objs.size f cdv)) →
      ∃ t, PSs (cxOf CX0 P w K mg base N qual (defScope st) f cdv A outer s' H E).nox (defBody st) t ∧ ∀ x, s.ok x → Ds t (Gz0 N.length (s.args x)) ⟨fun _ => s.rel x .non, s.rel x, fun _ => False, fun _ => False⟩) :
    FnOk P w K mg base CX0 (k + 1) f fd ps (toSp s) :=
  F.ok S (spc_len len) fun cdv A outer s' H vs Q E hr h => by
    obtain ⟨t, p, hb⟩ := hbody cdv A outer s' H E hr
    exact ⟨t, p, body_of h hb⟩
end
section
variable {Γ : Gam} {s : Spc} {t tk : TA} {E : XK} {Q : D → Gam → Prop} {ds es : List D} {d : D}
theorem dl_call (h : DlA t Γ fun ds Γ1 => ∃ x, ds = s.args x ∧ s.ok x ∧ ∀ d, s.rel x d → Q d Γ1) : Dl (tCall (toSp s) [] E t) Γ Q := fun F σ W R g k => h F σ W _ g fun vs W1 ds Γ1 st g1 r ⟨x, e, ok, q⟩ => by
  subst e
  rw [List.append_nil]
  exact ⟨x, _, W1, rfl, g1.callOk, r, ok, fun d v W' hd st' ok' r' => k v W' d Γ1 (st.trans (st'.sub fun _ z => .inl z)) (g1.call st' ok') r' (q d hd)⟩
theorem pure_call {F : Addr → Prop} {σ : L2.St} {W : Wd} {vs : List V} {x : s.ty} {R : VK} {U : Addr → Prop} (g : SR F Γ σ W) (ul : ∀ a, U a → W.U a) (hU : RepL ⟨W.H, U, fun _ => False⟩ (s.args x) vs) (ok : s.ok x) (k : ∀ d v H, s.rel x d → Same W.H H → Rep ⟨H, U, fun _ => False⟩ d v → R v H) : toSp s vs W.H R E := by
  refine ⟨x, U, ⟨W.H, U, fun _ => False⟩, rfl, ⟨fun a h => g.ok.dom a (ul a h), fun a h => h, fun a h => h.elim⟩, hU, ok, fun d v W' hd st ok' r => ?_⟩
  refine k d v W'.H hd (fun b o e => ?_) (Rep.mono (W := W') (W' := ⟨W'.H, U, fun _ => False⟩) (fun a u e n => ⟨e, fun z => n (ok'.fu a z)⟩) (fun a z => by rw [st.pur] at z; exact z) d v r)
  by_cases hb : U b
  · exact (st.fr b hb).trans e
  · exact (st.keep b o e hb).1
/-- purse-free data, as seen by a def that draws nothing -/
theorem Rep.addP {W : Wd} {H : Hp} {U P : Addr → Prop} {d : D} {v : V} (h : Rep ⟨H, U, fun _ => False⟩ d v) : Rep ⟨H, U, P⟩ d v := Rep.mono (W := ⟨H, U, fun _ => False⟩) (W' := ⟨H, U, P⟩) (fun _ _ e n => ⟨e, n⟩) (fun _ z => z.elim) d v h
mutual
/-- no purse within -/
def noP : D → Bool
  | .purse => false | .scr _ _ => false | .tag _ => false
  | .clo _ _ ds => noPs ds | .tup ds => noPs ds | .lst ds => noPs ds | .obj _ _ ds => noPs ds | .dct _ ds => noPs ds | .tupN ds => noPs ds
  | _ => true
def noPs : List D → Bool
  | [] => true
  | d :: ds => noP d && noPs ds
end
mutual
theorem Rep.delP {W : Wd} : ∀ (d : D) (v : V), noP d = true → Rep W d v → Rep ⟨W.H, W.U, fun _ => False⟩ d v
  | .non, _, _, h => h
  | .bl _, _, _, h => h
  | .int _, _, _, h => h
  | .str _, _, _, h => h
  | .raw _, _, _, h => h
  | .tup ds, _, n, ⟨a, vs, e, h, u, r⟩ => ⟨a, vs, e, h, u, RepL.delP ds vs n r⟩
  | .tupN ds, _, n, ⟨a, vs, e, h, u, r⟩ => ⟨a, vs, e, h, u, RepL.delP ds vs n r⟩
  | .lst ds, _, n, ⟨a, vs, e, h, u, r⟩ => ⟨a, vs, e, h, u, RepL.delP ds vs n r⟩
  | .obj C ns ds, _, n, ⟨a, dx, vs, e, h, u, l, r⟩ => ⟨a, dx, vs, e, h, u, l, RepL.delP ds vs n r⟩
  | .purse, _, n, _ => nomatch n
  | .rng _ _, _, _, h => h
  | .dct ks ds, _, n, ⟨a, vs, e, h, u, l, r⟩ => ⟨a, vs, e, h, u, l, RepL.delP ds vs n r⟩
  | .scr _ _, _, n, _ => nomatch n
  | .tag _, _, n, _ => nomatch n
  | .fnv _ _, _, _, h => h
  | .clo L ns ds, _, n, ⟨f, c, cl, vs, e, h1, n1, h2, n2, a1, a2, a3, a4, q, r⟩ => ⟨f, c, cl, vs, e, h1, n1, h2, n2, a1, a2, a3, a4, q, RepL.delP ds vs n r⟩
theorem RepL.delP {W : Wd} : ∀ (ds : List D) (vs : List V), noPs ds = true → RepL W ds vs → RepL ⟨W.H, W.U, fun _ => False⟩ ds vs
  | [], _, _, h => h
  | d :: ds, _, n, ⟨v, r, e, h1, h2⟩ => by
    have n' : noP d = true ∧ noPs ds = true := by simpa [noPs] using n
    exact ⟨v, r, e, Rep.delP d v n'.1 h1, RepL.delP ds r n'.2 h2⟩
end
theorem noPs_map {α : Type} {f : α → D} (h : ∀ x, noP (f x) = true) : ∀ xs : List α, noPs (xs.map f) = true
  | [] => rfl
  | x :: xs => by
    show (noP (f x) && noPs (xs.map f)) = true
    rw [h, noPs_map h xs]; rfl
/-- a call that draws nothing -/
theorem ev_call {x : s.ty} (h : EvA t Γ (s.args x)) (np : noPs (s.args x) = true) (ok : s.ok x) (hd : ∀ d', s.rel x d' → d' = d) : Ev (tCall (toSp s) [] E t) Γ d := fun F σ W R g k => h F σ W _ g fun vs H st r => by
  rw [List.append_nil]
  exact pure_call (W := W.at H) (g.same st) (fun _ z => z) (RepL.delP _ _ np r) ok fun d' v H' hd' s' r' => by
    rw [hd d' hd'] at r'
    exact k v H' (Same.trans st s') (Rep.addP (W := W) r')
end
end Dw

/-! Rules over data: targets, iterators, for, comprehensions. -/
namespace Dw
open PySem PySem.Spec PyProof.Rows L2
variable [Tabs0]

/-! ### wiped slots -/
theorem wipe_get (σ : L2.St) (j : Nat) : ∀ vs : List Nat, (wipe σ vs)[j]? = if j ∈ vs then (if j < σ.length then some none else none) else σ[j]?
  | [] => by simp [wipe]
  | v :: vs => by
    unfold wipe
    by_cases hv : v = j
    · subst hv
      rw [if_pos List.mem_cons_self]
      by_cases hl : v < σ.length
      · rw [List.getElem?_set_self (by rw [wipe_length]; exact hl), if_pos hl]
      · rw [if_neg hl]
        exact List.getElem?_eq_none (by rw [List.length_set, wipe_length]; omega)
    · rw [List.getElem?_set_ne hv, wipe_get σ j vs]
      by_cases hm : j ∈ vs
      · rw [if_pos hm, if_pos (List.mem_cons_of_mem _ hm)]
      · rw [if_neg hm, if_neg (by simp only [List.mem_cons, not_or]; exact ⟨fun z => hv z.symm, hm⟩)]
theorem wipe_set {σ : L2.St} {i : Nat} {o : Option V} {vs : List Nat} (h : i ∈ vs) : wipe (σ.set i o) vs = wipe σ vs := by
  refine List.ext_getElem? fun j => ?_
  rw [wipe_get, wipe_get, List.length_set]
  by_cases hm : j ∈ vs
  · rw [if_pos hm, if_pos hm]
  · rw [if_neg hm, if_neg hm, List.getElem?_set_ne (fun z : i = j => hm (by rw [← z]; exact h))]
theorem wipe_wipe {σ : L2.St} {vs : List Nat} : wipe (wipe σ vs) vs = wipe σ vs := by
  refine List.ext_getElem? fun j => ?_
  rw [wipe_get (wipe σ vs), wipe_get σ, wipe_length]
  by_cases hm : j ∈ vs
  · rw [if_pos hm, if_pos hm]
  · rw [if_neg hm, if_neg hm]
def wipeG (Γ : Gam) : List Nat → Gam
  | [] => Γ
  | v :: vs => (wipeG Γ vs).set v .unset
theorem wipeG_length (Γ : Gam) : ∀ vs : List Nat, (wipeG Γ vs).length = Γ.length
  | [] => rfl
  | v :: vs => by unfold wipeG; rw [List.length_set, wipeG_length Γ vs]
theorem wipeG_get {Γ : Gam} {j : Nat} {s : Sl} : ∀ {vs : List Nat}, (wipeG Γ vs)[j]? = some s → s = .unset ∨ (Γ[j]? = some s ∧ j ∉ vs)
  | [], h => .inr ⟨h, by simp⟩
  | v :: vs, h => by
    unfold wipeG at h
    by_cases hv : v = j
    · subst hv
      have hl : v < (wipeG Γ vs).length := by
        have := (List.getElem?_eq_some_iff.mp h).1
        simpa using this
      rw [List.getElem?_set_self hl] at h
      cases h; exact .inl rfl
    · rw [List.getElem?_set_ne hv] at h
      rcases wipeG_get h with h | ⟨h1, h2⟩
      · exact .inl h
      · exact .inr ⟨h1, by simp only [List.mem_cons, not_or]; exact ⟨fun z => hv z.symm, h2⟩⟩
theorem SR.wipe {F : Addr → Prop} {Γ : Gam} {σ : L2.St} {W : Wd} (g : SR F Γ σ W) (vs : List Nat) : SR F (wipeG Γ vs) (wipe σ vs) W :=
  g.weak (by rw [wipeG_length, wipe_length, g.len]) fun i s e => by
    rcases wipeG_get e with h | ⟨h1, h2⟩
    · exact .inl h
    · exact .inr ⟨h1, by rw [wipe_get, if_neg h2]⟩
theorem SR.unwipe {F : Addr → Prop} {Γ : Gam} {σ : L2.St} {W : Wd} {vs : List Nat} (g : SR F Γ (L2.wipe σ vs) W) : SR F Γ σ W :=
  ⟨g.ok, by rw [g.len, wipe_length], fun i d e => let ⟨v, e1, r⟩ := g.val i d e; ⟨v, (wipe_some e1).1, r⟩,
   fun i ds e => let ⟨a, vs', e1, r⟩ := g.ownX i ds e; ⟨a, vs', (wipe_some e1).1, r⟩, fun i j a ds es e1 e2 e3 e4 => by
    obtain ⟨b, _, q1, _⟩ := g.ownX i ds e1
    obtain ⟨c, _, q2, _⟩ := g.ownX j es e2
    have z1 := (wipe_some q1).1
    have z2 := (wipe_some q2).1
    rw [e3] at z1; cases z1
    rw [e4] at z2; cases z2
    exact g.apartX i j _ ds es e1 e2 q1 q2⟩

/-! ### targets -/
/-- storing x changes the slots is alone -/
def DG (g : TG) (is : List Nat) (x : D) (Γ Γ' : Gam) : Prop := ∀ (F : Addr → Prop) (σ : L2.St) (W : Wd) (v : V) (R : L2.St → Hp → Prop), SR F Γ σ W → Rep W x v →
  (∀ σ', SR F Γ' σ' W → (∀ vs : List Nat, (∀ i ∈ is, i ∈ vs) → wipe σ' vs = wipe σ vs) → R σ' W.H) → g v σ W.H R
theorem dg_name {i : Nat} {x : D} {Γ : Gam} : DG (gName i) [i] x Γ (Γ.set i (.val x)) := fun F σ W v R g r k => k _ (g.set r) fun vs h => wipe_set (h i List.mem_cons_self)
theorem dg_tup2 {K : PySem.W.Frag} {g1 g2 : TG} {is js : List Nat} {x y : D} {Γ Γ1 Γ2 : Gam} (h1 : DG g1 is x Γ Γ1) (h2 : DG g2 js y Γ1 Γ2) : DG (gTup K 2 (gCons g1 (gCons g2 gNil))) (is ++ js) (.tup [x, y]) Γ Γ2 := fun F σ W v R g r k => by
  obtain ⟨a, vs, e, ha, nu, v1, _, rfl, r1, v2, _, rfl, r2, rfl⟩ := r
  refine ⟨a, [v1, v2], e, ha.sq, rfl, v1, [v2], rfl, h1 F σ W v1 _ g r1 fun σ1 g1 w1 => ⟨v2, [], rfl, h2 F σ1 W v2 _ g1 r2 fun σ2 g2 w2 => ⟨rfl, k σ2 g2 fun vs h => ?_⟩⟩⟩
  rw [w2 vs fun i hi => h i (List.mem_append_right _ hi), w1 vs fun i hi => h i (List.mem_append_left _ hi)]
theorem dg_tup3 {K : PySem.W.Frag} {g1 g2 g3 : TG} {is js ks : List Nat} {x y z : D} {Γ Γ1 Γ2 Γ3 : Gam} (h1 : DG g1 is x Γ Γ1) (h2 : DG g2 js y Γ1 Γ2) (h3 : DG g3 ks z Γ2 Γ3) : DG (gTup K 3 (gCons g1 (gCons g2 (gCons g3 gNil)))) (is ++ (js ++ ks)) (.tup [x, y, z]) Γ Γ3 := fun F σ W v R g r k => by
  obtain ⟨a, vs, e, ha, nu, v1, _, rfl, r1, v2, _, rfl, r2, v3, _, rfl, r3, rfl⟩ := r
  refine ⟨a, [v1, v2, v3], e, ha.sq, rfl, v1, [v2, v3], rfl, h1 F σ W v1 _ g r1 fun σ1 g1 w1 => ⟨v2, [v3], rfl, h2 F σ1 W v2 _ g1 r2 fun σ2 g2 w2 => ⟨v3, [], rfl, h3 F σ2 W v3 _ g2 r3 fun σ3 g3 w3 => ⟨rfl, k σ3 g3 fun vs h => ?_⟩⟩⟩⟩
  rw [w3 vs fun i hi => h i (List.mem_append_right _ (List.mem_append_right _ hi)), w2 vs fun i hi => h i (List.mem_append_right _ (List.mem_append_left _ hi)), w1 vs fun i hi => h i (List.mem_append_left _ hi)]
theorem ds_asg_g {te : TE} {g : TG} {Γ : Gam} {De : DE} (h : Dl te Γ fun d Γ1 => ∃ is Γ2, DG g is d Γ1 Γ2 ∧ De.nx Γ2) : Ds (tAsg te g) Γ De := fun F σ W Dr s l => h F σ W _ s fun v W1 d Γ1 st g1 r ⟨is, Γ2, hg, q⟩ =>
  hg F σ W1 v _ g1 r fun σ' g' _ => l.nx σ' W1 Γ2 st g' q

/-! ### iterators -/
structure ItOk (F : Addr → Prop) (W : Wd) (J : It) (xs : List D) : Prop where
  go : ∀ (W1 : Wd) (i : Nat) (x : D), Stp F W W1 → WOk F W1 → xs[i]? = some x → J.go i W1.H ∧ ∀ v H', J.yld i W1.H v H' → Same W1.H H' ∧ Rep (W1.at H') x v
  stop : ∀ (W1 : Wd), Stp F W W1 → WOk F W1 → J.stop xs.length W1.H
structure ItS (W : Wd) (J : It) (xs : List D) : Prop where
  go : ∀ (W1 : Wd) (i : Nat) (x : D), (∀ a, W1.U a → W1.H a ≠ none) → Same W.H W1.H → (∀ a u, W.H a = some u → ¬ W.U a → ¬ W1.U a) → W1.P = W.P → xs[i]? = some x → J.go i W1.H ∧ ∀ v H', J.yld i W1.H v H' → Same W1.H H' ∧ Rep (W1.at H') x v
  stop : ∀ (H : Hp), Same W.H H → J.stop xs.length H
def Di (wi : TI) (Γ : Gam) (Q : List D → Gam → Prop) : Prop := ∀ (F : Addr → Prop) (σ : L2.St) (W : Wd) (R : It → Hp → Prop), SR F Γ σ W → (∀ J W' xs Γ', Stp F W W' → SR F Γ' σ W' → ItOk F W' J xs → Q xs Γ' → R J W'.H) → wi σ W.H R
def Ei (wi : TI) (Γ : Gam) (xs : List D) : Prop := ∀ (F : Addr → Prop) (σ : L2.St) (W : Wd) (R : It → Hp → Prop), SR F Γ σ W → (∀ J H, Same W.H H → ItS (W.at H) J xs → R J H) → wi σ W.H R
section
variable {K : PySem.W.Frag} {Γ : Gam} {t : TE} {ta : TA} {xs : List D} {Q : List D → Gam → Prop}
theorem di_list (h : Dl t Γ fun d Γ1 => ∃ xs, d = .lst xs ∧ Q xs Γ1) : Di (iList K t) Γ Q := fun F σ W R g k => h F σ W _ g fun v W1 d Γ1 st g1 r ⟨xs, e, q⟩ => by
  subst e
  obtain ⟨a, vs, rfl, ha, nu, l⟩ := r
  refine ⟨a, rfl, ⟨vs, .of ha⟩, k (Itl K a) W1 xs Γ1 st g1 ⟨fun W2 i x s2 ok2 hx => ?_, fun W2 s2 ok2 => ⟨vs, .of (s2.keep a _ ha nu).1, by rw [l.length]; exact Nat.le_refl _⟩⟩ q⟩
  obtain ⟨v, hv, rv⟩ := l.get hx
  exact ⟨⟨vs, v, .of (s2.keep a _ ha nu).1, hv⟩, fun u H' ⟨e, hy⟩ => by
    subst e
    have := hy vs (.of (s2.keep a _ ha nu).1)
    rw [hv] at this; cases this
    exact ⟨Same.refl _, rv.stp s2⟩⟩
theorem ei_list (h : EvB t Γ xs) : Ei (iList K t) Γ xs := fun F σ W R g k => h F σ W _ g fun a vs H st ha l => by
  refine ⟨a, rfl, ⟨vs, .of ha⟩, k (Itl K a) H st ⟨fun W2 i x dm s2 ku pu hx => ?_, fun H2 s2 => ⟨vs, .of (s2 a _ ha), by rw [l.length]; exact Nat.le_refl _⟩⟩⟩
  obtain ⟨v, hv, rv⟩ := l.get hx
  exact ⟨⟨vs, v, .of (s2 a _ ha), hv⟩, fun u H' ⟨e, hy⟩ => by
    subst e
    have := hy vs (.of (s2 a _ ha))
    rw [hv] at this; cases this
    exact ⟨Same.refl _, Rep.mono (W := W.at H) (W' := W2) (fun b u e n => ⟨s2 b u e, ku b u e n⟩) (fun b z => by rw [pu]; exact z) _ _ rv⟩⟩
theorem ei_tup (h : Ev t Γ (.tup xs)) : Ei (iTup K t) Γ xs := fun F σ W R g k => h F σ W _ g fun v H st ⟨a, vs, e, ha, nu, l⟩ => by
  subst e
  refine ⟨a, rfl, ⟨vs, ha.sq⟩, k (Itt K a) H st ⟨fun W2 i x dm s2 ku pu hx => ?_, fun H2 s2 => ⟨vs, (ha.same s2).sq, by rw [l.length]; exact Nat.le_refl _⟩⟩⟩
  obtain ⟨v, hv, rv⟩ := l.get hx
  exact ⟨⟨vs, v, (ha.same s2).sq, hv⟩, fun u H' ⟨e, hy⟩ => by
    subst e
    have := hy vs ((ha.same s2).sq)
    rw [hv] at this; cases this
    exact ⟨Same.refl _, Rep.mono (W := W.at H) (W' := W2) (fun b u e n => ⟨s2 b u e, ku b u e n⟩) (fun b z => by rw [pu]; exact z) _ _ rv⟩⟩
theorem di_tup (h : Dl t Γ fun d Γ1 => ∃ xs, d = .tup xs ∧ Q xs Γ1) : Di (iTup K t) Γ Q := fun F σ W R g k => h F σ W _ g fun v W1 d Γ1 st g1 r ⟨xs, e, q⟩ => by
  subst e
  obtain ⟨a, vs, rfl, ha, nu, l⟩ := r
  refine ⟨a, rfl, ⟨vs, ha.sq⟩, k (Itt K a) W1 xs Γ1 st g1 ⟨fun W2 i x s2 ok2 hx => ?_, fun W2 s2 ok2 => ⟨vs, (ha.keep nu (s2.keep a)).1.sq, by rw [l.length]; exact Nat.le_refl _⟩⟩ q⟩
  obtain ⟨v, hv, rv⟩ := l.get hx
  exact ⟨⟨vs, v, (ha.keep nu (s2.keep a)).1.sq, hv⟩, fun u H' ⟨e, hy⟩ => by
    subst e
    have := hy vs ((ha.keep nu (s2.keep a)).1.sq)
    rw [hv] at this; cases this
    exact ⟨Same.refl _, rv.stp s2⟩⟩
/-- 0, 1, .., n - 1 -/
def rng (n : Nat) : List D := (List.range n).map fun (i : Nat) => D.int i
theorem rng_get {n i : Nat} {x : D} (h : (rng n)[i]? = some x) : i < n ∧ x = .int i := by
  unfold rng at h
  rw [List.getElem?_map] at h
  by_cases hi : i < n
  · rw [List.getElem?_range hi] at h
    cases h; exact ⟨hi, rfl⟩
  · rw [List.getElem?_eq_none (by simpa using hi)] at h; cases h
theorem rng_length (n : Nat) : (rng n).length = n := by simp [rng]
theorem di_range {Q : List D → Gam → Prop} (h : DlA ta Γ fun ds Γ1 => ∃ n : Nat, ds = [.int n] ∧ n < 2 ^ 62 ∧ Q (rng n) Γ1) : Di (iRng1 ta) Γ Q := fun F σ W R g k => h F σ W _ g fun vs W1 ds Γ1 st g1 r ⟨n, e, hn, q⟩ => by
  subst e
  obtain ⟨v, _, rfl, rv, rfl⟩ := r
  refine ⟨n, by rw [show v = V.int n from rv], by omega, by omega, k (Itr 0 (n : Int).toNat) W1 (rng n) Γ1 st g1 ⟨fun W2 i x s2 ok2 hx => ?_, fun W2 s2 ok2 => ?_⟩ q⟩
  · obtain ⟨hi, rfl⟩ := rng_get hx
    refine ⟨by show i < (n : Int).toNat; omega, fun u H' ⟨e, hy⟩ => ?_⟩
    subst e hy
    exact ⟨Same.refl _, by show V.int (0 + (i : Int)) = V.int i; rw [Int.zero_add]⟩
  · show (n : Int).toNat ≤ _
    rw [rng_length]; omega
theorem ei_range {n : Nat} (h : EvA ta Γ [.int n]) (hn : n < 2 ^ 62) : Ei (iRng1 ta) Γ (rng n) := fun F σ W R g k => h F σ W _ g fun vs H st r => by
  obtain ⟨v, _, rfl, rv, rfl⟩ := r
  refine ⟨n, by rw [show v = V.int n from rv], by omega, by omega, k (Itr 0 (n : Int).toNat) H st ⟨fun W2 i x dm s2 ku pu hx => ?_, fun H2 s2 => ?_⟩⟩
  · obtain ⟨hi, rfl⟩ := rng_get hx
    refine ⟨by show i < (n : Int).toNat; omega, fun u H' ⟨e, hy⟩ => ?_⟩
    subst e hy
    exact ⟨Same.refl _, by show V.int (0 + (i : Int)) = V.int i; rw [Int.zero_add]⟩
  · show (n : Int).toNat ≤ _
    rw [rng_length]; omega
/-- the signs of a text -/
def signs (x : Str) : List D := x.cps.toList.map fun c => D.str ⟨#[c]⟩
end

/-! ### for -/
section
variable {Γ : Gam} {wi : TI} {g : TG} {tb : TS} {De : DE}
theorem ds_for (J : List D → Nat → Gam → Prop) (h : Di wi Γ fun xs Γ1 => J xs 0 Γ1 ∧ (∀ i x Γ', xs[i]? = some x → J xs i Γ' → ∃ is Γ2, DG g is x Γ' Γ2 ∧ Ds tb Γ2 ⟨J xs (i + 1), De.rt, De.nx, J xs (i + 1)⟩) ∧ ∀ Γ', J xs xs.length Γ' → De.nx Γ') : Ds (tFor wi g tb) Γ De :=
  fun F σ W Dr s l => h F σ W _ s fun I W1 xs Γ1 st g1 it ⟨h0, hs, hd⟩ => by
    refine ⟨fun i m σ' H' => m = xs.length - i ∧ i ≤ xs.length ∧ ∃ W' Γ', W'.H = H' ∧ Stp F W1 W' ∧ SR F Γ' σ' W' ∧ J xs i Γ', ⟨_, rfl, Nat.zero_le _, W1, Γ1, rfl, .refl _, g1, h0⟩, ?_⟩
    rintro i m σ' H' ⟨rfl, hi, W', Γ', rfl, s', g', j⟩
    by_cases hlt : i < xs.length
    · obtain ⟨x, hx⟩ : ∃ x, xs[i]? = some x := ⟨_, List.getElem?_eq_getElem hlt⟩
      obtain ⟨is, Γ2, hg, hb⟩ := hs i x Γ' hx j
      obtain ⟨go, yl⟩ := it.go W' i x s' g'.ok hx
      refine .inr ⟨go, fun σ2 H2 => ∃ W2 Γ2, W2.H = H2 ∧ Stp F W1 W2 ∧ SR F Γ2 σ2 W2 ∧ J xs (i + 1) Γ2, fun σ2 H2 q => ⟨xs.length - (i + 1), by omega, rfl, hlt, q⟩, fun v H2 y => ?_⟩
      obtain ⟨sm, rv⟩ := yl v H2 y
      have s2 := s'.trans (Stp.of_same g'.ok sm)
      refine hg F σ' (W'.at H2) v _ (g'.same sm) rv fun σ3 g3 _ => hb F σ3 (W'.at H2) _ g3 ⟨fun σ4 W4 Γ4 s4 g4 q => ⟨W4, Γ4, rfl, s2.trans s4, g4, q⟩, fun v W4 d s4 ok4 r4 q => l.rt v W4 d (st.trans (s2.trans s4)) ok4 r4 q, fun σ4 W4 Γ4 s4 g4 q => l.nx σ4 W4 Γ4 (st.trans (s2.trans s4)) g4 q, fun σ4 W4 Γ4 s4 g4 q => ⟨W4, Γ4, rfl, s2.trans s4, g4, q⟩⟩
    · have e : i = xs.length := by omega
      subst e
      exact .inl ⟨it.stop W' s' g'.ok, l.nx σ' W' Γ' (st.trans s') g' (hd Γ' j)⟩
end

/-! ### list comprehensions -/
section
variable {Γ : Gam} {wi : TI} {g : TG} {tt : TT} {te : TE} {vs : List Nat}
/-- pure: over xs.map c, kept where p, f of each -/
theorem evn_lc {α : Type} {xs : List α} {c : α → D} {p : α → Bool} {f : α → D} (h : Ei wi Γ (xs.map c)) (hz : xs.length ≤ 1000000)
    (he : ∀ x ∈ xs, ∃ is Γ2, DG g is (c x) (wipeG Γ vs) Γ2 ∧ (∀ i ∈ is, i ∈ vs) ∧ EvT tt Γ2 (p x) ∧ (p x = true → Ev te Γ2 (f x))) : EvN (tLc wi g tt te vs) Γ ((xs.filter p).map f) := fun F σ W R s k =>
  h F σ W _ s fun I H1 st it => fun Dn hD => by
    have wd : W.H Dn = none := st.free hD
    refine ⟨fun i m H' => m = xs.length - i ∧ i ≤ xs.length ∧ Same H1 H' ∧ ∃ us, H' Dn = some (.lst us) ∧ RepL (W.plus H' Dn) (((xs.take i).filter p).map f) us, ⟨_, rfl, Nat.zero_le _, same_upd hD, [], upd_same, rfl⟩, ?_⟩
    rintro i m H' ⟨rfl, hi, sm, us, hus, rus⟩
    by_cases hlt : i < xs.length
    · have hx : xs[i]? = some xs[i] := List.getElem?_eq_getElem hlt
      have hx' : (xs.map c)[i]? = some (c xs[i]) := by rw [List.getElem?_map, hx]; rfl
      obtain ⟨is, Γ2, hg, his, ht, hel⟩ := he xs[i] (List.getElem_mem hlt)
      obtain ⟨go, yl⟩ := it.go (W.plus H' Dn) i (c xs[i]) (fun b hb z => hb.elim (fun u => s.ok.dom b u ((Same.trans st sm).free z)) (fun e => by rw [e] at z; exact absurd (hus.symm.trans z) (fun q => nomatch q))) sm (fun b u e n z => z.elim n fun z => by rw [z] at e; exact absurd (e.symm.trans hD) (fun q => nomatch q)) rfl hx'
      refine .inr ⟨go, fun H2 => Same H1 H2 ∧ ∃ us, H2 Dn = some (.lst us) ∧ RepL (W.plus H2 Dn) (((xs.take (i + 1)).filter p).map f) us, fun H2 q => ⟨xs.length - (i + 1), by omega, rfl, hlt, q⟩, fun v H2 y => ?_⟩
      obtain ⟨sm2, rv⟩ := yl v H2 y
      have sW : Same W.H H2 := Same.trans st (Same.trans sm sm2)
      -- the world where the list in the making is one's own
      obtain ⟨_, gp, _, _, _⟩ := s.plus sW wd (by rw [sm2 _ _ hus]; exact fun z => nomatch z)
      have gp := gp.wipe vs
      refine hg F _ (W.plus H2 Dn) v _ gp rv fun σ2 g2 w2 => ⟨by rw [w2 vs his, wipe_wipe], ?_⟩
      refine ht F σ2 (W.plus H2 Dn) _ g2 fun H3 s3 => ?_
      have e1 : (xs.take (i + 1)).filter p = (xs.take i).filter p ++ (if p xs[i] = true then [xs[i]] else []) := by
        rw [List.take_add_one, hx, List.filter_append]
        congr 1
        cases hp : p xs[i] <;> simp [hp]
      have mv : ∀ {H3 H4 : Hp} {ds us}, Same H3 H4 → RepL (W.plus H3 Dn) ds us → RepL (W.plus H4 Dn) ds us := fun {H3 H4 ds us} s34 r => RepL.mono (W := W.plus H3 Dn) (W' := W.plus H4 Dn) (fun b u e n => ⟨s34 b u e, n⟩) (fun _ h => h) ds us r
      cases hp : p xs[i] with
      | false =>
        rw [if_neg Bool.false_ne_true]
        refine ⟨Same.trans (Same.trans sm sm2) s3, us, s3 _ _ (sm2 _ _ hus), ?_⟩
        rw [e1, hp, if_neg Bool.false_ne_true, List.append_nil]
        exact mv s3 (mv sm2 rus)
      | true =>
        rw [if_pos rfl]
        refine hel hp F σ2 ((W.plus H2 Dn).at H3) _ (g2.same s3) fun z H4 s4 rz => ?_
        have h4 : H4 Dn = some (.lst us) := s4 _ _ (s3 _ _ (sm2 _ _ hus))
        have un : ∀ {ds us}, RepL (W.plus H4 Dn) ds us → ∀ o, RepL (W.plus (upd H4 Dn o) Dn) ds us := fun {ds us} r o => RepL.mono (W := W.plus H4 Dn) (W' := W.plus (upd H4 Dn o) Dn) (fun b u e n => ⟨by
          show (upd H4 Dn o) b = some u
          rw [upd_ne (fun z : b = Dn => n (Or.inr z))]; exact e, n⟩) (fun _ h => h) ds us r
        refine ⟨us, h4, ?_, fun b u e => ?_, us ++ [z], upd_same, ?_⟩
        · rw [← rus.length, List.length_map]
          refine Nat.lt_of_le_of_lt (Nat.le_trans (List.length_filter_le _ _) (Nat.le_trans (List.length_take_le _ _) ?_)) (show 1000000 < sizeLine by decide)
          omega
        · have nb : b ≠ Dn := fun z => by rw [z, hD] at e; cases e
          rw [upd_ne nb]
          exact s4 _ _ (s3 _ _ (sm2 _ _ (sm _ _ e)))
        · rw [e1, hp, if_pos rfl, List.map_append]
          exact un ((mv s4 (mv s3 (mv sm2 rus))).append (RepL.one rz)) _
    · have e : i = xs.length := by omega
      subst e
      rw [List.take_length] at rus
      exact .inl ⟨by have := it.stop H' sm; rw [List.length_map] at this; exact this, k Dn us H' (Same.trans st sm) wd hus rus⟩
end
end Dw

/-! Rules over data: comprehensions that draw. -/
namespace Dw
open PySem PySem.Spec PyProof.Rows L2
variable [Tabs0]

abbrev Fp (F : Addr → Prop) (a : Addr) : Addr → Prop := fun b => F b ∨ b = a
theorem SR.frame {F : Addr → Prop} {Γ : Gam} {σ : L2.St} {W : Wd} {a : Addr} (g : SR F Γ σ W) (u : W.U a) (p : ¬ W.P a) (no : ¬ ownA Γ σ a) : SR (Fp F a) Γ σ W :=
  ⟨⟨g.ok.dom, fun b h => h.elim (g.ok.fu b) fun h => by rw [h]; exact u, fun b h => let ⟨u', f, pp⟩ := g.ok.pu b h; ⟨u', fun z => z.elim f fun z => p (by rw [← z]; exact h), pp⟩⟩, g.len, g.val,
   fun i ds e => let ⟨b, vs, e1, u', f, pp, q, r⟩ := g.ownX i ds e; ⟨b, vs, e1, u', fun z => z.elim f fun z => no ⟨i, ds, e, by rw [← z]; exact e1⟩, pp, q, r⟩, g.apartX⟩
/-- a cell of the frame is changed -/
theorem SR.poke {F : Addr → Prop} {Γ : Gam} {σ : L2.St} {W : Wd} {a : Addr} {o : HO} (g : SR (Fp F a) Γ σ W) (nf : ¬ F a) (ne : ∀ h, W.H a ≠ some (.ext h)) :
    Stp F W (W.at (upd W.H a o)) ∧ SR (Fp F a) Γ σ (W.at (upd W.H a o)) := by
  have u : W.U a := g.ok.fu a (Or.inr rfl)
  have st : Stp F W (W.at (upd W.H a o)) := ⟨fun b x e n => ⟨by
    show (upd W.H a o) b = some x
    rw [upd_ne (fun z : b = a => n (by rw [z]; exact u))]; exact e, n⟩, rfl, fun b h => upd_ne (fun z : b = a => nf (by rw [← z]; exact h))⟩
  refine ⟨st, ⟨⟨fun b h z => ?_, g.ok.fu, fun b h => ?_⟩, g.len, fun i d e => ?_, fun i ds e => ?_, g.apartX⟩⟩
  · have z : (upd W.H a o) b = none := z
    by_cases hb : b = a
    · rw [hb, upd_same] at z; cases z
    · rw [upd_ne hb] at z; exact g.ok.dom b h z
  · obtain ⟨u', f, oo⟩ := g.ok.pu b h
    exact ⟨u', f, oo.upd ne fun z : b = a => f (Or.inr z)⟩
  · obtain ⟨v, e1, r⟩ := g.val i d e
    exact ⟨v, e1, r.stp st⟩
  · obtain ⟨b, vs, e1, u', f, pp, q, r⟩ := g.ownX i ds e
    exact ⟨b, vs, e1, u', f, pp, (upd_ne (fun z : b = a => f (Or.inr z))).trans q, r.stp st⟩
/-- .. and becomes a value -/
theorem SR.land {F : Addr → Prop} {Γ : Gam} {σ : L2.St} {W : Wd} {a : Addr} (g : SR (Fp F a) Γ σ W) (nf : ¬ F a) :
    Stp F W ⟨W.H, fun b => W.U b ∧ b ≠ a, W.P⟩ ∧ SR F Γ σ ⟨W.H, fun b => W.U b ∧ b ≠ a, W.P⟩ := by
  have st : Stp F W ⟨W.H, fun b => W.U b ∧ b ≠ a, W.P⟩ := ⟨fun b x e n => ⟨e, fun z => n z.1⟩, rfl, fun _ _ => rfl⟩
  refine ⟨st, ⟨⟨fun b h => g.ok.dom b h.1, fun b h => ⟨g.ok.fu b (Or.inl h), fun z => nf (by rw [← z]; exact h)⟩, fun b h => ?_⟩, g.len, fun i d e => ?_, fun i ds e => ?_, g.apartX⟩⟩
  · obtain ⟨u', f, pp⟩ := g.ok.pu b h
    exact ⟨⟨u', fun z => f (Or.inr z)⟩, fun z => f (Or.inl z), pp.sub fun _ z => z.1⟩
  · obtain ⟨v, e1, r⟩ := g.val i d e
    exact ⟨v, e1, r.stp st⟩
  · obtain ⟨b, vs, e1, u', f, pp, q, r⟩ := g.ownX i ds e
    exact ⟨b, vs, e1, ⟨u', fun z => f (Or.inr z)⟩, fun z => f (Or.inl z), pp, q, r.stp st⟩
section
variable {Γ : Gam} {wi : TI} {g : TG} {tt : TT} {te : TE} {vs : List Nat} {Q : D → Gam → Prop}
theorem dl_lc (h : Di wi Γ fun xs Γ1 => xs.length ≤ 1000000 ∧ ∃ J : Nat → List D → Gam → Prop, J 0 [] (wipeG Γ1 vs) ∧
      (∀ i x acc Γ', xs[i]? = some x → J i acc Γ' → ∃ is Γ2, DG g is x Γ' Γ2 ∧ (∀ i ∈ is, i ∈ vs) ∧ DlT tt Γ2 fun b Γ3 => (b = true → Dl te Γ3 fun d Γ4 => J (i + 1) (acc ++ [d]) (wipeG Γ4 vs)) ∧ (b = false → J (i + 1) acc (wipeG Γ3 vs))) ∧
      ∀ acc Γ', J xs.length acc Γ' → Q (.lst acc) Γ') : Dl (tLc wi g tt te vs) Γ Q := fun F σ W R s k =>
  h F σ W _ s fun I W1 xs Γ1 st1 g1 it ⟨hz, J, h0, hs, hd⟩ => fun Dn hD => by
    obtain ⟨stp, gp, no, nf, np⟩ := g1.plus (H := upd W1.H Dn (.lst [])) (a := Dn) (same_upd hD) hD (by rw [upd_same]; exact fun z => nomatch z)
    have gf := (gp.frame (Or.inr rfl) np no).wipe vs
    refine ⟨fun i m H' => m = xs.length - i ∧ i ≤ xs.length ∧ ∃ W' Γ' acc us, W'.H = H' ∧ Stp F W1 W' ∧ SR (Fp F Dn) Γ' (wipe σ vs) W' ∧ H' Dn = some (.lst us) ∧ RepL W' acc us ∧ acc.length ≤ i ∧ J i acc Γ',
      ⟨_, rfl, Nat.zero_le _, W1.plus (upd W1.H Dn (.lst [])) Dn, _, [], [], rfl, stp, gf, upd_same, rfl, Nat.le_refl _, h0⟩, ?_⟩
    rintro i m H' ⟨rfl, hi, W', Γ', acc, us, rfl, s', g', hus, rus, hl, j⟩
    by_cases hlt : i < xs.length
    · have hx : xs[i]? = some xs[i] := List.getElem?_eq_getElem hlt
      obtain ⟨is, Γ2, hg, his, ht⟩ := hs i xs[i] acc Γ' hx j
      have ok1 : WOk F W' := ⟨g'.ok.dom, fun b z => g'.ok.fu b (Or.inl z), fun b z => let ⟨u, f, p⟩ := g'.ok.pu b z; ⟨u, fun q => f (Or.inl q), p⟩⟩
      obtain ⟨go, yl⟩ := it.go W' i xs[i] s' ok1 hx
      refine .inr ⟨go, fun H2 => ∃ W2 Γ2 acc us, W2.H = H2 ∧ Stp F W1 W2 ∧ SR (Fp F Dn) Γ2 (wipe σ vs) W2 ∧ H2 Dn = some (.lst us) ∧ RepL W2 acc us ∧ acc.length ≤ i + 1 ∧ J (i + 1) acc Γ2, fun H2 q => ⟨xs.length - (i + 1), by omega, rfl, hlt, q⟩, fun v H2 y => ?_⟩
      obtain ⟨sm, rv⟩ := yl v H2 y
      have g2 := g'.same sm
      have s2 : Stp F W1 (W'.at H2) := s'.trans (Stp.of_same ok1 sm)
      refine hg (Fp F Dn) _ (W'.at H2) v _ g2 rv fun σ2 g3 w2 => ?_
      have ew : wipe σ2 vs = wipe σ vs := by rw [w2 vs his, wipe_wipe]
      refine ⟨ew, ht (Fp F Dn) σ2 (W'.at H2) _ g3 fun b W3 Γ3 s3 g4 q => ?_⟩
      have h3 : W3.H Dn = some (.lst us) := (s3.fr Dn (Or.inr rfl)).trans (sm _ _ hus)
      have r3 : RepL W3 acc us := (RepL.same (W := W') sm rus).stp s3
      cases b with
      | false =>
        rw [if_neg Bool.false_ne_true]
        have g5 := g4.wipe vs
        rw [ew] at g5
        exact ⟨W3, _, acc, us, rfl, s2.trans (s3.sub fun _ z => Or.inl z), g5, h3, r3, by omega, q.2 rfl⟩
      | true =>
        rw [if_pos rfl]
        refine q.1 rfl (Fp F Dn) σ2 W3 _ g4 fun z W4 d Γ4 s4 g5 rz qj => ?_
        have h4 : W4.H Dn = some (.lst us) := (s4.fr Dn (Or.inr rfl)).trans h3
        have r4 : RepL W4 acc us := r3.stp s4
        have g6 := g5.wipe vs
        rw [ew] at g6
        obtain ⟨s5, g7⟩ := g6.poke (o := .lst (us ++ [z])) nf (no_ext (by assumption))
        refine ⟨us, h4, ?_, W4.at (upd W4.H Dn (.lst (us ++ [z]))), _, acc ++ [d], us ++ [z], rfl, ((s2.trans (s3.sub fun _ z => Or.inl z)).trans (s4.sub fun _ z => Or.inl z)).trans s5, g7, upd_same, (r4.append (RepL.one rz)).stp s5, by rw [List.length_append, List.length_singleton]; omega, qj⟩
        rw [← r4.length]
        exact Nat.lt_of_le_of_lt (show acc.length ≤ 1000000 by omega) (by decide)
    · have e : i = xs.length := by omega
      subst e
      have ok1 : WOk F W' := ⟨g'.ok.dom, fun b z => g'.ok.fu b (Or.inl z), fun b z => let ⟨u, f, p⟩ := g'.ok.pu b z; ⟨u, fun q => f (Or.inl q), p⟩⟩
      obtain ⟨s8, g8⟩ := (SR.unwipe g').land nf
      refine .inl ⟨it.stop W' s' ok1, k (.ref Dn) ⟨W'.H, fun b => W'.U b ∧ b ≠ Dn, W'.P⟩ (.lst acc) Γ' (st1.trans (s'.trans s8)) g8 ⟨Dn, us, rfl, hus, fun z => z.2 rfl, rus.stp s8⟩ (hd acc Γ' j)⟩
end
end Dw

/-! Operators that serve several kinds at once, and what they give on data. -/
namespace Dw
open PySem PySem.Spec PyProof.Rows L2
variable [Tabs0]
section
variable {X : Cx} {a b c e : Expr} {ta tb te : TE} {pos : Pos} {i j : Int} {x y : Str} {ds es : List D} {K : PySem.W.Frag} {Γ : Gam} {d : D}
abbrev rOr (r r' : R2) : R2 := fun x y H Q => r x y H Q ∨ r' x y H Q
theorem dr2_l {r r' : R2} {x y d : D} (h : DR2 r x y d) : DR2 (rOr r r') x y d := fun W u v Q dom a b k => .inl (h W u v Q dom a b k)
theorem dr2_r {r r' : R2} {x y d : D} (h : DR2 r' x y d) : DR2 (rOr r r') x y d := fun W u v Q dom a b k => .inr (h W u v Q dom a b k)
/-! ### + and * -/
abbrev rPlus (K : PySem.W.Frag) : R2 := rOr (rI0 fun i j => .int (i + j)) (rOr rAddStr (rOr rCat (rCatT K)))
theorem opPlus : OpR X (binaryOp .Add) (rPlus X.K) := op_add.or (op_add_str.or (op_cat.or op_catT))
theorem plus_int : DR2 (rPlus K) (.int i) (.int j) (.int (i + j)) := dr2_l dr2_add
theorem plus_str (h : x.length + y.length ≤ sizeLine) : DR2 (rPlus K) (.str x) (.str y) (.str (x ++ y)) := dr2_r (dr2_l (dr2_add_str h))
theorem plus_lst (h : ds.length + es.length ≤ sizeLine) : DR2 (rPlus K) (.lst ds) (.lst es) (.lst (ds ++ es)) := dr2_r (dr2_r (dr2_l (dr2_cat h)))
theorem plus_tup (n : ds ≠ []) (h : ds.length + es.length ≤ sizeLine) : DR2 (rPlus K) (.tup ds) (.tup es) (.tup (ds ++ es)) := dr2_r (dr2_r (dr2_r (dr2_catT n h)))
abbrev rTimes : R2 := rOr (rI CMul fun i j => .int (i * j)) rRep
theorem opTimes : OpR X (binaryOp .Mult) rTimes := op_mul.or op_rep
theorem times_int (h : CMul i j) : DR2 rTimes (.int i) (.int j) (.int (i * j)) := dr2_l (dr2_mul h)
/-! ### comparisons -/
abbrev rEqX (K : PySem.W.Frag) : R2 := rOr rEq (rEqD K)
abbrev rNeX (K : PySem.W.Frag) : R2 := rOr rNe (rNeD K)
theorem opEq (hu : X.A.units + 64 < cLine) : OpR X (compareOp .Eq) (rEqX X.K) := op_eq.or (op_eqD hu)
theorem opNe (hu : X.A.units + 64 < cLine) : OpR X (compareOp .NotEq) (rNeX X.K) := op_ne.or (op_neD hu)
theorem eq_int' : DR2 (rEqX K) (.int i) (.int j) (.bl (decide (i = j))) := dr2_l dr2_eq_int
theorem eq_str' : DR2 (rEqX K) (.str x) (.str y) (.bl (decide (x = y))) := dr2_l dr2_eq_str
theorem ne_str' : DR2 (rNeX K) (.str x) (.str y) (.bl (!decide (x = y))) := dr2_l dr2_ne_str
theorem eq_deep {p q : D} (h1 : isPy p = true) (h2 : isPy q = true) (h3 : SeqAt.shaped (py p) = true) (h4 : SeqAt.shaped (py q) = true) : DR2 (rEqX K) p q (.bl (PyData.eqv (py p) (py q))) := dr2_r (dr2_eqD h1 h2 h3 h4)
theorem ne_deep {p q : D} (h1 : isPy p = true) (h2 : isPy q = true) (h3 : SeqAt.shaped (py p) = true) (h4 : SeqAt.shaped (py q) = true) : DR2 (rNeX K) p q (.bl (!PyData.eqv (py p) (py q))) := dr2_r (dr2_neD h1 h2 h3 h4)
abbrev rLtS : R2 := fun x y H Q => ∃ i j, x = .str i ∧ y = .str j ∧ Q (.bl (decide (i.cps.toList < j.cps.toList))) H
theorem opLt : OpR X (compareOp .Lt) (rOr (rI0 fun i j => .bl (decide (i < j))) rLtS) := op_lt.or op_lt_str
theorem lt_int' : DR2 (rOr (rI0 fun i j => .bl (decide (i < j))) rLtS) (.int i) (.int j) (.bl (decide (i < j))) := dr2_l dr2_lt
theorem lt_str' : DR2 (rOr (rI0 fun i j => .bl (decide (i < j))) rLtS) (.str x) (.str y) (.bl (decide (x.cps.toList < y.cps.toList))) := dr2_r (dr2_flat fun W u v Q a b k => ⟨x, y, a, b, k _ rfl⟩)
theorem opLe : OpR X (compareOp .LtE) (rI0 fun i j => .bl (decide (i ≤ j))) := op_le
theorem opGt : OpR X (compareOp .Gt) (rI0 fun i j => .bl (decide (j < i))) := op_gt
theorem opGe : OpR X (compareOp .GtE) (rI0 fun i j => .bl (decide (j ≤ i))) := op_ge
abbrev rInS : R2 := fun x y H Q => ∃ i j, x = .str i ∧ y = .str j ∧ Q (.bl (!(Builtin.Str.occurrences j i 0 j.length 1).isEmpty)) H
abbrev rNinS : R2 := fun x y H Q => ∃ i j, x = .str i ∧ y = .str j ∧ Q (.bl (!(!(Builtin.Str.occurrences j i 0 j.length 1).isEmpty))) H
theorem opIn : OpR X (compareOp .In) (rOr (rIn X.K false) rInS) := op_in_seq.or op_in_str
theorem opNotIn : OpR X (compareOp .NotIn) (rOr (rIn X.K true) rNinS) := op_notIn_seq.or op_notin_str
theorem in_str' : DR2 (rOr (rIn K false) rInS) (.str x) (.str y) (.bl (!(Builtin.Str.occurrences y x 0 y.length 1).isEmpty)) := dr2_r (dr2_flat fun W u v Q a b k => ⟨x, y, a, b, k _ rfl⟩)
/-- scalars -/
def isSc : D → Bool
  | .non => true | .bl _ => true | .int _ => true | .str _ => true | _ => false
def scV : D → V
  | .non => .non | .bl b => .bl b | .int i => .int i | .str x => .str x | _ => .non
theorem rep_sc {W : Wd} {d : D} {v : V} (h : isSc d = true) (r : Rep W d v) : v = scV d := by
  cases d <;> first | exact r | exact absurd (show false = true from h) Bool.false_ne_true
theorem repL_sc {W : Wd} : ∀ {ds : List D} {vs : List V}, ds.all isSc = true → RepL W ds vs → vs = ds.map scV
  | [], _, _, h => h
  | d :: ds, _, p, ⟨v, r, e, h1, h2⟩ => by
    have p' : isSc d = true ∧ ds.all isSc = true := by simpa using p
    rw [e, rep_sc p'.1 h1, repL_sc p'.2 h2]; rfl
theorem flat_sc {d : D} (h : isSc d = true) : flatV (scV d) = true := by
  cases d <;> first | rfl | exact absurd (show false = true from h) Bool.false_ne_true
theorem flats_sc : ∀ {ds : List D}, ds.all isSc = true → (ds.map scV).all flatV = true
  | [], _ => rfl
  | d :: ds, p => by
    have p' : isSc d = true ∧ ds.all isSc = true := by simpa using p
    rw [List.map_cons, List.all_cons, flat_sc p'.1, flats_sc p'.2]; rfl
theorem ev_in {neg : Bool} {r' : R2} (ha : Ev ta Γ d) (hb : EvB tb Γ ds) (s1 : isSc d = true) (s2 : ds.all isSc = true) : Ev (tOp (rOr (rIn K neg) r') ta tb) Γ (.bl (if neg then !inV (scV d) (ds.map scV) else inV (scV d) (ds.map scV))) := fun F σ W Q g k =>
  ha F σ W _ g fun v H s r => hb F σ (W.at H) _ (g.same s) fun p vs H' s' e l => .inl ⟨p, vs, rfl, .inl (.of e), by rw [rep_sc s1 r]; exact flat_sc s1, by rw [repL_sc s2 l]; exact flats_sc s2, by
    rw [rep_sc s1 r, repL_sc s2 l]
    exact k _ H' (Same.trans s s') rfl⟩
theorem ev_inT {neg : Bool} {r' : R2} (ha : Ev ta Γ d) (hb : Ev tb Γ (.tup ds)) (s1 : isSc d = true) (s2 : ds.all isSc = true) : Ev (tOp (rOr (rIn K neg) r') ta tb) Γ (.bl (if neg then !inV (scV d) (ds.map scV) else inV (scV d) (ds.map scV))) := fun F σ W Q g k =>
  ha F σ W _ g fun v H s r => hb F σ (W.at H) _ (g.same s) fun u H' s' ⟨p, vs, eu, e, nu, l⟩ => .inl ⟨p, vs, eu, .inr e.sq, by rw [rep_sc s1 r]; exact flat_sc s1, by rw [repL_sc s2 l]; exact flats_sc s2, by
    rw [rep_sc s1 r, repL_sc s2 l]
    exact k _ H' (Same.trans s s') rfl⟩
/-! ### len, items, slices -/
abbrev rLen (K : PySem.W.Frag) : List V → Hp → VK → Prop := fun xs H Q => (∃ p ys, xs = [.ref p] ∧ (SqL K H p ys ∨ SqT K H p ys) ∧ Q (.int ys.length) H) ∨ ∃ z, xs = [.str z] ∧ z.length ≤ sizeLine ∧ Q (.int z.length) H
theorem opLen : CallR X (.builtin "len") (rLen X.K) := call_len_seq.or call_len_str
theorem ev_len (h : EvB ta Γ ds) : Ev (tCB (rLen K) (tCons ta tNil)) Γ (.int ds.length) := fun F σ W Q g k => h F σ W _ g fun p vs H s e l => .inl ⟨p, vs, rfl, .inl (.of e), k _ H s (by rw [l.length]; rfl)⟩
theorem ev_lenT (h : Ev ta Γ (.tup ds)) : Ev (tCB (rLen K) (tCons ta tNil)) Γ (.int ds.length) := fun F σ W Q g k => h F σ W _ g fun u H s ⟨p, vs, eu, e, nu, l⟩ => .inl ⟨p, vs, by rw [eu], .inr e.sq, k _ H s (by rw [l.length]; rfl)⟩
theorem ev_lenS (h : Ev ta Γ (.str x)) (hz : x.length ≤ sizeLine) : Ev (tCB (rLen K) (tCons ta tNil)) Γ (.int x.length) := fun F σ W Q g k => h F σ W _ g fun u H s r => .inr ⟨x, by rw [show u = V.str x from r], hz, k _ H s rfl⟩
theorem atI_rep {W : Wd} {vs : List V} (l : RepL W ds vs) (h : atI ds i = some d) : ∃ v, atI vs i = some v ∧ Rep W d v := by
  unfold atI at h ⊢
  rw [← l.length]
  cases q : ixN ds.length i with
  | none => rw [q] at h; cases h
  | some k =>
    rw [q] at h
    obtain ⟨v, e, r⟩ := l.get (i := k) h
    exact ⟨v, e, r⟩
theorem ev_ix (ha : EvB ta Γ ds) (hb : Ev tb Γ (.int i)) (h : atI ds i = some d) : Ev (tOp (rIx K) ta tb) Γ d := fun F σ W Q g k => ha F σ W _ g fun p vs H s e l => hb F σ (W.at H) _ (g.same s) fun u H' s' r => by
  obtain ⟨v, ev, rv⟩ := atI_rep (RepL.same (W := W.at H) s' l) h
  exact .inl ⟨p, vs, i, v, rfl, r, .of (s' _ _ e), ev, k v H' (Same.trans s s') rv⟩
theorem ev_ixT (ha : Ev ta Γ (.tup ds)) (hb : Ev tb Γ (.int i)) (h : atI ds i = some d) : Ev (tOp (rIx K) ta tb) Γ d := fun F σ W Q g k => ha F σ W _ g fun u H s ⟨p, vs, eu, e, nu, l⟩ => hb F σ (W.at H) _ (g.same s) fun u H' s' r => by
  obtain ⟨v, ev, rv⟩ := atI_rep (RepL.same (W := W.at H) s' l) h
  exact .inr (.inl ⟨p, vs, i, v, eu, r, (e.same s').sq, ev, k v H' (Same.trans s s') rv⟩)
theorem dr2_ixS {z : Nat} (hl : x.length ≤ sizeLine) (h : atI x.cps.toList i = some z) : DR2 (rIx K) (.str x) (.int i) (.str ⟨#[z]⟩) := dr2_flat fun W u v Q a b k => .inr (.inr ⟨x, i, z, a, b, hl, h, k _ rfl⟩)
theorem dr2_ixL (h : atI ds i = some d) : DR2 (rIx K) (.lst ds) (.int i) d := dr2_flat fun W u v Q ⟨p, vs, eu, e, nu, l⟩ b k => by
  obtain ⟨w, ev, rw'⟩ := atI_rep l h
  exact .inl ⟨p, vs, i, w, eu, b, .of e, ev, k w rw'⟩
theorem dr2_ixT (h : atI ds i = some d) : DR2 (rIx K) (.tup ds) (.int i) d := dr2_flat fun W u v Q ⟨p, vs, eu, e, nu, l⟩ b k => by
  obtain ⟨w, ev, rw'⟩ := atI_rep l h
  exact .inr (.inl ⟨p, vs, i, w, eu, b, e.sq, ev, k w rw'⟩)
/-! ### iterators -/
theorem pi_or {tg iter : Expr} {w1 w2 : TI} (h1 : PI X tg iter w1) (h2 : PI X tg iter w2) : PI X tg iter (fun σ H R => w1 σ H R ∨ w2 σ H R) :=
  ⟨fun pins s σ H R I h => h.elim (h1.run pins s σ H R I) (h2.run pins s σ H R I)⟩
abbrev iAny (K : PySem.W.Frag) (t : TE) : TI := fun σ H R => iList K t σ H R ∨ (fun σ H R => iTup K t σ H R ∨ iStr t σ H R) σ H R
theorem pi_any {tg : Expr} (h : PE X e te) : PI X tg e (iAny X.K te) := pi_or (pi_list h) (pi_or (pi_tup h) (pi_str h))
theorem ei_l {w1 w2 : TI} {xs : List D} (h : Ei w1 Γ xs) : Ei (fun σ H R => w1 σ H R ∨ w2 σ H R) Γ xs := fun F σ W R g k => .inl (h F σ W R g k)
theorem ei_r {w1 w2 : TI} {xs : List D} (h : Ei w2 Γ xs) : Ei (fun σ H R => w1 σ H R ∨ w2 σ H R) Γ xs := fun F σ W R g k => .inr (h F σ W R g k)
theorem di_l {w1 w2 : TI} {Q : List D → Gam → Prop} (h : Di w1 Γ Q) : Di (fun σ H R => w1 σ H R ∨ w2 σ H R) Γ Q := fun F σ W R g k => .inl (h F σ W R g k)
theorem di_r {w1 w2 : TI} {Q : List D → Gam → Prop} (h : Di w2 Γ Q) : Di (fun σ H R => w1 σ H R ∨ w2 σ H R) Γ Q := fun F σ W R g k => .inr (h F σ W R g k)
theorem eia_list {xs : List D} (h : EvB te Γ xs) : Ei (iAny K te) Γ xs := ei_l (ei_list h)
theorem eia_tup {xs : List D} (h : Ev te Γ (.tup xs)) : Ei (iAny K te) Γ xs := ei_r (ei_l (ei_tup h))
theorem dia_list {Q : List D → Gam → Prop} (h : Dl te Γ fun d Γ1 => ∃ xs, d = .lst xs ∧ Q xs Γ1) : Di (iAny K te) Γ Q := di_l (di_list h)
theorem dia_tup {Q : List D → Gam → Prop} (h : Dl te Γ fun d Γ1 => ∃ xs, d = .tup xs ∧ Q xs Γ1) : Di (iAny K te) Γ Q := di_r (di_l (di_tup h))
theorem signs_get {x : Str} {i : Nat} {d : D} (h : (signs x)[i]? = some d) : i < x.cps.size ∧ ∃ c, x.cps[i]? = some c ∧ d = .str ⟨#[c]⟩ := by
  unfold signs at h
  rw [List.getElem?_map, Array.getElem?_toList] at h
  cases q : x.cps[i]? with
  | none => rw [q] at h; cases h
  | some c =>
    rw [q] at h
    have hl := (Array.getElem?_eq_some_iff.mp q).1
    exact ⟨hl, c, rfl, (Option.some.inj h).symm⟩
theorem signs_length (x : Str) : (signs x).length = x.cps.size := by simp [signs]
theorem ei_str (h : Ev te Γ (.str x)) : Ei (iStr te) Γ (signs x) := fun F σ W R g k => h F σ W _ g fun v H s r => ⟨x, r, k (Its x) H s ⟨fun W1 i d dm sm ku pu hx => by
  obtain ⟨hi, c, hc, rfl⟩ := signs_get hx
  refine ⟨hi, fun v H' ⟨e, c', hc', ev⟩ => ?_⟩
  rw [hc] at hc'; cases hc'
  subst e ev
  exact ⟨Same.refl _, rfl⟩, fun H2 s2 => by rw [signs_length]; exact Nat.le_refl _⟩⟩
theorem eia_str (h : Ev te Γ (.str x)) : Ei (iAny K te) Γ (signs x) := ei_r (ei_r (ei_str h))
/-! ### builtins over lists -/
theorem ev_all {bs : List Bool} (h : EvB ta Γ (bs.map D.bl)) : Ev (tCB (rAll K) (tCons ta tNil)) Γ (.bl (bs.all id)) := fun F σ W Q g k => h F σ W _ g fun p vs H s e l => ⟨p, bs, rfl, .of (by rw [e, RepL.bls.mp l]), k _ H s rfl⟩
theorem dl_all {Q : D → Gam → Prop} (h : Dl ta Γ fun d Γ1 => ∃ bs : List Bool, d = .lst (bs.map D.bl) ∧ Q (.bl (bs.all id)) Γ1) : Dl (tCB (rAll K) (tCons ta tNil)) Γ Q := fun F σ W R g k => h F σ W _ g fun v W1 d Γ1 st g1 r ⟨bs, e, q⟩ => by
  subst e
  obtain ⟨p, vs, rfl, e, nu, l⟩ := r
  exact ⟨p, bs, rfl, .of (by rw [e, RepL.bls.mp l]), k _ W1 (.bl (bs.all id)) Γ1 st g1 rfl q⟩
/-- sep.join(xs) -/
abbrev rJoin (K : PySem.W.Frag) : V → List V → Hp → VK → Prop := fun x xs H Q => ∃ a p, ∃ ys : List Str, x = .str a ∧ xs = [.ref p] ∧ (SqL K H p (ys.map V.str) ∨ SqT K H p (ys.map V.str)) ∧
      (ys.map (·.length)).sum + ys.length * a.length ≤ 16777216 ∧ Q (.str (Txt.join a ys)) H
theorem ev_join {ys : List Str} (ha : Ev ta Γ (.str x)) (hb : EvB tb Γ (ys.map D.str)) (hz : (ys.map (·.length)).sum + ys.length * x.length ≤ 16777216) : Ev (tM1 (rJoin K) ta tb) Γ (.str (Txt.join x ys)) := fun F σ W Q g k =>
  ha F σ W _ g fun v H s r => ⟨⟨x, r⟩, hb F σ (W.at H) _ (g.same s) fun p vs H' s' e l => ⟨x, p, ys, r, rfl, .inl (.of (by rw [e, RepL.strs.mp l])), hz, k _ H' (Same.trans s s') rfl⟩⟩
/-- list(range(n)) -/
theorem evn_listRg {n : Nat} (h : Ev ta Γ (.int n)) (hn : n ≤ 16777216) : EvN (tLstRg (tRg1 ta)) Γ (rng n) := fun F σ W Q g k => h F σ W _ g fun v H s r => ⟨n, r, RgOk.of_le (by omega) (by omega) (by omega) (by omega), fun q hq => by
  have e : rgV 0 n = (rng n).map scV := by
    unfold rgV rng
    rw [List.map_map]
    refine List.map_congr_left fun i _ => ?_
    show V.int (0 + (i : Int)) = V.int i
    rw [Int.zero_add]
  have l : RepL (W.at H) (rng n) (rgV 0 n) := by
    have := (RepL.ints (W := W.at H) (ns := (List.range n).map fun (i : Nat) => (i : Int)) (vs := rgV 0 n)).mpr (by
      rw [e]; unfold rng; rw [List.map_map, List.map_map]; rfl)
    rw [List.map_map] at this
    exact this
  exact k q _ _ (Same.trans s (same_upd hq)) (s.free hq) upd_same (RepL.plus (W := W.at H) hq (same_upd hq) l)⟩
/-- list(xs), tuple(xs) -/
abbrev rListOf (K : PySem.W.Frag) : List V → Hp → VK → Prop := fun xs H Q => ∃ p ys, xs = [.ref p] ∧ (SqL K H p ys ∨ SqT K H p ys) ∧ ∀ l, H l = none → Q (.ref l) (upd H l (.lst ys))
theorem evn_list (h : EvB ta Γ ds) : EvN (tCB (rListOf K) (tCons ta tNil)) Γ ds := fun F σ W Q g k => h F σ W _ g fun p vs H s e l => ⟨p, vs, rfl, .inl (.of e), fun n hn => k n vs _ (Same.trans s (same_upd hn)) (s.free hn) upd_same (RepL.plus (W := W.at H) hn (same_upd hn) l)⟩
theorem evn_listT (h : Ev ta Γ (.tup ds)) : EvN (tCB (rListOf K) (tCons ta tNil)) Γ ds := fun F σ W Q g k => h F σ W _ g fun u H s ⟨p, vs, eu, e, nu, l⟩ => ⟨p, vs, by rw [eu], .inr e.sq, fun n hn => k n vs _ (Same.trans s (same_upd hn)) (s.free hn) upd_same (RepL.plus (W := W.at H) hn (same_upd hn) l)⟩
abbrev rTupleOf (K : PySem.W.Frag) : List V → Hp → VK → Prop := fun xs H Q => ∃ p ys, xs = [.ref p] ∧ ((SqL K H p ys ∧ ∀ l, H l = none → Q (.ref l) (upd H l (.tup ys))) ∨ (SqT K H p ys ∧ Q (.ref p) H))
theorem ev_tuple (h : EvB ta Γ ds) : Ev (tCB (rTupleOf K) (tCons ta tNil)) Γ (.tup ds) := fun F σ W Q g k => h F σ W _ g fun p vs H s e l => ⟨p, vs, rfl, .inl ⟨.of e, fun n hn => k _ _ (Same.trans s (same_upd hn)) (rep_new_tup (W := W.at H) (g.same s).ok.dom hn l)⟩⟩
/-- sorted(texts) -/
theorem dl_sortedS {Q : D → Gam → Prop} {r' : List V → Hp → VK → Prop} (h : Dl ta Γ fun d Γ1 => ∃ ys : List Str, d = .lst (ys.map D.str) ∧ ys.length < 64 ∧ ∀ zs : List Str, zs.Perm ys → sortedS zs = true → Q (.lst (zs.map D.str)) Γ1) :
    Dl (tCB (fun xs H Q => r' xs H Q ∨ rSortedS K xs H Q) (tCons ta tNil)) Γ Q := fun F σ W R g k => h F σ W _ g fun v W1 d Γ1 st g1 r ⟨ys, e, hz, q⟩ => by
  subst e
  obtain ⟨p, vs, rfl, e, nu, l⟩ := r
  refine .inr ⟨p, ys, rfl, .of (by rw [e, RepL.strs.mp l]), hz, fun zs n hp hs hn => ?_⟩
  exact k _ (W1.at _) (.lst (zs.map D.str)) Γ1 (st.trans (Stp.of_same g1.ok (same_upd hn))) (g1.same (same_upd hn)) (rep_new_lst g1.ok.dom hn (RepL.strs.mpr rfl)) (q zs hp hs)
theorem opSorted {X : Cx} : CallR X (.builtin "sorted") (fun xs H Q => rSorted X.K xs H Q ∨ rSortedS X.K xs H Q) := cr_sorted.or cr_sortedS
end
end Dw

/-! Rules of the machine that the hand layer lacks: f(k = v) by keywords alone, an attribute as a target within a tuple, count of flat things. -/
namespace Dw
open PySem PySem.Spec PyProof.Rows L2
variable [Tabs0]
section
variable {X : Cx} {CX : CXT} {k : Nat} {f C : Addr} {fd : FuncData} {ps ks : List Str} {sp : Sp} {E : XK} {x m : Str} {p pos apos kpos : Pos} {e o : Expr} {es : List Expr} {kws : List Keyword} {te ta : TE} {t tk : TA} {nm : Option Str}
variable {g : List Value → List Value → List Value} {gV : List V → List V → List V}
theorem pe_callK0 (F : FnOk X.prog X.w X.K X.mg X.base CX k f fd ps sp) (hr : Room k X.A) (hg : Gl X x) (hm : X.mg x = some (.ref f)) (hk : PySem.W.keepIn X.K (.ref f) = true) (hb : KBinds X.K fd ps ks g gV) (hx : Passes CX X E)
    (hkw : PK X kws tk) (hall : (backToKw pos (keywordEach kws X.env)).all (·.1.isSome) = true := by rfl) (hks : (backToKw pos (keywordEach kws X.env)).filterMap (·.1) = ks := by rfl)
    (hdb : (x == ("__debug__" : Str)) = false := by decide)
    (hpl : ((backTo pos (starEach [] X.env)).any (·.1) || (backToKw pos (keywordEach kws X.env)).any (·.1.isNone)) = false := by rfl) :
    PE X (.Call (.Name x p) [] kws pos) (tCallK sp gV E tNil tk) := by
  refine ⟨fun pins s σ H Q I h => ?_⟩
  refine wpAny_Call_Name_kw (ld_glob I hg hm ?_ hdb)
  refine PySem.W.callWith_KW0 (h₀ := X.base) I.ok.mod.kin hk hall ?_ hpl
  refine thn (hkw.run pos pins s σ H _ I h) fun ws s2 ⟨zs, H2, I2, rz, q2⟩ => ⟨I2.kIn, ?_⟩
  rw [hks]
  exact run_fnk F hr hb hx I2 .nil rz q2
end
section
variable {X : Cx} {o : Expr} {f : Str} {pos : Pos} {ta : TE}
/-- x.f as a target -/
def gFld (K : PySem.W.Frag) (ta : TE) (f : Str) : TG := fun y σ H Q => ta σ H fun x H2 => ∃ a C dx fs, x = .ref a ∧ H2 a = some (.ins C dx fs) ∧ Cls K C ∧ NoAttr K C f ∧ fs.length < 1000 ∧ Q σ (upd H2 a (.ins C dx (putF f y fs)))
theorem pg_fld (ha : PE X o ta)
    (hs : ∀ v, assign (.Attribute o f pos) X.env v = (do
      let ov ← holding [v] (eval o X.env)
      standAt pos
      holding [v, ov] (setAttr ov f v)
      release [v, ov] []) := by intro _; rfl) : PG X (.Attribute o f pos) (gFld X.K ta f) := by
  refine ⟨fun pins s σ H v u Q I r h => ?_⟩
  rw [hs]
  refine wpAny_bind (wpAny_holding (thn (ha.run pins s σ H _ I h) fun ov s1 ⟨x, H2, I2, rx, a, C, dx, fs, ex, ea, c, n, l, q2⟩ => ?_))
  subst ex
  obtain rfl : ov = Value.ref a := rx
  refine wpAny_bind (wpAny_standAt (wpAny_bind (wpAny_holding ?_)))
  exact setattr_ok I2 ea c n l r fun s3 I3 => wpAny_release ⟨σ, _, I3, q2⟩
end
end Dw

/-! The same rules with the written part K named (within a comprehension's block it is the def's). -/
namespace Dw
open PySem PySem.Spec PyProof.Rows L2
variable [Tabs0]
section
variable {X : Cx} {K : PySem.W.Frag} {e : Expr} {te ta tb : TE} {pos apos : Pos} {tg o i a : Expr} {t : TA}
theorem ixA (K : PySem.W.Frag) (hK : X.K = K := by rfl) : IxR X (rIx K) := hK ▸ ix_seq
theorem eqA (K : PySem.W.Frag) (hu : X.A.units + 64 < cLine) (hK : X.K = K := by rfl) : OpR X (compareOp .Eq) (rEqX K) := hK ▸ opEq hu
theorem neA (K : PySem.W.Frag) (hu : X.A.units + 64 < cLine) (hK : X.K = K := by rfl) : OpR X (compareOp .NotEq) (rNeX K) := hK ▸ opNe hu
theorem inA (K : PySem.W.Frag) (hK : X.K = K := by rfl) : OpR X (compareOp .In) (rOr (rIn K false) rInS) := hK ▸ opIn
theorem ninA (K : PySem.W.Frag) (hK : X.K = K := by rfl) : OpR X (compareOp .NotIn) (rOr (rIn K true) rNinS) := hK ▸ opNotIn
theorem lenA (K : PySem.W.Frag) (hK : X.K = K := by rfl) : CallR X (.builtin "len") (rLen K) := hK ▸ opLen
theorem allA (K : PySem.W.Frag) (hc : X.calm = true := by rfl) (hK : X.K = K := by rfl) : CallR X (.builtin "all") (rAll K) := hK ▸ cr_all hc
abbrev rSortedX (K : PySem.W.Frag) : List V → Hp → VK → Prop := fun xs H Q => rSorted K xs H Q ∨ rSortedS K xs H Q
theorem sortedA (K : PySem.W.Frag) (hK : X.K = K := by rfl) : CallR X (.builtin "sorted") (rSortedX K) := hK ▸ opSorted
theorem isiA (K : PySem.W.Frag) (hK : X.K = K := by rfl) : CallR X (.builtin "isinstance") (rIsi K) := hK ▸ call_isi
theorem listA (K : PySem.W.Frag) (hK : X.K = K := by rfl) : CallR X (.type "list") (rListOf K) := hK ▸ call_list_of
theorem tupleA (K : PySem.W.Frag) (hK : X.K = K := by rfl) : CallR X (.type "tuple") (rTupleOf K) := hK ▸ call_tuple_of
theorem joinA (K : PySem.W.Frag) (ho : PE X o ta) (he : PE X e te) (hK : X.K = K := by rfl) (hs : starEach [e] X.env = [(false, eval e X.env)] := by rfl) (hbase : attributeBase o "join" X.env (eval o X.env) = eval o X.env := by rfl) (hline : (apos.endLine == pos.line) = true := by rfl) :
    PE X (.Call (.Attribute o "join" apos) [e] [] pos) (tM1 (rJoin K) ta te) := hK ▸ pe_join ho he hs hbase hline
theorem notA (K : PySem.W.Frag) (ha : PE X a ta) (hK : X.K = K := by rfl) : PE X (.UnaryOp .Not a pos) (tNotT K ta) := hK ▸ pe_notT ha
theorem fldA (K : PySem.W.Frag) {f : Str} (he : PE X e ta) (hK : X.K = K := by rfl) (hb : attributeBase e f X.env (eval e X.env) = eval e X.env := by rfl) : PE X (.Attribute e f pos) (tFld K ta f) := hK ▸ pe_fld he hb
theorem truA (K : PySem.W.Frag) (ha : PE X a ta) (hK : X.K = K := by rfl) (he : ∀ whole, isTrue a X.env whole = (do let v ← whole; standAt a.pos; holding [v] (truthy v)) := by intro _; rfl) : PT X a (tTru K ta) := by
  subst hK; exact pt_truth ha he
end
end Dw

/-! Lists of texts as data: their shape, their equality. -/
namespace Dw
open PySem PySem.Spec PyProof.Rows L2
variable [Tabs0]
def okS (x : Str) : Prop := PyData.strOk x = true
section
variable {K : PySem.W.Frag} {xs ys : List Str} {ta tb : TE} {Γ : Gam}
end
/-- a text of one sign -/
def ch (c : Nat) : Str := ⟨#[c]⟩
theorem ch_eq {a b : Nat} : ch a = ch b ↔ a = b := by
  constructor
  · intro h
    have : (#[a] : Array Nat) = #[b] := congrArg Str.cps h
    simpa using this
  · rintro rfl; rfl
/-- a text of its codes -/
def tx (l : List Nat) : Str := ⟨l.toArray⟩
theorem tx_len (l : List Nat) : (tx l).length = l.length := by show l.toArray.size = _; simp
theorem tx_cps (l : List Nat) : (tx l).cps.toList = l := by show l.toArray.toList = l; simp
theorem tx_eq {a b : List Nat} : tx a = tx b ↔ a = b := by
  constructor
  · intro h
    have := congrArg (fun x : Str => x.cps.toList) h
    simpa [tx_cps] using this
  · rintro rfl; rfl
theorem okS_tx {l : List Nat} (h : ∀ c ∈ l, c < 1114112) : okS (tx l) := by
  show l.toArray.all (fun x => decide (x < 0x110000)) = true
  simp
  exact h
theorem of_tx (x : Str) : x = tx x.cps.toList := by
  obtain ⟨⟨l⟩⟩ := x
  rfl
theorem tx_append (a b : List Nat) : tx a ++ tx b = tx (a ++ b) := by
  show (⟨a.toArray ++ b.toArray⟩ : Str) = ⟨(a ++ b).toArray⟩
  simp
theorem signs_tx (l : List Nat) : signs (tx l) = (l.map ch).map D.str := by
  unfold signs
  rw [tx_cps, List.map_map]
  rfl
end Dw

/-! More rules of the machine: () + t, a range that is kept, enumerate of a tuple, first, *rest = a list. -/
namespace Dw
open PySem PySem.Spec PyProof.Rows L2
variable [Tabs0]
section
variable {X : Cx}
/-! ### () + t -/
abbrev rCatE (K : PySem.W.Frag) : R2 := fun x y H Q => ∃ a b ys, x = .ref a ∧ y = .ref b ∧ SqT K H a [] ∧ SqT K H b ys ∧ Q (.ref b) H
theorem op_catE : OpR X (binaryOp .Add) (rCatE X.K) := by
  intro pins s σ H x y v u Q I rx ry ⟨a, b, ys, ex, ey, ha, hb, q⟩
  subst ex; subst ey
  cases rx; cases ry
  obtain ⟨i1, v1, t1, _⟩ := I.tuple ha
  obtain ⟨i2, v2, t2, _⟩ := I.tuple hb
  cases v1
  obtain ⟨o1, g1, c1, n1, d1⟩ := t1
  obtain ⟨o2, g2, c2, n2, d2⟩ := t2
  obtain ⟨oc1, od1, da1, sl1⟩ := o1
  obtain ⟨oc2, od2, da2, sl2⟩ := o2
  simp only at c1 d1 c2 d2
  subst c1; subst d1; subst c2; subst d2
  exact concat_meets ⟨_, g1, rfl⟩ ⟨_, g2, rfl⟩ noFill_tuple_add seq_tuple_add PySem.F.slot_tuple_add PySem.F.entry_tuple_add
    (PySem.F.args_tuple_add_2 _ _) (tuple_addW0 a b _ _ n1 n2 od1 od2 sl1 sl2 rfl) ⟨g1, g2, ⟨.ref b, H, I, rfl, q⟩⟩
abbrev rPlusE (K : PySem.W.Frag) : R2 := rOr (rPlus K) (rCatE K)
theorem plusE (K : PySem.W.Frag) (hK : X.K = K := by rfl) : OpR X (binaryOp .Add) (rPlusE K) := hK ▸ opPlus.or op_catE
variable {K : PySem.W.Frag} {ds es : List D} {i j : Int} {x y : Str} {ta tb : TE} {Γ : Gam}
theorem pl_int : DR2 (rPlusE K) (.int i) (.int j) (.int (i + j)) := dr2_l plus_int
theorem pl_str (h : x.length + y.length ≤ sizeLine) : DR2 (rPlusE K) (.str x) (.str y) (.str (x ++ y)) := dr2_l (plus_str h)
theorem pl_lst (h : ds.length + es.length ≤ sizeLine) : DR2 (rPlusE K) (.lst ds) (.lst es) (.lst (ds ++ es)) := dr2_l (plus_lst h)
theorem pl_tup (h : ds.length + es.length ≤ sizeLine) : DR2 (rPlusE K) (.tup ds) (.tup es) (.tup (ds ++ es)) := by
  by_cases n : ds = []
  · subst n
    exact dr2_r (dr2_flat fun W u v Q ⟨a, vs, e1, h1, n1, l1⟩ b k => by
      obtain ⟨c, ws, e2, h2, n2, l2⟩ := id b
      rw [show vs = [] from l1] at h1
      exact ⟨a, c, ws, e1, e2, h1.sq, h2.sq, by rw [← e2]; exact k v b⟩)
  · exact dr2_l (plus_tup n h)
theorem pl_evn (ha : EvB ta Γ ds) (hb : EvB tb Γ es) (h : ds.length + es.length ≤ sizeLine) : EvN (tOp (rPlusE K) ta tb) Γ (ds ++ es) := fun F σ W Q g k => ha F σ W _ g fun p vs H s e l => hb F σ (W.at H) _ (g.same s) fun q ws H' s' e' l' =>
  .inl (.inr (.inr (.inl ⟨p, q, vs, ws, rfl, rfl, s' _ _ e, e', by rw [← l.length, ← l'.length]; exact h, fun n hn =>
    k n (vs ++ ws) _ (Same.trans s (Same.trans s' (same_upd hn))) (s.free (s'.free hn)) upd_same (RepL.plus (W := W.at H') hn (same_upd hn) ((RepL.same (W := W.at H) s' l).append l'))⟩)))

/-! ### range(n), kept -/
def iRgO (te : TE) : TI := fun σ H R => te σ H fun x H1 => ∃ p lo hi, x = .ref p ∧ H1 p = some (.rng lo hi) ∧ (-(2 ^ 62) ≤ lo ∧ lo < 2 ^ 62 ∧ -(2 ^ 62) ≤ hi ∧ hi < 2 ^ 62) ∧ R (Itr lo (hi - lo).toNat) H1
theorem pi_rgO {tg l : Expr} {te : TE} (hl : PE X l te) : PI X tg l (iRgO te) := by
  refine ⟨fun pins s σ H R I h => thn (hl.run pins s σ H _ I h) fun v s1 ⟨x, H1, I1, r1, q1⟩ => ?_⟩
  obtain ⟨p, lo, hi, ex, hp, ⟨b1, b2, b3, b4⟩, q⟩ := q1
  subst ex
  cases r1
  obtain ⟨t, u, w, hr⟩ := I1.hok p _ hp
  have hr' : IsRange s1.heap p lo hi 1 t u w := hr
  refine wpAny_pyIter_range hr' (small_one b1 b2 b3 b4) ?_
  refine ⟨s1.heap.objs.size, [s1.heap.objs.size], _, _, H1, rfl, I1.kept (t' := s1.toks) fun b o e => Heap.get?_push_of_some _ e, turn_range _ lo (hi - lo).toNat, ?_, fun b hb => ?_, q⟩
  · have e1 : lo + ((0 : Nat) : Int) * 1 = lo := by simp
    have e2 : (((hi - lo).toNat : Nat) : Int) - ((0 : Nat) : Int) = Builtin.Range.rangeSize lo hi 1 := by rw [rangeSize_one]; split <;> omega
    show IsRangeIter _ _ (lo + ((0 : Nat) : Int) * 1) (_ - _) 1
    rw [e1, e2]
    exact Heap.get?_push_size _ rfl
  · obtain rfl : b = s1.heap.objs.size := by simpa using hb
    exact I1.fpOk (Nat.le_refl _) (I1.hok.fresh (Nat.le_refl _))
abbrev iAnyR (K : PySem.W.Frag) (t : TE) : TI := fun σ H R => iAny K t σ H R ∨ iRgO t σ H R
theorem piR (K : PySem.W.Frag) {tg e : Expr} {te : TE} (h : PE X e te) (hK : X.K = K := by rfl) : PI X tg e (iAnyR K te) := hK ▸ pi_or (pi_any h) (pi_rgO h)
theorem ej_list {xs : List D} (h : EvB ta Γ xs) : Ei (iAnyR K ta) Γ xs := ei_l (eia_list h)
theorem ej_tup {xs : List D} (h : Ev ta Γ (.tup xs)) : Ei (iAnyR K ta) Γ xs := ei_l (eia_tup h)
theorem ej_str (h : Ev ta Γ (.str x)) : Ei (iAnyR K ta) Γ (signs x) := ei_l (eia_str h)
theorem dj_list {Q : List D → Gam → Prop} (h : Dl ta Γ fun d Γ1 => ∃ xs, d = .lst xs ∧ Q xs Γ1) : Di (iAnyR K ta) Γ Q := di_l (dia_list h)
theorem dj_tup {Q : List D → Gam → Prop} (h : Dl ta Γ fun d Γ1 => ∃ xs, d = .tup xs ∧ Q xs Γ1) : Di (iAnyR K ta) Γ Q := di_l (dia_tup h)
/-! ### first, *rest = xs -/
theorem unpack_star1 {prog : Program} {w : World} {A : Around} {E : Value → Shared → Prop} {s : Shared} {l : Addr} {b : Value} {its : List Value} {Q : List Value → Shared → Prop} (hl : s.heap.IsList l (b :: its).toArray) (hh : A.handled = none)
    (hz : its.length ≤ 16000) (h : ∀ (h1 : Heap) (tk : Nat), (∀ c o, s.heap.get? c = some o → h1.get? c = some o) → Q [b, .ref h1.objs.size] { s with heap := h1.push { cls := .type "list", data := .seq its.toArray }, toks := tk }) :
    wpAny (model prog w) A (unpackItems (.ref l) 2 (some 1)) Q E s := by
  have lt : l < s.heap.objs.size := by obtain ⟨o, ho, _⟩ := hl; exact Heap.lt_size ho
  have ne : l ≠ s.heap.objs.size := Nat.ne_of_lt lt
  unfold unpackItems notIterableAtAll
  refine wpAny_bind (wpAny_bind (wpAny_specialOf hl.typeIs slot_list_iter.lookup (wpAny_pure ?_)))
  simp only [Bool.false_eq_true, if_false]
  refine wpAny_bind (wpAny_holding (wpAny_pyIter_list hl ?_))
  refine wpAny_bind (wpAny_holding (PySem.W.kun_draw ne 1 0 _ _ ⟨_, Heap.get?_push_size _ rfl, rfl, rfl⟩ (hl.push _) (by simp) fun ha hit hs => ?_))
  have hla : ha.IsList l (b :: its).toArray := (hl.push _).extBut hs.extBut ne
  rw [Nat.zero_add] at hit
  obtain ⟨oi, hoi, _⟩ := id hit
  obtain ⟨ol, hol, _⟩ := id hla
  rw [if_neg (show ¬ (((b :: its).toArray.toList.drop 0).take 1).length < 1 by simp)]
  refine wpAny_bind (wpAny_holding (PySem.W.kun_collect (s := { s with heap := ha }) (T := "list_iterator") (.inr (.inr (.inl rfl))) (Walks.list (A := A.in1) hh s.heap.objs.size l ne _) (fun j u st => st.1.typeIs) (k := 1) (by simp) ⟨hit, hla⟩
    (Heap.lt_size hoi) (Heap.lt_size hol) (fun hb tk kp => ?_) (by rw [sizeLine_eq]; simp; omega)))
  show wpAny _ _ (if its.length < 0 then _ else _) _ _ _
  rw [if_neg (Nat.not_lt_zero _)]
  show wpAny _ _ (newList (its.take (its.length - 0)) >>= fun d => pure ([b] ++ [d] ++ its.drop (its.length - 0))) _ _ _
  rw [Nat.sub_zero, List.take_length, List.drop_length]
  have k2 : ∀ c o, s.heap.get? c = some o → hb.get? c = some o := fun c o e => kp c o (Nat.ne_of_lt (Heap.lt_size e)) (hs.extBut c o (Nat.ne_of_lt (Heap.lt_size e)) (Heap.get?_push_of_some _ e))
  unfold newList
  refine wpAny_bind (wpAny_newObj_type (wpAny_pure ?_) (by show its.toArray.size ≤ sizeLine; rw [sizeLine_eq, List.size_toArray]; omega))
  exact h hb tk k2
def gStar1 (K : PySem.W.Frag) (g1 g2 : TG) : TG := fun v σ H Q => ∃ a z zs, v = .ref a ∧ SqL K H a (z :: zs) ∧ zs.length ≤ 16000 ∧ ∀ p, H p = none → g1 z σ (upd H p (.lst zs)) fun σ1 H1 => g2 (.ref p) σ1 H1 Q
theorem pg_star1 (hc : X.calm = true) {e1 e2 : Expr} {g1 g2 : TG} {k : Nat} {pos sp : Pos} (h1 : PG X e1 g1) (h2 : PG X e2 g2) (hlen : (assignEach [e1, .Starred e2 sp] X.env).length = 2 := by rfl)
    (hst : (assignEach [e1, .Starred e2 sp] X.env).findIdx? (·.1) = some 1 := by rfl) (hm : (assignEach [e1, .Starred e2 sp] X.env).map (·.2) = [assign e1 X.env, assign e2 X.env] := by rfl) :
    PG X (.Tuple [e1, .Starred e2 sp] k pos) (gStar1 X.K g1 g2) := by
  refine ⟨fun pins s σ H v u Q I r hw => ?_⟩
  obtain ⟨a, z, zs, ev, hq, hl, hw⟩ := hw
  subst ev
  cases r
  obtain ⟨its, rv, pl, hz⟩ := I.list hq
  cases rv with
  | cons rz rr =>
    rename_i b l
    rw [assign_Tuple]
    refine wpAny_bind (wpAny_standAt ?_)
    unfold unpack
    rw [hlen, hst, hm]
    refine wpAny_bind (wpAny_holding (unpack_star1 pl.isList (I.ok.hd hc) (by rw [← rr.length]; exact hl) fun ha tk kp => ?_))
    have I1 : Inv X pins σ H { s with heap := ha, toks := tk } := I.kept kp
    have I2 := I1.laid (t' := tk) (o := .lst zs) (h' := ha.push { cls := .type "list", data := .seq l.toArray }) (fun c o e => Heap.get?_push_of_some _ e) (Nat.le_refl _)
      ⟨by have hz' : zs.length + 1 ≤ sizeLine := hz
          omega, l, 0, rr, Heap.get?_push_size _ rfl⟩
    refine assignInOrder_cons (thn (h1.run pins _ σ _ z b _ I2 rz (hw _ (I1.hok.fresh (Nat.le_refl _)))) fun _ s3 ⟨σ3, H3, I3, q3⟩ => ?_)
    exact assignInOrder_cons (thn (h2.run pins s3 σ3 H3 (.ref ha.objs.size) _ Q I3 rfl q3) fun _ s4 ⟨σ4, H4, I4, q4⟩ => assignInOrder_nil ⟨σ4, H4, I4, q4⟩)
end
end Dw

/-! enumerate of a tuple. -/
namespace Dw
open PySem PySem.Spec PyProof.Rows L2
variable [Tabs0]
theorem meets_enum_tup (l : Addr) (items : Array Value) (n : Nat) (dd : Option Addr) (sl : Array (Option Value)) :
    Meets (Builtin.«enumerate.__new__» ⟨[.type "enumerate", .ref l], []⟩) (fun _ R s => s.heap.get? l = some { cls := .type "tuple", dict := dd, data := .seq items n, slots := sl } ∧
      R (.ok (.ret (.ref (s.heap.push { cls := .type "tuple_iterator", data := .fields #[.ref l, .int 0 0] }).objs.size)))
        { s with heap := (s.heap.push { cls := .type "tuple_iterator", data := .fields #[.ref l, .int 0 0] }).push { cls := .type "enumerate", data := .fields #[.none, .bool false, .ref s.heap.objs.size, rawInt 0, .none, .none] } }) :=
  .of_wp fun prog w A R s h => by
    obtain ⟨hp, g, d, tk, os⟩ := s
    obtain ⟨hl, h⟩ := h
    have hL : hp.IsTuple l items := ⟨_, hl, rfl, n, rfl⟩
    have hsub := sub_enumerate
    wp_walk using wpAny_loadPart' hl
    refine wpAny_stack_any fun st => wpAny_pure ?_
    split
    · rename_i c _ _ _ _ _
      cases (c == Value.type "enumerate") <;> (wp_walk using wpAny_loadPart' hl, wpAny_pyIter_tuple hL; exact ⟨_, rfl, h⟩)
    · wp_walk using wpAny_loadPart' hl, wpAny_pyIter_tuple hL
      exact ⟨_, rfl, h⟩
end Dw

/-! for i, x in enumerate(a tuple). -/
namespace Dw
open PySem PySem.Spec PyProof.Rows L2
variable [Tabs0]
theorem call_enum_tup {prog : Program} {w : World} {A : Around} {E : Value → Shared → Prop} {s : Shared} {l : Addr} {items : Array Value} {Q : Value → Shared → Prop} (hL : IsTup s.heap l items)
    (h : ∀ h' : Heap, IsEnum h' (s.heap.objs.size + 1) s.heap.objs.size 0 .none → h'.IsTupleIter s.heap.objs.size l 0 →
      (∀ b o, s.heap.get? b = some o → h'.get? b = some o) → Q (.ref (s.heap.objs.size + 1)) { s with heap := h' }) :
    wpAny (model prog w) A (call (.type "enumerate") [.ref l]) Q E s := by
  obtain ⟨⟨c, dct, dt, sl⟩, hl, hc, n, hd⟩ := hL
  simp only at hc hd
  subst hc; subst hd
  have z1 : (s.heap.push { cls := .type "tuple_iterator", data := .fields #[.ref l, .int 0 0] }).objs.size = s.heap.objs.size + 1 := Heap.size_push ..
  refine callType_new F.called_enumerate (by decide) (F.typeCall_enumerate_1 _) (F.newCall_enumerate_1 _)
    (fun obj => F.args_object_init_2 obj _) F.entry_enumerate_new (meets_enum_tup l items n dct sl) ⟨hl, ?_⟩
  show _ ∧ _
  rw [z1]
  have g0 : ∀ b o, s.heap.get? b = some o → ((s.heap.push { cls := .type "tuple_iterator", data := .fields #[.ref l, .int 0 0] }).push { cls := .type "enumerate", data := .fields #[.none, .bool false, .ref s.heap.objs.size, rawInt 0, .none, .none] }).get? b = some o :=
    fun b o e => Heap.get?_push_of_some _ (Heap.get?_push_of_some _ e)
  have g1 := Heap.get?_push_size (s.heap.push { cls := .type "tuple_iterator", data := .fields #[.ref l, .int 0 0] })
    (o := { cls := .type "enumerate", data := .fields #[.none, .bool false, .ref s.heap.objs.size, rawInt 0, .none, .none] }) rfl
  rw [z1] at g1
  refine ⟨⟨_, g1, rfl⟩, h _ g1 ⟨_, Heap.get?_push_of_some _ (Heap.get?_push_size _ rfl), rfl, rfl⟩ g0⟩
/-- the tuple at a, each item in a new pair -/
def IteT (K : PySem.W.Frag) (a : Addr) : It :=
  ⟨fun i H => ∃ xs x, SqT K H a xs ∧ xs[i]? = some x, fun i H v H' => ∃ T x, v = .ref T ∧ H T = none ∧ H' = upd H T (.tup [.int (i : Nat), x]) ∧ ∀ xs, SqT K H a xs → xs[i]? = some x, fun i H => ∃ xs : List V, SqT K H a xs ∧ xs.length = i⟩
/-- several records of ours have turned -/
theorem inv_turned {X : Cx} {pins : List (Addr × Obj)} {σ : L2.St} {H : Hp} {s : Shared} {h' : Heap} {t' : Nat} {ch : List Addr} (I : Inv X pins σ H s) (k : ∀ b o, b ∉ ch → s.heap.get? b = some o → h'.get? b = some o) (hf : ∀ b ∈ ch, FpOk X pins H b) :
    Inv X pins σ H { s with heap := h', toks := t' } := by
  have nit : ∀ b u, H b = some u → b ∉ ch := fun b u e z => by
    have q := (hf b z).1
    rw [q] at e; cases e
  refine I.step (g' := s.gens) (d' := s.drawn) (ch := ch) (fun b hb => ?_) (fun b o _ _ hc e _ => k b o hc e) (fun b o _ _ hc e _ => ⟨o.slots, k b o hc e⟩) (fun _ _ _ _ n => n) (fun b o hc e => ⟨o, k b o hc e⟩) (fun _ _ e => e) (fun _ _ _ e => e)
    (fun b ps e => ⟨#[], by rw [e]; simp⟩) (fun m hm => ?_) (fun b u e => ?_) I.bare
  · obtain ⟨f0, f1, f2, f3, f4, f5⟩ := hf b hb
    exact ⟨f3, f1, f4, f5⟩
  · obtain ⟨o, es, ep, ho, r⟩ := hm
    exact ⟨o, es, ep, k _ o (fun z => (hf _ z).2.1 rfl) ho, r⟩
  · refine (I.hok b u e).stay (fun c v hc q => k c v ?_ q) (fun _ q => q) fun _ _ q => q
    rcases hc with z | z
    · rw [z]; exact nit b u e
    · exact nit c _ z
theorem turn_enumT {P : Program} {w : World} {K : PySem.W.Frag} {elts : List Expr} {kk : Nat} {tpos : Pos} (a e it : Addr) (nai : a ≠ it) (nae : a ≠ e) (nei : e ≠ it) :
    Turn P w K (.Tuple elts kk tpos) (IteT K a) [e, it] e (fun i h => (∃ old, IsEnum h e it ((0 : Int) + (i : Int)) old) ∧ h.IsTupleIter it a i) where
  mem := by simp
  obj := fun i h ⟨⟨old, he⟩, ⟨o, ho, hc, hd⟩⟩ b hb => by
    rcases (show b = e ∨ b = it by simpa using hb) with z | z
    · subst z; exact ⟨_, he, fun v q => nomatch q⟩
    · subst z; exact ⟨o, ho, fun v q => by rw [hd] at q; cases q⟩
  keep := fun i h h' ⟨⟨old, he⟩, hi⟩ k => ⟨⟨old, k e (by simp) _ he⟩, hi.at fun o q => k it (by simp) o q⟩
  item := by
    intro X hP hw hK hc i pins s σ H E I hf st hg
    subst hP; subst hw; subst hK
    obtain ⟨xs, x, hq, hx⟩ := hg
    obtain ⟨its, rv, p, hz⟩ := I.tuple hq
    obtain ⟨u, hu, ru⟩ := rv.get hx
    have G := GoesN.enumFrom (prog := X.prog) (w := X.w) (A := X.A) (elts := elts) (x1 := kk) (pos := tpos) 0 (Draws.tuple (A := X.A.in1) (I.ok.hd hc) it a nai its.toArray) e nei (by simp [nei, Ne.symm nae]) (by simp)
    have hi : i < its.toArray.size := by
      have := (List.getElem?_eq_some_iff.mp hu).1
      simpa using this
    refine thn (G.goes i s (fun v s2 => ∃ T t y, v = Value.ref T ∧ s.heap.objs.size ≤ T ∧ its.toArray[i]? = some y ∧ s2.heap.IsTuple T #[.int ((0 : Int) + (i : Int)) t, y] ∧
        (∃ old, IsEnum s2.heap e it ((0 : Int) + ((i + 1 : Nat) : Int)) old) ∧ s2.heap.IsTupleIter it a (i + 1) ∧ (∀ b o, b ∉ [e, it] → s.heap.get? b = some o → s2.heap.get? b = some o) ∧ ∃ h' tk, s2 = { s with heap := h', toks := tk }) E hi ⟨st.1, st.2, p⟩
      fun v h' tk ⟨T, t, y, ev, hT, hy, htu⟩ ⟨ho, hit, _⟩ kp _ => ⟨T, t, y, ev, hT, hy, htu, ho, hit, kp, h', tk, rfl⟩) fun r s1 ⟨v, er, hv⟩ => ⟨v, er, thn hv fun _ s2 ⟨T, t, y, ev, hT, hy, htu, ho, hit, kp, h', tk, es⟩ => ?_⟩
    subst es; subst ev
    have ey : y = u := by
      rw [List.getElem?_toArray, hu] at hy
      exact (Option.some.inj hy).symm
    subst ey
    have new : ObjOk X.prog X.w (upd H T (.tup [.int (i : Nat), x])) h' T (.tup [.int (i : Nat), x]) :=
      ⟨by show 2 ≤ sizeLine; decide, [.int ((0 : Int) + (i : Int)) t, y], .cons ⟨t, by rw [Int.zero_add]⟩ (.cons ru .nil), htu⟩
    have I1 : Inv X pins σ (upd H T (.tup [.int (i : Nat), x])) { s with heap := h', toks := tk } := I.turnedNew (ch := [e, it]) kp hf hT new
    refine ⟨.ref T, _, I1, rfl, ⟨T, x, rfl, I.hok.fresh hT, rfl, fun ys hy => by rw [I.tuple_inj hy hq]; exact hx⟩, ⟨ho, hit⟩, fun b hb => ?_⟩
    have lt : b ≠ T := by
      rcases (show b = e ∨ b = it by simpa using hb) with z | z
      · obtain ⟨old, he⟩ := st.1
        rw [z]; exact Nat.ne_of_lt (Nat.lt_of_lt_of_le (Heap.lt_size he) hT)
      · obtain ⟨o, q, _⟩ := st.2
        rw [z]; exact Nat.ne_of_lt (Nat.lt_of_lt_of_le (Heap.lt_size q) hT)
    rw [upd_ne lt]
    exact (hf b hb).1
  done := by
    intro X hP hw hK hc i pins s σ H E I hf st hg
    subst hP; subst hw; subst hK
    obtain ⟨xs, hq, hx⟩ := hg
    obtain ⟨its, rv, p, hz⟩ := I.tuple hq
    have hl := rv.length
    have G := GoesN.enumFrom (prog := X.prog) (w := X.w) (A := X.A) (elts := elts) (x1 := kk) (pos := tpos) 0 (Draws.tuple (A := X.A.in1) (I.ok.hd hc) it a nai its.toArray) e nei (by simp [nei, Ne.symm nae]) (by simp)
    have en : its.toArray.size = i := by rw [List.size_toArray]; omega
    rw [en] at G
    exact G.stops s _ E ⟨st.1, st.2, p⟩ fun h' tk kp _ => inv_turned I kp hf
  self := fun A i s Q E ⟨⟨_, he⟩, _⟩ h => wpAny_pyIter_enum he h
def iEnumT (K : PySem.W.Frag) (ta : TA) : TI := fun σ H R => ta σ H fun vs H1 => ∃ a xs, vs = [.ref a] ∧ SqT K H1 a xs ∧ R (IteT K a) H1
theorem pi_enumT {X : Cx} {e : Expr} {ta : TA} {p pos tpos : Pos} {elts : List Expr} {kk : Nat} (hg : Gl X "enumerate") (hm : X.mg "enumerate" = none) (ha : PA X [e] ta) (hs : starEach [e] X.env = [(false, eval e X.env)] := by rfl) :
    PI X (.Tuple elts kk tpos) (.Call (.Name "enumerate" p) [e] [] pos) (iEnumT X.K ta) := by
  refine ⟨fun pins s σ H R I h => ?_⟩
  refine Call_ (ld_blt I hg hm boot_enumerate (callWith_type1 (thn (ha.run pos pins s σ H _ I h) fun us s1 ⟨vs, H1, I1, r1, q1⟩ => ?_) hs rfl))
  obtain ⟨a, xs, ex, hq, q⟩ := q1
  subst ex
  obtain ⟨u, eu, ru⟩ := vals1 r1
  subst eu
  cases ru
  obtain ⟨its, rv, tp, hz⟩ := I1.tuple hq
  have lta : a < s1.heap.objs.size := by obtain ⟨o, ho, _⟩ := tp; exact Heap.lt_size ho
  refine call_enum_tup tp fun h' he hit hk => wpAny_pyIter_enum he ?_
  refine ⟨s1.heap.objs.size + 1, [s1.heap.objs.size + 1, s1.heap.objs.size], _, _, H1, rfl, I1.kept (t' := s1.toks) hk, turn_enumT a (s1.heap.objs.size + 1) s1.heap.objs.size (Nat.ne_of_lt lta) (Nat.ne_of_lt (Nat.lt_succ_of_lt lta)) (Nat.succ_ne_self _), ⟨⟨.none, he⟩, hit⟩, fun b hb => ?_, q⟩
  have hle : s1.heap.objs.size ≤ b := by
    rcases (show b = s1.heap.objs.size + 1 ∨ b = s1.heap.objs.size by simpa using hb) with z | z
    · rw [z]; exact Nat.le_succ _
    · rw [z]; exact Nat.le_refl _
  exact I1.fpOk hle (I1.hok.fresh hle)
theorem enumTA (K : PySem.W.Frag) {X : Cx} {e : Expr} {ta : TA} {p pos tpos : Pos} {elts : List Expr} {kk : Nat} (hg : Gl X "enumerate") (hm : X.mg "enumerate" = none) (ha : PA X [e] ta) (hK : X.K = K := by rfl) (hs : starEach [e] X.env = [(false, eval e X.env)] := by rfl) :
    PI X (.Tuple elts kk tpos) (.Call (.Name "enumerate" p) [e] [] pos) (fun σ H R => iEnum K ta σ H R ∨ iEnumT K ta σ H R) := hK ▸ pi_or (pi_enum hg hm ha hs) (pi_enumT hg hm ha hs)
theorem zipA (K : PySem.W.Frag) {X : Cx} {e e2 : Expr} {ta : TA} {p pos tpos : Pos} {elts : List Expr} {kk : Nat} (hg : Gl X "zip") (hm : X.mg "zip" = none) (ha : PA X [e, e2] ta) (hK : X.K = K := by rfl)
    (hs : starEach [e, e2] X.env = (false, eval e X.env) :: starEach [e2] X.env := by rfl) (hpl : (backTo pos (starEach [e2] X.env)).any (·.1) = false := by rfl) :
    PI X (.Tuple elts kk tpos) (.Call (.Name "zip" p) [e, e2] [] pos) (RZ.iZipA K ta) := hK ▸ RZ.pi_zipA hg hm ha hs hpl
/-! ### over data -/
/-- the pairs (0, x), (1, y), .. -/
def enumD (xs : List D) : List D := xs.mapIdx fun i x => .tup [.int (i : Nat), x]
theorem enumD_get {xs : List D} {i : Nat} {d : D} (h : (enumD xs)[i]? = some d) : ∃ x, xs[i]? = some x ∧ d = .tup [.int (i : Nat), x] := by
  unfold enumD at h
  rw [List.getElem?_mapIdx] at h
  cases q : xs[i]? with
  | none => rw [q] at h; cases h
  | some x => rw [q] at h; exact ⟨x, rfl, (Option.some.inj h).symm⟩
theorem enumD_length (xs : List D) : (enumD xs).length = xs.length := by simp [enumD]
section
variable {K : PySem.W.Frag} {Γ : Gam} {ta : TE} {xs ys : List D}
theorem ei_enumT {r : TI} (h : Ev ta Γ (.tup xs)) : Ei (fun σ H R => r σ H R ∨ iEnumT K (tCons ta tNil) σ H R) Γ (enumD xs) := fun F σ W R g k => .inr (h F σ W _ g fun v H s ⟨a, vs, ev, ha, nu, l⟩ => by
  subst ev
  refine ⟨a, vs, rfl, ha.sq, k (IteT K a) H s ⟨fun W2 i x dm s2 ku pu hx => ?_, fun H2 s2 => ⟨vs, (ha.same s2).sq, by rw [enumD_length, l.length]⟩⟩⟩
  obtain ⟨y, hy, rfl⟩ := enumD_get hx
  obtain ⟨v, hv, rv⟩ := l.get hy
  have h2 : TupAt W2.H a vs := ha.same s2
  refine ⟨⟨vs, v, h2.sq, hv⟩, fun u H' ⟨T, z, eu, hT, eH, hz⟩ => ?_⟩
  subst eu; subst eH
  have := hz vs h2.sq
  rw [hv] at this; cases this
  exact ⟨same_upd hT, rep_new_tup dm hT ⟨_, _, rfl, rfl, v, _, rfl, Rep.mono (W := W.at H) (W' := W2) (fun b u e n => ⟨s2 b u e, ku b u e n⟩) (fun b z => by rw [pu]; exact z) _ _ rv, rfl⟩⟩)
end
end Dw

/-! zip, slices, fields, isinstance, over data. -/
namespace Dw
open PySem PySem.Spec PyProof.Rows L2
variable [Tabs0]
def zipD (xs ys : List D) : List D := (xs.zip ys).map fun p => .tup [p.1, p.2]
theorem zipD_get {xs ys : List D} {i : Nat} {d : D} (h : (zipD xs ys)[i]? = some d) : ∃ x y, xs[i]? = some x ∧ ys[i]? = some y ∧ d = .tup [x, y] := by
  unfold zipD at h
  rw [List.getElem?_map] at h
  cases q : (xs.zip ys)[i]? with
  | none => rw [q] at h; cases h
  | some p =>
    rw [q] at h
    rw [List.getElem?_zip_eq_some] at q
    exact ⟨p.1, p.2, q.1, q.2, (Option.some.inj h).symm⟩
theorem zipD_length (xs ys : List D) : (zipD xs ys).length = min xs.length ys.length := by simp [zipD]
section
variable {K : PySem.W.Frag} {Γ : Gam} {ta tb te : TE} {xs ys ds : List D} {d : D}
theorem ei_zipT (h1 : Ev ta Γ (.tup xs)) (h2 : Ev tb Γ (.tup ys)) : Ei (RZ.iZipA K (tCons ta (tCons tb tNil))) Γ (zipD xs ys) := fun F σ W R g k => h1 F σ W _ g fun v H s ⟨a, vs, ev, ha, nu, l⟩ => h2 F σ (W.at H) _ (g.same s) fun u H' s' ⟨b, ws, eu, hb, nu', l'⟩ => by
  subst ev; subst eu
  have ha' := ha.same s'
  refine ⟨a, b, vs, ws, rfl, .inr ⟨ha'.sq, hb.sq, k (RZ.ItzT K a b) H' (Same.trans s s') ⟨fun W2 i x dm s2 ku pu hx => ?_, fun H2 s2 => ?_⟩⟩⟩
  · obtain ⟨x, y, hx1, hy, rfl⟩ := zipD_get hx
    obtain ⟨v, hv, rv⟩ := (RepL.same (W := W.at H) s' l).get hx1
    obtain ⟨u, hu, ru⟩ := l'.get hy
    have a2 := ha'.same s2
    have b2 := hb.same s2
    refine ⟨⟨vs, ws, v, u, a2.sq, b2.sq, hv, hu⟩, fun z H3 ⟨T, p, q, ez, hT, eH, hp, hq⟩ => ?_⟩
    subst ez; subst eH
    have e1 := hp vs a2.sq
    have e2 := hq ws b2.sq
    rw [hv] at e1; cases e1
    rw [hu] at e2; cases e2
    have mv : ∀ {d v}, Rep (W.at H') d v → Rep W2 d v := fun {d v} r => Rep.mono (W := W.at H') (W' := W2) (fun b u e n => ⟨s2 b u e, ku b u e n⟩) (fun b z => by rw [pu]; exact z) d v r
    exact ⟨same_upd hT, rep_new_tup dm hT ⟨_, _, rfl, mv rv, _, _, rfl, mv ru, rfl⟩⟩
  · refine ⟨vs, ws, (ha'.same s2).sq, (hb.same s2).sq, ?_⟩
    rw [zipD_length, ← l.length, ← l'.length]
    omega
/-! ### slices -/
def Eo (t : TO) (Γ : Gam) (o : Option Int) : Prop := ∀ (F : Addr → Prop) (σ : L2.St) (W : Wd) (Q : Option Int → Hp → Prop), SR F Γ σ W → (∀ H, Same W.H H → Q o H) → t σ W.H Q
theorem eo_none : Eo tNoPart Γ none := fun F σ W Q g k => k W.H (Same.refl _)
theorem eo_some {i : Int} (h : Ev te Γ (.int i)) : Eo (tPart te) Γ (some i) := fun F σ W Q g k => h F σ W _ g fun v H s r => ⟨i, r, k H s⟩
/-- xs[lo:hi] -/
def cutD (xs : List D) (lo hi : Option Int) : List D := (xs.drop (HT.sIx xs.length 0 lo)).take (HT.sIx xs.length xs.length hi - HT.sIx xs.length 0 lo)
theorem repL_cut {W : Wd} {vs : List V} {lo hi : Option Int} (l : RepL W ds vs) : RepL W (cutD ds lo hi) (cutV vs lo hi) := by
  unfold cutD cutV
  rw [l.length]
  exact (l.drop _).take _
/-! ### fields -/
theorem ev_fld {C : Addr} {ns : List Str} {f : Str} (cl : Cls K C) (na : NoAttr K C f) (h : Ev ta Γ (.obj C ns ds)) (hl : (ns.zip ds).lookup f = some d) : Ev (tFld K ta f) Γ d := fun F σ W Q g k => h F σ W _ g fun v H s ⟨a, dx, vs, ev, e, nu, l, r⟩ => by
  subst ev
  have key : ∀ (ns : List Str) (ds : List D) (vs : List V), RepL (W.at H) ds vs → (ns.zip ds).lookup f = some d → ∃ v, (ns.zip vs).lookup f = some v ∧ Rep (W.at H) d v := by
    intro ns
    induction ns with
    | nil => intro ds vs _ q; simp at q
    | cons n ns ih =>
      intro ds vs r q
      cases ds with
      | nil => simp at q
      | cons e ds =>
        obtain ⟨v, rr, rfl, r1, r2⟩ := r
        rw [List.zip_cons_cons, List.lookup_cons] at q ⊢
        cases hb : f == n with
        | true =>
          rw [hb] at q
          exact ⟨v, rfl, by rw [← Option.some.inj q]; exact r1⟩
        | false =>
          rw [hb] at q
          exact ih ds rr r2 q
  obtain ⟨v, hv, rv⟩ := key ns ds vs r hl
  exact ⟨a, C, dx, _, v, rfl, e, cl, na, hv, k v H s rv⟩
/-! ### isinstance with one class -/
/-- a value's type, as the fragment's deciders take it -/
def tyD : D → Value
  | .non => .type "NoneType" | .bl _ => .type "bool" | .int _ => .type "int" | .str _ => .type "str" | .tup _ => .type "tuple" | .tupN _ => .type "tuple" | .lst _ => .type "list" | .dct _ _ => .type "dict" | .obj C _ _ => .ref C | _ => .none
structure InsOk (K : PySem.W.Frag) (C : Addr) : Prop where
  cl : Cls K C
  ha : PySem.W.findIn K (.ref C) "__class__" = some (some (.builtin "object.__class__"))
  hn : PySem.W.specialIn K (.builtin "object.__class__") "__get__" = some (some (.builtin "getset_descriptor.__get__"))
  ht : PySem.W.takesIn K (.builtin "object.__class__") = some true
  hm : PySem.W.mroIn K C (.type "object") = some true
def hasTy : D → Bool
  | .raw _ => false | .purse => false | .rng _ _ => false | .obj _ _ _ => false | .scr _ _ => false | .tag _ => false | .fnv _ _ => false | .clo _ _ _ => false | .tupN _ => false | _ => true
theorem ty_of {W : Wd} {v : V} (r : Rep W d v) (h : hasTy d = true ∨ ∃ C ns ds, d = .obj C ns ds ∧ InsOk K C) : TyX K W.H v (tyD d) := by
  cases d with
  | non => rw [show v = V.non from r]; exact .base .non
  | bl b => rw [show v = V.bl b from r]; exact .base (.bl b)
  | int b => rw [show v = V.int b from r]; exact .base (.int b)
  | str b => rw [show v = V.str b from r]; exact .base (.str b)
  | tup ds =>
    obtain ⟨a, vs, ev, e, _⟩ := r
    rw [ev]
    exact e.elim (fun e => .base (.tup e)) fun ⟨o, e⟩ => .fTuple e
  | tupN ds => obtain ⟨a, vs, ev, ⟨o, e, _⟩, _⟩ := r; rw [ev]; exact .fTuple e
  | lst ds => obtain ⟨a, vs, ev, e, _⟩ := r; rw [ev]; exact .base (.lst e)
  | dct ks ds => obtain ⟨a, vs, ev, e, _⟩ := r; rw [ev]; exact .base (.dK e)
  | obj C ns ds =>
    obtain ⟨a, dx, vs, ev, e, _⟩ := r
    rcases h with h | ⟨C', ns', ds', q, o⟩
    · cases h
    · cases q; rw [ev]; exact .base (.ins e o.cl o.ha o.hn o.ht o.hm)
  | raw _ => rcases h with h | ⟨_, _, _, q, _⟩ <;> first | cases h | cases q
  | scr _ _ => rcases h with h | ⟨_, _, _, q, _⟩ <;> first | cases h | cases q
  | tag _ => rcases h with h | ⟨_, _, _, q, _⟩ <;> first | cases h | cases q
  | fnv _ _ => rcases h with h | ⟨_, _, _, q, _⟩ <;> first | cases h | cases q
  | clo _ _ _ => rcases h with h | ⟨_, _, _, q, _⟩ <;> first | cases h | cases q
  | purse => rcases h with h | ⟨_, _, _, q, _⟩ <;> first | cases h | cases q
  | rng _ _ => rcases h with h | ⟨_, _, _, q, _⟩ <;> first | cases h | cases q
theorem ev_isi {c : V} {u : Value} {b : Bool} (h : Ev ta Γ d) (hc : Ev tb Γ (.raw c)) (hd : hasTy d = true ∨ ∃ C ns ds, d = .obj C ns ds ∧ InsOk K C) (hv : ClsV c u) (hk : PySem.W.kitOne K (tyD d) u = some b) : Ev (tCB (rIsi K) (tCons ta (tCons tb tNil))) Γ (.bl b) := fun F σ W Q g k =>
  h F σ W _ g fun v H s r => hc F σ (W.at H) _ (g.same s) fun w H' s' rc => ⟨v, c, tyD d, u, b, by rw [show w = c from rc], hv, ty_of (Rep.same (W := W.at H) s' r) hd, hk, k _ H' (Same.trans s s') rfl⟩
end
end Dw
namespace Dw
open PySem PySem.Spec PyProof.Rows L2
variable [Tabs0]
theorem tupA (K : PySem.W.Frag) (n : Nat) {X : Cx} {pos : Pos} {es : List Expr} {k : Nat} {t : TGs} (hc : X.calm = true) (h : PGs X es t) (hK : X.K = K := by rfl)
    (hn : (assignEach es X.env).length = n := by rfl) (hst : (assignEach es X.env).findIdx? (·.1) = none := by rfl) : PG X (.Tuple es k pos) (gTup K n t) := hK ▸ pg_tup hc h hn hst
/-- a purse is drawn from -/
theorem purse_step {F : Addr → Prop} {W : Wd} {a : Addr} {x y c : Int} (ok : WOk F W) (hp : W.P a) (nn : Tabs0.nm a = none) (hx : 0 ≤ x) (hy : 0 ≤ y) (hy2 : y < 2147483647) :
    Stp F W (W.at (upd W.H a (.lst [.int x, .int y, .int c]))) ∧ WOk F (W.at (upd W.H a (.lst [.int x, .int y, .int c]))) := by
  obtain ⟨u, f, oa⟩ := ok.pu a hp
  obtain ⟨_, _, _, _, _, ha⟩ := oa.purse nn
  have up : ∀ b, b ≠ a → (upd W.H a (.lst [.int x, .int y, .int c])) b = W.H b := fun b hb => upd_ne hb
  refine ⟨⟨fun b o e n => ⟨?_, n⟩, rfl, fun b h => up b fun z => f (by rw [← z]; exact h)⟩, ⟨fun b h z => ?_, ok.fu, fun b h => ?_⟩⟩
  · show (upd W.H a _) b = _
    rw [up b fun z => n (by rw [z]; exact u)]
    exact e
  · have z : (upd W.H a (.lst [.int x, .int y, .int c])) b = none := z
    by_cases hb : b = a
    · rw [hb, upd_same] at z; cases z
    · rw [up b hb] at z; exact ok.dom b h z
  · obtain ⟨u', f', o⟩ := ok.pu b h
    refine ⟨u', f', ?_⟩
    by_cases hb : b = a
    · rw [hb]; exact .of ⟨(x, c), y, hx, hy, hy2, upd_same⟩ nn
    · exact o.upd (no_ext ha) hb
end Dw

/-! Joined texts as codes; a written dict that is asked at once. -/
namespace Dw
open PySem PySem.Spec PyProof.Rows L2
variable [Tabs0]
theorem joinL_nil : ∀ ls : List (List Nat), TL.joinL [] ls = ls.flatten
  | [] => rfl
  | [p] => by simp [TL.joinL]
  | p :: q :: r => by
    show p ++ ([] ++ TL.joinL [] (q :: r)) = _
    rw [List.nil_append, joinL_nil (q :: r)]; rfl
theorem join_tx (a : List Nat) (ys : List (List Nat)) : Txt.join (tx a) (ys.map tx) = tx (TL.joinL a ys) := SX.join_S a ys
theorem flat_chs (l : List Nat) : (l.map fun c => [c]).flatten = l := by
  induction l with
  | nil => rfl
  | cons c l ih => rw [List.map_cons, List.flatten_cons, ih]; rfl
theorem join_chs (l : List Nat) : Txt.join (Str.ofString "") (l.map ch) = tx l := by
  have e : l.map ch = (l.map fun c => [c]).map tx := by rw [List.map_map]; rfl
  have e0 : Str.ofString "" = tx [] := by decide +kernel
  rw [e, e0, join_tx, joinL_nil, flat_chs]
theorem chs_len (l : List Nat) : ((l.map ch).map (·.length)).sum = l.length := by
  induction l with
  | nil => rfl
  | cons c l ih =>
    rw [List.map_cons, List.map_cons, List.sum_cons, ih, List.length_cons]
    show 1 + l.length = _
    omega
section
variable {Γ : Gam} {K : PySem.W.Frag} {ty : TE} {x y : Str}
end
end Dw

/-! Chains of comparisons, dicts of the module, properties, texts cut, objects made. -/
namespace Dw
open PySem PySem.Spec PyProof.Rows L2
variable [Tabs0]
section
variable {Γ : Gam} {K : PySem.W.Frag} {w : World} {ta tb tc te tv : TE} {t : TA} {x y z d : D} {ds : List D} {a b : Str} {C ad : Addr} {E : XK} {s : Spc}
theorem ev_chain {r r' : R2} {p q : Bool} (ha : Ev ta Γ x) (hb : Ev tb Γ y) (hc : p = true → Ev tc Γ z) (h1 : DR2 r x y (.bl p)) (h2 : p = true → DR2 r' y z (.bl q)) : Ev (tChain r r' ta tb tc) Γ (.bl (p && q)) := fun F σ W Q g k =>
  ha F σ W _ g fun u H s ru => hb F σ (W.at H) _ (g.same s) fun v H1 s1 rv => by
    refine h1 (W.at H1) u v _ ((g.same s).same s1).ok.dom (ru.same (W := W.at H) s1) rv fun o H2 s2 ro => ⟨p, ro, ?_⟩
    have s02 : Same W.H H2 := Same.trans s (Same.trans s1 s2)
    cases p with
    | false => exact ite2 (fun h => nomatch h) fun _ => k _ H2 s02 rfl
    | true =>
      refine ite2 (fun _ => ?_) fun h => absurd rfl h
      refine hc rfl F σ (W.at H2) _ (g.same s02) fun e H3 s3 re => ?_
      exact h2 rfl (W.at H3) v e _ ((g.same s02).same (W := W.at H2) s3).ok.dom ((rv.same (W := W.at H1) s2).same (W := W.at H2) s3) re fun o' H4 s4 ro' => k _ H4 (Same.trans s02 (Same.trans s3 s4)) ro'
theorem evt_chain {r r' : R2} {p q : Bool} (ha : Ev ta Γ x) (hb : Ev tb Γ y) (hc : p = true → Ev tc Γ z) (h1 : DR2 r x y (.bl p)) (h2 : p = true → DR2 r' y z (.bl q)) : EvT (tTest (tChain r r' ta tb tc)) Γ (p && q) := evt_test (ev_chain ha hb hc h1 h2)
/-- a property of an object -/
theorem ev_prop {x : s.ty} {ns : List Str} (h : Ev ta Γ (.obj C ns ds)) (ha : s.args x = [.obj C ns ds]) (np : noPs (s.args x) = true) (ok : s.ok x) (hd : ∀ d', s.rel x d' → d' = d) : Ev (tProp C (toSp s) [] E ta) Γ d := fun F σ W R g k => h F σ W _ g fun v H st r => by
  obtain ⟨a, dx, vs, ev, e, nu, l, rl⟩ := r
  refine ⟨a, dx, _, ev, e, ?_⟩
  have rr : RepL (W.at H) (s.args x) [v] := by rw [ha]; exact RepL.one ⟨a, dx, vs, ev, e, nu, l, rl⟩
  rw [← ev]
  exact pure_call (W := W.at H) (g.same st) (fun _ z => z) (RepL.delP _ _ np rr) ok fun d' v H' hd' s' r' => by
    rw [hd d' hd'] at r'
    exact k v H' (Same.trans st s') (Rep.addP (W := W) r')
theorem evn_split (ha : Ev ta Γ (.str a)) (hb : Ev tb Γ (.str b)) (hn : (b.length == 0) = false) (hz : a.length + 2 ≤ sizeLine) :
    EvN (tM1 (fun x xs H Q => ∃ a b, x = .str a ∧ xs = [.str b] ∧ (b.length == 0) = false ∧ a.length + 2 ≤ sizeLine ∧ rNewStrs (Txt.split a b) H Q) ta tb) Γ ((Txt.split a b).map D.str) := fun F σ W Q g k =>
  ha F σ W _ g fun v H s r => ⟨⟨a, r⟩, hb F σ (W.at H) _ (g.same s) fun u H1 s1 r1 => ⟨a, b, r, by rw [show u = V.str b from r1], hn, hz, fun p hp =>
    k p _ _ (Same.trans (Same.trans s s1) (same_upd hp)) ((Same.trans s s1).free hp) upd_same (RepL.strs.mpr rfl)⟩⟩
theorem ev_partition (ha : Ev ta Γ (.str a)) (hb : Ev tb Γ (.str b)) (hn : (b.length == 0) = false) (hz : a.length ≤ sizeLine) :
    Ev (tM1 (fun x xs H Q => ∃ a b, x = .str a ∧ xs = [.str b] ∧ (b.length == 0) = false ∧ a.length ≤ sizeLine ∧
      ∀ p, H p = none → Q (.ref p) (upd H p (.tup [.str (Txt.partition a b).1, .str (Txt.partition a b).2.1, .str (Txt.partition a b).2.2]))) ta tb) Γ (.tup [.str (Txt.partition a b).1, .str (Txt.partition a b).2.1, .str (Txt.partition a b).2.2]) := fun F σ W Q g k =>
  ha F σ W _ g fun v H s r => ⟨⟨a, r⟩, hb F σ (W.at H) _ (g.same s) fun u H1 s1 r1 => ⟨a, b, r, by rw [show u = V.str b from r1], hn, hz, fun p hp =>
    k _ _ (Same.trans (Same.trans s s1) (same_upd hp)) (rep_new_tup (W := W.at H1) ((g.same s).same (W := W.at H) s1).ok.dom hp ⟨_, _, rfl, rfl, _, _, rfl, rfl, _, _, rfl, rfl, rfl⟩)⟩⟩
end
end Dw

/-! Objects made: the promise of an __init__, its rules, the call of the class. -/
namespace Dw
open PySem PySem.Spec PyProof.Rows L2
variable [Tabs0]
abbrev rIsNone : R2 := fun x y H Q => y = .non ∧ Q (.bl (decide (x = .non))) H
theorem dr2_isN {d : D} {b : Bool} (h : ∀ (W : Wd) v, Rep W d v → decide (v = V.non) = b) : DR2 rIsNone d .non (.bl b) := dr2_flat fun W u v Q r1 r2 k => ⟨r2, by rw [h W u r1]; exact k _ rfl⟩
/-- an __init__'s promise: the object gets ns and ds, where rel x (.tup ds) -/
def toIn (C : Addr) (ns : List Str) (s : Spc) : Sp := fun vs H Q _ => ∃ (x : s.ty) (F : Addr → Prop) (W : Wd) (a dx : Addr) (us : List V), vs = .ref a :: us ∧ W.H = H ∧ WOk F W ∧ W.U a ∧ ¬ F a ∧ ¬ W.P a ∧ W.H a = some (.ins C dx []) ∧ RepL W (s.args x) us ∧ s.ok x ∧
  ∀ ds zs W', s.rel x (.tup ds) → Stp F W W' → WOk F W' → W'.U a → W'.H a = some (.ins C dx (ns.zip zs)) → ns.length = zs.length → RepL W' ds zs → Q .non W'.H
section
variable {Γ : Gam} {K : PySem.W.Frag} {te tv ta : TE} {t u : TS} {x y d : D} {C : Addr} {s : Spc}
/-- a statement of an __init__ whose object stands at a, with the fields ns so far -/
def DI (C a : Addr) (t : TS) (Γ : Gam) (ns : List Str) (ds : List D) (R : Gam → List Str → List D → Prop) : Prop := ∀ (F : Addr → Prop) (σ : L2.St) (W : Wd) (Dr : Ends) (dx : Addr) (us : List V), SR (Fp F a) Γ σ W → ¬ F a → W.H a = some (.ins C dx (ns.zip us)) → ns.length = us.length → RepL W ds us →
  (∀ σ' Γ' ns' ds' us' W', Stp F W W' → SR (Fp F a) Γ' σ' W' → W'.H a = some (.ins C dx (ns'.zip us')) → ns'.length = us'.length → RepL W' ds' us' → R Γ' ns' ds' → Dr.nx σ' W'.H) → t Dr σ W.H
theorem di_seq {a : Addr} {ns : List Str} {ds : List D} {R : Gam → List Str → List D → Prop} (h : DI C a t Γ ns ds fun Γ' ns' ds' => DI C a u Γ' ns' ds' R) : DI C a (tSeq t u) Γ ns ds R := fun F σ W Dr dx us g nf e l r k =>
  h F σ W { Dr with nx := u Dr } dx us g nf e l r fun σ' Γ' ns' ds' us' W' st g' e' l' r' hR => hR F σ' W' Dr dx us' g' nf e' l' r' fun σ2 Γ2 ns2 ds2 us2 W2 st2 => k σ2 Γ2 ns2 ds2 us2 W2 (st.trans st2)
theorem di_of {a : Addr} {ns : List Str} {ds : List D} {R : Gam → List Str → List D → Prop} (h : Ds t Γ ⟨fun Γ' => R Γ' ns ds, fun _ => False, fun _ => False, fun _ => False⟩) : DI C a t Γ ns ds R := fun F σ W Dr dx us g nf e l r k =>
  h (Fp F a) σ W Dr g ⟨fun σ' W' Γ' st g' hR => k σ' Γ' ns ds us W' (st.sub fun _ z => .inl z) g' ((st.fr a (.inr rfl)).trans e) l (r.stp st) hR, fun _ _ _ _ _ _ h => h.elim, fun _ _ _ _ _ h => h.elim, fun _ _ _ _ _ h => h.elim⟩
theorem putF_new {f : Str} {v : V} : ∀ {ns : List Str} {us : List V}, f ∉ ns → ns.length = us.length → putF f v (ns.zip us) = (ns ++ [f]).zip (us ++ [v])
  | [], [], _, _ => rfl
  | n :: ns, u :: us, h, l => by
    show (if n = f then _ else (n, u) :: putF f v (ns.zip us)) = _
    rw [if_neg (fun z => h (by rw [z]; exact List.mem_cons_self)), putF_new (fun z => h (List.mem_cons_of_mem _ z)) (Nat.succ.inj l)]
    rfl
theorem zip_len {ns : List Str} {us : List V} (l : ns.length = us.length) : (ns.zip us).length = ns.length := by rw [List.length_zip, ← l]; omega
theorem di_fld {a : Addr} {ns : List Str} {ds : List D} {f : Str} {R : Gam → List Str → List D → Prop} (cl : Cls K C) (na : NoAttr K C f) (hn : f ∉ ns) (hz : ns.length < 1000) (ha : Ev ta Γ (.raw (.ref a))) (hv : Ev tv Γ d) (h : R Γ (ns ++ [f]) (ds ++ [d])) :
    DI C a (sFld K ta tv f) Γ ns ds R := fun F σ W Dr dx us g nf e l r k => hv _ σ W _ g fun v H s rv => ha _ σ (W.at H) _ (g.same s) fun z H1 s1 rz => by
  have g1 := (g.same s).same (W := W.at H) s1
  have s01 := Same.trans s s1
  refine ⟨a, C, dx, ns.zip us, rz, s01 _ _ e, cl, na, by rw [zip_len l]; exact hz, ?_⟩
  rw [putF_new hn l]
  obtain ⟨st, g2⟩ := g1.poke (o := .ins C dx ((ns ++ [f]).zip (us ++ [v]))) nf (no_extI (s01 _ _ e))
  have st1 : Stp F W (W.at H1) := (Stp.of_same g.ok s01).sub fun _ z => .inl z
  exact k σ Γ (ns ++ [f]) (ds ++ [d]) (us ++ [v]) _ (st1.trans st) g2 upd_same (by rw [List.length_append, List.length_append, l]; rfl) (((r.same s01).append (RepL.one (rv.same (W := W.at H) s1))).stp st) h
theorem di_fld2 {a : Addr} {ns : List Str} {ds : List D} {f f2 : Str} {R : Gam → List Str → List D → Prop} (cl : Cls K C) (na : NoAttr K C f) (na2 : NoAttr K C f2) (hn : f ∉ ns) (hn2 : f2 ∉ ns ++ [f]) (hz : ns.length < 900) (ha : Ev ta Γ (.raw (.ref a))) (hv : Ev tv Γ (.tup [x, y]))
    (h : R Γ ((ns ++ [f]) ++ [f2]) ((ds ++ [x]) ++ [y])) :
    DI C a (tAsg tv (gTup K 2 (gCons (gFld K ta f) (gCons (gFld K ta f2) gNil)))) Γ ns ds R := fun F σ W Dr dx us g nf e l r k => hv _ σ W _ g fun v H s rv => by
  obtain ⟨p, vs, ev, hp, nu, v1, _, rfl, r1, v2, _, rfl, r2, rfl⟩ := rv
  refine ⟨p, [v1, v2], ev, hp.sq, rfl, v1, [v2], rfl, ha _ σ (W.at H) _ (g.same s) fun z H1 s1 rz => ?_⟩
  have g1 := (g.same s).same (W := W.at H) s1
  have s01 := Same.trans s s1
  refine ⟨a, C, dx, ns.zip us, rz, s01 _ _ e, cl, na, by rw [zip_len l]; omega, ?_⟩
  rw [putF_new hn l]
  obtain ⟨st, g2⟩ := g1.poke (o := .ins C dx ((ns ++ [f]).zip (us ++ [v1]))) nf (no_extI (s01 _ _ e))
  have st1 : Stp F W (W.at H1) := (Stp.of_same g.ok s01).sub fun _ z => .inl z
  have l1 : (ns ++ [f]).length = (us ++ [v1]).length := by rw [List.length_append, List.length_append, l]; rfl
  have rr1 := ((r.same s01).append (RepL.one (r1.same (W := W.at H) s1))).stp st
  have r2' := (r2.same (W := W.at H) s1).stp st
  refine ⟨v2, [], rfl, ha _ σ _ _ g2 fun z' H2 s2 rz' => ?_⟩
  refine ⟨a, C, dx, (ns ++ [f]).zip (us ++ [v1]), rz', s2 _ _ upd_same, cl, na2, by rw [zip_len l1, List.length_append]; show ns.length + 1 < 1000; omega, rfl, ?_⟩
  rw [putF_new hn2 l1]
  obtain ⟨st2, g3⟩ := (g2.same s2).poke (o := .ins C dx (((ns ++ [f]) ++ [f2]).zip ((us ++ [v1]) ++ [v2]))) nf (no_extI (s2 _ _ upd_same))
  have sto : Stp F (W.at (upd H1 a (.ins C dx ((ns ++ [f]).zip (us ++ [v1]))))) (W.at H2) := (Stp.of_same g2.ok s2).sub fun _ z => .inl z
  exact k σ Γ _ ((ds ++ [x]) ++ [y]) ((us ++ [v1]) ++ [v2]) _ (st1.trans (st.trans (sto.trans st2))) g3 upd_same (by simp [l]) (((rr1.stp sto).append (RepL.one (r2'.stp sto))).stp st2) h
section
variable {P : Program} {w : World} {mg : Str → Option Value} {base : Heap}
theorem in_ok {x qual : Str} {st : Stmt} {f : Addr} {fd : FuncData} {N ps : List Str} {k : Nat} {ns : List Str} (F : Fun K x qual st f fd) (S : FnScope N ps (defScope st)) (len : ∀ x, (s.args x).length + 1 = ps.length)
    (hbody : ∀ (cdv : Value) (A : Around) (outer : List Env) (s' : Shared) (H : Hp) (E : XK), Room k (A.deeper (envOfC qual (defScope st) s'.heap.objs.size f cdv)) →
      ∃ t, PSs (cxOf CX0 P w K mg base N qual (defScope st) f cdv A outer s' H E).nox (defBody st) t ∧ ∀ x, s.ok x → ∀ a, DI C a t (Gz0 N.length (.raw (.ref a) :: s.args x)) [] [] fun _ ns' ds' => ns' = ns ∧ s.rel x (.tup ds')) :
    FnOk P w K mg base CX0 (k + 1) f fd ps (toIn C ns s) :=
  F.ok S (fun vs H Q E ⟨x, F, W, a, dx, us, e, _, _, _, _, _, _, r, _⟩ => by rw [e, List.length_cons, ← r.length]; exact len x) fun cdv A outer s' H vs Q E hr h => by
    obtain ⟨t, p, hb⟩ := hbody cdv A outer s' H E hr
    refine ⟨t, p, ?_⟩
    obtain ⟨x, F, W, a, dx, us, rfl, rfl, ok, hu, nf, np, ha, r, hx, q⟩ := h
    have ok' : WOk (Fp F a) W := ⟨ok.dom, fun b z => z.elim (ok.fu b) fun z => by rw [z]; exact hu, fun b z => let ⟨u, f, pp⟩ := ok.pu b z; ⟨u, fun y => y.elim f fun y => np (by rw [← y]; exact z), pp⟩⟩
    refine hb x hx a F _ W _ dx [] (sr_start ok' (ds := .raw (.ref a) :: s.args x) ⟨_, us, rfl, rfl, r⟩) nf ha rfl rfl fun σ' Γ' ns' ds' us' W' st g' e' l' r' hR => ?_
    obtain ⟨rfl, hrel⟩ := hR
    exact q ds' us' W' hrel st ⟨g'.ok.dom, fun b z => g'.ok.fu b (.inl z), fun b z => let ⟨u, f, pp⟩ := g'.ok.pu b z; ⟨u, fun y => f (.inl y), pp⟩⟩ (g'.ok.fu a (.inr rfl)) e' l' r'
end
/-- C(..) -/
theorem dl_make {ns : List Str} {t : TA} {E : XK} {Q : D → Gam → Prop} (h : DlA t Γ fun ds Γ1 => ∃ x, ds = s.args x ∧ s.ok x ∧ ∀ es, s.rel x (.tup es) → Q (.obj C ns es) Γ1) : Dl (tMake C (toIn C ns s) [] E t) Γ Q := fun F σ W R g k => h F σ W _ g fun vs W1 ds Γ1 st g1 r ⟨x, e, ok, q⟩ => by
  subst e
  intro b dx hb hdx ne
  rw [List.append_nil]
  have sm : Same W1.H (upd (upd W1.H dx (.own b)) b (.ins C dx [])) := Same.trans (same_upd hdx) (same_upd ((upd_ne (Ne.symm ne)).trans hb))
  obtain ⟨stp, gp, no, nf, np⟩ := g1.plus (H := upd (upd W1.H dx (.own b)) b (.ins C dx [])) (a := b) sm hb (by rw [upd_same]; exact fun z => nomatch z)
  refine ⟨x, _, W1.plus _ b, b, dx, vs, rfl, rfl, gp.callOk, .inr rfl, fun z => z.elim nf no, np, upd_same, r.stp stp, ok, fun ds zs W' hd st' ok' hu hH hl rr => ⟨rfl, ?_⟩⟩
  have g2 := gp.call st' ok'
  have np' : ¬ W'.P b := by rw [st'.pur]; exact np
  obtain ⟨st3, g3⟩ := (g2.frame hu np' no).land nf
  exact k (.ref b) ⟨W'.H, fun c => W'.U c ∧ c ≠ b, W'.P⟩ (.obj C ns ds) Γ1 (st.trans (stp.trans ((st'.sub fun _ z => .inl z).trans st3))) g3 ⟨b, dx, zs, rfl, hH, fun z => z.2 rfl, hl, rr.stp st3⟩ (q ds hd)
end
end Dw

/-! all() over a pure comprehension; one sign within a text; comparisons with their answers. -/
namespace Dw
open PySem PySem.Spec PyProof.Rows L2
variable [Tabs0]
section
variable {Γ : Gam} {K : PySem.W.Frag} {wi : TI} {g : TG} {tt : TT} {te : TE} {vs : List Nat}
theorem ev_all_lc {α : Type} {xs : List α} {c : α → D} {b : α → Bool} (h : Ei wi Γ (xs.map c)) (hz : xs.length ≤ 1000000)
    (he : ∀ x ∈ xs, ∃ is Γ2, DG g is (c x) (wipeG Γ vs) Γ2 ∧ (∀ i ∈ is, i ∈ vs) ∧ EvT tt Γ2 true ∧ Ev te Γ2 (.bl (b x))) : Ev (tCB (rAll K) (tCons (tLc wi g tt te vs) tNil)) Γ (.bl (xs.all b)) := by
  have e := evn_lc (p := fun _ => true) (f := fun x => D.bl (b x)) h hz fun x hx => by
    obtain ⟨is, Γ2, h1, h2, h3, h4⟩ := he x hx
    exact ⟨is, Γ2, h1, h2, h3, fun _ => h4⟩
  rw [List.filter_eq_self.mpr (fun _ _ => rfl)] at e
  have e2 : xs.map (fun x => D.bl (b x)) = (xs.map b).map D.bl := by rw [List.map_map]; rfl
  rw [e2] at e
  have r := ev_all (K := K) e.b
  rw [List.all_map] at r
  exact r
/-- a pure comprehension without a test -/
theorem evn_lc1 {α : Type} {xs : List α} {c f : α → D} (h : Ei wi Γ (xs.map c)) (hz : xs.length ≤ 1000000)
    (he : ∀ x ∈ xs, ∃ is Γ2, DG g is (c x) (wipeG Γ vs) Γ2 ∧ (∀ i ∈ is, i ∈ vs) ∧ EvT tt Γ2 true ∧ Ev te Γ2 (f x)) : EvN (tLc wi g tt te vs) Γ (xs.map f) := by
  have e := evn_lc (p := fun _ => true) (f := f) h hz fun x hx => by
    obtain ⟨is, Γ2, h1, h2, h3, h4⟩ := he x hx
    exact ⟨is, Γ2, h1, h2, h3, fun _ => h4⟩
  rw [List.filter_eq_self.mpr (fun _ _ => rfl)] at e
  exact e
end
theorem in_code {K : PySem.W.Frag} {l : List Nat} {c : Nat} : DR2 (rOr (rIn K false) rInS) (.str (ch c)) (.str (tx l)) (.bl (decide (c ∈ l))) := by
  have e := in_str' (K := K) (x := ch c) (y := tx l)
  rw [show (Builtin.Str.occurrences (tx l) (ch c) 0 (tx l).length 1).isEmpty = !decide (c ∈ l) from by rw [← Bool.not_not (Builtin.Str.occurrences (tx l) (ch c) 0 (tx l).length 1).isEmpty]; exact congrArg _ (SX.in_one l c), Bool.not_not] at e
  exact e
theorem nin_code {K : PySem.W.Frag} {l : List Nat} {c : Nat} : DR2 (rOr (rIn K true) rNinS) (.str (ch c)) (.str (tx l)) (.bl (!decide (c ∈ l))) := by
  refine dr2_r (dr2_flat fun W u v Q a b k => ⟨ch c, tx l, a, b, ?_⟩)
  rw [show (Builtin.Str.occurrences (tx l) (ch c) 0 (tx l).length 1).isEmpty = !decide (c ∈ l) from by rw [← Bool.not_not (Builtin.Str.occurrences (tx l) (ch c) 0 (tx l).length 1).isEmpty]; exact congrArg _ (SX.in_one l c), Bool.not_not]
  exact k _ rfl
section
variable {K : PySem.W.Frag} {i j : Int} {b : Bool} {x y : Str}
theorem le_b (h : decide (i ≤ j) = b) : DR2 (rI0 fun i j => .bl (decide (i ≤ j))) (.int i) (.int j) (.bl b) := h ▸ dr2_le
theorem gt_b (h : decide (j < i) = b) : DR2 (rI0 fun i j => .bl (decide (j < i))) (.int i) (.int j) (.bl b) := h ▸ dr2_gt
theorem lt_tx {l m : List Nat} : DR2 (rOr (rI0 fun i j => .bl (decide (i < j))) rLtS) (.str (tx l)) (.str (tx m)) (.bl (decide (l < m))) := by
  have e := lt_str' (x := tx l) (y := tx m)
  rw [tx_cps, tx_cps] at e
  exact e
theorem eq_ib (h : decide (i = j) = b) : DR2 (rEqX K) (.int i) (.int j) (.bl b) := h ▸ eq_int'
theorem eq_sb (h : decide (x = y) = b) : DR2 (rEqX K) (.str x) (.str y) (.bl b) := h ▸ eq_str'
theorem ne_sb (h : (!decide (x = y)) = b) : DR2 (rNeX K) (.str x) (.str y) (.bl b) := h ▸ ne_str'
end
/-- a and b, both true -/
theorem small {n : Nat} (h : n ≤ 100000) : n ≤ sizeLine := Nat.le_trans h (by decide)
end Dw

/-! Methods of lists with K named: within blocks X.K speaks of the block. -/
namespace Dw
open PySem PySem.Spec PyProof.Rows L2
variable [Tabs0]
variable {X : Cx} {o e : Expr} {es : List Expr} {to : TE} {t : TA} {name : Str} {apos cpos : Pos} {T id : String} {r : V → List V → Hp → VK → Prop}
theorem bmA (K : PySem.W.Frag) (pa : PlainAttrs T) (slot : Slot T name id) (hty : typeOf (.builtin id) = pure (.type "method_descriptor")) (hm : MtR X id r) (ho : PE X o to) (ha : PA X (e :: es) t) (hK : X.K = K := by rfl)
    (hbase : attributeBase o name X.env (eval o X.env) = eval o X.env := by rfl)
    (hfew : ((backTo cpos (starEach (e :: es) X.env)).all (fun x => !x.1) && (backToKw cpos (keywordEach [] X.env)).all (fun x => x.1.isSome)
      && decide ((e :: es).length + ([] : List Keyword).length + (if ([] : List Keyword).isEmpty then 0 else 1) < 30)) = true := by rfl)
    (hline : (apos.endLine == cpos.line) = true := by rfl) (hs : starEach (e :: es) X.env = (false, eval e X.env) :: starEach es X.env := by rfl) (hplain : (backTo cpos (starEach es X.env)).any (·.1) = false := by rfl) :
    PE X (.Call (.Attribute o name apos) (e :: es) [] cpos) (tBM K T r to t) := hK ▸ pe_bm pa slot hty hm ho ha hbase hfew hline hs hplain
end Dw

/-! The script (a list that the head gives), and a purse that is made and at once given on. -/
namespace Dw
open PySem PySem.Spec PyProof.Rows L2
variable [Tabs0]
section
variable {Γ : Gam} {K : PySem.W.Frag} {ta tb : TE} {vs : List V} {d : D} {i : Int}
theorem scr_sq {W : Wd} {v : V} (r : Rep W (.scr K vs) v) : ∃ a, v = .ref a ∧ SqL K W.H a vs := by
  obtain ⟨a, e, q, _⟩ := r
  refine ⟨a, e, ?_⟩
  rcases q with ⟨u, h, n, q⟩ | q
  · rcases q with rfl | ⟨o, rfl⟩
    · exact .inl (.inl h)
    · exact .inl (.inr ⟨o, h⟩)
  · exact .inr q
theorem ev_lenX (h : Ev ta Γ (.scr K vs)) : Ev (tCB (rLen K) (tCons ta tNil)) Γ (.int vs.length) := fun F σ W Q g k => h F σ W _ g fun v H s r => by
  obtain ⟨a, e, q⟩ := scr_sq r
  exact .inl ⟨a, vs, by rw [e], .inl q, k _ H s rfl⟩
theorem ev_ixX {z : Int} (h : Ev ta Γ (.scr K vs)) (hb : Ev tb Γ (.int i)) (hz : atI vs i = some (.int z)) : Ev (tOp (rIx K) ta tb) Γ (.int z) := fun F σ W Q g k => h F σ W _ g fun v H s r => hb F σ (W.at H) _ (g.same s) fun u H' s' r' => by
  obtain ⟨a, e, q⟩ := scr_sq (r.same (W := W.at H) s')
  exact .inl ⟨a, vs, i, .int z, e, r', q, hz, k _ H' (Same.trans s s') rfl⟩
end
end Dw
namespace Dw
open PySem PySem.Spec PyProof.Rows L2
variable [Tabs0]
section
variable {Γ : Gam} {K : PySem.W.Frag} {ta tb te : TE} {ns : List Int} {d : D} {i : Int} {s : Spc} {E : XK}
def intD (ns : List Int) : List D := ns.map D.int
def cutI (ns : List Int) (lo hi : Option Int) : List Int := (ns.drop (HT.sIx ns.length 0 lo)).take (HT.sIx ns.length ns.length hi - HT.sIx ns.length 0 lo)
theorem ev_int1 (h : Ev ta Γ (.int i)) : Ev (tCB (fun xs H Q => (∃ i, xs = [.int i] ∧ Q (.int i) H) ∨ ∃ k, xs = [.bl k] ∧ Q (.int (if k then 1 else 0)) H) (tCons ta tNil)) Γ (.int i) :=
  ev_cb (eva_cons h eva_nil) fun W us Q dom r k => by
    obtain ⟨v, _, rfl, rv, rfl⟩ := r
    exact .inl ⟨i, by rw [show v = V.int i from rv], k _ _ (Same.refl _) rfl⟩
theorem ev_abs (h : Ev ta Γ (.int i)) : Ev (tCB (fun xs H Q => ∃ i, xs = [.int i] ∧ Q (.int (if i < 0 then -i else i)) H) (tCons ta tNil)) Γ (.int (if i < 0 then -i else i)) :=
  ev_cb (eva_cons h eva_nil) fun W us Q dom r k => by
    obtain ⟨v, _, rfl, rv, rfl⟩ := r
    exact ⟨i, by rw [show v = V.int i from rv], k _ _ (Same.refl _) rfl⟩
theorem ev_max2 {j : Int} (h : Ev ta Γ (.int i)) (h' : Ev tb Γ (.int j)) : Ev (tCB (fun xs H Q => ∃ i j, xs = [.int i, .int j] ∧ Q (.int (if j > i then j else i)) H) (tCons ta (tCons tb tNil))) Γ (.int (if j > i then j else i)) :=
  ev_cb (eva_cons h (eva_cons h' eva_nil)) fun W us Q dom r k => by
    obtain ⟨v, _, rfl, rv, v', _, rfl, rv', rfl⟩ := r
    exact ⟨i, j, by rw [show v = V.int i from rv, show v' = V.int j from rv'], k _ _ (Same.refl _) rfl⟩
theorem ev_min2 {j : Int} (h : Ev ta Γ (.int i)) (h' : Ev tb Γ (.int j)) : Ev (tCB (fun xs H Q => ∃ i j, xs = [.int i, .int j] ∧ Q (.int (if j < i then j else i)) H) (tCons ta (tCons tb tNil))) Γ (.int (if j < i then j else i)) :=
  ev_cb (eva_cons h (eva_cons h' eva_nil)) fun W us Q dom r k => by
    obtain ⟨v, _, rfl, rv, v', _, rfl, rv', rfl⟩ := r
    exact ⟨i, j, by rw [show v = V.int i from rv, show v' = V.int j from rv'], k _ _ (Same.refl _) rfl⟩
end
end Dw

/-! sorted(a tuple of ints), xs[::k]. -/
namespace Dw
open PySem PySem.Spec PyProof.Rows L2
section
variable {prog : Program} {w : World} {A : Around} {E : Value → Shared → Prop} {s : Shared}
/-- what sorted's own gathering gives of a tuple -/
theorem collect_T {l : Addr} {vs : List Value} {Q : List Value → Shared → Prop} (hl : s.heap.IsTuple l vs.toArray) (hz : vs.length ≤ sizeLine) (h : Q vs { s with heap := (s.heap.push (seqObj "list" #[] 0)).update s.heap.objs.size (Obj.mapSeq (· ++ vs.toArray)) }) : wpAny (model prog w) A (collect (.ref l)) Q E s := by
  obtain ⟨o, ho, hc, n, hd⟩ := id hl; unfold collect
  refine wpAny_bind (wpAny_runValue (codeAny_builtin entry_proto_collect' ?_))
  show wpAny _ _ (do again (.builtin "list.__iadd__" ⟨[← newList [], .ref l], []⟩)) _ _ s; refine wpAny_bind (wpAny_newList (wpAny_pure ⟨Code.quiet_builtin _ (by decide +kernel), codeAny_builtin entry_list_iadd' ?_⟩)); show wpAny _ _ (Builtin.List.listExtendWith (.ref s.heap.objs.size) (.ref l) (.ref s.heap.objs.size)) _ _ { s with heap := s.heap.push (seqObj "list" #[] 0) }; unfold Builtin.List.listExtendWith
  have ho' : (s.heap.push (seqObj "list" #[] 0)).get? l = some o := Heap.get?_push_of_some _ ho
  refine wpAny_bind (wpAny_typeOf (T := "tuple") ⟨o, ho', hc⟩ ?_)
  have ht : (Value.type "tuple" == Value.type "tuple") = true := by rfl
  rw [if_pos (by rw [ht]; simp)]
  refine wpAny_bind (listItems_at ho' hd ?_); refine wpAny_bind (listItems_at (xs := #[]) (n := 0) (Heap.get?_push_size _ rfl) rfl ?_)
  rw [if_neg (by simp)]
  refine wpAny_bind (listUpdate_at (xs := #[]) (n := 0) (Heap.get?_push_size _ rfl) rfl ?_ (Nat.zero_le _) (by show (#[] ++ vs.toArray).size ≤ sizeLine + 1; simp only [Array.size_append, List.size_toArray, List.length_nil]; omega)); refine wpAny_pure ?_
  show wpAny (model prog w) A (do
      let o ← load s.heap.objs.size
      match o.data with
      | .seq xs _ => pure xs.toList
      | _ => unsupported "internal:collect") Q E { s with heap := (s.heap.push (seqObj "list" #[] 0)).update s.heap.objs.size (Obj.mapSeq (· ++ vs.toArray)) }
  refine wpAny_bind (wpAny_load (get?_update_seq (Heap.get?_push_size _ rfl) _) ?_); show wpAny _ _ (pure ((#[] : Array Value) ++ vs.toArray).toList) Q E _
  rw [show ((#[] : Array Value) ++ vs.toArray).toList = vs by simp]; exact wpAny_pure h
theorem sorted_T {l : Addr} {vs : List Value} {ns : List Int} {Q : Value → Shared → Prop} (hl : s.heap.IsTuple l vs.toArray) (hI : IntsAre vs ns) (h64 : vs.length < 64) (h : ∀ (out : Array Value) (ns' : List Int), IntsAre out.toList ns' → ns'.Perm ns → ns'.Pairwise (· ≤ ·) → Q (.ref (s.heap.objs.size + 1)) { s with heap := sortedAll s.heap vs out }) : wpAny (model prog w) A (call (.builtin "sorted") [.ref l]) Q E s := by
  refine Calls.call_function_entry kind_sorted plain_sorted entry_sorted (args_sorted1 _) ?_; unfold Builtin.«sorted»
  refine wpAny_bind (m := checkCount "sorted" 1 1 _) (wpAny_pure ?_); refine wpAny_bind (collect_T hl (small64 h64) ?_); refine wpAny_bind (wpAny_newList ?_)
  have hsz : ((s.heap.push (seqObj "list" #[] 0)).update s.heap.objs.size (Obj.mapSeq (· ++ vs.toArray))).objs.size = s.heap.objs.size + 1 := by rw [Heap.size_update, size_push']
  have hoL : (((s.heap.push (seqObj "list" #[] 0)).update s.heap.objs.size (Obj.mapSeq (· ++ vs.toArray))).push (seqObj "list" vs.toArray 0)).get? (s.heap.objs.size + 1) = some (seqObj "list" vs.toArray 0) := by rw [← hsz]; exact Heap.get?_push_size _ rfl
  show wpAny _ _ _ _ _ { s with heap := ((s.heap.push (seqObj "list" #[] 0)).update s.heap.objs.size (Obj.mapSeq (· ++ vs.toArray))).push (seqObj "list" vs.toArray 0) }; rw [hsz]
  refine wpAny_bind (wpAny_holding (wpAny_call_entry slot_list_sort ⟨_, hoL, rfl⟩ entry_list_sort (list_sort_tree hoL hI h64 fun out ns' a1 a2 a3 => ⟨_, rfl, ?_⟩) (args_list_sort _))); exact wpAny_pure ⟨_, rfl, h out ns' a1 a2 a3⟩
end
/-- sorted(t), t a tuple of ints -/
def rSortT (K : PySem.W.Frag) : List V → Hp → VK → Prop := fun vs H Q => ∃ (a : Addr) (ns : List Int), vs = [V.ref a] ∧ SqT K H a (ns.map V.int) ∧ ns.length < 64 ∧
  ∀ (ns' : List Int) (p : Addr), ns'.Perm ns → ns'.Pairwise (· ≤ ·) → H p = none → Q (.ref p) (upd H p (.lst (ns'.map V.int)))
theorem cr_sortT {X : Cx} : CallR X (.builtin "sorted") (rSortT X.K) := by
  intro pins s σ H vs us Q I r h
  obtain ⟨a, ns, rfl, hs, h64, q⟩ := h
  obtain ⟨its, rv, hl, _⟩ := I.tuple hs
  rw [Vals.ref1 r]
  have hi := rv.ints
  refine sorted_T hl hi (by rw [hi.length]; exact h64) fun out ns' h1 h2 h3 => ?_
  obtain ⟨ep, he'⟩ := PyProof.Rows.sortedAll_at s.heap its out
  have hlen : (ns'.map V.int).length ≤ sizeLine := by rw [List.length_map, h2.length_eq]; exact small64 h64
  exact ⟨.ref _, upd H (s.heap.objs.size + 1) (.lst (ns'.map V.int)), I.laid (t' := s.toks) (fun _ _ => PyProof.Rows.sortedAll_old) (Nat.le_succ _) ⟨hlen, out.toList, ep, vals_of_ints h1, he'⟩, rfl, q ns' _ h2 h3 (I.hok.fresh (Nat.le_succ _))⟩
theorem sortTA {X : Cx} (K : PySem.W.Frag) (hK : X.K = K := by rfl) : CallR X (.builtin "sorted") (rSortT K) := hK ▸ cr_sortT

/-! ### xs[::k] -/
theorem fm_all {α β : Type} {f : α → Option β} {g : α → β} : ∀ {l : List α}, (∀ x ∈ l, f x = some (g x)) → l.filterMap f = l.map g
  | [], _ => rfl
  | a :: l, h => by rw [List.filterMap_cons, h a List.mem_cons_self, List.map_cons, fm_all fun x hx => h x (List.mem_cons_of_mem _ hx)]
theorem pick_m1 (items : Array Value) : slicePick items none none (some (-1)) = items.toList.reverse.toArray := by
  have e : sliceBounds none none (some (-1)) items.size = ((items.size : Int) - 1, -1, -1) := by simp [sliceBounds]
  unfold slicePick
  rw [e]
  congr 1
  have e2 : sliceRange ((items.size : Int) - 1) (-1) (-1) = (List.range items.size).map fun k => items.size - 1 - k := by
    unfold sliceRange
    rw [if_neg (by decide)]
    dsimp only
    have : ((if (items.size : Int) - 1 > -1 then ((items.size : Int) - 1 - -1 - -1 - 1) / (- -1) else 0 : Int)).toNat = items.size := by
      by_cases h : (items.size : Int) - 1 > -1
      · rw [if_pos h]
        have : ((items.size : Int) - 1 - -1 - -1 - 1) / (- -1) = items.size := by
          rw [show (- -1 : Int) = 1 by decide, Int.ediv_one]; omega
        rw [this]; simp
      · rw [if_neg h]; omega
    rw [this]
    apply List.map_congr_left
    intro k hk
    have := List.mem_range.mp hk
    omega
  rw [e2]
  apply List.ext_getElem?
  intro i
  have e3 : ((List.range items.size).map fun k => items.size - 1 - k).filterMap (items[·]?) = (List.range items.size).filterMap fun k => items[items.size - 1 - k]? := by
    rw [List.filterMap_map]; rfl
  simp only [e3]
  have e4 : (List.range items.size).filterMap (fun k => items[items.size - 1 - k]?) = (List.range items.size).map fun k => (items.toList.reverse)[k]?.getD default := by
    refine fm_all fun k hk => ?_
    have hk := List.mem_range.mp hk
    rw [List.getElem?_reverse (by simpa using hk)]
    have h1 : items.size - 1 - k < items.size := by omega
    rw [Array.getElem?_eq_getElem h1]
    simp only [Function.comp, Array.length_toList]
    rw [List.getElem?_eq_getElem (by simpa using h1)]
    simp
  rw [e4, List.getElem?_map]
  by_cases hi : i < items.size
  · rw [List.getElem?_range hi, Option.map_some, List.getElem?_eq_getElem (by simpa using hi)]; rfl
  · rw [List.getElem?_eq_none (by simpa using hi), List.getElem?_eq_none (by simpa using hi)]; rfl
theorem Vals_reverse {xs : List V} {us : List Value} (r : Vals xs us) : Vals xs.reverse us.reverse := by
  induction r with
  | nil => exact .nil
  | cons h r ih => rw [List.reverse_cons, List.reverse_cons]; exact ih.append (.cons h .nil)
/-! ### text * int -/
end Dw

/-! while, xs[::k], sorted of a tuple, equality of nested data. -/
namespace Dw
open PySem PySem.Spec PyProof.Rows L2
variable [Tabs0]
section
variable {K : PySem.W.Frag} {Γ : Gam} {ta tb te tk : TE} {De : DE} {ds es : List D} {d : D}
theorem ds_while {c : TT} {tb : TS} (J : Nat → Gam → Prop) (m0 : Nat) (h0 : J m0 Γ)
    (hs : ∀ m Γ', J m Γ' → DlT c Γ' fun b Γ1 => (b = true → Ds tb Γ1 ⟨fun Γ2 => ∃ m', m' < m ∧ J m' Γ2, De.rt, De.nx, fun Γ2 => ∃ m', m' < m ∧ J m' Γ2⟩) ∧ (b = false → De.nx Γ1)) : Ds (tWhile c tb) Γ De := fun F σ W Dr g l => by
  refine ⟨fun m σ' H' => ∃ W' Γ', W'.H = H' ∧ Stp F W W' ∧ SR F Γ' σ' W' ∧ J m Γ', ⟨m0, W, Γ, rfl, .refl _, g, h0⟩, ?_⟩
  rintro m σ' H' ⟨W', Γ', rfl, s', g', j⟩
  refine hs m Γ' j F σ' W' _ g' fun b W1 Γ1 s1 g1 q => ?_
  cases b with
  | false => rw [if_neg (by decide)]; exact l.nx σ' W1 Γ1 (s'.trans s1) g1 (q.2 rfl)
  | true =>
    rw [if_pos rfl]
    refine ⟨fun σ2 H2 => ∃ m', m' < m ∧ ∃ W2 Γ2, W2.H = H2 ∧ Stp F W W2 ∧ SR F Γ2 σ2 W2 ∧ J m' Γ2, fun σ2 H2 q => q, ?_⟩
    have s2 := s'.trans s1
    exact q.1 rfl F σ' W1 _ g1 ⟨fun σ4 W4 Γ4 s4 g4 ⟨m', hm, q⟩ => ⟨m', hm, W4, Γ4, rfl, s2.trans s4, g4, q⟩, fun v W4 d s4 ok4 r4 q => l.rt v W4 d (s2.trans s4) ok4 r4 q, fun σ4 W4 Γ4 s4 g4 q => l.nx σ4 W4 Γ4 (s2.trans s4) g4 q, fun σ4 W4 Γ4 s4 g4 ⟨m', hm, q⟩ => ⟨m', hm, W4, Γ4, rfl, s2.trans s4, g4, q⟩⟩
theorem repL_rev {W : Wd} : ∀ {ds : List D} {vs : List V}, RepL W ds vs → RepL W ds.reverse vs.reverse
  | [], vs, l => by rw [show vs = [] from l]; rfl
  | d :: ds, _, ⟨v, vs, rfl, h, l⟩ => by
    rw [List.reverse_cons, List.reverse_cons]
    exact (repL_rev l).append (RepL.one h)
theorem evn_sortT {ns ms : List Int} (h : Ev ta Γ (.tup (ns.map D.int))) (h64 : ns.length < 64) (hu : ∀ ns' : List Int, ns'.Perm ns → ns'.Pairwise (· ≤ ·) → ns' = ms) : EvN (tCB (rSortT K) (tCons ta tNil)) Γ (ms.map D.int) := fun F σ W Q g k =>
  h F σ W _ g fun v H s ⟨a, vs, ev, e, nu, l⟩ => by
    subst ev
    refine ⟨a, ns, rfl, (RepL.ints.mp l ▸ e.sq), h64, fun ns' p hp hs hn => ?_⟩
    have := hu ns' hp hs
    subst this
    exact k p _ _ (Same.trans s (same_upd hn)) (s.free hn) upd_same (RepL.ints.mpr rfl)
end
/-! ### nested data: what may be compared -/
mutual
def dOk : Nat → D → Bool
  | _, .non => true | _, .bl _ => true | _, .int _ => true | _, .str x => PyData.strOk x
  | 0, _ => false
  | k + 1, .tup ds => dOks k ds | k + 1, .lst ds => dOks k ds | k + 1, .tupN ds => dOks k ds
  | _ + 1, .obj _ _ _ => false | _ + 1, .raw _ => false | _ + 1, .purse => false | _ + 1, .rng _ _ => false | _ + 1, .dct _ _ => false | _ + 1, .scr _ _ => false | _ + 1, .tag _ => false | _ + 1, .fnv _ _ => false | _ + 1, .clo _ _ _ => false
def dOks : Nat → List D → Bool
  | _, [] => true
  | k, d :: ds => dOk k d && dOks k ds
end
mutual
theorem dOk_py : ∀ (k : Nat) (d : D), dOk k d = true → isPy d = true ∧ PyData.canLay0 (py d) = true ∧ PyData.depth (py d) ≤ k
  | k, .non, _ => ⟨rfl, rfl, Nat.zero_le _⟩
  | k, .bl _, _ => ⟨rfl, rfl, Nat.zero_le _⟩
  | k, .int _, _ => ⟨rfl, rfl, Nat.zero_le _⟩
  | k, .str x, h => ⟨rfl, by cases k <;> exact h, Nat.zero_le _⟩
  | k + 1, .tup ds, h => by
    obtain ⟨h1, h2, h3⟩ := dOks_py k ds h
    exact ⟨h1, h2, Nat.succ_le_succ h3⟩
  | k + 1, .lst ds, h => by
    obtain ⟨h1, h2, h3⟩ := dOks_py k ds h
    exact ⟨h1, h2, Nat.succ_le_succ h3⟩
  | k + 1, .tupN ds, h => by
    obtain ⟨h1, h2, h3⟩ := dOks_py k ds h
    exact ⟨h1, h2, Nat.succ_le_succ h3⟩
  | 0, .tupN _, h => nomatch h
  | 0, .tup _, h => nomatch h
  | 0, .lst _, h => nomatch h
  | 0, .obj _ _ _, h => nomatch h
  | 0, .raw _, h => nomatch h
  | 0, .purse, h => nomatch h
  | 0, .rng _ _, h => nomatch h
  | 0, .dct _ _, h => nomatch h
  | 0, .scr _ _, h => nomatch h
  | 0, .tag _, h => nomatch h
  | 0, .fnv _ _, h => nomatch h
  | 0, .clo _ _ _, h => nomatch h
  | _ + 1, .obj _ _ _, h => nomatch h
  | _ + 1, .raw _, h => nomatch h
  | _ + 1, .purse, h => nomatch h
  | _ + 1, .rng _ _, h => nomatch h
  | _ + 1, .dct _ _, h => nomatch h
  | _ + 1, .scr _ _, h => nomatch h
  | _ + 1, .tag _, h => nomatch h
  | _ + 1, .fnv _ _, h => nomatch h
  | _ + 1, .clo _ _ _, h => nomatch h
theorem dOks_py : ∀ (k : Nat) (ds : List D), dOks k ds = true → isPys ds = true ∧ PyData.canLayAll0 (pys ds) = true ∧ PyData.depthAll (pys ds) ≤ k
  | k, [], _ => ⟨rfl, rfl, Nat.zero_le _⟩
  | k, d :: ds, h => by
    have h : (dOk k d && dOks k ds) = true := by cases k <;> exact h
    rw [Bool.and_eq_true] at h
    obtain ⟨a1, a2, a3⟩ := dOk_py k d h.1
    obtain ⟨b1, b2, b3⟩ := dOks_py k ds h.2
    exact ⟨by show (isPy d && isPys ds) = true; rw [a1, b1]; rfl, by show (PyData.canLay0 (py d) && PyData.canLayAll0 (pys ds)) = true; rw [a2, b2]; rfl, Nat.max_le.mpr ⟨a3, b3⟩⟩
end
theorem dOk_shaped {k : Nat} {d : D} (h : dOk k d = true) (hk : k ≤ 64) : isPy d = true ∧ SeqAt.shaped (py d) = true := by
  obtain ⟨h1, h2, h3⟩ := dOk_py k d h
  refine ⟨h1, ?_⟩
  show (PyData.canLay0 (py d) && decide (PyData.depth (py d) ≤ 64)) = true
  rw [h2, decide_eq_true (Nat.le_trans h3 hk)]; rfl
theorem dOks_map {α : Type} {k : Nat} {f : α → D} : ∀ {l : List α}, (∀ x ∈ l, dOk k (f x) = true) → dOks k (l.map f) = true
  | [], _ => by cases k <;> rfl
  | x :: l, h => by
    have e : dOks k ((x :: l).map f) = (dOk k (f x) && dOks k (l.map f)) := by cases k <;> rfl
    rw [e, h x List.mem_cons_self, dOks_map fun y hy => h y (List.mem_cons_of_mem _ hy)]; rfl
section
variable {K : PySem.W.Frag} {d : D} {ds es : List D} {k : Nat}
theorem eq_self (h : dOk k d = true) (hk : k ≤ 64) : DR2 (rEqX K) d d (.bl true) := by
  obtain ⟨h1, h2⟩ := dOk_shaped h hk
  have := eq_deep (K := K) h1 h1 h2 h2
  rw [SeqAt.eqv_refl _ (dOk_py k d h).2.1] at this
  exact this
theorem eqv_nil : ∀ ds : List D, PyData.eqvAll (pys ds) (pys []) = ds.isEmpty
  | [] => rfl
  | _ :: _ => rfl
theorem eq_nil (h : dOk k (.lst ds) = true) (hk : k ≤ 64) : DR2 (rEqX K) (.lst ds) (.lst []) (.bl ds.isEmpty) := by
  obtain ⟨h1, h2⟩ := dOk_shaped h hk
  have := eq_deep (K := K) (q := .lst []) h1 rfl h2 rfl
  rw [show PyData.eqv (py (.lst ds)) (py (.lst [])) = PyData.eqvAll (pys ds) (pys []) from rfl, eqv_nil] at this
  exact this
theorem ne_nil (h : dOk k (.lst ds) = true) (hk : k ≤ 64) : DR2 (rNeX K) (.lst ds) (.lst []) (.bl (!ds.isEmpty)) := by
  obtain ⟨h1, h2⟩ := dOk_shaped h hk
  have := ne_deep (K := K) (q := .lst []) h1 rfl h2 rfl
  rw [show PyData.eqv (py (.lst ds)) (py (.lst [])) = PyData.eqvAll (pys ds) (pys []) from rfl, eqv_nil] at this
  exact this
end
section
variable {K : PySem.W.Frag} {Γ : Gam} {ta tb : TE}
theorem ev_neg {i : Int} (h : Ev ta Γ (.int i)) : Ev (tUn (rU fun i => .int (-i)) ta) Γ (.int (-i)) := ev_un h fun W u Q dom r k => ⟨i, r, k _ _ (Same.refl _) rfl⟩
/-- whole numbers in a list -/
def ordN (o : List Nat) : List D := o.map fun (k : Nat) => D.int k
theorem inV_ord (c : Nat) : ∀ l : List Nat, inV (.int (c : Int)) ((ordN l).map scV) = decide (c ∈ l)
  | [] => rfl
  | b :: l => by
    show ((decide ((b : Int) = (c : Int))) || inV (.int (c : Int)) ((ordN l).map scV)) = _
    rw [inV_ord c l, Bool.eq_iff_iff]
    simp only [Bool.or_eq_true, decide_eq_true_eq, List.mem_cons, Int.natCast_inj]
    constructor
    · rintro (h | h)
      · exact .inl h.symm
      · exact .inr h
    · rintro (h | h)
      · exact .inl h.symm
      · exact .inr h
theorem sc_ord (l : List Nat) : (ordN l).all isSc = true := by
  unfold ordN
  rw [List.all_map, List.all_eq_true]
  exact fun _ _ => rfl
theorem ev_inO {neg : Bool} {r' : R2} {c : Nat} {l : List Nat} (ha : Ev ta Γ (.int c)) (h : EvB tb Γ (ordN l)) : Ev (tOp (rOr (rIn K neg) r') ta tb) Γ (.bl (if neg then !decide (c ∈ l) else decide (c ∈ l))) := by
  have e := ev_in (neg := neg) (K := K) (r' := r') ha h rfl (sc_ord l)
  rw [show scV (.int (c : Int)) = V.int (c : Int) from rfl, inV_ord c l] at e
  exact e
end
end Dw

/-! sorted(set(t)), t a tuple of ints. -/
namespace Dw
open PySem PySem.Spec PyProof.Rows L2
variable [Tabs0]
section
variable {K : PySem.W.Frag} {w : World} {Γ : Gam} {ta : TE}
end
section
variable {K : PySem.W.Frag} {Γ : Gam} {ta : TE} {xs : List D}
theorem ei_enumL {r : TI} (h : EvB ta Γ xs) : Ei (fun σ H R => iEnum K (tCons ta tNil) σ H R ∨ r σ H R) Γ (enumD xs) := fun F σ W R g k => .inl (h F σ W _ g fun a vs H s ha l => by
  refine ⟨a, vs, rfl, .of ha, k (Ite K a) H s ⟨fun W2 i x dm s2 ku pu hx => ?_, fun H2 s2 => ⟨vs, .of (s2 _ _ ha), by rw [enumD_length, l.length]; exact Nat.le_refl _⟩⟩⟩
  obtain ⟨y, hy, rfl⟩ := enumD_get hx
  obtain ⟨v, hv, rv⟩ := l.get hy
  have h2 : W2.H a = some (.lst vs) := s2 _ _ ha
  refine ⟨⟨vs, v, .of h2, hv⟩, fun u H' ⟨T, z, eu, hT, eH, hz⟩ => ?_⟩
  subst eu; subst eH
  have := hz vs (.of h2)
  rw [hv] at this; cases this
  exact ⟨same_upd hT, rep_new_tup dm hT ⟨_, _, rfl, rfl, v, _, rfl, Rep.mono (W := W.at H) (W' := W2) (fun b u e n => ⟨s2 b u e, ku b u e n⟩) (fun b z => by rw [pu]; exact z) _ _ rv, rfl⟩⟩)
end
end Dw

/-! repr of data: it asks that no other repr is under way (guards), so the defs that call it have a promise of their own. -/
namespace Dw
open PySem PySem.Spec PyProof.Rows L2
variable [Tabs0]
/-- as FnOk, but only where no repr is under way -/
def FnG (P : Program) (w : World) (K : PySem.W.Frag) (mg : Str → Option Value) (base : Heap) (k : Nat) (f : Addr) (fd : FuncData) (ps : List Str) (s : Spc) : Prop :=
  (∀ x, (s.args x).length = ps.length) ∧ ∀ (A : Around) (outer : List Env) (sh : Shared) (H : Hp) (args : Args) (us : List Value) (vs : List V) (Q : VK) (E : XK), Room k A → A.guards = some [] → Env0 P w K mg base A outer sh H → BindsTo sh fd args (ps.zip us) → Vals vs us → toSp s vs H Q E → codeAny (model P w) A (.call (.ref f) args) (CR CX0 outer P w H sh Q E) sh
section
variable {P : Program} {w : World} {K : PySem.W.Frag} {mg : Str → Option Value} {base : Heap}
theorem cells_in {N ps : List Str} {sc : Scope} {n : Nat} (S : FnScope N ps sc) (us : List Value) : ∀ y ∈ ps.zip us, sc.names.lookup y.1 = some .local ∨ (sc.names.lookup y.1 = some .cell ∧ ((cellsFrom n sc.names []).lookup y.1).isSome = true) := by
  rintro ⟨a, b⟩ hy
  exact (S.par a (List.of_mem_zip hy).1).imp id fun q => ⟨q, PySem.W.cellsFrom_some _ _ _ (.inl q)⟩
theorem fnG_ok {x qual : Str} {st : Stmt} {f : Addr} {fd : FuncData} {N ps : List Str} {k : Nat} {s : Spc} (F : Fun K x qual st f fd) (S : FnScope N ps (defScope st)) (len : ∀ x, (s.args x).length = ps.length)
    (hbody : ∀ (cdv : Value) (A : Around) (outer : List Env) (s' : Shared) (H : Hp) (E : XK), Room k (A.deeper (envOfC qual (defScope st) s'.heap.objs.size f cdv)) → (A.deeper (envOfC qual (defScope st) s'.heap.objs.size f cdv)).guards = some [] →
      ∃ t, PSs (cxOf CX0 P w K mg base N qual (defScope st) f cdv A outer s' H E).nox (defBody st) t ∧ ∀ x, s.ok x → Ds t (Gz0 N.length (s.args x)) ⟨fun _ => s.rel x .non, s.rel x, fun _ => False, fun _ => False⟩) : FnG P w K mg base (k + 1) f fd ps s := by
  obtain ⟨oc, od, kV, doc, pm, an, cdv, ct, osl, rfl, lk, hcd⟩ := F.ex
  refine ⟨len, fun A outer sh H args us vs Q E hr hg e0 hb r hsp => ?_⟩
  obtain ⟨t, p, hd⟩ := hbody cdv A outer sh H E (hr.deeper _) hg
  have old : ∀ b o, base.get? b = some o → sh.heap.get? b = some o := fun b o e => (e0.bs b o e).1
  have KX := e0.mod.kin.keeps old
  refine codeAny_call_function hr.depth (KX _ _ lk) rfl S.co S.gen rfl (PySem.W.codeRec_of KX hcd) (hb _ _ _ _ (wpAny_newFunctionEnv_cells S.kind (cells_in S us) ?_))
  rintro env rfl s1 x1
  refine ⟨(e0.mod.nolimit.keeps old).keeps x1.toInCall.keep, codeAny_func (wpAny_mono (p.nox.run [] s1 _ H _ (inv_start S hr.hd e0 (spc_len len _ _ _ _ hsp) r x1) (body_of hsp hd)) (fun fl s' hs => ?_) fun _ _ z => z)⟩
  have done : ∀ {σ' : L2.St} {H' : Hp} {v : V} {u : Value}, Inv (cxOf CX0 P w K mg base N qual (defScope st) f cdv A outer sh H E) [] σ' H' s' → RelV v u → Q v H' → CE outer P w H sh Q u s' := fun {_ H' v _} J rv q => ⟨v, H', J.os, J.bare, J.base, J.hok, rv, q⟩
  match fl, hs with
  | .ret _, ⟨_, _, _, J, rv, q⟩ => exact done J rv q
  | .next, ⟨_, _, J, q⟩ => exact done (v := .non) (u := .none) J rfl q
  | .brk, ⟨_, _, _, q⟩ => exact q.elim
  | .cont, ⟨_, _, _, q⟩ => exact q.elim
section
variable {X : Cx} {k : Nat} {f : Addr} {fd : FuncData} {ps : List Str} {s : Spc} {E : XK} {x : Str} {p pos : Pos} {e : Expr} {es : List Expr} {t : TA}
theorem pe_callG (F : FnG X.prog X.w X.K X.mg X.base k f fd ps s) (hr : Room k X.A) (hG : X.A.guards = some []) (hg : Gl X x) (hm : X.mg x = some (.ref f)) (hk : PySem.W.keepIn X.K (.ref f) = true) (hb : Binds X.K fd ps []) (ha : PA X (e :: es) t)
    (hdb : (x == ("__debug__" : Str)) = false := by decide) (he : starEach (e :: es) X.env = (false, eval e X.env) :: starEach es X.env := by rfl) (hpl : (backTo pos (starEach es X.env)).any (·.1) = false := by rfl) : PE X (.Call (.Name x p) (e :: es) [] pos) (tCall (toSp s) [] E t) := by
  refine ⟨fun pins s1 σ H Q I h => wpAny_Call_Name_kw (ld_glob I hg hm (PySem.W.callWith_K (h₀ := X.base) I.ok.mod.kin hk (thn (ha.run pos pins s1 σ H _ I h) fun us s2 ⟨vs, H1, I1, r, q⟩ => ⟨I1.kIn, ?_⟩) he hpl) hdb)⟩
  have q : toSp s vs H1 Q E := by rw [← List.append_nil vs]; exact q
  have hb := hb s2 us I1.kIn (by rw [List.append_nil, ← r.length]; exact spc_len F.1 _ _ _ _ q)
  rw [List.append_nil] at hb
  refine wpAny_call (codeAny_mono (F.2 X.A X.stack s2 H1 ⟨us, []⟩ us vs Q E hr hG I1.env0 hb r q) fun res s3 hq => ?_)
  match res, hq with
  | .error _, hq => exact (show False from hq).elim
  | .ok (.ret _), hq => exact I1.after hq
  | .ok .next, hq => exact (show False from hq).elim
  | .ok .brk, hq => exact (show False from hq).elim
  | .ok .cont, hq => exact (show False from hq).elim
end
end
/-! ### repr -/
mutual
/-- what can be shown -/
def shOk : D → Bool
  | .non => true | .bl _ => true | .int i => PyData.showable (.int i) | .str x => PyData.showable (.str x)
  | .tup ds => shOks ds | .lst ds => shOks ds | .tupN ds => shOks ds | _ => false
def shOks : List D → Bool
  | [] => true
  | d :: ds => shOk d && shOks ds
end
mutual
theorem shOk_py : ∀ d : D, shOk d = true → PyData.showable (py d) = true ∧ PyData.hasDict (py d) = false
  | .non, _ => ⟨rfl, rfl⟩
  | .bl _, _ => ⟨rfl, rfl⟩
  | .int _, h => ⟨h, rfl⟩
  | .str _, h => ⟨h, rfl⟩
  | .tup ds, h => shOks_py ds h
  | .lst ds, h => shOks_py ds h
  | .tupN ds, h => shOks_py ds h
  | .obj _ _ _, h => nomatch h
  | .raw _, h => nomatch h
  | .purse, h => nomatch h
  | .rng _ _, h => nomatch h
  | .dct _ _, h => nomatch h
  | .scr _ _, h => nomatch h
  | .tag _, h => nomatch h
  | .fnv _ _, h => nomatch h
  | .clo _ _ _, h => nomatch h
theorem shOks_py : ∀ ds : List D, shOks ds = true → PyData.showableAll (pys ds) = true ∧ PyData.hasDictAll (pys ds) = false
  | [], _ => ⟨rfl, rfl⟩
  | d :: ds, h => by
    have h : (shOk d && shOks ds) = true := h
    rw [Bool.and_eq_true] at h
    obtain ⟨a1, a2⟩ := shOk_py d h.1
    obtain ⟨b1, b2⟩ := shOks_py ds h.2
    exact ⟨by show (PyData.showable (py d) && PyData.showableAll (pys ds)) = true; rw [a1, b1]; rfl, by show (PyData.hasDict (py d) || PyData.hasDictAll (pys ds)) = false; rw [a2, b2]; rfl⟩
end
section
variable {K : PySem.W.Frag} {Γ : Gam} {ta : TE} {ds : List D} {k : Nat}
end
/-! ### the head, where the law's def has such a promise -/
section
variable {P : Program} {w : World} {K : PySem.W.Frag} {mg mb : Str → Option Value} {k : Nat} {fa a : Addr} {fd : FuncData} {x : Str} {s1 : Shared} {vs : List Value} {ns : List Int} {sp : Spc}
/-- what is tracked at the head: the script, unless the module has it -/
def headH (K : PySem.W.Frag) (a : Addr) (vs : List Value) (ns : List Int) : Hp := fun b => if b = a ∧ K.lookup a = none then some (.frz { cls := .type "list", data := .seq vs.toArray } (.lst (ns.map V.int))) else none
theorem headH_none {b : Addr} (h : b ≠ a) : headH K a vs ns b = none := if_neg fun z => h z.1
end
end Dw

/-! Bits, sums, xs[k] = v, x |= y, reversed(range(n)). -/
namespace Dw
open PySem PySem.Spec PyProof.Rows L2
variable [Tabs0]
section
variable {K : PySem.W.Frag} {Γ : Gam} {ta tb te tk : TE} {De : DE} {ds : List D} {d : D}
theorem repL_rep {W : Wd} {vs : List V} (l : RepL W ds vs) : ∀ n : Nat, RepL W (List.replicate n ds).flatten (List.replicate n vs).flatten
  | 0 => rfl
  | n + 1 => by
    rw [List.replicate_succ, List.replicate_succ, List.flatten_cons, List.flatten_cons]
    exact l.append (repL_rep l n)
/-- xs * n, a new list -/
theorem evn_rep {n : Nat} (h : EvB ta Γ ds) (hn : Ev tb Γ (.int n)) (hz : ds.length * n ≤ sizeLine) (hb : n < 2 ^ 63) : EvN (tOp rTimes ta tb) Γ (List.replicate n ds).flatten := fun F σ W Q g k =>
  h F σ W _ g fun a vs H s e l => hn F σ (W.at H) _ (g.same s) fun u H2 s2 r => .inr ⟨a, n, vs, rfl, r, s2 _ _ e, by omega, by omega, by rw [← l.length, Int.toNat_natCast]; exact hz, fun p hp => by
    rw [Int.toNat_natCast]
    exact k p _ _ (Same.trans s (Same.trans s2 (same_upd hp))) (s.free (s2.free hp)) upd_same (RepL.plus (W := W.at H2) hp (same_upd hp) (repL_rep (RepL.same (W := W.at H) s2 l) n))⟩
end
end Dw

/-! for i, c in enumerate(a text). -/
namespace Dw
open PySem PySem.Spec PyProof.Rows L2
variable [Tabs0]
section
variable {K : PySem.W.Frag} {Γ : Gam} {ta : TE}
end
end Dw

/-! *xs in a display, o.m(..). -/
namespace Dw
open PySem PySem.Spec PyProof.Rows L2
variable [Tabs0]
section
variable {K : PySem.W.Frag} {Γ : Gam} {ta te : TE} {t : TA} {ds es : List D} {d : D} {C : Addr} {s : Spc} {E : XK}
end
end Dw

/-! a, b, c = x, y, z. -/
namespace Dw
open PySem PySem.Spec PyProof.Rows L2
variable [Tabs0]
end Dw

/-! enumerate of a list that draws go on beside, not, sign * n. -/
namespace Dw
open PySem PySem.Spec PyProof.Rows L2
variable [Tabs0]
section
variable {K : PySem.W.Frag} {Γ : Gam} {ta t : TE}
/-! equality of lists of whole numbers, deep -/
theorem eqv_ints : ∀ a b : List Nat, PyData.eqvAll (pys (ordN a)) (pys (ordN b)) = decide (a = b)
  | [], [] => rfl
  | [], y :: ys => by
    show false = _
    simp
  | x :: xs, [] => by
    show false = _
    simp
  | x :: xs, y :: ys => by
    show ((((x : Nat) : Int) == ((y : Nat) : Int)) && PyData.eqvAll (pys (ordN xs)) (pys (ordN ys))) = _
    rw [eqv_ints xs ys, Bool.eq_iff_iff]
    simp
    intro _
    omega
end
end Dw

/-! first, *rest = a tuple; t[::-1]; t[a:b] of any bounds; x in a dict of the module; the head with the bits of the script. -/
namespace Dw
open PySem PySem.Spec PyProof.Rows L2
variable [Tabs0]
/-! ### first, *rest = t -/
theorem unpack_star1T {prog : Program} {w : World} {A : Around} {E : Value → Shared → Prop} {s : Shared} {l : Addr} {b : Value} {its : List Value} {Q : List Value → Shared → Prop} (hl : IsTup s.heap l (b :: its).toArray) (hh : A.handled = none)
    (hz : its.length ≤ 16000) (h : ∀ (h1 : Heap) (tk : Nat), (∀ c o, s.heap.get? c = some o → h1.get? c = some o) → Q [b, .ref h1.objs.size] { s with heap := h1.push { cls := .type "list", data := .seq its.toArray }, toks := tk }) :
    wpAny (model prog w) A (unpackItems (.ref l) 2 (some 1)) Q E s := by
  have lt : l < s.heap.objs.size := by obtain ⟨o, ho, _⟩ := hl; exact Heap.lt_size ho
  have ne : l ≠ s.heap.objs.size := Nat.ne_of_lt lt
  unfold unpackItems notIterableAtAll
  refine wpAny_bind (wpAny_bind (wpAny_specialOf hl.typeIs slot_tuple_iter.lookup (wpAny_pure ?_)))
  simp only [Bool.false_eq_true, if_false]
  refine wpAny_bind (wpAny_holding (iter_tuple hl ?_))
  refine wpAny_bind (wpAny_holding (draw_tuple ne 1 0 _ _ ⟨_, Heap.get?_push_size _ rfl, rfl, rfl⟩ (hl.push _) (by simp) fun ha hit hs => ?_))
  have hla : IsTup ha l (b :: its).toArray := (hl.push _).extBut hs.extBut ne
  rw [Nat.zero_add] at hit
  obtain ⟨oi, hoi, _⟩ := id hit
  obtain ⟨ol, hol, _⟩ := id hla
  rw [if_neg (show ¬ (((b :: its).toArray.toList.drop 0).take 1).length < 1 by simp)]
  refine wpAny_bind (wpAny_holding (PySem.W.kun_collect (s := { s with heap := ha }) (T := "tuple_iterator") (.inr (.inr (.inr rfl))) (Walks.tuple (A := A.in1) hh s.heap.objs.size l ne _) (fun j u st => st.1.typeIs) (k := 1) (by simp) ⟨hit, hla⟩
    (Heap.lt_size hoi) (Heap.lt_size hol) (fun hb tk kp => ?_) (by rw [sizeLine_eq]; simp; omega)))
  show wpAny _ _ (if its.length < 0 then _ else _) _ _ _
  rw [if_neg (Nat.not_lt_zero _)]
  show wpAny _ _ (newList (its.take (its.length - 0)) >>= fun d => pure ([b] ++ [d] ++ its.drop (its.length - 0))) _ _ _
  rw [Nat.sub_zero, List.take_length, List.drop_length]
  have k2 : ∀ c o, s.heap.get? c = some o → hb.get? c = some o := fun c o e => kp c o (Nat.ne_of_lt (Heap.lt_size e)) (hs.extBut c o (Nat.ne_of_lt (Heap.lt_size e)) (Heap.get?_push_of_some _ e))
  unfold newList
  refine wpAny_bind (wpAny_newObj_type (wpAny_pure ?_) (by show its.toArray.size ≤ sizeLine; rw [sizeLine_eq, List.size_toArray]; omega))
  exact h hb tk k2
/-- from a list or a tuple -/
def gStar1X (K : PySem.W.Frag) (g1 g2 : TG) : TG := fun v σ H Q => ∃ a z zs, v = .ref a ∧ (SqL K H a (z :: zs) ∨ SqT K H a (z :: zs)) ∧ zs.length ≤ 16000 ∧ ∀ p, H p = none → g1 z σ (upd H p (.lst zs)) fun σ1 H1 => g2 (.ref p) σ1 H1 Q
theorem pg_star1X {X : Cx} (hc : X.calm = true) {e1 e2 : Expr} {g1 g2 : TG} {k : Nat} {pos sp : Pos} (h1 : PG X e1 g1) (h2 : PG X e2 g2) (hlen : (assignEach [e1, .Starred e2 sp] X.env).length = 2 := by rfl)
    (hst : (assignEach [e1, .Starred e2 sp] X.env).findIdx? (·.1) = some 1 := by rfl) (hm : (assignEach [e1, .Starred e2 sp] X.env).map (·.2) = [assign e1 X.env, assign e2 X.env] := by rfl) :
    PG X (.Tuple [e1, .Starred e2 sp] k pos) (gStar1X X.K g1 g2) := by
  refine ⟨fun pins s σ H v u Q I r hw => ?_⟩
  obtain ⟨a, z, zs, ev, hq, hl, hw⟩ := hw
  rcases hq with hq | hq
  · exact (pg_star1 hc h1 h2 hlen hst hm).run pins s σ H v u Q I r ⟨a, z, zs, ev, hq, hl, hw⟩
  subst ev
  cases r
  obtain ⟨its, rv, pl, hz⟩ := I.tuple hq
  cases rv with
  | cons rz rr =>
    rename_i b l
    rw [assign_Tuple]
    refine wpAny_bind (wpAny_standAt ?_)
    unfold unpack
    rw [hlen, hst, hm]
    refine wpAny_bind (wpAny_holding (unpack_star1T pl (I.ok.hd hc) (by rw [← rr.length]; exact hl) fun ha tk kp => ?_))
    have I1 : Inv X pins σ H { s with heap := ha, toks := tk } := I.kept kp
    have I2 := I1.laid (t' := tk) (o := .lst zs) (h' := ha.push { cls := .type "list", data := .seq l.toArray }) (fun c o e => Heap.get?_push_of_some _ e) (Nat.le_refl _)
      ⟨by have hz' : zs.length + 1 ≤ sizeLine := hz
          omega, l, 0, rr, Heap.get?_push_size _ rfl⟩
    refine assignInOrder_cons (thn (h1.run pins _ σ _ z b _ I2 rz (hw _ (I1.hok.fresh (Nat.le_refl _)))) fun _ s3 ⟨σ3, H3, I3, q3⟩ => ?_)
    exact assignInOrder_cons (thn (h2.run pins s3 σ3 H3 (.ref ha.objs.size) _ Q I3 rfl q3) fun _ s4 ⟨σ4, H4, I4, q4⟩ => assignInOrder_nil ⟨σ4, H4, I4, q4⟩)
theorem star1XA (K : PySem.W.Frag) {X : Cx} (hc : X.calm = true) {e1 e2 : Expr} {g1 g2 : TG} {k : Nat} {pos sp : Pos} (h1 : PG X e1 g1) (h2 : PG X e2 g2) (hK : X.K = K := by rfl) (hlen : (assignEach [e1, .Starred e2 sp] X.env).length = 2 := by rfl)
    (hst : (assignEach [e1, .Starred e2 sp] X.env).findIdx? (·.1) = some 1 := by rfl) (hm : (assignEach [e1, .Starred e2 sp] X.env).map (·.2) = [assign e1 X.env, assign e2 X.env] := by rfl) :
    PG X (.Tuple [e1, .Starred e2 sp] k pos) (gStar1X K g1 g2) := hK ▸ pg_star1X hc h1 h2 hlen hst hm
section
variable {K : PySem.W.Frag} {Γ : Gam}
theorem ds_starL {te : TE} {De : DE} {a b : Nat} (h : Dl te Γ fun d Γ1 => ∃ d0 ds, (d = .lst (d0 :: ds) ∨ d = .tup (d0 :: ds)) ∧ ds.length ≤ 16000 ∧ De.nx ((Γ1.set a (.val d0)).set b (.val (.lst ds)))) : Ds (tAsg te (gStar1X K (gName a) (gName b))) Γ De := fun F σ W Dr s l => h F σ W _ s fun v W1 d Γ1 st g1 r ⟨d0, ds, e, hz, q⟩ => by
  rcases e with e | e
  · subst e
    obtain ⟨p, vs, rfl, hp, nu, z, zs, rfl, r0, r1⟩ := r
    refine ⟨p, z, zs, rfl, .inl (.of hp), by rw [← r1.length]; exact hz, fun n hn => ?_⟩
    have sm : Same W1.H (upd W1.H n (.lst zs)) := same_upd hn
    exact l.nx _ (W1.at _) _ (st.trans (Stp.of_same g1.ok sm)) (((g1.same sm).set (r0.same sm)).set (rep_new_lst g1.ok.dom hn r1)) q
  · subst e
    obtain ⟨p, vs, rfl, hp, nu, z, zs, rfl, r0, r1⟩ := r
    refine ⟨p, z, zs, rfl, .inr (hp.sq), by rw [← r1.length]; exact hz, fun n hn => ?_⟩
    have sm : Same W1.H (upd W1.H n (.lst zs)) := same_upd hn
    exact l.nx _ (W1.at _) _ (st.trans (Stp.of_same g1.ok sm)) (((g1.same sm).set (r0.same sm)).set (rep_new_lst g1.ok.dom hn r1)) q
end
/-! ### t[a:b] -/
abbrev rSlX (K : PySem.W.Frag) : V → Option Int → Option Int → Hp → VK → Prop := fun x lo hi H Q => rSlL K x lo hi H Q ∨ rSlA K x lo hi H Q
theorem slXA {X : Cx} (K : PySem.W.Frag) (hK : X.K = K := by rfl) : SlR X (rSlX K) := hK ▸ sl_list.or sl_tupA
section
variable {K : PySem.W.Frag} {Γ : Gam} {te : TE} {ds : List D}
theorem evn_sliceY {tl th : TO} {lo hi : Option Int} (h : EvB te Γ ds) (h1 : Eo tl Γ lo) (h2 : Eo th Γ hi) : EvN (tSl (rSlX K) te tl th) Γ (cutD ds lo hi) := fun F σ W Q g k => h F σ W _ g fun a vs H s e l => h1 F σ (W.at H) _ (g.same s) fun H1 s1 => h2 F σ ((W.at H).at H1) _ ((g.same s).same s1) fun H2 s2 => by
  have sm : Same H H2 := Same.trans s1 s2
  exact .inl ⟨a, vs, rfl, .of (sm _ _ e), fun p hp => k p _ _ (Same.trans s (Same.trans sm (same_upd hp))) (s.free (sm.free hp)) upd_same (RepL.plus (W := W.at H2) hp (same_upd hp) (repL_cut (RepL.same (W := W.at H) sm l)))⟩
theorem cut_whole {α : Type} (xs : List α) (n : Nat) (lo hi : Option Int) (hn : n = xs.length) (h : HT.sIx n 0 lo = 0 ∧ HT.sIx n n hi = n) : (xs.drop (HT.sIx n 0 lo)).take (HT.sIx n n hi - HT.sIx n 0 lo) = xs := by
  rw [h.1, h.2, List.drop_zero, Nat.sub_zero, hn, List.take_length]
theorem ev_sliceTY {tl th : TO} {lo hi : Option Int} (h : Ev te Γ (.tup ds)) (h1 : Eo tl Γ lo) (h2 : Eo th Γ hi) : Ev (tSl (rSlX K) te tl th) Γ (.tup (cutD ds lo hi)) := fun F σ W Q g k => h F σ W _ g fun v H s ⟨a, vs, ev, e, nu, l⟩ => h1 F σ (W.at H) _ (g.same s) fun H1 s1 => h2 F σ ((W.at H).at H1) _ ((g.same s).same s1) fun H2 s2 => by
  have sm : Same H H2 := Same.trans s1 s2
  subst ev
  refine .inr ⟨a, vs, rfl, (e.same sm).sq, fun hw => ?_, fun hw p hp => k _ _ (Same.trans s (Same.trans sm (same_upd hp))) (rep_new_tup (W := W.at H2) (((g.same s).same s1).same s2).ok.dom hp (repL_cut (RepL.same (W := W.at H) sm l)))⟩
  have e1 : cutD ds lo hi = ds := cut_whole ds ds.length lo hi rfl (by rw [l.length]; exact hw)
  rw [e1] at k
  exact k _ H2 (Same.trans s sm) ⟨a, vs, rfl, e.same sm, nu, RepL.same (W := W.at H) sm l⟩
end
/-! ### x in a written dict -/
section
variable {K : PySem.W.Frag} {w : World} {Γ : Gam} {ta tb : TE} {x : Str}
end
/-! ### the head, with the script's bits -/
end Dw

/-! xs[::-1] of lists and tuples, *xs in a list, written dicts as values. -/
namespace Dw
open PySem PySem.Spec PyProof.Rows L2 HT
variable [Tabs0]
section
variable {prog : Program} {w : World} {A : Around} {E : Value → Shared → Prop} {s : Shared}
theorem adjust_m1 (n : Nat) : Builtin.Slice.sliceAdjust none none (-1) (n : Int) = ((n : Int) - 1, -1) := rfl
theorem places_m1 (n : Nat) : Builtin.Slice.slicePlaces ((n : Int) - 1) (-1) (-1) = n := by
  unfold Builtin.Slice.slicePlaces
  have h1 : ¬ ((-1 : Int) > 0) := by omega
  rw [if_neg h1]
  by_cases h : (n : Int) - 1 > -1
  · rw [if_pos h, show (-(-1) : Int) = 1 by decide, Int.ediv_one]; omega
  · rw [if_neg h]; omega
theorem sliceApplied_m1 {sl : Addr} {tk : Tok} {n : Nat} {Q : Int × Int × Nat → Shared → Prop} (hs : s.heap.IsSliceOf sl .none .none (.int (-1) tk))
    (h : Q ((n : Int) - 1, -1, n) s) : wpAny (model prog w) A (Builtin.Slice.sliceApplied (.ref sl) (pure (n : Int))) Q E s := by
  obtain ⟨os, hos, hcs, hds⟩ := id hs
  unfold Builtin.Slice.sliceApplied Builtin.Slice.sliceFields
  refine wpAny_bind (wpAny_bind (wpAny_field hos hds (x := .none) rfl (wpAny_bind (wpAny_field hos hds (x := .none) rfl (wpAny_bind (wpAny_field hos hds (x := .int (-1) tk) rfl (wpAny_pure ?_)))))))
  refine wpAny_bind (slicePart_int ?_)
  show wpAny _ _ (if ((-1 : Int) == 0) = true then _ else _) _ _ s
  rw [if_neg (by decide)]
  refine wpAny_bind (slicePart_none (wpAny_bind (slicePart_none (wpAny_bind (wpAny_pure ?_)))))
  show wpAny _ _ (match Builtin.Slice.sliceAdjust none none (-1) (n : Int) with | (lo, hi) => pure (lo, (-1 : Int), Builtin.Slice.slicePlaces lo hi (-1))) _ _ s
  rw [adjust_m1 n]
  show wpAny _ _ (pure ((n : Int) - 1, (-1 : Int), Builtin.Slice.slicePlaces ((n : Int) - 1) (-1) (-1))) _ _ s
  rw [places_m1]
  exact wpAny_pure h
theorem pick_rev (xs : Array Value) : ((List.range xs.size).filterMap fun (m : Nat) => xs[((xs.size : Int) - 1 + (m : Int) * (-1)).toNat]?) = xs.toList.reverse := by
  apply List.ext_getElem?
  intro i
  have e4 : ((List.range xs.size).filterMap fun (m : Nat) => xs[((xs.size : Int) - 1 + (m : Int) * (-1)).toNat]?) = (List.range xs.size).map fun k => (xs.toList.reverse)[k]?.getD default := by
    refine fm_all fun k hk => ?_
    have hk := List.mem_range.mp hk
    rw [List.getElem?_reverse (by simpa using hk)]
    have h0 : ((xs.size : Int) - 1 + (k : Int) * (-1)).toNat = xs.size - 1 - k := by omega
    have h1 : xs.size - 1 - k < xs.size := by omega
    rw [h0, Array.getElem?_eq_getElem h1]
    simp only [Array.length_toList]
    rw [List.getElem?_eq_getElem (by simpa using h1)]
    simp
  rw [e4, List.getElem?_map]
  by_cases hi : i < xs.size
  · rw [List.getElem?_range hi, Option.map_some, List.getElem?_eq_getElem (by simpa using hi)]; rfl
  · rw [List.getElem?_eq_none (by simpa using hi), List.getElem?_eq_none (by simpa using hi)]; rfl
theorem getItem_tuple_rev {t sl : Addr} {items : Array Value} {tk : Tok} {Q : Value → Shared → Prop} (ht : IsTup s.heap t items) (hs : s.heap.IsSliceOf sl .none .none (.int (-1) tk))
    (h : Q (.ref s.heap.objs.size) { s with heap := s.heap.push { cls := .type "tuple", data := .seq items.toList.reverse.toArray } })
    (hsz : items.size ≤ sizeLine) : wpAny (model prog w) A (getItem (.ref t) (.ref sl)) Q E s := by
  have htake : sizeOk (.seq items.toList.reverse.toArray) := by
    show items.toList.reverse.toArray.size ≤ sizeLine
    rw [List.size_toArray, List.length_reverse, Array.length_toList]
    exact hsz
  obtain ⟨os, hos, hcs, hds⟩ := id hs
  have hTs : s.TypeIs (.ref sl) "slice" := ⟨os, hos, hcs⟩
  unfold getItem
  try with_reducible refine wpAny_holding ?_
  first | refine wpAny_bind (wpAny_pure ?_) | skip
  refine wpAny_bind (wpAny_sequenceKey ht.typeIs (by decide) ?_)
  refine wpAny_bind (wpAny_callSpecial?_slot (name := Str.ofString "__getitem__") ht.typeIs PyProof.Rows.slot_tuple_getitem
    (wpAny_call_entry PyProof.Rows.slot_tuple_getitem ht.typeIs entry_tuple_getitem ?_ (args_tuple_getitem _ _)))
  show wpAny _ _ (Builtin.Tuple.tupleItemsOf (.ref t) >>= _) _ _ s
  refine wpAny_bind (tupleItemsOf_ ht ?_)
  refine wpAny_bind (wpAny_typeOf hTs ?_)
  rw [if_pos (by decide)]
  refine wpAny_bind (sliceApplied_m1 hs ?_)
  have hno : ¬ ((((items.size : Int) - 1) == 0 && (-1 : Int) == 1 && items.size == items.size) = true) := by
    intro q
    rw [Bool.and_eq_true, Bool.and_eq_true] at q
    have q1 : (-1 : Int) = 1 := eq_of_beq q.1.2
    omega
  show wpAny _ _ (if (((items.size : Int) - 1) == 0 && (-1 : Int) == 1 && items.size == items.size) = true then _ else _) _ _ s
  rw [if_neg hno, pick_rev]
  first
    | exact wpAny_bind (m := Builtin.Tuple.tupleExact _) (wpAny_newObj_type (wpAny_pure ⟨_, rfl, wpAny_pure h⟩) htake)
    | exact wpAny_bind (m := Builtin.Tuple.tupleExact _) (wpAny_newObj_type (wpAny_bind (wpAny_pure (wpAny_pure ⟨_, rfl, wpAny_pure h⟩))) htake)
    | exact wpAny_bind (wpAny_bind (m := Builtin.Tuple.tupleExact _) (wpAny_newObj_type (wpAny_pure (wpAny_pure ⟨_, rfl, wpAny_pure h⟩)) htake))
    | exact wpAny_bind (wpAny_bind (m := Builtin.Tuple.tupleExact _) (wpAny_newObj_type (wpAny_pure ⟨_, rfl, wpAny_pure h⟩) htake))
end
/-- xs[::-1] -/
def tSlR (K : PySem.W.Frag) (ta tk : TE) : TE := fun σ H Q => ta σ H fun x H1 => tk σ H1 fun y H2 => ∃ a xs, x = .ref a ∧ y = .int (-1) ∧ ((SqL K H2 a xs ∧ ∀ p, H2 p = none → Q (.ref p) (upd H2 p (.lst xs.reverse))) ∨ (SqT K H2 a xs ∧ ∀ p, H2 p = none → Q (.ref p) (upd H2 p (.tup xs.reverse))))
theorem pe_sliceR {X : Cx} {e e3 : Expr} {ta tk : TE} {p2 pos : Pos} (he : PE X e ta) (hk : PE X e3 tk) : PE X (.Subscript e (.Slice none none (some e3) p2) pos) (tSlR X.K ta tk) := by
  refine ⟨fun pins s σ H Q I h => ?_⟩
  refine Subscript_ (thn (he.run pins s σ H _ I h) fun v s1 ⟨x, H1, I1, r1, q1⟩ => ?_)
  refine wpAny_Slice ?_
  rw [evalPart_none]
  refine wpAny_pure (wpAny_pure ?_)
  refine thn (hk.run pins s1 σ H1 _ I1 q1) fun vk s3 ⟨y, H3, I3, rk, q3⟩ => ?_
  obtain ⟨a, xs, rfl, rfl, q⟩ := q3
  obtain ⟨tk', rfl⟩ := rk
  cases r1
  have I4 : Inv X pins σ H3 { s3 with heap := s3.heap.push { cls := .type "slice", data := .fields #[.none, .none, .int (-1) tk'] } } := I3.kept (t' := s3.toks) fun b ob q => Heap.get?_push_of_some _ q
  generalize hs4 : ({ s3 with heap := s3.heap.push { cls := .type "slice", data := .fields #[.none, .none, .int (-1) tk'] } } : Shared) = s4 at I4 ⊢
  have hsl : s4.heap.IsSliceOf s3.heap.objs.size .none .none (.int (-1) tk') := by rw [← hs4]; exact Heap.IsSliceOf.new ..
  show wpAny (model X.prog X.w) X.A (subscriptTail e (.Slice none none (some e3) p2) (.ref a) (.ref s3.heap.objs.size)) (EP X pins σ Q) X.xe s4
  rcases q with ⟨hx, q⟩ | ⟨hx, q⟩
  · obtain ⟨its, r, ht, hz⟩ := I4.list hx
    have hlen := r.length
    refine tail_any (ops := [.ref a, .ref s3.heap.objs.size]) ht.isList.typeIs slot_list_getitem.lookup ?_ (by with_unfolding_all rfl)
    refine wpAny_getItem_list_slice ht.isList hsl .none .none (.int (-1) tk') (fun z => by cases z) ?_ (by rw [List.size_toArray] <;> omega)
    rw [pick_m1, List.toList_toArray]
    refine ⟨.ref s4.heap.objs.size, _, I4.laid (t' := s4.toks) (o := .lst xs.reverse) (fun b ob q => Heap.get?_push_of_some _ q) (Nat.le_refl _) ?_, rfl, q _ (I4.hok.fresh (Nat.le_refl _))⟩
    exact ⟨by rw [List.length_reverse]; exact hz, its.reverse, 0, Vals_reverse r, Heap.get?_push_size _ rfl⟩
  · obtain ⟨its, r, ht, hz⟩ := I4.tuple hx
    have hlen := r.length
    refine tail_any (ops := [.ref a, .ref s3.heap.objs.size]) ht.typeIs PyProof.Rows.slot_tuple_getitem.lookup ?_ (by with_unfolding_all rfl)
    refine getItem_tuple_rev ht hsl ?_ (by rw [List.size_toArray] <;> omega)
    rw [List.toList_toArray]
    refine ⟨.ref s4.heap.objs.size, _, I4.laid (t' := s4.toks) (o := .tup xs.reverse) (fun b ob q => Heap.get?_push_of_some _ q) (Nat.le_refl _) ?_, rfl, q _ (I4.hok.fresh (Nat.le_refl _))⟩
    exact ⟨by rw [List.length_reverse]; exact hz, its.reverse, Vals_reverse r, IsTup.new _ _⟩
theorem sliceRA {X : Cx} {e e3 : Expr} {ta tk : TE} {p2 pos : Pos} (K : PySem.W.Frag) (he : PE X e ta) (hk : PE X e3 tk) (hK : X.K = K := by rfl) : PE X (.Subscript e (.Slice none none (some e3) p2) pos) (tSlR K ta tk) := hK ▸ pe_sliceR he hk
section
variable {K : PySem.W.Frag} {Γ : Gam} {ta tk te : TE} {ds es : List D} {t : TA}
theorem ev_revT (h : Ev ta Γ (.tup ds)) (hk : Ev tk Γ (.int (-1))) : Ev (tSlR K ta tk) Γ (.tup ds.reverse) := fun F σ W Q g q =>
  h F σ W _ g fun v H s ⟨a, vs, ev, e, nu, l⟩ => hk F σ (W.at H) _ (g.same s) fun u H2 s2 r => by
    subst ev
    exact ⟨a, vs, rfl, r, .inr ⟨(e.same s2).sq, fun p hp => q _ _ (Same.trans s (Same.trans s2 (same_upd hp))) (rep_new_tup (W := W.at H2) ((g.same s).same (W := W.at H) s2).ok.dom hp (repL_rev (RepL.same (W := W.at H) s2 l)))⟩⟩
/-! ### {}, {'a': 1} -/
theorem ev_dnew : Ev tDNewK Γ (.dct [] []) := fun F σ W Q g k => fun p hp => k _ _ (same_upd hp) ⟨p, [], rfl, upd_same, fun u => g.ok.dom p u hp, rfl, rfl⟩
end
end Dw

/-! t != (), a, b, c = [], x, y, tuple(xs) with draws, cuts of the script. -/
namespace Dw
open PySem PySem.Spec PyProof.Rows L2 HT
variable [Tabs0]
section
variable {K : PySem.W.Frag} {Γ : Gam} {ta te : TE}
theorem dl_tuple {Q : D → Gam → Prop} (h : Dl ta Γ fun d Γ1 => ∃ ds, d = .lst ds ∧ Q (.tup ds) Γ1) : Dl (tCB (rTupleOf K) (tCons ta tNil)) Γ Q := fun F σ W R g k => h F σ W _ g fun v W1 d Γ1 st g1 r ⟨ds, e, q⟩ => by
  subst e
  obtain ⟨p, vs, rfl, e, nu, l⟩ := r
  exact ⟨p, vs, rfl, .inl ⟨.of e, fun n hn => k _ (W1.at _) (.tup ds) Γ1 (st.trans (Stp.of_same g1.ok (same_upd hn))) (g1.same (same_upd hn)) (rep_new_tup g1.ok.dom hn l) q⟩⟩
theorem evn_sliceXY {tl th : TO} {ns : List Int} {lo hi : Option Int} (h : Ev te Γ (.scr K (ns.map V.int))) (h1 : Eo tl Γ lo) (h2 : Eo th Γ hi) : EvN (tSl (rSlX K) te tl th) Γ (intD (cutI ns lo hi)) := fun F σ W Q g k => h F σ W _ g fun v H s r => h1 F σ (W.at H) _ (g.same s) fun H1 s1 => h2 F σ ((W.at H).at H1) _ ((g.same s).same s1) fun H2 s2 => by
  have sm : Same H H2 := Same.trans s1 s2
  obtain ⟨a, e, q⟩ := scr_sq (r.same (W := W.at H) sm)
  refine .inl ⟨a, _, e, q, fun p hp => k p _ _ (Same.trans s (Same.trans sm (same_upd hp))) (s.free (sm.free hp)) upd_same (RepL.ints.mpr ?_)⟩
  unfold cutI L2.cutV
  simp [List.map_take, List.map_drop]
end
theorem cut_drop (ds : List D) (j : Nat) : Dw.cutD ds (some (j : Int)) none = ds.drop j := by
  unfold Dw.cutD
  rw [sIx_none, sIx_nat]
  by_cases h : j ≤ ds.length
  · rw [Nat.min_eq_left h, List.take_of_length_le (by rw [List.length_drop]; exact Nat.le_refl _)]
  · rw [Nat.min_eq_right (by omega), Nat.sub_self, List.take_zero, List.drop_eq_nil_of_le (by omega)]
end Dw

/-! tuple(range(n)), x not in a list of signs. -/
namespace Dw
open PySem PySem.Spec PyProof.Rows L2
variable [Tabs0]
section
variable {K : PySem.W.Frag} {Γ : Gam} {ta : TE}
theorem ev_tupRg {n : Nat} (h : Ev ta Γ (.int n)) (hn : n ≤ 16777216) : Ev (tTupRg (tRg1 ta)) Γ (.tup (rng n)) := fun F σ W Q g k => h F σ W _ g fun v H s r => ⟨n, r, RgOk.of_le (by omega) (by omega) (by omega) (by omega), fun q hq => by
  have e : rgV 0 n = (rng n).map scV := by
    unfold rgV rng
    rw [List.map_map]
    refine List.map_congr_left fun i _ => ?_
    show V.int (0 + (i : Int)) = V.int i
    rw [Int.zero_add]
  have l : RepL (W.at H) (rng n) (rgV 0 n) := by
    have := (RepL.ints (W := W.at H) (ns := (List.range n).map fun (i : Nat) => (i : Int)) (vs := rgV 0 n)).mpr (by
      rw [e]; unfold rng; rw [List.map_map, List.map_map]; rfl)
    rw [List.map_map] at this
    exact this
  exact k _ _ (Same.trans s (same_upd hq)) (rep_new_tup (W := W.at H) (g.same s).ok.dom hq l)⟩
end
end Dw

/-! cuts of texts, x is not False, t == (). -/
namespace Dw
open PySem PySem.Spec PyProof.Rows L2 HT
variable [Tabs0]
section
variable {K : PySem.W.Frag} {Γ : Gam} {ta te : TE} {x : Str}
end
end Dw

/-! xs != [] of any list. -/
namespace Dw
open PySem PySem.Spec PyProof.Rows L2 HT
variable [Tabs0]
end Dw

/-! a, b = a list; {i: x, j: y}.get(k, z). -/
namespace Dw
open PySem PySem.Spec PyProof.Rows L2 HT
variable [Tabs0]
section
variable {Γ : Gam} {td ty : TE}
end
end Dw

/-! [b for a in xs for b in a]; a value not in a list; repr of a tuple. -/
namespace Dw
open PySem PySem.Spec PyProof.Rows L2 HT
variable [Tabs0]
theorem repL_ord {W : Wd} : ∀ {o : List Nat} {vs : List V}, RepL W (o.map fun k : Nat => D.int k) vs → vs = o.map fun k : Nat => V.int k
  | [], vs, h => h
  | a :: o, vs, h => by
    obtain ⟨v, r, rfl, rv, rr⟩ := h
    rw [show v = V.int a from rv, repL_ord rr]; rfl
theorem ord_repL {W : Wd} : ∀ (o : List Nat), RepL W (o.map fun k : Nat => D.int k) (o.map fun k : Nat => V.int k)
  | [] => rfl
  | a :: o => ⟨_, _, rfl, rfl, ord_repL o⟩
/-! a tuple of whole numbers, not in a list of such -/
end Dw

/-! dicts whose keys are tuples of whole numbers, made and walked by one def. -/
namespace Dw
open PySem PySem.Spec PyProof.Rows L2 HT
variable [Tabs0]
/-! worlds without a frame and without a purse: U holds the dicts -/
abbrev NoF : Addr → Prop := fun _ => False
def PW (H : Hp) (U : Addr → Prop) : Wd := ⟨H, U, fun _ => False⟩
def NO (Γ : Gam) : Prop := ∀ (i : Nat) (ds : Ow), Γ[i]? ≠ some (.ownX ds)
theorem NO.set {Γ : Gam} (h : NO Γ) (i : Nat) (d : D) : NO (Γ.set i (.val d)) := fun j ds e => by
  by_cases hij : i = j
  · subst hij
    by_cases hl : i < Γ.length
    · rw [List.getElem?_set_self hl] at e; cases e
    · rw [List.getElem?_eq_none (by rw [List.length_set]; omega)] at e; cases e
  · rw [List.getElem?_set_ne hij] at e; exact h j ds e
abbrev SP (Γ : Gam) (σ : L2.St) (H : Hp) (U : Addr → Prop) : Prop := SR NoF Γ σ (PW H U)
/-! for over a range; for over a dict with tuple keys -/
end Dw

/-! How long a repr may be. -/
namespace Dw
open PySem PySem.Spec PyProof.Rows L2 HT
variable [Tabs0]
/-! ### the length of a repr -/
mutual
def shB : D → Nat
  | .int i => (PyData.shown (.int i)).length | .str x => 10 * x.length + 2
  | .tup ds => shBs ds + 4 | .lst ds => shBs ds + 4 | .tupN ds => shBs ds + 4
  | _ => 5
def shBs : List D → Nat
  | [] => 0
  | d :: ds => shB d + 2 + shBs ds
end
theorem listText_le (ts : List Str) : (listText ts).length ≤ piled ts + 4 := by
  cases ts with
  | nil => decide
  | cons t r =>
    have h := textFrom_length_pos r 1 (("[" : Str) ++ (if (0 : Nat) > 0 then ", " else "" : String) ++ t) (Nat.succ_pos 0)
    have e : ((("[" : Str) ++ (if (0 : Nat) > 0 then ", " else "" : String) ++ t)).length = 1 + t.length := by
      rw [strLen_append, strLen_append]; rfl
    have hX : (listText (t :: r)).length = (textFrom 1 (("[" : Str) ++ (if (0 : Nat) > 0 then ", " else "" : String) ++ t) r).length + 1 := by
      unfold listText
      rw [strLen_append]; rfl
    rw [hX, h, e, piled_cons]
    omega
theorem tupleText_le (ts : List Str) : (tupleText ts).length ≤ piled ts + 4 := by
  unfold tupleText
  rw [strLen_append, strLen_append]
  have e1 : ((("(" : String) : Str)).length = 1 := rfl
  have e3 : (((if ts.length == 1 then ",)" else ")" : String) : Str)).length ≤ 2 := by split <;> decide
  rw [e1]
  by_cases h : ts = []
  · subst h
    have : (Str.join ", " []).length = 0 := rfl
    omega
  · have := join_length_add ts h
    omega
mutual
theorem shB_le : ∀ (k : Nat) (d : D), dOk k d = true → (PyData.shown (py d)).length ≤ shB d
  | _, .non, _ => by show (("None" : String) : Str).length ≤ 5; decide
  | _, .bl b, _ => by cases b <;> (show (PyData.shown (.bool _)).length ≤ 5) <;> decide
  | _, .int i, _ => Nat.le_refl _
  | k, .str x, h => by
    have e : dOk k (.str x) = PyData.strOk x := by cases k <;> rfl
    rw [e] at h
    have a' : x.cps.all (fun c => decide (c < 1114112)) = true := h
    rw [← Array.all_toList, List.all_eq_true] at a'
    exact PySem.StrLaws.reprText_len x fun c hc => Nat.lt_of_lt_of_le (of_decide_eq_true (a' c hc)) (by decide)
  | k + 1, .tup ds, h => by
    have ih := shBs_le k ds h
    show (tupleText (PyData.shownAll (pys ds))).length ≤ shBs ds + 4
    have := tupleText_le (PyData.shownAll (pys ds))
    omega
  | k + 1, .lst ds, h => by
    have ih := shBs_le k ds h
    show (listText (PyData.shownAll (pys ds))).length ≤ shBs ds + 4
    have := listText_le (PyData.shownAll (pys ds))
    omega
  | k + 1, .tupN ds, h => by
    have ih := shBs_le k ds h
    show (tupleText (PyData.shownAll (pys ds))).length ≤ shBs ds + 4
    have := tupleText_le (PyData.shownAll (pys ds))
    omega
  | 0, .tup _, h => nomatch h
  | 0, .lst _, h => nomatch h
  | 0, .tupN _, h => nomatch h
  | k, .obj _ _ _, h => by cases k <;> exact nomatch h
  | k, .raw _, h => by cases k <;> exact nomatch h
  | k, .purse, h => by cases k <;> exact nomatch h
  | k, .rng _ _, h => by cases k <;> exact nomatch h
  | k, .dct _ _, h => by cases k <;> exact nomatch h
  | k, .scr _ _, h => by cases k <;> exact nomatch h
  | k, .tag _, h => by cases k <;> exact nomatch h
  | k, .fnv _ _, h => by cases k <;> exact nomatch h
  | k, .clo _ _ _, h => by cases k <;> exact nomatch h
theorem shBs_le : ∀ (k : Nat) (ds : List D), dOks k ds = true → piled (PyData.shownAll (pys ds)) ≤ shBs ds
  | _, [], _ => Nat.zero_le _
  | k, d :: ds, h => by
    have e : dOks k (d :: ds) = (dOk k d && dOks k ds) := by cases k <;> rfl
    rw [e, Bool.and_eq_true] at h
    have h1 := shB_le k d h.1
    have h2 := shBs_le k ds h.2
    show piled (PyData.shown (py d) :: PyData.shownAll (pys ds)) ≤ shB d + 2 + shBs ds
    rw [piled_cons]
    omega
end
end Dw
namespace Dw
open PySem PySem.Spec PyProof.Rows L2 HT
variable [Tabs0]
end Dw

/-! Tuples that are known to have no dict of their own: displays, sums, tuple(xs); t.index(x). -/
namespace Dw
open PySem PySem.Spec PyProof.Rows L2 HT
variable [Tabs0]
theorem Rep.dn {W : Wd} {ds : List D} {v : V} (h : Rep W (.tupN ds) v) : Rep W (.tup ds) v := let ⟨a, vs, e, h, r⟩ := h; ⟨a, vs, e, h.at, r⟩
theorem ev_dn {t : TE} {Γ : Gam} {ds : List D} (h : Ev t Γ (.tupN ds)) : Ev t Γ (.tup ds) := fun F σ W Q g k => h F σ W Q g fun v H s r => k v H s r.dn
theorem Dl.weak {t : TE} {Γ : Gam} {Q : D → Gam → Prop} (h : Dl t Γ fun d Γ1 => Q (weakD d) Γ1) : Dl t Γ Q := fun F σ W R g k => h F σ W R g fun v W' d Γ' s r' l q => k v W' (weakD d) Γ' s r' (Rep.weak d v l) q
theorem rep_new_tupN {W : Wd} {p : Addr} {ds : List D} {vs : List V} {ob : Obj} (dom : ∀ a, W.U a → W.H a ≠ none) (h : W.H p = none) (c : ob.cls = .type "tuple") (d : ob.dict = none) (l : RepL W ds vs) : Rep (W.at (upd W.H p (.frz ob (.tup vs)))) (.tupN ds) (.ref p) :=
  ⟨p, vs, rfl, ⟨ob, upd_same, c, d⟩, fun u => dom p u h, l.same (same_upd h)⟩
/-- a new tuple: its cell is known -/
abbrev NewT (H : Hp) (xs : List V) (Q : VK) : Prop := ∀ (p : Addr) (ob : Obj), ob.cls = .type "tuple" → ob.dict = none → H p = none → Q (.ref p) (upd H p (.frz ob (.tup xs)))
section
variable {X : Cx} {pins : List (Addr × Obj)} {σ : L2.St} {H : Hp} {s : Shared}
theorem new_tup {xs : List V} {us : List Value} {Q : VK} (I : Inv X pins σ H s) (r : Vals xs us) (z : xs.length ≤ sizeLine) (q : NewT H xs Q) : EP X pins σ Q (.ref s.heap.objs.size) { s with heap := s.heap.push { cls := .type "tuple", data := .seq us.toArray } } := by
  have st : (s.heap.push { cls := .type "tuple", data := .seq us.toArray }).get? s.heap.objs.size = some { cls := .type "tuple", data := .seq us.toArray } := Heap.get?_push_size _ rfl
  have J := I.laid (t' := s.toks) (o := .frz { cls := .type "tuple", data := .seq us.toArray } (.tup xs)) (fun b u e => Heap.get?_push_of_some _ e) (Nat.le_refl _) ⟨st, z, us, r, _, st, rfl, _, rfl⟩
  exact ⟨.ref s.heap.objs.size, _, J, rfl, q _ _ rfl rfl (I.hok.fresh (Nat.le_refl _))⟩
end
/-! ### (x, y) -/
def tTupF (t : TA) : TE := fun σ H Q => t σ H fun xs H1 => xs.length ≤ sizeLine ∧ NewT H1 xs Q
theorem pe_tupF {X : Cx} {es : List Expr} {t : TA} {pos : Pos} {x1} (h : PA X es t) : PE X (.Tuple es x1 pos) (tTupF t) :=
  ⟨fun pins s σ H Q I q0 => wpAny_Tuple_spliced (thn (h.run pos pins s σ H _ I q0) fun us s1 ⟨xs, H1, I1, r, z, q⟩ => ⟨r.length ▸ z, new_tup I1 r z q⟩)⟩
section
variable {Γ : Gam} {t : TA} {ds : List D}
theorem ev_tupN (h : EvA t Γ ds) (hz : ds.length ≤ sizeLine) : Ev (tTupF t) Γ (.tupN ds) := fun F σ W Q g k => h F σ W _ g fun vs H s l => ⟨by rw [← l.length]; exact hz, fun p ob c d hp =>
  k _ _ (Same.trans s (same_upd hp)) (rep_new_tupN (W := W.at H) (g.same s).ok.dom hp c d l)⟩
theorem ev_tupF (h : EvA t Γ ds) (hz : ds.length ≤ sizeLine) : Ev (tTupF t) Γ (.tup ds) := ev_dn (ev_tupN h hz)
end
/-! ### t + (x,) -/
abbrev rCatTF (K : PySem.W.Frag) : R2 := fun x y H Q => ∃ a b xs ys, x = .ref a ∧ y = .ref b ∧ SqT K H a xs ∧ SqT K H b ys ∧ xs ≠ [] ∧ ys ≠ [] ∧ xs.length + ys.length ≤ sizeLine ∧ NewT H (xs ++ ys) Q
theorem op_catTF {X : Cx} : OpR X (binaryOp .Add) (rCatTF X.K) := by
  intro pins s σ H x y v u Q I rx ry ⟨a, b, xs, ys, ex, ey, ha, hb, hx, hy, hz, q⟩
  subst ex; subst ey
  cases rx; cases ry
  obtain ⟨i1, r1, p1, _⟩ := I.tuple ha
  obtain ⟨i2, r2, p2, _⟩ := I.tuple hb
  have n1 : i1 ≠ [] := fun z => hx (r1.nil_iff.mp z)
  have n2 : i2 ≠ [] := fun z => hy (r2.nil_iff.mp z)
  exact HT.cat_tup p1 p2 n1 (fun z => absurd z n2) (fun _ => new_tup I (r1.append r2) (by rw [List.length_append]; exact hz) q) (by rw [← r1.length, ← r2.length]; exact hz)
abbrev rPlusF (K : PySem.W.Frag) : R2 := rOr (rPlusE K) (rCatTF K)
theorem plusF {X : Cx} (K : PySem.W.Frag) (hK : X.K = K := by rfl) : OpR X (binaryOp .Add) (rPlusF K) := hK ▸ (plusE X.K).or op_catTF
theorem plF_of {K : PySem.W.Frag} {x y d : D} (h : DR2 (rPlusE K) x y d) : DR2 (rPlusF K) x y d := dr2_l h
/-! ### tuple(xs) -/
abbrev rTupleF (K : PySem.W.Frag) : List V → Hp → VK → Prop := fun xs H Q => ∃ p ys, xs = [.ref p] ∧ SqL K H p ys ∧ NewT H ys Q
theorem cr_tupleF {X : Cx} : CallR X (.type "tuple") (rTupleF X.K) := by
  intro pins s σ H xs us Q I r ⟨p, ys, ex, hq, q⟩
  subst ex
  obtain ⟨u, eu, rx⟩ := vals1 r
  subst eu; cases rx
  obtain ⟨its, r', pl, hz⟩ := I.list hq
  have hl := r'.length
  exact call_tuple_list pl.isList (fun h' kp => new_tup (I.kept (t' := s.toks) kp) r' hz q) (by simp only [List.size_toArray]; omega)
theorem tupleFA {X : Cx} (K : PySem.W.Frag) (hK : X.K = K := by rfl) : CallR X (.type "tuple") (rTupleF K) := hK ▸ cr_tupleF
theorem ev_tupleN {K : PySem.W.Frag} {Γ : Gam} {ta : TE} {ds : List D} (h : EvB ta Γ ds) : Ev (tCB (rTupleF K) (tCons ta tNil)) Γ (.tupN ds) := fun F σ W Q g k => h F σ W _ g fun p vs H s e l =>
  ⟨p, vs, rfl, .of e, fun n ob c d hn => k _ _ (Same.trans s (same_upd hn)) (rep_new_tupN (W := W.at H) (g.same s).ok.dom hn c d l)⟩
theorem ev_tupleF {K : PySem.W.Frag} {Γ : Gam} {ta : TE} {ds : List D} (h : EvB ta Γ ds) : Ev (tCB (rTupleF K) (tCons ta tNil)) Γ (.tup ds) := ev_dn (ev_tupleN h)
/-! ### t.m(x) of such a tuple -/
def tBMN (r : V → List V → Hp → VK → Prop) (to : TE) (t : TA) : TE := fun σ H Q => to σ H fun x H1 => (∃ a vs, x = .ref a ∧ TupN H1 a vs) ∧ t σ H1 fun xs H2 => r x xs H2 Q
section
variable {X : Cx} {o e : Expr} {es : List Expr} {to : TE} {t : TA} {nm : Str} {p1 p2 : Pos} {id : String} {r : V → List V → Hp → VK → Prop}
theorem pe_tm (sl : Slot "tuple" nm id) (ty : typeOf (.builtin id) = pure (.type "method_descriptor")) (hm : MtR X id r) (ho : PE X o to) (ha : PA X (e :: es) t)
    (b1 : attributeBase o nm X.env (eval o X.env) = eval o X.env := by rfl)
    (b2 : ((backTo p2 (starEach (e :: es) X.env)).all (fun z => !z.1) && (backToKw p2 (keywordEach [] X.env)).all (fun z => z.1.isSome) && decide ((e :: es).length + ([] : List Keyword).length + (if ([] : List Keyword).isEmpty then 0 else 1) < 30)) = true := by rfl)
    (b3 : (p1.endLine == p2.line) = true := by rfl) (b4 : starEach (e :: es) X.env = (false, eval e X.env) :: starEach es X.env := by rfl) (b5 : (backTo p2 (starEach es X.env)).any (·.1) = false := by rfl) :
    PE X (.Call (.Attribute o nm p1) (e :: es) [] p2) (tBMN r to t) := ⟨fun pins s σ H Q I q0 => by
  refine wpAny_Call_method_late b1 b2 b3 rfl (thn (ho.run pins s σ H _ I q0) fun v s1 ⟨x, H1, I1, r1, ⟨a, vs, ex, ob, hob, c, d⟩, q1⟩ => ?_)
  subst ex
  cases r1
  obtain ⟨g1, _⟩ : s1.heap.get? a = some ob ∧ _ := I1.hok a _ hob
  refine ⟨"tuple", id, PySem.F.plainAttrs_tuple, sl, ty, ⟨ob, g1, c⟩, fun b e => by cases e; exact ⟨ob, g1, d⟩, ?_⟩
  have A1 := ha.run p2 pins s1 σ H1 _ I1 q1
  rw [b4] at A1 ⊢
  refine Calls.callWith_builtin (by show (false || (backTo p2 (starEach es X.env)).any (·.1)) = false; rw [b5]; rfl) (Calls.evalArgs_plain ?_)
  exact thn A1 fun us s2 ⟨ws, H2, I2, r2, q2⟩ => hm pins s2 σ H2 (V.ref a) ws _ us Q I2 rfl r2 q2⟩
end
abbrev TIdx (K : PySem.W.Frag) (a : Addr) (ys : List V) (y : V) (j : Nat) (H : Hp) (Q : VK) : Prop := SqT K H a ys ∧ flatV y = true ∧ ys.all flatV = true ∧ (∃ z, ys[j]? = some z ∧ eqV z y = true) ∧ (∀ (m : Nat) (z : V), m < j → ys[m]? = some z → eqV z y = false) ∧ Q (.int (j : Nat)) H
def rTIdx (K : PySem.W.Frag) : V → List V → Hp → VK → Prop := fun x xs H Q => ∃ a ys y j, x = V.ref a ∧ xs = [y] ∧ TIdx K a ys y j H Q
theorem mt_tidx {X : Cx} : MtR X "tuple.index" (rTIdx X.K) := by
  intro pins s σ H x xs v us Q I rx rxs ⟨a, ys, y, j, ex, exs, hs, fy, fys, ⟨z, hz, hzj⟩, hno, q⟩
  subst ex; subst exs
  cases rx
  obtain ⟨uy, eu, ry⟩ := vals1 rxs
  subst eu
  obtain ⟨its, rv, ⟨⟨cls, dd, data, sl⟩, ho, hc, n, hd⟩, _⟩ := I.tuple hs
  simp only at hc hd
  subst hc; subst hd
  have look : ∀ (m : Nat) (w : V), ys[m]? = some w → ∃ (u : Value) (hm : m < its.toArray.size), its.toArray[m] = u ∧ eqU y u = eqV w y := fun m w hw => by
    obtain ⟨u, hu, ru⟩ := rv.get hw
    obtain ⟨h1, h2⟩ := List.getElem?_eq_some_iff.mp hu
    exact ⟨u, by simpa using h1, by simpa using h2, eqU_of ru (flat_at fys hw)⟩
  obtain ⟨u0, hj, e0, e1⟩ := look j z hz
  have hl := rv.length
  refine call_meets PySem.F.slot_tuple_index ⟨_, ho, rfl⟩ PySem.F.entry_tuple_index (PySem.F.args_tuple_index_2 _ _) (TI.tuple_indexAt a its.toArray n dd sl uy (eqU y) j hj (by rw [e0, e1]; exact hzj) fun m hm hmj => ?_)
    ⟨ho, fun u' hu' => mem_eqAt ry fy rv fys u' (by simpa using hu'), .int (j : Nat), H, I.tok _, ⟨_, rfl⟩, q⟩
  have hml : m < its.length := by simpa using hm
  have hw : ys[m]? = some ys[m] := List.getElem?_eq_getElem (by omega)
  obtain ⟨u2, _, e2, e3⟩ := look m _ hw
  rw [e2, e3]
  exact hno m _ hmj hw
theorem tidxA {X : Cx} (K : PySem.W.Frag) (hK : X.K = K := by rfl) : MtR X "tuple.index" (rTIdx K) := hK ▸ mt_tidx
section
variable {K : PySem.W.Frag} {Γ : Gam} {ta tb : TE}
theorem idx_not {α : Type} [DecidableEq α] {o : List α} {c : α} {m : Nat} (h : m < o.idxOf c) (hm : m < o.length) : o[m] ≠ c := fun e => by
  have h2 : m < o.findIdx (· == c) := h
  have := List.not_of_lt_findIdx h2
  simp [e] at this
theorem idx_at {α : Type} [DecidableEq α] {o : List α} {c : α} (h : c ∈ o) : o[o.idxOf c]? = some c := by
  have hl : o.idxOf c < o.length := List.idxOf_lt_length_iff.mpr h
  rw [List.getElem?_eq_getElem hl, List.getElem_idxOf hl]
theorem ev_tidxS {o : List Str} {c : Str} (h : Ev ta Γ (.tupN (o.map D.str))) (hb : Ev tb Γ (.str c)) (hm : c ∈ o) : Ev (tBMN (rTIdx K) ta (tCons tb tNil)) Γ (.int (o.idxOf c : Nat)) := fun F σ W Q g k =>
  h F σ W _ g fun v H s ⟨a, vs, ev, e, nu, l⟩ => by
    subst ev
    refine ⟨⟨a, vs, rfl, e⟩, hb F σ (W.at H) _ (g.same s) fun u H2 s2 r => ?_⟩
    obtain rfl : u = V.str c := r
    obtain rfl := RepL.strs.mp l
    refine ⟨a, _, _, o.idxOf c, rfl, rfl, (e.same s2).at.sq, rfl, by rw [List.all_map]; exact List.all_eq_true.mpr fun _ _ => rfl, ⟨V.str c, by rw [List.getElem?_map, idx_at hm]; rfl, by simp [eqV]⟩, fun m z' hmj hz => ?_, k _ H2 (Same.trans s s2) rfl⟩
    have hl : o.idxOf c < o.length := List.idxOf_lt_length_iff.mpr hm
    rw [List.getElem?_map, List.getElem?_eq_getElem (by omega)] at hz
    obtain rfl := Option.some.inj hz
    have ne := idx_not hmj (by omega)
    simp [eqV, ne]
end
end Dw
namespace Dw
open PySem PySem.Spec PyProof.Rows L2 HT
variable [Tabs0]
/-! ### a new tuple, by its cell -/
section
variable {K : PySem.W.Frag} {Γ : Gam} {t : TA} {ta : TE} {ds : List D}
end
end Dw
namespace Dw
open PySem PySem.Spec PyProof.Rows L2 HT
variable [Tabs0]
end Dw

/-! {k: v for x in xs if ..}, k in d, d[k]; a call of a local name that holds a def. -/
namespace Dw
open PySem PySem.Spec PyProof.Rows L2 HT
variable [Tabs0]
section
variable {K : PySem.W.Frag} {Γ : Gam} {wi : TI} {g : TG} {tt : TT} {tk tv ta td ty : TE} {vs : List Nat}
/-! ### a call of a local name that holds a def -/
theorem ev_callL {s : Spc} {i : Nat} {f : Addr} {E : XK} {t : TA} {x : s.ty} {d : D} (hf : Γ[i]? = some (.val (.raw (.ref f)))) (h : EvA t Γ (s.args x)) (np : noPs (s.args x) = true) (ok : s.ok x) (hd : ∀ d', s.rel x d' → d' = d) : Ev (tCallL i f (toSp s) [] E t) Γ d := fun F σ W R g k => by
  obtain ⟨v, e, r⟩ := g.val i _ hf
  obtain rfl : v = V.ref f := r
  exact ⟨e, ev_call (E := E) h np ok hd F σ W R g k⟩
end
end Dw

/-! xs, y = [], e with a cell among them; xs.index(x) of texts. -/
namespace Dw
open PySem PySem.Spec PyProof.Rows L2 HT
variable [Tabs0]
section
variable {K : PySem.W.Frag} {Γ : Gam} {ta tb : TE}
end
end Dw

/-! an own list, lent for the time of one expression whose answer is a tuple of numbers. -/
namespace Dw
open PySem PySem.Spec PyProof.Rows L2 HT
variable [Tabs0]
theorem dl_lend {Γ : Gam} {t : TE} {Q : D → Gam → Prop} (i : Nat) {ds : List D} (hi : Γ[i]? = some (.own ds)) (one : ∀ (j : Nat) (es : Ow), Γ[j]? = some (.ownX es) → j = i)
    (h : Dl t (Γ.set i (.val (.lst ds))) fun d Γ1 => Γ1 = Γ.set i (.val (.lst ds)) ∧ (∃ m : List Nat, d = .tup (m.map fun k : Nat => D.int k)) ∧ Q d Γ) : Dl t Γ Q := fun F σ W R g k => by
  obtain ⟨a, vs, hs, ua, fa, pa, ea, ra⟩ := g.own i ds hi
  obtain ⟨st0, g0⟩ := g.freeze hi hs
  refine h F σ ⟨W.H, fun b => W.U b ∧ b ≠ a, W.P⟩ R g0 fun v W1 d Γ1 st g1 r ⟨eΓ, ⟨m, ed⟩, q⟩ => ?_
  subst eΓ; subst ed
  have ea1 := st.keep a _ ea fun z => z.2 rfl
  have hp : W1.P = W.P := st.pur
  have stp : Stp F W ⟨W1.H, fun b => W1.U b ∨ b = a, W1.P⟩ := ⟨fun b u e n => by
    have hb := st.keep b u e fun z => n z.1
    exact ⟨hb.1, fun z => z.elim hb.2 fun z => n (z ▸ ua)⟩, hp, fun b z => st.fr b z⟩
  refine k v ⟨W1.H, fun b => W1.U b ∨ b = a, W1.P⟩ (.tup (m.map fun k : Nat => D.int k)) Γ stp ⟨⟨fun b z => z.elim (g1.ok.dom b) (fun z => by rw [z, ea1.1]; exact fun q => nomatch q), fun b z => .inl (g1.ok.fu b z), fun b z => let ⟨u, f, p⟩ := g1.ok.pu b z; ⟨.inl u, f, p.back ea1.1⟩⟩, g.len, fun j d' e => ?_, fun j es e => ?_, g.apartX⟩ ?_ q
  · obtain ⟨v', e1, r'⟩ := g.val j d' e
    exact ⟨v', e1, r'.stp stp⟩
  · obtain rfl := one j es e
    rw [hi] at e; cases e
    exact ⟨a, vs, hs, .inr rfl, fa, by rw [hp]; exact pa, ea1.1, ra.stp stp⟩
  · obtain ⟨b, ws, e1, hb, nu, l⟩ := r
    have nb : b ≠ a := fun z => by
      rw [z] at hb
      rcases hb with hb | ⟨o, hb⟩
      · rw [ea1.1] at hb; cases hb
      · rw [ea1.1] at hb; cases hb
    refine ⟨b, ws, e1, hb, fun z => z.elim nu nb, ?_⟩
    obtain rfl := repL_ord l
    exact ord_repL m
end Dw

/-! list(d.values()). -/
namespace Dw
open PySem PySem.Spec PyProof.Rows L2 HT
variable [Tabs0]
section
variable {X : Cx} {e : Expr} {te : TE} {p apos cpos pos : Pos}
variable {Γ : Gam} {td : TE}
end
end Dw

/-! xs == [] of any list. -/
namespace Dw
open PySem PySem.Spec PyProof.Rows L2 HT
variable [Tabs0]
/-! ### texts, >= -/
/-! ### range(a, b) -/
end Dw

/-! {"a": 1, ..}, d.get(k, z); cuts and sums of tuples whose cells are known. -/
namespace Dw
open PySem PySem.Spec PyProof.Rows L2 HT
variable [Tabs0]
section
variable {Γ : Gam} {td ty : TE}
end
/-! ### t[a:b], its cell known -/
section
variable {K : PySem.W.Frag} {Γ : Gam} {te : TE} {ds : List D}
end
/-! ### t == () -/
/-! ### a text's count -/
end Dw

/-! min(xs); xs.extend(ys) of an own list; a purse that is made of a number. -/
namespace Dw
open PySem PySem.Spec PyProof.Rows L2 HT
variable [Tabs0]
section
variable {K : PySem.W.Frag} {Γ : Gam} {ta tb : TE}
end
/-- a def that makes a purse of a number -/
def toWell : Sp := fun vs H Q _ => ∃ (F : Addr → Prop) (W : Wd) (cell : Int), W.H = H ∧ WOk F W ∧ RepL W [.int cell] vs ∧
  ∀ (a : Addr) (x y c : Int) (W' : Wd) (H' : Hp), Stp F W W' → WOk F W' → Same W'.H H' → W'.H a = none → H' a = some (.lst [.int x, .int y, .int c]) → 0 ≤ x → 0 ≤ y → y < 2147483647 → Q (.ref a) H'
section
variable {s : Spc} {E : XK} {Γ : Gam} {ta : TE}
end
end Dw

/-! x, ys = e, [] with a cell among them. -/
namespace Dw
open PySem PySem.Spec PyProof.Rows L2 HT
variable [Tabs0]
theorem ds_asg_2o {K : PySem.W.Frag} {Γ : Gam} {De : DE} {i j : Nat} {t1 t2 : TE} (h : Dl t1 Γ fun d Γ1 => ∃ ds, EvN t2 Γ1 ds ∧ De.nx ((Γ1.set i (.val d)).set j (.own ds))) : Ds (tAsg (tTup (tCons t1 (tCons t2 tNil))) (gTup K 2 (gCons (gName i) (gCons (gName j) gNil)))) Γ De := fun F σ W Dr g k =>
  h F σ W _ g fun v W1 d Γ1 st1 g1 rd ⟨ds, h2, q⟩ => h2 F σ W1 _ g1 fun a vs H s n e r => by
    obtain ⟨st2, g2, no2, f2, p2⟩ := g1.plus s n (by rw [e]; exact fun z => nomatch z)
    have rd2 : Rep (W1.plus H a) d v := rd.stp st2
    have g3 := g2.set (i := i) rd2
    have no3 : ¬ ownA (Γ1.set i (.val d)) (σ.set i (some v)) a := fun ⟨k, es, e1, e2⟩ => by
      by_cases hk : i = k
      · subst hk
        by_cases hl : i < Γ1.length
        · rw [List.getElem?_set_self hl] at e1; cases e1
        · rw [List.getElem?_eq_none (by rw [List.length_set]; omega)] at e1; cases e1
      · rw [List.getElem?_set_ne hk] at e1 e2
        exact no2 ⟨k, es, e1, e2⟩
    have g4 := g3.adopt (i := j) (.inr rfl) f2 p2 e r no3
    refine ⟨Nat.le_trans (show 2 ≤ 100000 by decide) (by decide), fun p hp => ?_⟩
    exact ⟨p, [v, .ref a], rfl, TupAt.sq (.mk upd_same), rfl, v, [.ref a], rfl, .ref a, [], rfl, rfl, k.nx _ ((W1.plus H a).at _) _ ((st1.trans st2).trans (Stp.of_same g2.ok (same_upd hp))) (g4.same (same_upd hp)) q⟩
section
variable {s : Spc} {E : XK} {Γ : Gam} {ta : TE}
/-- right(well(number)) -/
theorem dl_wellT {K : PySem.W.Frag} {E2 : XK} {Q : D → Gam → Prop} {x : s.ty} (ha : s.args x = [.purse]) (ok : s.ok x) (hr : ∀ d, s.rel x d → d = .bl true) (h1 : Dl ta Γ fun d Γ1 => (∃ z : Int, d = .int z) ∧ (∃ (i : Nat) (vs : List V), Γ1[i]? = some (.val (.scr K vs))) ∧ Q (.bl true) Γ1) :
    Dl (tCall (toSp s) [] E (tCons (tCall toWell [] E2 (tCons ta tNil)) tNil)) Γ Q := fun F σ W R g k => by
  show tCons ta tNil σ W.H (fun vs H1 => toWell (vs ++ []) H1 (fun v H2 => toSp s ([v] ++ []) H2 R E) E2)
  refine h1 F σ W _ g fun v0 W1 d0 Γ1 s1 g1 r0 ⟨⟨z, ez⟩, ⟨ci, cvs, hcs⟩, q⟩ => ?_
  subst ez
  have r : RepL W1 [.int z] [v0] := RepL.one r0
  refine ⟨_, W1, z, rfl, g1.callOk, r, fun a x' y c' W' H' st ok' sm hn ha' h0 h0' h0y => ?_⟩
  have g2 := g1.call st ok'
  have okc := g2.callOk
  have nu : ¬ W'.U a := g2.ok.new hn
  have tb : ∀ p q, Tabs0.nm p = some q → W'.P p := fun p q z => by
    obtain ⟨v0, e0, hr0⟩ := g1.val ci _ hcs
    obtain ⟨_, _, _, t0⟩ := hr0
    have := t0 p q z
    rw [st.pur]
    exact this
  have nn : Tabs0.nm a = none := by
    cases z : Tabs0.nm a with
    | none => rfl
    | some q => exact absurd hn ((okc.pu a (tb a q z)).2.2.some)
  refine ⟨x, _, ⟨H', fun b => W'.U b ∨ b = a, fun b => W'.P b ∨ b = a⟩, rfl, ⟨fun b z => ?_, fun b z => .inl (okc.fu b z), fun b z => ?_⟩, ?_, ok, fun d v W2 hd st2 ok2 r2 => ?_⟩
  · rcases z with z | rfl
    · exact fun e => okc.dom b z (sm.free e)
    · show H' b ≠ none
      rw [ha']; exact fun e => nomatch e
  · rcases z with z | rfl
    · obtain ⟨u, f, o⟩ := okc.pu b z
      exact ⟨.inl u, f, o.grow sm hn⟩
    · exact ⟨.inr rfl, fun z => nu (okc.fu b z), .of ⟨(x', c'), y, h0, h0', h0y, ha'⟩ nn⟩
  · rw [ha]
    exact RepL.one ⟨a, rfl, .inr rfl, nn, fun p q z => .inl (tb p q z)⟩
  · have hd' := hr d hd
    subst hd'
    have stc : Stp (fun b => F b ∨ ownA Γ1 σ b) W' ⟨W2.H, W2.U, W'.P⟩ := ⟨fun b u e n => by
        have nb : b ≠ a := fun z => by rw [z, hn] at e; cases e
        obtain ⟨e2, n2⟩ := st2.keep b u (sm _ _ e) fun z => z.elim n nb
        exact ⟨e2, n2⟩, rfl, fun b z => by
        refine (st2.fr b z).trans ?_
        show H' b = W'.H b
        cases q : W'.H b with
        | none => exact absurd q (okc.dom b (okc.fu b z))
        | some u => exact sm _ _ q⟩
    have okc2 : WOk (fun b => F b ∨ ownA Γ1 σ b) ⟨W2.H, W2.U, W'.P⟩ := ⟨ok2.dom, ok2.fu, fun b z => by
      have := ok2.pu b (by rw [st2.pur]; exact .inl z)
      exact this⟩
    have st0 : Stp F W ⟨W2.H, W2.U, W'.P⟩ := s1.trans (((st.trans stc)).sub fun _ z => .inl z)
    exact k v ⟨W2.H, W2.U, W'.P⟩ (.bl true) Γ1 st0 (g2.call stc okc2) r2 q
end
end Dw

/-! tuple("abc"); == of truth values. -/
namespace Dw
open PySem PySem.Spec PyProof.Rows L2 HT
variable [Tabs0]
section
variable {K : PySem.W.Frag} {Γ : Gam} {ta : TE}
end
end Dw

/-! ways[i] += e, of an own list of numbers. -/
namespace Dw
open PySem PySem.Spec PyProof.Rows L2
variable [Tabs0]
section
variable {K : PySem.W.Frag} {Γ : Gam} {De : DE} {te tk : TE}
end
end Dw

/-! A lambda made, with the very heap: all but its maker's table stays. -/
namespace Dw
open PySem PySem.Spec PyProof.Rows L2 LamX
/-- what a lambda's making may have done: nothing, or the maker's table at P is longer and a code object is new -/
def Chg (P : Addr) (q : Str) (H H1 : Hp) : Prop := H1 = H ∨ ∃ (c : Addr) (ps : Array Value) (pos : Pos), H P = some (.tbl ps) ∧ H c = none ∧ H1 = upd (upd H P (.tbl (ps ++ #[rawInt pos.line, rawInt pos.col, .ref c]))) c (CodeO c q)
theorem Chg.ne {P : Addr} {q : Str} {H H1 : Hp} (h : Chg P q H H1) {b : Addr} {u : HO} (hb : b ≠ P) (e : H b = some u) : H1 b = some u := by
  rcases h with rfl | ⟨c, ps, more, _, hc, rfl⟩
  · exact e
  · rw [upd_ne (ne_of_none e hc), upd_ne hb]
    exact e
theorem Chg.ext {P : Addr} {q : Str} {H H1 : Hp} (h : Chg P q H H1) : ExtN H H1 := by
  rcases h with rfl | ⟨c, ps, more, hP, hc, rfl⟩
  · exact ExtN.refl _
  · intro b o e n
    rw [upd_ne (ne_of_none e hc), upd_ne (fun z => n ps (Option.some.inj (e.symm.trans (by rw [z]; exact hP))))]
    exact e
section
variable {X : Cx} {pins : List (Addr × Obj)} {σ : L2.St} {H : Hp} {s : Shared}
/-- the tables go on telling the truth -/
theorem tabs_grow {T : List (Addr × Str)} {P c' : Addr} {q : Str} {ps : Array Value} {pos : Pos} (hT : Tabs T H) (hu : ∀ p ∈ T, p.1 = P → p.2 = q) (hP : H P = some (.tbl ps)) (ht : TriplesOk ps.toList)
    (ha : ∀ (pos : Pos) (cv : Value), codeAmong pos ps.toList = some cv → ∃ c, cv = .ref c ∧ H c = some (CodeO c q)) (nC : H c' = none) :
    Tabs T (upd (upd H P (.tbl (ps ++ #[rawInt pos.line, rawInt pos.col, .ref c']))) c' (CodeO c' q)) := by
  have eE : ∀ b o, H b = some o → (∀ ps, o ≠ .tbl ps) → upd (upd H P (.tbl (ps ++ #[rawInt pos.line, rawInt pos.col, .ref c']))) c' (CodeO c' q) b = some o :=
    (Chg.ext (q := q) (.inr ⟨c', ps, _, hP, nC, rfl⟩))
  have eL : (ps ++ #[rawInt pos.line, rawInt pos.col, .ref c']).toList = ps.toList ++ [rawInt pos.line, rawInt pos.col, .ref c'] := by simp
  intro p hp
  by_cases hb : p.1 = P
  · rw [hu p hp hb, hb]
    refine ⟨_, by rw [upd_ne (ne_of_none hP nC), upd_same], by rw [eL]; exact PySem.TriplesOk_snoc _ _ _ _ ht, fun p' cv hcv => ?_⟩
    rw [eL] at hcv
    rcases among_app _ ht hcv with z | z
    · obtain ⟨c0, e1, e2⟩ := ha p' cv z
      exact ⟨c0, e1, eE _ _ e2 codeO_ne⟩
    · exact ⟨c', z, upd_same⟩
  · obtain ⟨ps', a1, a2, a3⟩ := hT p hp
    refine ⟨ps', by rw [upd_ne (ne_of_none a1 nC), upd_ne hb]; exact a1, a2, fun p' cv hcv => ?_⟩
    obtain ⟨c0, e1, e2⟩ := a3 p' cv hcv
    exact ⟨c0, e1, eE _ _ e2 codeO_ne⟩
end
/-! ### the lambda handed to a def -/
section
variable {X : Cx}
end
end Dw

/-! except (A, B) as e: one clause for two classes, that takes all that comes. -/
namespace Dw
open PySem PySem.Spec PyProof.Rows L2 HotX
section
variable {X : Cx} {x1 x2 n : Str} {c1 c2 : Value} {i kk : Nat} {body suite : List Stmt} {b₀ : Stmt} {p1 p2 tpos pos pos' : Pos} {tb : WX → TS} {ts : Addr → Value → Option Addr → TS}
end
end Dw

/-! The exception that is held, within a def that the suite calls. -/
namespace Dw
open PySem PySem.Spec PyProof.Rows L2
variable [Tabs0]
section
variable {X : Cx} {a D : Addr} {oe : Obj}
theorem inst_some {h : Heap} {dd : Addr} {od : Obj} (hz : Zc (.ref D) (some dd) oe) (hf : ∃ vs, oe.data = .fields vs) (hget : h.get? a = some oe) (ho : h.get? dd = some od) : PySem.W.InstAt h a oe D (some od) := by
  obtain ⟨vs, hv⟩ := hf
  exact ⟨hget, hz.1, by unfold PySem.W.notCls; rw [hv] <;> rfl, by rw [hz.2]; exact ho⟩
end
/-! ### promises of defs that may raise: the one that returns, and the one that raises, side by side -/
section
variable {P : Program} {w : World} {K : PySem.W.Frag} {mg : Str → Option Value} {base : Heap} {k : Nat} {f : Addr} {fd : FuncData} {ps : List Str} {sp sp' : Sp}
/-- one of two promises -/
def spOr (sp sp' : Sp) : Sp := fun vs H Q E => sp vs H Q E ∨ sp' vs H Q E
/-- a def that raises: the class, and no dict -/
structure SpcE where
  ty : Type
  args : ty → List D
  ok : ty → Prop
  cls : Addr
end
end Dw

/-! Defs that an except suite calls, and that neither raise nor loop: nothing is asked of the held exception's context. -/
namespace Dw
open PySem PySem.Spec PyProof.Rows L2
open L2H (RoomH PinOk cxH inv_startH)
variable [Tabs0]
section
variable {P : Program} {w : World} {K : PySem.W.Frag} {mg : Str → Option Value} {base : Heap} {k : Nat} {f : Addr} {fd : FuncData} {ps : List Str} {sp : Addr × Obj → Sp}
/-- the promise of a def f while p is held -/
structure FnS (P : Program) (w : World) (K : PySem.W.Frag) (mg : Str → Option Value) (base : Heap) (k : Nat) (f : Addr) (fd : FuncData) (ps : List Str) (sp : Addr × Obj → Sp) : Prop where
  len : ∀ p vs H Q E, sp p vs H Q E → vs.length = ps.length
  run : ∀ (A : Around) (outer : List Env) (s : Shared) (H : Hp) (args : Args) (us : List Value) (vs : List V) (Q : VK) (E : XK) (p : Addr × Obj), RoomH k A → A.guards = some [] → PinOk outer H s p → Env0 P w K mg base A outer s H → BindsTo s fd args (ps.zip us) → Vals vs us → sp p vs H Q E →
    codeAny (model P w) A (.call (.ref f) args) (CR CX0 outer P w H s Q E) s
end
section
variable {X : Cx} {k : Nat} {f : Addr} {fd : FuncData} {ps : List Str} {sp : Addr × Obj → Sp} {E : L2.St → XK} {x : Str} {q pos : Pos} {e : Expr} {es : List Expr} {t : TA} {p : Addr × Obj}
end
end Dw

/-! try: g = a() / except (A, B) as e: suite; return ("returned", g). -/
namespace Dw
open PySem PySem.Spec PyProof.Rows L2 LamX
variable [Tabs0]
/-- what flies comes with all of the maker's slots -/
theorem takes_len {X : Cx} {W : WX} (t : Takes X W) : Takes X (fun cls d σ H => σ.length = X.N.length → W cls d σ H) := fun u s' ⟨a, B, sI, pins, σ, H, cls, d, e, I, nb, up, sky, na, os, ag, w⟩ =>
  t u s' ⟨a, B, sI, pins, σ, H, cls, d, e, I, nb, up, sky, na, os, ag, w I.len⟩
end Dw

/-! told(lambda: body), by data. -/
namespace Dw
open PySem PySem.Spec PyProof.Rows L2 LamX
variable [Tabs0]
/-- the tables that a law knows: all there are -/
structure TabsOk (Tt : List (Addr × Str)) : Prop where
  sound : ∀ p ∈ Tt, Tabs0.nm p.1 = some p.2
  all : ∀ p q, Tabs0.nm p = some q → (p, q) ∈ Tt
theorem tabs_of {F : Addr → Prop} {W : Wd} {Tt : List (Addr × Str)} (ok : WOk F W) (T : TabsOk Tt) (tb : ∀ p q, Tabs0.nm p = some q → W.P p) : Tabs Tt W.H := fun p hp => (ok.pu p.1 (tb _ _ (T.sound p hp))).2.2.tab (T.sound p hp)
/-- a lambda is made: all that is known stays known -/
theorem SR.chg {F : Addr → Prop} {Γ : Gam} {σ : L2.St} {W : Wd} {Tt : List (Addr × Str)} {P : Addr} {q : Str} {H1 : Hp} (g : SR F Γ σ W) (T : TabsOk Tt) (hP : (P, q) ∈ Tt) (tb : ∀ p q, Tabs0.nm p = some q → W.P p) (c : Chg P q W.H H1) (T1 : Tabs Tt H1) :
    Stp F W (W.at H1) ∧ SR F Γ σ (W.at H1) := by
  have pP : W.P P := tb P q (T.sound _ hP)
  obtain ⟨uP, fP, _⟩ := g.ok.pu P pP
  have st : Stp F W (W.at H1) := ⟨fun a u e n => ⟨c.ne (fun z => n (by rw [z]; exact uP)) e, n⟩, rfl, fun a h => by
    cases e : W.H a with
    | none => exact absurd e (g.ok.dom a (g.ok.fu a h))
    | some u => exact c.ne (fun z => fP (by rw [← z]; exact h)) e⟩
  refine ⟨st, ⟨⟨fun a h z => ?_, g.ok.fu, fun a h => ?_⟩, g.len, fun i d e => ?_, fun i ds e => ?_, g.apartX⟩⟩
  · have z : H1 a = none := z
    by_cases hb : a = P
    · obtain ⟨ps, e, _⟩ := T1 _ hP
      rw [hb, show H1 P = _ from e] at z; cases z
    · cases e : W.H a with
      | none => exact g.ok.dom a h e
      | some u => rw [c.ne hb e] at z; cases z
  · obtain ⟨u, f, o⟩ := g.ok.pu a h
    refine ⟨u, f, ?_⟩
    cases n : Tabs0.nm a with
    | some q' =>
      refine .mk n (T1 _ (T.all a q' n)) fun ps' pos cc q1 q2 z => ?_
      have t0 := o.tab n
      obtain ⟨ps0, e1, t1, e3⟩ := id t0
      by_cases hb : a = P
      · rcases c with rfl | ⟨cn, ps, more, hPs, hcn, rfl⟩
        · exact o.cod n ps' pos cc q1 q2 z
        · subst hb
          have q1 : upd (upd W.H a (.tbl (ps ++ #[rawInt more.line, rawInt more.col, .ref cn]))) cn (CodeO cn q) a = some (.tbl ps') := q1
          rw [upd_ne (ne_of_none hPs hcn), upd_same] at q1
          cases q1
          have ee : ps0 = ps := HO.tbl.inj (Option.some.inj (e1.symm.trans hPs))
          rw [ee] at t1
          have eL : (ps ++ #[rawInt more.line, rawInt more.col, .ref cn]).toList = ps.toList ++ [rawInt more.line, rawInt more.col, .ref cn] := by simp
          rw [eL] at q2
          rcases among_app _ t1 q2 with w | w
          · exact o.cod n _ pos cc hPs w z
          · cases w
            exact g.ok.dom _ z hcn
      · have ee : ps0 = ps' := HO.tbl.inj (Option.some.inj ((c.ne hb e1).symm.trans q1))
        exact o.cod n ps0 pos cc e1 (by rw [ee]; exact q2) z
    | none =>
      obtain ⟨x, y, h1, h2, h3, e⟩ := o.purse n
      refine .of ⟨x, y, h1, h2, h3, c.ne (fun z => ?_) e⟩ n
      have := T.sound _ hP
      rw [← show a = P from z, n] at this; cases this
  · obtain ⟨v, e1, r⟩ := g.val i d e
    exact ⟨v, e1, r.stp st⟩
  · obtain ⟨a, vs, e1, u, f, p, e2, r⟩ := g.ownX i ds e
    exact ⟨a, vs, e1, u, f, p, c.ne (fun z => p (by rw [z]; exact pP)) e2, r.stp st⟩
section
variable {K : PySem.W.Frag} {Γ : Gam} {Tt : List (Addr × Str)} {P : Addr} {q wd : Str} {c1 c2 : Value} {n ie i : Nat} {ts : Addr → Value → Option Addr → TS} {t : XK → TE} {d : D} {Q : D → Gam → Prop}
end
/-! ### calls of defs that return, or raise -/
section
variable {Γ : Gam} {s : Spc} {se : SpcE} {sp : Sp} {ta : TA} {E : XK} {d : D}
theorem ev_call_or {x : s.ty} (h : EvA ta Γ (s.args x)) (np : noPs (s.args x) = true) (ok : s.ok x) (hd : ∀ d', s.rel x d' → d' = d) : Ev (tCall (spOr (toSp s) sp) [] E ta) Γ d := fun F σ W R g k => h F σ W _ g fun vs H st r => by
  rw [List.append_nil]
  exact .inl (pure_call (W := W.at H) (g.same st) (fun _ z => z) (RepL.delP _ _ np r) ok fun d' v H' hd' s' r' => by
    rw [hd d' hd'] at r'
    exact k v H' (Same.trans st s') (Rep.addP (W := W) r'))
end
end Dw

/-! Defs that return or raise, by data. -/
namespace Dw
open PySem PySem.Spec PyProof.Rows L2 LamX
variable [Tabs0]
/-! ### raise C() -/
section
variable {X : Cx} {C : Addr} {bmB : List Value} {B newId initId : String}
end
/-! ### what is raised -/
/-- the class, and the fields (none: no dict) -/
structure Exn where
  C : Addr
  fs : List (Str × D)
/-- its dict, as it stands in W -/
def ExHeld (W : Wd) (x : Exn) (ed : Option Addr) : Prop := match x.fs with
  | [] => ed = none
  | f :: fs => ∃ (dd : Addr) (vs : List V), ed = some dd ∧ ¬ W.U dd ∧ W.H dd = some (.xd (((f :: fs).map fun z => z.1).zip vs)) ∧ RepL W ((f :: fs).map fun z => z.2) vs
theorem ExHeld.mono {W W' : Wd} {x : Exn} {ed : Option Addr} (k : ∀ a u, W.H a = some u → ¬ W.U a → W'.H a = some u ∧ ¬ W'.U a) (p : ∀ a, W.P a → W'.P a) (h : ExHeld W x ed) : ExHeld W' x ed := by
  obtain ⟨C, fs⟩ := x
  cases fs with
  | nil => exact h
  | cons f fs =>
    obtain ⟨dd, vs, e, nu, hd, r⟩ := h
    obtain ⟨h1, h2⟩ := k _ _ hd nu
    exact ⟨dd, vs, e, h2, h1, RepL.mono k p _ _ r⟩
theorem ExHeld.same {W : Wd} {H : Hp} {x : Exn} {ed : Option Addr} (s : Same W.H H) (h : ExHeld W x ed) : ExHeld (W.at H) x ed := ExHeld.mono (W := W) (W' := W.at H) (fun a u e n => ⟨s a u e, n⟩) (fun _ z => z) h
/-- raised in W, where the heap was H0 before -/
def ExAt (H0 : Hp) (W : Wd) (x : Exn) (ed : Option Addr) : Prop := (∀ dd, ed = some dd → H0 dd = none) ∧ ExHeld W x ed
/-- an expression that raises x, and leaves what is known -/
def ErT (t : TE) (Γ : Gam) (x : Exn) (R : Option Addr → Hp → Prop) : Prop := ∀ (F : Addr → Prop) (σ : L2.St) (W : Wd) (Q : VK), SR F Γ σ W → (∀ ed H', Same W.H H' → ExAt W.H (W.at H') x ed → R ed H') → t σ W.H Q
/-- .. a statement -/
def ErS (t : TS) (Γ : Gam) (x : Exn) (R : Option Addr → Hp → Prop) : Prop := ∀ (F : Addr → Prop) (σ : L2.St) (W : Wd) (Dr : Ends), SR F Γ σ W → (∀ ed H', Same W.H H' → ExAt W.H (W.at H') x ed → R ed H') → t Dr σ W.H
/-- a statement that leaves what is known -/
def PuS (t : TS) (Γ Γ' : Gam) : Prop := ∀ (F : Addr → Prop) (σ : L2.St) (W : Wd) (Dr : Ends), SR F Γ σ W → (∀ σ' H', Same W.H H' → SR F Γ' σ' (W.at H') → Dr.nx σ' H') → t Dr σ W.H
theorem exAt_back {H0 H1 : Hp} {W : Wd} {x : Exn} {ed : Option Addr} (s : Same H0 H1) (h : ExAt H1 W x ed) : ExAt H0 W x ed := ⟨fun dd e => by
  cases q : H0 dd with
  | none => rfl
  | some u => exact absurd (s dd u q) (by rw [h.1 dd e]; exact fun z => nomatch z), h.2⟩
section
variable {Γ Γ' : Gam} {x : Exn} {R : Option Addr → Hp → Prop} {t u : TS} {te : TE} {c : TT} {d : D} {i : Nat} {g : TG}
theorem ers_first (h : ErS t Γ x R) : ErS (tSeq t u) Γ x R := fun F σ W Dr gg k => h F σ W _ gg k
theorem ers_seq (h : PuS t Γ Γ') (h' : ErS u Γ' x R) : ErS (tSeq t u) Γ x R := fun F σ W Dr gg k => h F σ W _ gg fun σ' H1 s1 g1 => h' F σ' (W.at H1) Dr g1 fun ed H' s' a => k ed H' (Same.trans s1 s') (exAt_back s1 a)
theorem ers_drop (h : ErT te Γ x R) : ErS (tDrop te) Γ x R := fun F σ W Dr gg k => h F σ W _ gg k
theorem ers_ifT (hc : EvT c Γ true) (h : ErS t Γ x R) : ErS (tIfS c t u) Γ x R := fun F σ W Dr gg k => hc F σ W _ gg fun H1 s1 => h F σ (W.at H1) Dr (gg.same s1) fun ed H' s' a => k ed H' (Same.trans s1 s') (exAt_back s1 a)
theorem pus_drop (h : Ev te Γ d) : PuS (tDrop te) Γ Γ := fun F σ W Dr gg k => h F σ W _ gg fun v H s r => k σ H s (gg.same s)
end
/-! ### a def that raises -/
structure SpcX where
  ty : Type
  args : ty → List D
  ok : ty → Prop
  ex : ty → Exn
def toSpX (s : SpcX) : Sp := fun vs H _ E => ∃ (x : s.ty) (F : Addr → Prop) (W : Wd), W.H = H ∧ WOk F W ∧ RepL W (s.args x) vs ∧ s.ok x ∧ ∀ ed H', Same W.H H' → ExAt W.H (W.at H') (s.ex x) ed → E (.ref (s.ex x).C) ed H'
/-- both promises -/
abbrev spRX (s : Spc) (sx : SpcX) : Sp := spOr (toSp s) (toSpX sx)
section
variable {P : Program} {w : World} {K : PySem.W.Frag} {mg : Str → Option Value} {base : Heap}
theorem fn_okX {x qual : Str} {st : Stmt} {f : Addr} {fd : FuncData} {N ps : List Str} {k : Nat} {s : Spc} {sx : SpcX} (F : Fun K x qual st f fd) (S : FnScope N ps (defScope st)) (len : ∀ x, (s.args x).length = ps.length) (lenX : ∀ x, (sx.args x).length = ps.length)
    (hbody : ∀ (cdv : Value) (A : Around) (outer : List Env) (s' : Shared) (H : Hp) (E : XK), Room k (A.deeper (envOfC qual (defScope st) s'.heap.objs.size f cdv)) →
      ∃ t, PSs (cxOf (L2.CX P w) P w K mg base N qual (defScope st) f cdv A outer s' H E) (defBody st) t ∧ (∀ x, s.ok x → Ds t (Gz0 N.length (s.args x)) ⟨fun _ => s.rel x .non, s.rel x, fun _ => False, fun _ => False⟩) ∧ ∀ x, sx.ok x → ErS t (Gz0 N.length (sx.args x)) (sx.ex x) fun ed H' => E (.ref (sx.ex x).C) ed H') :
    FnOk P w K mg base (L2.CX P w) (k + 1) f fd ps (spRX s sx) := by
  obtain ⟨oc, od, kV, doc, pm, an, cdv, ct, osl, rfl, lk, hcd⟩ := F.ex
  refine fn_of lk hcd S (fun vs H Q E h => ?_) fun A outer s' H vs Q E hr h => ?_
  · rcases h with h | ⟨x, F, W, _, _, r, _⟩
    · exact spc_len len vs H Q E h
    · rw [← r.length]; exact lenX x
  · obtain ⟨t, p, hb, hx⟩ := hbody cdv A outer s' H E hr
    refine ⟨t, p, ?_⟩
    rcases h with h | ⟨x, F, W, rfl, ok, r, ho, hE⟩
    · exact body_of h hb
    · exact hx x ho F _ W _ (sr_start ok r) hE
end
section
variable {Γ : Gam} {s : Spc} {sx : SpcX} {sp : Sp} {ta tk : TA} {E : XK} {d : D} {ds es : List D} {R : Option Addr → Hp → Prop}
theorem ert_call {x : sx.ty} (h : EvA ta Γ (sx.args x)) (ok : sx.ok x) (hR : ∀ ed H', R ed H' → E (.ref (sx.ex x).C) ed H') : ErT (tCall (spOr sp (toSpX sx)) [] E ta) Γ (sx.ex x) R := fun F σ W Q g k => h F σ W _ g fun vs H st r => by
  rw [List.append_nil]
  exact .inr ⟨x, _, W.at H, rfl, (g.same st).callOk, r, ok, fun ed H' s' a => hR ed H' (k ed H' (Same.trans st s') (exAt_back st a))⟩
theorem ert_callK {gV : List V → List V → List V} {x : sx.ty} (h : EvA ta Γ ds) (h' : EvA tk Γ es) (hg : ∀ (W : Wd) vs zs, RepL W ds vs → RepL W es zs → RepL W (sx.args x) (gV vs zs)) (ok : sx.ok x) (hR : ∀ ed H', R ed H' → E (.ref (sx.ex x).C) ed H') :
    ErT (tCallK (spOr sp (toSpX sx)) gV E ta tk) Γ (sx.ex x) R := fun F σ W Q g k => h F σ W _ g fun vs H st r => h' F σ (W.at H) _ (g.same st) fun zs H2 st2 r2 => by
  have g2 := (g.same st).same st2
  exact .inr ⟨x, _, W.at H2, rfl, g2.callOk, hg (W.at H2) vs zs (r.same (W := W.at H) st2) r2, ok, fun ed H' s' a => hR ed H' (k ed H' (Same.trans st (Same.trans st2 s')) (exAt_back (Same.trans st st2) a))⟩
end
end Dw

/-! The suite of told, by data: defs that it calls while an exception is held. -/
namespace L2H
theorem RoomH.units {k : Nat} {A : PySem.Around} (r : RoomH k A) : A.units + 64 < PySem.cLine := by have := r.un; omega
end L2H
namespace Dw
open PySem PySem.Spec PyProof.Rows L2 LamX
open L2H (RoomH PinOk cxH inv_startH)
variable [Tabs0]
/-! ### pure readings, where x is held with the dict ed -/
def EvH (t : TE) (Γ : Gam) (x : Exn) (ed : Option Addr) (d : D) : Prop := ∀ (F : Addr → Prop) (σ : L2.St) (W : Wd) (Q : VK), SR F Γ σ W → ExHeld W x ed → (∀ v H, Same W.H H → Rep (W.at H) d v → Q v H) → t σ W.H Q
/-- statements that return d -/
def RtS (t : TS) (Γ : Gam) (x : Exn) (ed : Option Addr) (d : D) : Prop := ∀ (F : Addr → Prop) (σ : L2.St) (W : Wd) (Dr : Ends), SR F Γ σ W → ExHeld W x ed → (∀ v H, Same W.H H → Rep (W.at H) d v → Dr.rt v H) → t Dr σ W.H
section
variable {Γ Γ' : Gam} {x : Exn} {ed : Option Addr} {t u : TS} {te ta tb : TE} {c : TT} {d : D} {i : Nat} {K : PySem.W.Frag}
theorem Ev.held (h : Ev te Γ d) : EvH te Γ x ed d := fun F σ W Q g hx k => h F σ W Q g k
theorem rts_ret (h : EvH te Γ x ed d) : RtS (tRet te) Γ x ed d := fun F σ W Dr g hx k => h F σ W _ g hx k
end
/-! ### their promise -/
structure SpcS where
  ty : Type
  args : ty → List D
  ok : ty → Prop
  ex : ty → Exn
  out : ty → D
section
variable {P : Program} {w : World} {K : PySem.W.Frag} {mg : Str → Option Value} {base : Heap}
end
section
variable {X : Cx} {k : Nat} {f : Addr} {fd : FuncData} {ps : List Str} {s : SpcS} {E : XK} {n : Str} {q pos : Pos} {e : Expr} {es : List Expr} {t : TA} {a : Addr} {oe : Obj} {cls : Value} {ed : Option Addr}
end
section
variable {Γ : Gam} {s : SpcS} {t : TA} {u : TS} {te ta tb : TE} {x : s.ty} {y : Exn} {a : Addr} {ed : Option Addr} {E : XK} {d d1 d2 : D} {i : Nat}
theorem sr_unset {F : Addr → Prop} {W : Wd} (ok : WOk F W) : ∀ σ : L2.St, SR F (List.replicate σ.length .unset) σ W := fun σ =>
  have no : ∀ (i : Nat) (z : Sl), (List.replicate σ.length Sl.unset)[i]? = some z → z = .unset := fun i z h => List.eq_of_mem_replicate (List.mem_of_getElem? h)
  ⟨ok, by simp, fun i d h => (nomatch no i _ h), fun i d h => (nomatch no i _ h), fun i j a ds es h => (nomatch no i _ h)⟩
end
/-! ### counting truth values -/
section
variable {K : PySem.W.Frag} {Γ : Gam} {ta tb : TE} {bs : List Bool}
end
/-! ### told(lambda: ..), where x is raised -/
section
variable {K : PySem.W.Frag} {Γ : Gam} {Tt : List (Addr × Str)} {P : Addr} {q wd : Str} {c1 c2 : Value} {n ie i : Nat} {ts : Addr → Value → Option Addr → TS} {t : XK → TE} {d : D} {Q : D → Gam → Prop} {x : Exn}
/-- the suite's reading: it returns d -/
def SuitX (ts : Addr → Value → Option Addr → TS) (n ie : Nat) (x : Exn) (d : D) : Prop := ∀ (F : Addr → Prop) (W : Wd) (σ : L2.St) (a : Addr) (Dr : Ends) (ed : Option Addr), WOk F W → σ.length = n → W.H a = none → ExHeld W x ed → (∀ v H', Same W.H H' → Rep (W.at H') d v → Dr.rt v H') → ts a (.ref x.C) ed Dr (σ.set ie (some (.ref a))) W.H
end
end Dw

/-! Defs that make lambdas: their code object is known. The head with tables of code objects. -/
namespace Dw
open PySem PySem.Spec PyProof.Rows L2 LamX
variable [Tabs0]
/-- a def of the text, with the address of its code object -/
structure FunC (K : PySem.W.Frag) (x qual : Str) (st : Stmt) (f : Addr) (fd : FuncData) (c : Addr) : Prop where
  ex : ∃ (oc : Value) (od : Option Addr) (kV doc pm : Value) (an : Option Addr) (ct : Value) (osl : Array (Option Value)), fd = PySem.W.fnOf x qual (defArgs st) (defBody st) (defScope st) .none kV doc pm an (.ref c) ct ∧ K.lookup f = some ⟨oc, od, .func fd, osl⟩ ∧ PySem.W.codeIn K (.ref c) qual = true
section
variable {P : Program} {w : World} {K : PySem.W.Frag} {mg : Str → Option Value} {base : Heap}
theorem fnGC_ok {x qual : Str} {st : Stmt} {f c : Addr} {fd : FuncData} {N ps : List Str} {k : Nat} {s : Spc} (F : FunC K x qual st f fd c) (S : FnScope N ps (defScope st)) (len : ∀ x, (s.args x).length = ps.length)
    (hbody : ∀ (A : Around) (outer : List Env) (s' : Shared) (H : Hp) (E : XK), Room k (A.deeper (envOfC qual (defScope st) s'.heap.objs.size f (.ref c))) → (A.deeper (envOfC qual (defScope st) s'.heap.objs.size f (.ref c))).guards = some [] →
      ∃ t, PSs (cxOf CX0 P w K mg base N qual (defScope st) f (.ref c) A outer s' H E).nox (defBody st) t ∧ ∀ x, s.ok x → Ds t (Gz0 N.length (s.args x)) ⟨fun _ => s.rel x .non, s.rel x, fun _ => False, fun _ => False⟩) : FnG P w K mg base (k + 1) f fd ps s := by
  obtain ⟨oc, od, kV, doc, pm, an, ct, osl, rfl, lk, hcd⟩ := F.ex
  refine ⟨len, fun A outer sh H args us vs Q E hr hg e0 hb r hsp => ?_⟩
  obtain ⟨t, p, hd⟩ := hbody A outer sh H E (hr.deeper _) hg
  have old : ∀ b o, base.get? b = some o → sh.heap.get? b = some o := fun b o e => (e0.bs b o e).1
  have KX := e0.mod.kin.keeps old
  refine codeAny_call_function hr.depth (KX _ _ lk) rfl S.co S.gen rfl (PySem.W.codeRec_of KX hcd) (hb _ _ _ _ (wpAny_newFunctionEnv_cells S.kind (cells_in S us) ?_))
  rintro env rfl s1 x1
  refine ⟨(e0.mod.nolimit.keeps old).keeps x1.toInCall.keep, codeAny_func (wpAny_mono (p.nox.run [] s1 _ H _ (inv_start S hr.hd e0 (spc_len len _ _ _ _ hsp) r x1) (body_of hsp hd)) (fun fl s' hs => ?_) fun _ _ z => z)⟩
  have done : ∀ {σ' : L2.St} {H' : Hp} {v : V} {u : Value}, Inv (cxOf CX0 P w K mg base N qual (defScope st) f (.ref c) A outer sh H E) [] σ' H' s' → RelV v u → Q v H' → CE outer P w H sh Q u s' := fun {_ H' v _} J rv q => ⟨v, H', J.os, J.bare, J.base, J.hok, rv, q⟩
  match fl, hs with
  | .ret _, ⟨_, _, _, J, rv, q⟩ => exact done J rv q
  | .next, ⟨_, _, J, q⟩ => exact done (v := .non) (u := .none) J rfl q
  | .brk, ⟨_, _, _, q⟩ => exact q.elim
  | .cont, ⟨_, _, _, q⟩ => exact q.elim
end
/-! ### the head -/
section
variable {P : Program} {w : World} {K : PySem.W.Frag} {mg mb : Str → Option Value} {k : Nat} {fa a : Addr} {fd : FuncData} {x : Str} {s1 : Shared} {vs : List Value} {ns : List Int} {sp : Spc}
/-- the script, and the tables, empty -/
def headT (K : PySem.W.Frag) (a : Addr) (vs : List Value) (ns : List Int) (ts : List Addr) : Hp := fun b => if b ∈ ts then some (.tbl #[]) else headH K a vs ns b
theorem headT_in {b : Addr} {ts : List Addr} (h : b ∈ ts) : headT K a vs ns ts b = some (.tbl #[]) := if_pos h
theorem headT_out {b : Addr} {ts : List Addr} (h : b ∉ ts) : headT K a vs ns ts b = headH K a vs ns b := if_neg h
theorem head_callT (cs : List (Addr × Addr × Str)) (T : TabsOk (cs.map fun p => (p.2.1, p.2.2)))
    (KX : K.In s1.heap) (hns : s1.heap.Ns mainGlobals mg) (hb : s1.heap.Ns builtinsNs mb) (hbb : ∀ x : Str, x ≠ "__name__" → mb x = bootBuiltins x) (hlim : s1.heap.NoLimit) (hg : s1.gens = #[]) (ha : s1.heap.get? a = some { cls := .type "list", data := .seq vs.toArray }) (hi : IntsAre vs ns) (hl : ns.length ≤ sizeLine) (hr : Room k callerA)
    (hT : ∀ p ∈ cs, s1.heap.get? p.2.1 = some { cls := .none, data := .fields #[] }) (nT : ∀ p ∈ cs, K.lookup p.2.1 = none) (hC : ∀ p ∈ cs, PySem.W.CodeHd s1.heap p.1 p.2.1)
    (hbm : ∃ (bm : Addr) (ob : Obj), mg "__builtins__" = some (.ref bm) ∧ bm ≠ builtinsNs ∧ s1.heap.get? bm = some ob ∧ ob.cls = .type "module" ∧ ob.dict = some builtinsNs ∧ ob.data = .plain)
    (F : ∀ base : Heap, (∀ p ∈ cs, TabB base mg p.1 p.2.1) → FnG P w K mg base k fa fd [x] sp) (hbind : ∀ (s : Shared) (u : Value), BindsTo s fd ⟨[u], []⟩ [(x, u)]) (hx : ∃ y : sp.ty, sp.args y = [.scr K (ns.map V.int)] ∧ sp.ok y ∧ ∀ d, sp.rel y d → d = .bl true) :
    codeAny (model P w) callerA (.call (.ref fa) ⟨[.ref a], []⟩) (fun r s' => r = .ok (.ret (.bool true)) ∧ OldK s1.heap s'.heap ∧ s'.os = s1.os ∧ AllBare s'.gens) s1 := by
  obtain ⟨ts, ets⟩ : ∃ ts : List Addr, ts = cs.map fun p => p.2.1 := ⟨_, rfl⟩
  have memT : ∀ p ∈ cs, p.2.1 ∈ ts := fun p hp => by rw [ets]; exact List.mem_map.mpr ⟨p, hp, rfl⟩
  have ofT : ∀ b ∈ ts, ∃ p ∈ cs, p.2.1 = b := fun b hb => by rw [ets] at hb; exact List.mem_map.mp hb
  have rv := vals_ints hi
  have tabO : ∀ b ∈ ts, s1.heap.get? b = some { cls := .none, data := .fields #[] } := fun b hb => by
    obtain ⟨p, hp, e⟩ := ofT b hb
    rw [← e]; exact hT p hp
  have aT : a ∉ ts := fun z => by
    have q := tabO a z
    rw [ha] at q
    cases (show Data.seq vs.toArray _ = Data.fields #[] from congrArg Obj.data (Option.some.inj q))
  -- what is neither the script nor a table stands in the ground
  have grd : ∀ {b : Addr} {o : Obj}, s1.heap.get? b = some o → (∀ vs n, o.data ≠ .seq vs n) → o.data ≠ .fields #[] → (hidT s1.heap (headT K a vs ns ts)).get? b = some o := fun {b o} e h1 h2 => by
    have nb : b ∉ ts := fun z => by
      rw [tabO b z] at e; cases e
      exact h2 rfl
    refine hidT_get e ?_
    rw [headT_out nb]
    refine headH_none fun z => ?_
    rw [z, ha] at e; cases e
    exact h1 _ _ rfl
  have dictG : ∀ {b : Addr} {o : Obj} {es : Array DictEntry} {ep : Nat}, s1.heap.get? b = some o → o.data = .dict es ep → (hidT s1.heap (headT K a vs ns ts)).get? b = some o := fun e d =>
    grd e (fun _ _ z => by rw [d] at z; cases z) (fun z => by rw [d] at z; cases z)
  have nsK : ∀ {b : Addr} {m : Str → Option Value}, s1.heap.Ns b m → (hidT s1.heap (headT K a vs ns ts)).Ns b m := fun ⟨o, es, ep, e, d, r⟩ => ⟨o, es, ep, dictG e d, d, r⟩
  have nK : ∀ b ∈ ts, K.lookup b = none := fun b hb => by
    obtain ⟨p, hp, e⟩ := ofT b hb
    rw [← e]; exact nT p hp
  have kin : K.In (hidT s1.heap (headT K a vs ns ts)) := fun b o e => hidT_get (KX b o e) (by
    have nb : b ∉ ts := fun z => by rw [nK b z] at e; cases e
    rw [headT_out nb]
    exact if_neg fun z => by rw [z.1, z.2] at e; cases e)
  have hS : SqL K (headT K a vs ns ts) a (ns.map V.int) := by
    cases q : K.lookup a with
    | none => exact .inl (.inr ⟨_, (headT_out aT).trans (if_pos ⟨rfl, q⟩)⟩)
    | some o =>
      have e := KX a o q
      rw [ha] at e; cases e
      exact .inr ⟨_, vs.toArray, _, q, rfl, rfl, rfl, by rw [List.size_toArray, hi.length]; exact hl, by simpa using rv⟩
  have hok : HOk P w (headT K a vs ns ts) s1.heap := fun b u z => by
    by_cases hb : b ∈ ts
    · rw [headT_in hb] at z; cases z
      exact tabO b hb
    · rw [headT_out hb] at z
      by_cases q : b = a ∧ K.lookup a = none
      · have z' := (if_pos q).symm.trans z
        cases z'
        rw [q.1]
        exact ⟨ha, by rw [List.length_map]; exact hl, vs, _, rv, ha⟩
      · cases (if_neg q).symm.trans z
  have hM : Mod K mg (hidT s1.heap (headT K a vs ns ts)) := ⟨kin, nsK hns, ⟨mb, nsK hb, hbb⟩, hlim.imp fun mc h => ⟨nsK h.1, h.2⟩⟩
  have TB : ∀ p ∈ cs, TabB (hidT s1.heap (headT K a vs ns ts)) mg p.1 p.2.1 := fun p hp => by
    have hTp := hT p hp
    refine ⟨?_, ?_, fun z => ?_⟩
    · obtain ⟨o, us, file, tf, flags, tg, inF, text, tt, e1, r1, r2, r3, r⟩ := hC p hp
      refine ⟨o, us, file, tf, flags, tg, inF, text, tt, grd e1 (fun _ _ z => ?_) (fun z => ?_), r1, r2, r3, r⟩
      · rw [r2] at z; cases z
      · rw [r2] at z; cases z
        simp at r3
    · obtain ⟨bm, ob, b1, b2, b3, b4, b5, b6⟩ := hbm
      refine ⟨bm, ob, b1, b2, fun q => ?_, fun q => ?_, grd b3 (fun _ _ z => ?_) (fun z => ?_), b4, b5, b6⟩
      · obtain ⟨o, es, ep, e, hd, _⟩ := hns
        rw [q, e] at b3; cases b3
        rw [hd] at b6; cases b6
      · rw [q, hTp] at b3; cases b3
        cases b6
      · rw [b6] at z; cases z
      · rw [b6] at z; cases z
    · obtain ⟨o, es, ep, e, hd, _⟩ := hns
      rw [z, hTp] at e; cases e
      cases hd
  obtain ⟨y, e1, o1, r1⟩ := hx
  have tabI : ∀ p q, Tabs0.nm p = some q → p ∈ ts := fun p q z => by
    obtain ⟨c, hc, e⟩ := List.mem_map.mp (T.all p q z)
    cases e
    exact memT c hc
  have rS : Rep ⟨headT K a vs ns ts, fun b => b ∈ ts, fun b => b ∈ ts⟩ (.scr K (ns.map V.int)) (.ref a) := by
    refine ⟨a, rfl, ?_, tabI⟩
    rcases hS with (h | ⟨o, h⟩) | q
    · exact .inl ⟨_, h, aT, .inl rfl⟩
    · exact .inl ⟨_, h, aT, .inr ⟨o, rfl⟩⟩
    · exact .inr q
  have hsp : toSp sp [.ref a] (headT K a vs ns ts) (fun v _ => v = .bl true) (fun _ _ _ => False) := by
    refine ⟨y, fun _ => False, ⟨headT K a vs ns ts, fun b => b ∈ ts, fun b => b ∈ ts⟩, rfl, ⟨fun b h z => ?_, fun b h => h.elim, fun b h => ⟨h, fun z => z, ?_⟩⟩, by rw [e1]; exact RepL.one rS, o1, fun d v W' h _ _ rp => by rw [r1 d h] at rp; exact rp⟩
    · have z : headT K a vs ns ts b = none := z
      rw [headT_in h] at z; cases z
    · obtain ⟨p, hp, e⟩ := ofT b h
      have nm : Tabs0.nm b = some p.2.2 := by
        rw [← e]; exact T.sound (p.2.1, p.2.2) (List.mem_map.mpr ⟨p, hp, rfl⟩)
      exact .mk nm (TabS.nil (headT_in h)) fun ps pos c q1 q2 => by
        have q1' := (headT_in h).symm.trans q1
        cases q1'
        simp [codeAmong] at q2
  refine codeAny_mono ((F _ TB).2 callerA [] s1 _ ⟨[.ref a], []⟩ [.ref a] [.ref a] _ _ hr rfl ⟨rfl, hM, fun b o e => of_hidT e, Nat.le_of_eq (hidT_size _ _), trivial, fun b hb => absurd (show b ∈ ([] : List Addr) from hb) (by simp), hok, .of_eq hg⟩ (hbind s1 (.ref a)) (.cons rfl .nil) hsp) fun r s' h => ?_
  match r, h with
  | .error _, h => exact (show False from h).elim
  | .ok .next, h => exact (show False from h).elim
  | .ok .brk, h => exact (show False from h).elim
  | .ok .cont, h => exact (show False from h).elim
  | .ok (.ret u), ⟨v, H', os, bare, un, hok', r', q⟩ =>
    have q' : v = .bl true := q
    subst q'
    obtain rfl : u = Value.bool true := r'
    have key : ∀ b o, b ∉ ts → s1.heap.get? b = some o → s'.heap.get? b = some o := fun b o nb e => by
      by_cases c : b = a ∧ K.lookup a = none
      · have z : headT K a vs ns ts b = _ := (headT_out nb).trans (if_pos c)
        have e3 := (hok b _ z).1
        rw [e] at e3; cases e3
        exact (hok' b _ (un.frzs b _ _ z)).1
      · exact un.keep b o e ((headT_out nb).trans (if_neg c)) (by intro z; exact absurd (show b ∈ ([] : List Addr) from z) (by simp)) (by simp)
    have grown : ∀ b ∈ ts, ∃ more : Array Value, s'.heap.get? b = some { cls := .none, data := .fields more } := fun b hb => by
      obtain ⟨more, z⟩ := un.tbls b #[] (headT_in hb)
      exact ⟨_, hok' b _ z⟩
    refine ⟨rfl, ⟨fun b o e => ?_, fun b o e => ?_⟩, os, bare⟩
    · by_cases hb : b ∈ ts
      · obtain ⟨more, hm⟩ := grown b hb
        rw [tabO b hb] at e; cases e
        obtain ⟨p, hp, ep⟩ := ofT b hb
        have CT := (hC p hp).tab (hT p hp)
        rw [ep] at CT
        exact .inr (.inl ⟨CT.isCodeTable, rfl, #[], more, rfl, by rw [Array.empty_append]; exact hm⟩)
      · exact .inl (key b o hb e)
    · by_cases hb : b ∈ ts
      · obtain ⟨more, hm⟩ := grown b hb
        exact ⟨_, hm⟩
      · exact ⟨o, key b o hb e⟩
end
/-- the table of a def of the law's text is empty, its code object stands -/
def TabOf (K : PySem.W.Frag) (f : Addr) (h : Heap) : Prop := ∀ (c P : Addr) (o : Obj) (fd : FuncData) (e : Value) (dd : Option Addr) (vs : Array Value) (sl : Array (Option Value)), K.lookup f = some o → o.data = .func fd → fd.code = .ref c → K.lookup c = some ⟨e, dd, .fields vs, sl⟩ → vs[11]? = some (.ref P) →
  h.get? P = some { cls := .none, data := .fields #[] } ∧ PySem.W.CodeHd h c P
end Dw

/-! The end of a law with tables of code objects. -/
namespace Dw
open PySem PySem.Spec PyProof.Rows L2 LamX
/-- what the end must bring -/
def EndT (l : PySem.W.OpenLaw) (w : World) (K : PySem.W.Frag) (mg : Str → Option Value) (k : Nat) (fa : Addr) (x : Str) (h : Heap) (sp : Spc) : Prop :=
  ∃ (fd : FuncData) (I : Tabs0) (cs : List (Addr × Addr × Str)), (∀ (s : Shared) (u : Value), BindsTo s fd ⟨[u], []⟩ [(x, u)]) ∧ @TabsOk I (cs.map fun p => (p.2.1, p.2.2)) ∧ (∀ p ∈ cs, h.get? p.2.1 = some { cls := .none, data := .fields #[] }) ∧ (∀ p ∈ cs, K.lookup p.2.1 = none) ∧ (∀ p ∈ cs, PySem.W.CodeHd h p.1 p.2.1) ∧
    ∀ base : Heap, (∀ p ∈ cs, TabB base mg p.1 p.2.1) → @FnG I l.prog w K mg base k fa fd [x] sp
theorem walk_GT {l : PySem.W.OpenLaw} {k : Nat} {x : Str} {q : Program} {loose : List Str} {XP : (Str → Option Value) → Heap → Prop} {YP : World → Heap → Prop} {d : DefRec} {K : Params → PySem.W.Frag} {sp : PySem.W.Frag → Spc} (hn : l.most = some 63) (hdf : d.params.defaults = []) (hr : Room k callerA)
    (hY : ∀ (w : World) (h : Heap), YP w h → (K w.params).In h) (hsp : ∀ (K : PySem.W.Frag) (ns : List Int), ns.length ≤ 63 → (∀ z ∈ ns, Builtin.Int.intBits z ≤ 1048576) → ∃ y : (sp K).ty, (sp K).args y = [.scr K (ns.map V.int)] ∧ (sp K).ok y ∧ ∀ d, (sp K).rel y d → d = .bl true)
    (F : ∀ (w : World) (mg : Str → Option Value) (fa : Addr) (h : Heap), (K w.params).In h → h.Ns mainGlobals mg → mg d.name = some (.ref fa) → (∀ (y : Str) (f : Addr), ((recsOf q).any fun e => e.name == y) = true → mg y = some (.ref f) → TabOf (K w.params) f h) → EndT l w (K w.params) mg k fa x h (sp (K w.params))) :
    PySem.W.WalkO q loose XP YP l.row.toRowW d [] (fun f vs => PySem.call f vs) := by
  refine Att.attach_callB hn hdf fun w _ s1 mg mb fa _ _ _ _ a _ ns G Y _ _ _ hmg hobj hints hlen hbits hg => ?_
  have KX := hY w _ Y
  obtain ⟨fd, I, cs, hb, T, hT, nT, hC, hF⟩ := F w mg fa _ KX G.T.g hmg fun y f hy hm c P o1 fd1 e dd vs1 sl k1 k2 k3 k4 k5 => by
    obtain ⟨dL, hm1, hn1⟩ := List.any_eq_true.mp hy
    have hn2 : dL.name = y := beq_iff_eq.mp hn1
    obtain ⟨a', o', fd', c', P', h1, h2, h3, h4, h5, h6⟩ := G.T.tab dL hm1
    rw [hn2, hm] at h1; cases h1
    have g1 := KX _ _ k1
    rw [g1] at h2; cases h2
    rw [k2] at h3; cases h3
    rw [k3] at h4; cases h4
    have CH := PySem.W.CodeHd.of h5 h6
    obtain ⟨⟨oc, vc, e1, _, e3, e4⟩, hP⟩ := h6
    have g2 := KX _ _ k4
    rw [g2] at e1; cases e1
    cases e3
    rw [k5] at e4; cases e4
    exact ⟨hP, CH⟩
  exact @head_callT I _ _ _ _ _ _ _ _ _ _ _ _ _ _ cs T KX G.T.g G.T.b G.T.builtins G.T.nolimit hg hobj hints (Nat.le_trans hlen (by decide)) hr hT nT hC G.T.bmain hF hb (hsp _ ns hlen hbits)
end Dw

/-! What is told of an error's class, by a row of truth values. -/
namespace Dw
open PySem PySem.Spec PyProof.Rows L2 LamX
theorem TabsOk.uniq [Tabs0] {Tt : List (Addr × Str)} (T : TabsOk Tt) {P : Addr} {q : Str} (h : (P, q) ∈ Tt) : ∀ p ∈ Tt, p.1 = P → p.2 = q := fun p hp e => by
  have h1 := T.sound p hp
  have h2 := T.sound (P, q) h
  rw [e] at h1
  rw [h1] at h2
  exact Option.some.inj h2
end Dw

/-! [f for a in xs if p for b in ys if q]; all of whole numbers. -/
namespace Dw
open PySem PySem.Spec PyProof.Rows L2
variable [Tabs0]
/-- what is walked stands out of the reach of what changes -/
structure ItK (W : Wd) (J : It) (xs : List D) : Prop where
  go : ∀ (W1 : Wd) (i : Nat) (x : D), (∀ a u, W.H a = some u → ¬ W.U a → W1.H a = some u ∧ ¬ W1.U a) → W1.P = W.P → xs[i]? = some x → J.go i W1.H ∧ ∀ v H', J.yld i W1.H v H' → Same W1.H H' ∧ Rep (W1.at H') x v
  stop : ∀ (W1 : Wd), (∀ a u, W.H a = some u → ¬ W.U a → W1.H a = some u ∧ ¬ W1.U a) → J.stop xs.length W1.H
section
variable {K : PySem.W.Frag} {Γ : Gam} {t : TE} {ta : TA} {xs : List D}
end
section
variable {Γ : Gam} {wi wi1 : TI} {g g1 : TG} {tt tt1 : TT} {te : TE} {vs vs1 : List Nat}
end

/-! ### all of whole numbers -/
/-! ### xs = [e, ..], a list of one's own that is drawn -/
theorem ds_asg_ownL {Γ : Gam} {ta : TA} {De : DE} {i : Nat} (h : DlA ta Γ fun es Γ1 => es.length ≤ sizeLine ∧ De.nx (Γ1.set i (.own es))) : Ds (tAsg (tLst ta) (gName i)) Γ De := fun F σ W Dr g l => h F σ W _ g fun vs W1 es Γ1 s1 g1 r ⟨hz, q⟩ => ⟨by rw [← r.length]; exact hz, fun p hp => by
  have sm : Same W1.H (upd W1.H p (.lst vs)) := same_upd hp
  obtain ⟨st, g2⟩ := g1.setOwn (i := i) sm hp upd_same (RepL.plus (W := W1) hp sm r)
  exact l.nx _ (W1.plus _ p) _ (s1.trans st) g2 q⟩
end Dw

/-! max of a list; sorted of a tuple of whole numbers. -/
namespace Dw
open PySem PySem.Spec PyProof.Rows L2
variable [Tabs0]
section
variable {K : PySem.W.Frag} {Γ : Gam} {ta tb : TE}
end
end Dw

/-! Errors with a field: made, asked for their class and their field, shown. -/
namespace Dw
open PySem PySem.Spec PyProof.Rows L2 LamX
variable [Tabs0]
/-! ### X(given), where X's __init__ stores it -/
/-- the promise of such an __init__ -/
def spXI (C : Addr) (f : Str) : Sp := fun vs H Q _ => ∃ (a : Addr) (y : V), vs = [.ref a, y] ∧ H a = some (exo a C none) ∧ ∀ dx, H dx = none → dx ≠ a → Q .non (upd (upd H dx (exd dx [(f, y)])) a (exo a C (some dx)))
section
variable {P : Program} {w : World} {K : PySem.W.Frag} {mg : Str → Option Value} {base : Heap}
theorem fn_xinit {qual x f : Str} {st : Stmt} {fa C : Addr} {fd : FuncData} {N ps : List Str} {k : Nat} (F : Fun K x qual st fa fd) (S : FnScope N ps (defScope st)) (hp : ps.length = 2) (T : OexC K C) (hno : PySem.W.findIn K (.ref C) f = some none)
    (hN : N.length = 2)
    (hbody : ∀ (cdv : Value) (A : Around) (outer : List Env) (s' : Shared) (H : Hp) (E : XK), PSs (cxOf CX0 P w K mg base N qual (defScope st) fa cdv A outer s' H E).nox (defBody st) (tOst K f (tVar 0) (tVar 1))) :
    FnOk P w K mg base CX0 (k + 1) fa fd ps (spXI C f) :=
  F.ok S (fun vs H Q E ⟨a, y, e, _⟩ => by rw [e, hp]; rfl) fun cdv A outer s' H vs Q E hr ⟨a, y, e, ha, q⟩ => by
    subst e
    refine ⟨_, hbody cdv A outer s' H E, ?_⟩
    have e0 : (L2.start N [.ref a, y])[0]? = some (some (V.ref a)) := by unfold L2.start; simp
    have e1 : (L2.start N [.ref a, y])[1]? = some (some y) := by unfold L2.start; simp
    exact ⟨y, e1, .ref a, e0, a, C, rfl, T, hno, .inl ⟨ha, fun dx h1 h2 => q dx h1 h2⟩⟩
end
/-! ### raise X(e) -/
theorem ers_raiseF {Γ : Gam} {C : Addr} {f : Str} {ta : TA} {d : D} {E : XK} {x : Exn} (hx : x = ⟨C, [(f, d)]⟩) (h : EvA ta Γ [d]) : ErS (fun _ σ H => tMkO C (spXI C f) [] ta σ H fun cls ed H' => E cls ed H') Γ x (fun ed H' => E (.ref C) ed H') := fun F σ W Dr g k => h F σ W _ g fun vs H1 s1 r => by
  subst hx
  obtain ⟨v, _, rfl, rv, rfl⟩ := r
  refine ⟨by show 1 ≤ 1000; decide, fun a ha => ⟨a, v, rfl, upd_same, fun dx hd hne => ⟨rfl, dx, [(f, v)], upd_same, ?_, ?_, ?_⟩⟩⟩
  · rw [upd_ne hne, upd_same]
  · rw [upd_ne hne] at hd
    exact hd
  · have hd1 : H1 dx = none := by rw [upd_ne hne] at hd; exact hd
    have sm : Same H1 (upd (L2.del (upd (upd (upd H1 a (exo a C none)) dx (exd dx [(f, v)])) a (exo a C (some dx))) a) dx (.xd [(f, v)])) := fun b u e => by
      have nb : b ≠ dx := fun z => by rw [z, hd1] at e; cases e
      have na : b ≠ a := fun z => by rw [z, ha] at e; cases e
      rw [upd_ne nb, L2.del_ne na, upd_ne na, upd_ne nb, upd_ne na]
      exact e
    refine k (some dx) _ (Same.trans s1 sm) ⟨fun dd e => ?_, dx, [v], rfl, ?_, upd_same, v, [], rfl, ?_, rfl⟩
    · cases e
      exact s1.free hd1
    · exact fun u => g.ok.dom dx u (s1.free hd1)
    · exact Rep.same (W := W.at H1) sm rv
/-! ### asking the held error -/
section
variable {X : Cx} {a D0 : Addr} {oe : Obj} {ed : Option Addr}
/-- e.f, e pinned -/
theorem pe_xfP {e : Expr} {te : TE} {pos : Pos} {n : Str} (hp : (a, oe) ∈ X.pn) (T : XfC X.K D0) (hno : PySem.W.findIn X.K (.ref D0) n = some none) (hz : Zc (.ref D0) ed oe) (hf : ∃ vs, oe.data = .fields vs) (he : PE X e te)
    (hb : attributeBase e n X.env (eval e X.env) = eval e X.env := by rfl) :
    PE X (.Attribute e n pos) (tXf a (.ref D0) ed D0 n te) := by
  refine ⟨fun pins s σ H Q I h => ?_⟩
  refine attr_of hb (thn (he.run pins s σ H _ I h) fun u s1 ⟨x, H1, I1, rx, ex, ec, dd, fs, v, edd, ea, l, q⟩ => ?_)
  subst ex edd
  obtain rfl : u = Value.ref a := rx
  have hget := (I1.pin (a, oe) (List.mem_append_left _ hp)).1
  have hx : ObjOk X.prog X.w H1 s1.heap dd (.xd fs) := I1.hok dd _ ea
  obtain ⟨mA, hns, hr⟩ := hx
  obtain ⟨od, ho, hl⟩ := lookIn_ns hns
  have hn := hr n
  rw [l] at hn
  obtain ⟨w', hw, rw'⟩ := RelO.some_of hn
  exact HandSPX.exc_get I1.kIn (inst_some hz hf hget ho) T.ga T.gg T.exC (PySem.W.findObj_own T.hdC hno rfl (by rw [hl, hw])) (handed_of rw') ⟨v, H1, I1.tok _, rw', q⟩
end
end Dw

/-! Errors with fields, as told's suite reads them; repr of any data. -/
namespace Dw
open PySem PySem.Spec PyProof.Rows L2 LamX
variable [Tabs0]
/-! ### repr of any data -/
def rReprX (K : PySem.W.Frag) : List V → Hp → VK → Prop := fun xs H Q => ∃ (v : V) (d : PyData), xs = [v] ∧ Dp K H v d ∧ d.showable = true ∧ d.hasDict = false ∧ d.depth ≤ 64 ∧ d.shown.length ≤ sizeLine ∧ Q (.str d.shown) H
theorem cr_reprX {X : Cx} (hu : X.A.units + 66 < PySem.cLine) (hG : X.A.guards = some []) : CallR X (.builtin "repr") (rReprX X.K) := by
  intro pins s σ H xs us Q I r h
  obtain ⟨v, d, rfl, hd, h1, h2, h3, h4, q⟩ := h
  obtain ⟨u, rfl, ru⟩ := vals1 r
  cases d with
  | none =>
    cases hd
    obtain rfl : u = Value.none := ru
    exact P.repr_of_none ⟨.str _, H, I.tok _, ⟨_, rfl⟩, q⟩
  | bool b =>
    cases hd
    obtain rfl : u = Value.bool b := ru
    cases b
    · exact P.repr_of_bool ⟨.str _, H, I.tok _, ⟨_, rfl⟩, q⟩
    · exact P.repr_of_bool ⟨.str _, H, I.tok _, ⟨_, rfl⟩, q⟩
  | int i =>
    cases hd
    obtain ⟨t, rfl⟩ := ru
    exact P.repr_of_int (of_decide_eq_true h1) ⟨.str _, H, I.tok _, ⟨_, rfl⟩, q⟩
  | str x =>
    cases hd
    obtain ⟨t, rfl⟩ := ru
    exact P.repr_of_str ⟨.str _, H, I.tok _, ⟨_, rfl⟩, q⟩ h4
  | list ds =>
    cases hd with | lst e l => ?_
    cases ru
    obtain ⟨as, r1⟩ := Dp.reads I (.list ds) _ _ (.lst e l) rfl
    exact repr_of_reads' r1 h1 (PyData.noDict_hsm h2) hG (by omega) (fun _ _ e => e) (fun h' u tk hk => ⟨.str _, H, I.kept (t' := tk) hk, ⟨_, rfl⟩, q⟩) h4
  | tuple ds =>
    cases hd with | tup e l => ?_
    cases ru
    obtain ⟨as, r1⟩ := Dp.reads I (.tuple ds) _ _ (.tup e l) rfl
    exact repr_of_reads' r1 h1 (PyData.noDict_hsm h2) hG (by omega) (fun _ _ e => e) (fun h' u tk hk => ⟨.str _, H, I.kept (t' := tk) hk, ⟨_, rfl⟩, q⟩) h4
  | dict kv => cases hd
/-! ### held readings -/
def EvHA (t : TA) (Γ : Gam) (x : Exn) (ed : Option Addr) (ds : List D) : Prop := ∀ (F : Addr → Prop) (σ : L2.St) (W : Wd) (Q : List V → Hp → Prop), SR F Γ σ W → ExHeld W x ed → (∀ vs H, Same W.H H → RepL (W.at H) ds vs → Q vs H) → t σ W.H Q
section
variable {Γ : Gam} {x : Exn} {ed : Option Addr} {t tr : TA} {te ta tb : TE} {d : D} {ds es : List D} {K : PySem.W.Frag}
theorem evha_nil : EvHA tNil Γ x ed [] := fun F σ W Q g hx k => k [] W.H (Same.refl _) rfl
theorem evha_cons (h : EvH te Γ x ed d) (hr : EvHA tr Γ x ed ds) : EvHA (tCons te tr) Γ x ed (d :: ds) := fun F σ W Q g hx k =>
  h F σ W _ g hx fun v H s r => hr F σ (W.at H) _ (g.same s) (hx.same s) fun vs H' s' l => k (v :: vs) H' (Same.trans s s') ⟨v, vs, rfl, Rep.same (W := W.at H) s' r, l⟩
theorem evh_lst (h : EvHA t Γ x ed ds) (hz : ds.length ≤ sizeLine) : EvH (tLst t) Γ x ed (.lst ds) := fun F σ W Q g hx k => h F σ W _ g hx fun vs H s l => ⟨by rw [← l.length]; exact hz, fun p hp =>
  k _ _ (Same.trans s (same_upd hp)) (rep_new_lst (W := W.at H) (g.same s).ok.dom hp l)⟩
theorem fs_look {W : Wd} {f : Str} {d : D} : ∀ {fs : List (Str × D)} {vs : List V}, fs.lookup f = some d → RepL W (fs.map fun z => z.2) vs → ∃ v, ((fs.map fun z => z.1).zip vs).lookup f = some v ∧ Rep W d v
  | [], _, h, _ => by cases h
  | (g, e) :: fs, vs, h, r => by
    obtain ⟨v, ws, rfl, rv, rw'⟩ := r
    simp only [List.map_cons, List.zip_cons_cons, List.lookup_cons] at h ⊢
    cases q : f == g with
    | true =>
      rw [q] at h
      cases h
      exact ⟨v, rfl, rv⟩
    | false =>
      rw [q] at h
      exact fs_look h rw'
/-- e.f -/
theorem evh_xf {a : Addr} {f : Str} (h : Ev te Γ (.raw (.ref a))) (hf : x.fs.lookup f = some d) : EvH (tXf a (.ref x.C) ed x.C f te) Γ x ed d := fun F σ W Q g hx k =>
  h F σ W _ g fun v H s r => by
    have hx' : ExHeld (W.at H) x ed := hx.same s
    obtain ⟨C, fs⟩ := x
    cases fs with
    | nil => cases hf
    | cons f0 fs =>
      obtain ⟨dd, vs, e, _, hd, r2⟩ := hx'
      obtain ⟨v1, l, rv⟩ := fs_look hf r2
      exact ⟨r, rfl, dd, _, v1, e, hd, l, k v1 H s rv⟩
theorem rep_reprX {W : Wd} {k : Nat} {v : V} {Q : VK} (r : Rep W d v) (h1 : dOk k d = true) (hk : k ≤ 64) (h2 : shOk d = true) (h3 : shB d ≤ sizeLine) (q : Q (.str (PyData.shown (py d))) W.H) : rReprX K [v] W.H Q := by
  obtain ⟨p1, _, p3⟩ := dOk_py k _ h1
  obtain ⟨s1, s2⟩ := shOk_py _ h2
  exact ⟨v, _, rfl, dp_of d v p1 r, s1, s2, Nat.le_trans p3 hk, Nat.le_trans (shB_le k d h1) h3, q⟩
end
end Dw

/-! x -= e; a = b = e. -/
namespace Dw
open PySem PySem.Spec PyProof.Rows L2
variable [Tabs0]
section
variable {Γ : Gam} {te : TE} {De : DE} {d : D}
end
end Dw

/-! A tuple of whole numbers in a list of such: in, index. -/
namespace Dw
open PySem PySem.Spec PyProof.Rows L2
variable [Tabs0]
theorem plain_ordN : ∀ o : List Nat, PyData.plainAll (pys (ordN o)) = true
  | [] => rfl
  | k :: o => by
    show (PyData.plain (.int k) && PyData.plainAll (pys (ordN o))) = true
    rw [plain_ordN o]; rfl
@[reducible] def dtT : PySem.W.Datum (List Nat) where
  toD o := py (.tup (ordN o))
  plain o := plain_ordN o
  eqv a b := eqv_ints a b
  depth := 1
  depth_le o := (dOk_py 1 (.tup (ordN o)) (dOks_map fun _ _ => rfl)).2.2
end Dw

/-! sorted of a list of tuples of whole numbers that stands in order; an expression read in one of two ways. -/
namespace Dw
open PySem PySem.Spec PyProof.Rows L2
variable [Tabs0]
end Dw

/-! x, ys, zs = e, [..], [..] where ys and zs are one's own. -/
namespace Dw
open PySem PySem.Spec PyProof.Rows L2
variable [Tabs0]
end Dw

/-! sorted of alike data; sorted(xs, key=lambda x: (len(x), x)) of tuples of whole numbers. -/
namespace Dw
open PySem PySem.Spec PyProof.Rows L2 LamX
section
variable {X : Cx} {pins : List (Addr × Obj)} {σ : L2.St} {H : Hp} {s : Shared} {β : Type}
end
/-! ### key=lambda x: (len(x), x) -/
section
variable {X : Cx} {pins : List (Addr × Obj)} {σ : L2.St} {H : Hp} {s : Shared}
end

end Dw

/-! Tagged data (what stands beside it: all tables may change); sorted lots by data. -/
namespace Dw
open PySem PySem.Spec PyProof.Rows L2 LamX
variable [Tabs0]
/-! ### tags -/
section
variable {Γ : Gam} {t : TE} {d e : D} {i : Nat} {Q : D → Gam → Prop}
def TabIn (W : Wd) : Prop := ∀ p q, Tabs0.nm p = some q → W.P p
/-- a slot that knows of the tables -/
def TgS (s : Sl) : Prop := s = .val .purse ∨ ∃ d, s = .val (.tag d)
theorem TgS.purse : TgS (.val .purse) := .inl rfl
theorem TgS.tag {d : D} : TgS (.val (.tag d)) := .inr ⟨d, rfl⟩
theorem SR.tabs {F : Addr → Prop} {Γ : Gam} {σ : L2.St} {W : Wd} {s : Sl} (g : SR F Γ σ W) (h : Γ[i]? = some s) (ht : TgS s) : TabIn W := by
  rcases ht with rfl | ⟨d, rfl⟩
  · obtain ⟨_, _, _, _, _, _, t⟩ := g.val i .purse h
    exact t
  · obtain ⟨_, _, _, t⟩ := g.val i (.tag d) h
    exact t
theorem ev_untag (h : Ev t Γ (.tag d)) : Ev t Γ d := fun F σ W Q g k => h F σ W Q g fun v H s r => k v H s r.1
theorem ev_tag {s : Sl} (hs : Γ[i]? = some s) (ht : TgS s) (h : Ev t Γ d) : Ev t Γ (.tag d) := fun F σ W Q g k => h F σ W Q g fun v H s r => k v H s ⟨r, g.tabs hs ht⟩
end
/-! ### the order of lots -/
/-! ### what is sorted, as data -/
section
variable {K : PySem.W.Frag} {Γ : Gam} {Tt : List (Addr × Str)} {P : Addr} {q : Str} {i : Nat} {te : TE} {l : List (List Nat)} {Q : D → Gam → Prop}
end
/-! ### sorted of alike data -/
end Dw

/-! A def that makes a lambda for sorted. -/
namespace Dw
open PySem PySem.Spec PyProof.Rows L2 LamX
variable [Tabs0]
section
variable {P : Program} {w : World} {K : PySem.W.Frag} {mg : Str → Option Value} {base : Heap}
end
end Dw
namespace Dw
open PySem PySem.Spec PyProof.Rows L2
variable [Tabs0]
end Dw
namespace Dw
open PySem PySem.Spec PyProof.Rows L2
variable [Tabs0]
end Dw

/-! told of what changes tables; several tables. -/
namespace Dw
open PySem PySem.Spec PyProof.Rows L2 LamX
variable [Tabs0]
section
variable {K : PySem.W.Frag} {Γ : Gam} {Tt : List (Addr × Str)} {P : Addr} {q wd : Str} {c1 c2 : Value} {n ie i : Nat} {ts : Addr → Value → Option Addr → TS} {t : XK → TE} {Q Q1 : D → Gam → Prop}
end
section
variable {Γ : Gam} {s : Spc} {sp : Sp} {ta tk : TA} {E : XK} {ds es : List D} {Q : D → Gam → Prop}
end
end Dw
namespace Dw
open PySem
theorem mem_lk {p : Addr} {q : Str} : ∀ {l : List (Addr × Str)}, l.lookup p = some q → (p, q) ∈ l
  | [], h => by cases h
  | a :: l, h => by
    cases e : p == a.1 with
    | true =>
      rw [List.lookup, e] at h
      have h : some a.2 = some q := h
      have e1 : p = a.1 := by simpa using e
      rw [e1, ← Option.some.inj h]
      exact List.mem_cons_self
    | false =>
      rw [List.lookup, e] at h
      exact List.mem_cons_of_mem _ (mem_lk h)
/-- tables by their list -/
theorem tabsOk_of {l : List (Addr × Str)} (nd : (l.map (·.1)).Nodup) : @TabsOk ⟨fun a => l.lookup a⟩ l := by
  refine @TabsOk.mk ⟨fun a => l.lookup a⟩ l (fun p hp => ?_) fun p q z => mem_lk z
  show l.lookup p.1 = some p.2
  induction l with
  | nil => cases hp
  | cons a l ih =>
    obtain ⟨n1, n2⟩ := List.nodup_cons.mp nd
    rcases List.mem_cons.mp hp with rfl | hp
    · simp [List.lookup]
    · have : p.1 ≠ a.1 := fun z => n1 (List.mem_map.mpr ⟨p, hp, z⟩)
      have e : (p.1 == a.1) = false := by simpa using this
      rw [List.lookup, e]
      exact ih n2 hp
theorem f_cons {α : Type} {P : α → Prop} {a : α} {l : List α} (h : P a) (t : ∀ p ∈ l, P p) : ∀ p ∈ a :: l, P p := fun p hp => (List.mem_cons.mp hp).elim (fun e => e ▸ h) (t p)
theorem f_nil {α : Type} {P : α → Prop} : ∀ p ∈ ([] : List α), P p := fun _ h => absurd h (by simp)
end Dw

/-! sorted(set(xs)), xs a list of whole numbers. -/
namespace Dw
open PySem PySem.Spec PyProof.Rows L2
variable [Tabs0]
section
variable {P : Program} {w : World} {A : Around} {E : Value → Shared → Prop} {s : Shared}
end
end Dw

/-! own dicts: d = {}, d[k] = v, d[k] -/
namespace Dw
open PySem PySem.Spec PyProof.Rows L2
variable [Tabs0]
section
variable {K : PySem.W.Frag} {Γ : Gam} {ta tb te tk ty : TE} {De : DE} {ds : List D} {d : D}
end
end Dw

/-! str, repr, bool, == and != of objects whose class has its own __str__, __repr__, __eq__ (and no __bool__, __len__, __ne__). -/
namespace Dw
open PySem PySem.Spec PyProof.Rows L2
section
variable {X : Cx}
/-- a def of the text, called somewhere below the running body -/
theorem run_below {k : Nat} {f : Addr} {fd : FuncData} {ps : List Str} {sp : Sp} (F : FnOk X.prog X.w X.K X.mg X.base CX0 k f fd ps sp) {A : Around} (hr : Room k A) (fr : A.frames = X.A.frames) (hb : Binds X.K fd ps [])
    {pins : List (Addr × Obj)} {σ : L2.St} {H : Hp} {s : Shared} {us : List Value} {vs : List V} {Q : VK} {E1 : Value → Shared → Prop} (I : Inv X pins σ H s) (r : Vals vs us) (hsp : sp vs H Q E0) {R : Value → Shared → Prop}
    (hR : ∀ u s', EP X pins σ Q u s' → R u s') : wpAny (model X.prog X.w) A (call (.ref f) us) R E1 s := by
  have e0 : Env0 X.prog X.w X.K X.mg X.base A X.stack s H := by
    have e := I.env0
    exact ⟨by rw [fr]; exact e.frames, e.mod, e.bs, e.bsz, e.funs, e.frf, e.hok, e.bare⟩
  have hl : us.length = ps.length := by rw [← r.length]; exact F.len _ _ _ _ hsp
  have b := hb s us I.kIn (by rw [List.append_nil]; exact hl)
  rw [List.append_nil] at b
  refine wpAny_call (codeAny_mono (F.run A X.stack s H ⟨us, []⟩ us vs Q E0 hr e0 b r hsp) fun r s' hq => ?_)
  match r, hq with
  | .error e, hq => exact (show False from hq).elim
  | .ok .next, hq => exact (show False from hq).elim
  | .ok .brk, hq => exact (show False from hq).elim
  | .ok .cont, hq => exact (show False from hq).elim
  | .ok (.ret u), hq => exact hR _ _ (I.after hq)
/-- str(x), repr(x): the own def gives a text -/
def rOwn1 (C : Addr) (sp : Sp) : List V → Hp → VK → Prop := fun xs H Q => ∃ (a dx : Addr) (fs : List (Str × V)), xs = [.ref a] ∧ H a = some (.ins C dx fs) ∧ sp [.ref a] H (fun v H' => (∃ x, v = .str x) ∧ Q v H') E0
theorem str_back {pins : List (Addr × Obj)} {σ : L2.St} {Q : VK} {u : Value} {s' : Shared} (h : EP X pins σ (fun v H' => (∃ x, v = .str x) ∧ Q v H') u s') : PySem.W.StrBack (EP X pins σ Q) u s' := by
  obtain ⟨v, H', I', r, ⟨x, rfl⟩, q⟩ := h
  obtain ⟨t, rfl⟩ := r
  exact ⟨.str x, H', I', ⟨t, rfl⟩, q⟩
variable {C f : Addr} {fd : FuncData} {p : Str} {n : Nat} {sp : Sp}
theorem cr_strOwn (F : FnOk X.prog X.w X.K X.mg X.base CX0 n f fd [p] sp) (hr : Room (n + 2) X.A) (hs : PySem.W.findIn X.K (.ref C) "__str__" = some (some (.ref f))) (hf : PySem.W.isFn X.K (.ref f) = true) (hb : Binds X.K fd [p] []) : CallR X (.type "str") (rOwn1 C sp) := by
  intro pins s σ H xs us Q I r h
  obtain ⟨a, dx, fs, rfl, ha, hsp⟩ := h
  obtain ⟨u, rfl, ru⟩ := vals1 r
  cases ru
  obtain ⟨mA, J, _⟩ := ins_get I.hok ha
  obtain ⟨od, J, _⟩ := J.look
  refine PySem.W.kso_call (by have := hr.un; show X.A.units + 1 + 1 < cLine; omega) I.kIn J hs hf ?_
  exact run_below F hr.in1.in1 rfl hb I (vs := [V.ref a]) (us := [Value.ref a]) (.cons rfl .nil) hsp fun u s' h => str_back h
/-! ### == and != -/
variable {p2 : Str}
open Builtin in
open Builtin in
/-! ### bool(x) -/
end
end Dw

/-! try .. except C: suite, within a def, by data. -/
namespace Dw
open PySem PySem.Spec PyProof.Rows L2
variable [Tabs0]
section
variable {K : PySem.W.Frag} {c : Value} {ts : Addr → Value → Option Addr → TS} {tb : WX → TS} {Γ : Gam} {De : DE} {x : Exn} {d : D}
end
end Dw

/-! An __init__ that stores its fields, or raises; str, repr, bool, == and != of objects, by data. -/
namespace Dw
open PySem PySem.Spec PyProof.Rows L2 LamX
variable [Tabs0]
section
variable {P : Program} {w : World} {K : PySem.W.Frag} {mg : Str → Option Value} {base : Heap} {C : Addr} {s : Spc} {sx : SpcX}
end
section
variable {Γ : Gam} {s : Spc} {sx : SpcX} {sp : Sp} {C : Addr} {ta : TA} {E : XK} {ns : List Str} {R : Option Addr → Hp → Prop}
end
/-! ### str(x), repr(x), bool(x), x == y, x != y -/
section
variable {Γ : Gam} {s : Spc} {C : Addr} {ta tb : TE} {K : PySem.W.Frag} {ns : List Str} {ds : List D} {dy : D} {b : Bool} {z : Str}
theorem ev_own1 {x : s.ty} (h : Ev ta Γ (.obj C ns ds)) (ha : s.args x = [.obj C ns ds]) (np : noPs (s.args x) = true) (ok : s.ok x) (hd : ∀ d', s.rel x d' → d' = .str z) : Ev (tCB (rOwn1 C (toSp s)) (tCons ta tNil)) Γ (.str z) := fun F σ W Q g k => h F σ W _ g fun v H st r => by
  obtain ⟨a, dx, vs, rfl, hH, nu, l, rr⟩ := r
  refine ⟨a, dx, _, rfl, hH, ?_⟩
  have r0 : RepL (W.at H) (s.args x) [.ref a] := by rw [ha]; exact RepL.one ⟨a, dx, vs, rfl, hH, nu, l, rr⟩
  exact pure_call (W := W.at H) (g.same st) (fun _ z => z) (RepL.delP _ _ np r0) ok fun d' v H' hd' s' r' => by
    rw [hd d' hd'] at r'
    exact ⟨⟨z, r'⟩, k v H' (Same.trans st s') (Rep.addP (W := W) r')⟩
end
end Dw

/-! repr of any data, and of {}. -/
namespace Dw
open PySem PySem.Spec PyProof.Rows L2 LamX
def rReprE : List V → Hp → VK → Prop := fun xs H Q => ∃ a : Addr, xs = [.ref a] ∧ H a = some (.dK []) ∧ Q (.str "{}") H
theorem cr_reprE {X : Cx} (hu : X.A.units + 66 < PySem.cLine) (hG : X.A.guards = some []) : CallR X (.builtin "repr") rReprE := by
  intro pins s σ H xs us Q I r h
  obtain ⟨a, rfl, ha, q⟩ := h
  obtain ⟨u, rfl, ru⟩ := vals1 r
  cases ru
  obtain ⟨_, hsys, vs, hv, o, es, ep, he, hx, hd, _, hp, _⟩ := (show ObjOk X.prog X.w H s.heap a (.dK []) from I.hok a _ ha)
  have e0 : vs = [] := by cases hv; rfl
  subst e0
  have e1 : es.toList = [] := by cases q : es.toList with
    | nil => rfl
    | cons x l => rw [q] at hp; cases hp
  have rd : Reads s.heap (.ref a) (.dict []) (a :: [] ++ []) := .dict he hx.1 hd (by rw [e1]; exact .nil) (by rw [e1]; exact .nil)
  refine repr_of_reads' rd rfl (fun _ hm => ?_) hG (by have d1 : PyData.depth (.dict []) ≤ 1 := (by decide); omega) (fun _ _ e => e) (fun h' u tk hk => ⟨.str "{}", H, I.kept (t' := tk) hk, ⟨_, rfl⟩, q⟩) (by decide)
  rw [List.append_nil] at hm
  have := List.mem_singleton.mp hm
  rw [← this, beq_self_eq_true] at hsys
  cases hsys
variable [Tabs0]
def rReprY (K : PySem.W.Frag) : List V → Hp → VK → Prop := fun xs H Q => rReprX K xs H Q ∨ rReprE xs H Q
theorem cr_reprY {X : Cx} (hu : X.A.units + 66 < PySem.cLine) (hG : X.A.guards = some []) : CallR X (.builtin "repr") (rReprY X.K) := fun pins s σ H xs us Q I r h => h.elim (cr_reprX hu hG pins s σ H xs us Q I r) (cr_reprE hu hG pins s σ H xs us Q I r)
theorem reprY {X : Cx} {k : Nat} (K : PySem.W.Frag) (hr : Room k X.A) (hG : X.A.guards = some []) (hK : X.K = K := by rfl) : CallR X (.builtin "repr") (rReprY K) := hK ▸ cr_reprY (by have := hr.un; omega) hG
theorem reprHY {X : Cx} {k : Nat} (K : PySem.W.Frag) (hr : L2H.RoomH k X.A) (hG : X.A.guards = some []) (hK : X.K = K := by rfl) : CallR X (.builtin "repr") (rReprY K) := hK ▸ cr_reprY (by have := hr.un; omega) hG
/-- the text that repr gives of a datum -/
def RpD (d : D) (z : Str) : Prop := (∃ k, k ≤ 64 ∧ dOk k d = true ∧ shOk d = true ∧ shB d ≤ sizeLine ∧ z = PyData.shown (py d)) ∨ (d = .dct [] [] ∧ z = "{}")
theorem rep_reprY {K : PySem.W.Frag} {W : Wd} {v : V} {d : D} {z : Str} {Q : VK} (r : Rep W d v) (h : RpD d z) (q : Q (.str z) W.H) : rReprY K [v] W.H Q := by
  rcases h with ⟨k, hk, h1, h2, h3, rfl⟩ | ⟨rfl, rfl⟩
  · exact .inl (rep_reprX r h1 hk h2 h3 q)
  · obtain ⟨a, vs, rfl, h, _⟩ := r
    exact .inr ⟨a, rfl, h, q⟩
section
variable {K : PySem.W.Frag} {Γ : Gam} {te : TE} {d : D} {z : Str} {x : Exn} {ed : Option Addr}
end
end Dw

/-! f(lambda: body, y): a def that calls what it got, in a try, and reads its second argument where it catches. -/
namespace Dw
open PySem PySem.Spec PyProof.Rows L2 LamX
section
variable {X : Cx} {pins : List (Addr × Obj)} {σ : L2.St} {H : Hp} {s : Shared}
end
section
variable {X : Cx} {pins : List (Addr × Obj)} {σ : L2.St} {H : Hp} {s : Shared}
end
section
variable {X : Cx}
end
end Dw

/-! f(lambda: body, y): try: return a() / except C as e: suite, that reads e and y. -/
namespace Dw
open PySem PySem.Spec PyProof.Rows L2 LamX
variable [Tabs0]
section
variable {K : PySem.W.Frag} {Γ : Gam} {Tt : List (Addr × Str)} {P : Addr} {q : Str} {c1 : Value} {ie i j : Nat} {Ng : List Str} {sl : Sl} {ts : Addr → Value → Option Addr → TS} {t : XK → TE} {Q : D → Gam → Prop} {d dj : D} {x : Exn}
end
end Dw

/-! C(name=value), f'..{i}..', x == C(..), xs[k], xs[j] = xs[j], xs[k]. -/
namespace Dw
open PySem PySem.Spec PyProof.Rows L2 LamX HT
variable [Tabs0]
section
variable {Γ : Gam} {s : Spc} {sp : Sp} {C : Addr} {tk : TA} {E : XK} {ns : List Str} {e : D}
end
/-- f'a{i}b' -/
theorem ev_fstrI {Γ : Gam} {te : TE} {i : Int} {a b : Str} (h : Ev te Γ (.int i)) (hz : i.natAbs.log2 < 1920) (h1 : (Str.empty ++ a).length ≤ sizeLine) (h2 : (Str.empty ++ a ++ Str.ofString (toString i)).length ≤ sizeLine) (h3 : (Str.empty ++ a ++ Str.ofString (toString i) ++ b).length ≤ sizeLine) :
    Ev (fun σ H Q => tJs [tC (.str a), tFmt te, tC (.str b)] Str.empty σ H fun out H1 => Q (.str out) H1) Γ (.str (Str.empty ++ a ++ Str.ofString (toString i) ++ b)) := fun F σ W Q g k => by
  refine ⟨a, rfl, h1, h F σ W _ g fun v H s r => ?_⟩
  have r : v = .int i := r
  exact .inr ⟨i, r, hz, _, rfl, h2, b, rfl, h3, k _ H s rfl⟩
section
variable {Γ : Gam} {s : Spc} {C : Addr} {ta tb : TE} {K : PySem.W.Frag} {ns : List Str} {ds : List D} {b : Bool}
end
end Dw
namespace Dw
open PySem PySem.Spec PyProof.Rows L2
variable [Tabs0]
/-- str(text) -/
theorem ev_strS {Γ : Gam} {ta : TE} {a : Str} (h : Ev ta Γ (.str a)) : Ev (tCB (fun xs H Q => ∃ a, xs = [.str a] ∧ Q (.str a) H) (tCons ta tNil)) Γ (.str a) := fun F σ W Q g k => h F σ W _ g fun v H s r => ⟨a, by rw [show v = V.str a from r], k _ H s rfl⟩
end Dw

/-! x == y, where y may be of another own class; not in a tuple of pairs; readings of one kind or the other. -/
namespace Dw
open PySem PySem.Spec PyProof.Rows L2
section
variable {X : Cx}
variable {C f : Addr} {fd : FuncData} {p p2 : Str} {n : Nat} {sp : Sp}
end
variable [Tabs0]
section
variable {Γ : Gam} {t u : TE} {r r' : R2} {x y d : D}
end
section
variable {Γ : Gam} {s : Spc} {C : Addr} {ta tb : TE} {K : PySem.W.Frag} {ns : List Str} {ds : List D} {dy : D} {b : Bool}
end
end Dw

/-! str(C(..)): of an object that is made, or not. -/
namespace Dw
open PySem PySem.Spec PyProof.Rows L2 LamX
variable [Tabs0]
section
variable {Γ : Gam} {s : Spc} {C : Addr} {ta : TE} {x : Exn} {R : Option Addr → Hp → Prop} {r : List V → Hp → VK → Prop}
end
end Dw

/-! e.replace of written texts in a list, behind an item that gives a token out. -/
namespace Dw
open PySem PySem.Spec PyProof.Rows L2 CwR
section
variable {X : Cx} {e f : Expr} {es : List Expr} {ta tb : TE} {tr : TA} {pos : Pos}
end
variable [Tabs0]
end Dw

/-! set(xs), sorted(set(xs)), len(set(xs)) of a list of texts. -/
namespace Dw
open PySem PySem.Spec PyProof.Rows L2 PySem.Froz
variable [Tabs0]
/-- the set at a holds the texts l -/
def TxS (P : Program) (w : World) (h : Heap) (a : Addr) (l : List Str) : Prop :=
  ∃ D : SD, h.get? a = some (sObj "set" D) ∧ TxOk P w D l ∧ l.Nodup ∧ Ris D.2.2.place.toList ∧ (w.params.followText "set-order" = true ∨ D.2.2.led = true)
section
variable {P : Program} {w : World} {A : Around} {E : Value → Shared → Prop} {s : Shared}
theorem TxS.at {h h' : Heap} {a : Addr} {l : List Str} (R : TxS P w h a l) (k : ∀ o, h.get? a = some o → h'.get? a = some o) : TxS P w h' a l := by
  obtain ⟨D, e, r⟩ := R
  exact ⟨D, k _ e, r⟩
end
end Dw

/-! repr([x]), repr((x,)): x an object of an own class with its own __repr__. -/
namespace Dw
open PySem PySem.Spec PyProof.Rows L2
open Builtin Builtin.List
section
variable {P : Program} {w : World} {A : Around} {E : Value → Shared → Prop} {s : Shared} {K : PySem.W.Frag} {C f : Addr}
/-- an own object within a container's repr -/
theorem under_own {n : Nat} {x : Addr} {ox : Obj} {od : Option Obj} {Q : Str → Shared → Prop} (hn : n ≤ sizeLine) (hu : A.units < cLine) (X : K.In s.heap) (I : PySem.W.InstAt s.heap x ox C od) (hs : PySem.W.findIn K (.ref C) "__repr__" = some (some (.ref f))) (hf : PySem.W.isFn K (.ref f) = true)
    (h : wpAny (model P w) A (call (.ref f) [.ref x]) (fun v z => ∃ t u, v = .str t u ∧ Q t z) E s) : wpAny (model P w) A (pyReprUnder n (.ref x)) Q E s := by
  refine wpAny_pyReprUnder_ref hn ?_
  unfold pyReprObjUnder pyReprObjBy
  refine wpAny_bind (wpAny_cRoomFor hu ?_)
  refine wpAny_bind (wpAny_bind (I.type.here ((PySem.W.looks_findIn X hs).here ?_)))
  show wpAny _ _ (if (some (Value.ref f)).isNone = true then _ else _) _ _ _
  rw [if_neg (by simp)]
  have fin : wpAny (model P w) A (call (.ref f) ([.ref x] ++ []) >>= fun v => pure (some v)) (fun r z => ∃ t u, r = some (Value.str t u) ∧ Q t z) E s :=
    wpAny_bind (wpAny_mono h (fun v z ⟨t, u, e, q⟩ => wpAny_pure ⟨t, u, congrArg some e, q⟩) fun _ _ y => y)
  refine wpAny_bind (m := callSpecialIfBoundBy? _ (.ref x) (Str.ofString "__repr__")) (wpAny_mono (Q := fun r z => ∃ t u, r = some (Value.str t u) ∧ Q t z) ?_ (fun r z ⟨t, u, e, q⟩ => ?_) fun _ _ y => y)
  · simp only [callSpecialIfBoundBy?, bindSpecialIfBound?]
    refine wpAny_holding (wpAny_bind (wpAny_bind (wpAny_bind (I.type.here ((PySem.W.looks_findIn X hs).here ?_)))))
    refine wpAny_bind (wpAny_askSetting (wpAny_ite ?_))
    split
    · exact wpAny_bind ((PySem.W.bind_fn X _ (beq_iff_eq.mp hf)).here (wpAny_pure (by exact fin)))
    · exact wpAny_tryCatch (wpAny_bind ((PySem.W.bind_fn X _ (beq_iff_eq.mp hf)).here (wpAny_pure (by exact fin))))
  · subst e
    refine wpAny_bind (wpAny_isInstance (typeIs_str _ _ _) isSubtype_str_str ?_)
    first
      | exact wpAny_pure ⟨_, _, rfl, q⟩
      | (simp only [if_true]; exact wpAny_pure ⟨_, _, rfl, q⟩)
abbrev emptyO : Obj := { cls := .type "list", data := .seq ([] : List Value).toArray }
/-- what the one item gives: whatever stands around, its text; R holds behind it, and the container stays -/
def OneItem (P : Program) (w : World) (A : Around) (E : Value → Shared → Prop) (x : Value) (t : Str) (s1 : Shared) (R : Shared → Prop) : Prop :=
  ∀ (A' : Around) (n : Nat) (Q' : Str → Shared → Prop), A'.handled = A.handled → A'.frames = A.frames → A'.depth ≤ A.depth + 3 → A'.units ≤ A.units + 3 → n ≤ sizeLine → (∀ z, R z → Q' t z) → wpAny (model P w) A' (pyReprUnder n x) Q' E s1
theorem wt_loop (args : Args) : (Code.builtin "list.__repr__.loop" args).weight = 1 := by kernel_rfl
theorem wt_tup (args : Args) : (Code.builtin "tuple.__repr__" args).weight = 1 := by kernel_rfl
theorem listText1 (t : Str) : listText [t] = ("[" : Str) ++ ("" : String) ++ t ++ "]" := rfl
theorem list_one {a : Addr} {oa : Obj} {na : Nat} {x : Value} {t : Str} {R : Shared → Prop} {Q : Value → Shared → Prop} (hg : A.guards = some []) (hu : A.units + 10 < cLine) (ha : s.heap.get? a = some oa) (hc : oa.cls = .type "list") (hd : oa.data = .seq #[x] na) (hz : (listText [t]).length ≤ 100000)
    (item : OneItem P w A E x t { s with heap := s.heap.push emptyO } R) (hR : ∀ z, R z → (∃ (o : Obj) (n : Nat) (y : Value), z.heap.get? a = some o ∧ o.data = .seq #[y] n) ∧ z.heap.get? s.heap.objs.size = some emptyO)
    (k : ∀ z g u tk, R z → (∀ b o, b ≠ s.heap.objs.size → z.heap.get? b = some o → g.get? b = some o) → Q (.str (listText [t]) u) { z with heap := g, toks := tk }) : wpAny (model P w) A (call (.builtin "repr") [.ref a]) Q E s := by
  have sz : sizeLine = 16777216 := sizeLine_eq
  have ht : t.length ≤ 100000 := by
    have := piled_le_listText [t]
    rw [piled_cons, piled_nil] at this; omega
  have ty : s.TypeIs (.ref a) "list" := ⟨oa, ha, hc⟩
  refine Calls.call_function_entry PySem.F.kind_repr PySem.F.plain_repr PySem.F.entry_repr (PySem.F.args_repr1 _) ?_
  unfold Builtin.«repr»
  refine wpAny_bind (m := oneArg "repr" _) (wpAny_pure ?_)
  refine wpAny_bind (wpAny_cRoomFor (by show A.units + 1 < cLine; omega) ?_)
  refine wpAny_bind (wpAny_specialOf (name := Str.ofString "__repr__") ty F.slot_list_repr.lookup ?_)
  refine wpAny_bind (m := callSpecialIfBound? (.ref a) (Str.ofString "__repr__")) (wpAny_callSpecialIfBound?_slot (name := Str.ofString "__repr__") ty F.slot_list_repr (wpAny_mono (Q := fun v z => ∃ u, v = Value.str (listText [t]) u ∧ Q v z) ?_ (fun v z ⟨u, e, q⟩ => ?ps) fun _ _ y => y))
  case ps =>
    subst e
    refine wpAny_bind (wpAny_isInstance (typeIs_str _ _ _) isSubtype_str_str ?_)
    first
      | exact wpAny_pure ⟨_, rfl, q⟩
      | (simp only [if_true]; exact wpAny_pure ⟨_, rfl, q⟩)
  refine wpAny_call (codeAny_call_builtin F.slot_list_repr.plain F.entry_list_repr (F.slot_list_repr.check _ _ _ _ _ _ _ _ ty (F.args_list_repr_1 _) ?_))
  refine wpAny_list_repr_head (b := 0) (g := []) (l := []) hg (fun _ _ _ m => nomatch m) ha hd ?_
  refine wpAny_bind (wpAny_newList ?_ (by decide))
  have o1 : (s.heap.push emptyO).get? a = some oa := Heap.get?_push_of_some _ ha
  refine wpAny_pure ⟨F.quiet_list_repr_loop _, codeAny_builtin F.entry_list_repr_loop ?_⟩
  show wpAny _ _ («list.__repr__.loop» ⟨[.ref a, .int ((0 : Nat) : Int) 0, .ref s.heap.objs.size, .int ((0 : Nat) : Int) 0], []⟩) _ _ _
  rw [repr_loop_tree]
  refine wpAny_bind (wpAny_listItems o1 hd ?_)
  simp only [Int.toNat_natCast]
  show wpAny _ _ (do let v ← holding [x] (pyReprUnder (0 + 1) x); _) _ _ _
  refine wpAny_bind (wpAny_holding (wpAny_mono (item _ 1 (fun v z => v = t ∧ R z) (by first | rfl | simp [Around.under]) (by first | rfl | simp [Around.under, Code.envs, pushEnvs]) (by show A.in1.in1.depth + _ ≤ _; rw [wt_loop]; simp) (Nat.le_trans (Nat.le_of_eq (units_under_list_loop _ _)) (by simp; try omega)) (by rw [sz]; omega) fun z r => ⟨rfl, r⟩) (fun v z ⟨ev, r⟩ => ?_) fun _ _ y => y))
  have ev := ev.symm
  subst ev
  obtain ⟨⟨o2, n2, y2, h1, hd2⟩, h2⟩ := hR z r
  refine wpAny_bind (wpAny_mkStr ?_ (by rw [sz]; omega))
  refine wpAny_bind ?_
  show wpAny _ _ (updateSeq s.heap.objs.size _) _ _ _
  refine wpAny_updateSeq h2 rfl (wpAny_pure ⟨F.quiet_list_repr_loop _, codeAny_builtin F.entry_list_repr_loop ?_⟩) (by decide)
  have na2 : s.heap.objs.size ≠ a := fun e => absurd (Heap.lt_size ha) (by rw [e]; exact Nat.lt_irrefl _)
  have g2 := Heap.get?_update_self (Obj.mapSeq (·.push (Value.str t z.toks))) h2 rfl
  show wpAny _ _ («list.__repr__.loop» ⟨[.ref a, .int ((0 : Nat) + 1 : Int) 0, .ref s.heap.objs.size, .int (((0 : Nat) : Int).toNat + (t.length + 2) : Nat) 0], []⟩) _ _ _
  rw [repr_loop_tree]
  refine wpAny_bind (wpAny_listItems ((Heap.get?_update_other _ _ na2).trans h1) hd2 ?_)
  show wpAny _ _ (reprEnd (.ref s.heap.objs.size)) _ _ _
  unfold reprEnd
  refine wpAny_bind (wpAny_listItems g2 rfl ?_)
  have fold := repr_fold [(t, z.toks)] 0 "["
  have fold' : (forIn (((([] : List Value).toArray).push (Value.str t z.toks)).toList.zipIdx) ("[" : Str) reprBody : Sem Str) = pure (textFrom 0 "[" [t]) := fold
  rw [fold']
  refine wpAny_bind (wpAny_pure ?_)
  exact wpAny_bind (wpAny_mkStr (wpAny_pure ⟨_, rfl, k z _ _ _ r fun b o nb e => (Heap.get?_update_other _ _ (Ne.symm nb)).trans e⟩) (by show (listText [t]).length ≤ sizeLine; omega))
theorem tup_one {a : Addr} {oa : Obj} {na : Nat} {x : Value} {t : Str} {R : Shared → Prop} {Q : Value → Shared → Prop} (hg : A.guards = some []) (hu : A.units + 10 < cLine) (ha : s.heap.get? a = some oa) (hc : oa.cls = .type "tuple") (hd : oa.data = .seq #[x] na) (hz : (tupleText [t]).length ≤ 100000)
    (item : OneItem P w A E x t s R) (k : ∀ z u tk, R z → Q (.str (tupleText [t]) u) { z with toks := tk }) : wpAny (model P w) A (call (.builtin "repr") [.ref a]) Q E s := by
  have sz : sizeLine = 16777216 := sizeLine_eq
  have ty : s.TypeIs (.ref a) "tuple" := ⟨oa, ha, hc⟩
  refine Calls.call_function_entry PySem.F.kind_repr PySem.F.plain_repr PySem.F.entry_repr (PySem.F.args_repr1 _) ?_
  unfold Builtin.«repr»
  refine wpAny_bind (m := oneArg "repr" _) (wpAny_pure ?_)
  refine wpAny_bind (wpAny_cRoomFor (by show A.units + 1 < cLine; omega) ?_)
  refine wpAny_bind (wpAny_specialOf (name := Str.ofString "__repr__") ty F.slot_tuple_repr.lookup ?_)
  refine wpAny_bind (m := callSpecialIfBound? (.ref a) (Str.ofString "__repr__")) (wpAny_callSpecialIfBound?_slotG (name := Str.ofString "__repr__") ty F.slot_tuple_repr (wpAny_mono (Q := fun v z => ∃ u, v = Value.str (tupleText [t]) u ∧ Q v z) ?_ (fun v z ⟨u, e, q⟩ => ?ps) fun _ _ y => y))
  case ps =>
    subst e
    refine wpAny_bind (wpAny_isInstance (typeIs_str _ _ _) isSubtype_str_str ?_)
    first
      | exact wpAny_pure ⟨_, rfl, q⟩
      | (simp only [if_true]; exact wpAny_pure ⟨_, rfl, q⟩)
  refine wpAny_call (codeAny_call_builtin_own (Code.quiet_builtin _ (by decide +kernel)) F.entry_tuple_repr (F.slot_tuple_repr.check _ _ _ _ _ _ _ _ ty (F.args_tuple_repr_1 _) ?_))
  show wpOwn _ _ _ (Builtin.tupleReprAt 0 ⟨[.ref a], []⟩) _ _ _
  rw [tuple_repr_tree, tupleReprUnderWay_eq]
  refine wpOwn_bind (wpOwn_stackTailAny (g := []) hg (tupGuardF_off _) (tupGuardF_pos _) ?_)
  refine wpOwn_of_wpAny ?_
  show wpAny _ _ (if false = true then _ else _) _ _ _
  rw [if_neg Bool.false_ne_true]
  unfold tupleReprRest Builtin.Tuple.tupleItemsOf
  refine wpAny_bind (wpAny_bind (wpAny_seqItems ha hd (wpAny_pure ?_)))
  rw [← Array.forIn_toList]
  show wpAny _ _ (forIn [x] _ tupBody >>= _) _ _ _
  rw [List.forIn_cons]
  refine wpAny_bind (wpAny_bind (wpAny_bind (wpAny_mono (item _ 1 (fun v z => v = t ∧ R z) (by first | rfl | simp [Around.under]) (by first | rfl | simp [Around.under, Code.envs, pushEnvs]) (by show A.in1.depth + _ ≤ _; rw [wt_tup]; show A.depth + 1 ≤ _; omega) (Nat.le_trans (Nat.le_of_eq (units_under_tuple_repr _ _)) (by simp; try omega)) (by rw [sz]; omega) fun z r => ⟨rfl, r⟩) (fun v z ⟨ev, r⟩ => ?_) fun _ _ y => y)))
  have ev := ev.symm
  subst ev
  refine wpAny_pure ?_
  show wpAny _ _ (forIn ([] : List Value) _ tupBody) _ _ _
  rw [List.forIn_nil]
  refine wpAny_pure ?_
  exact wpAny_bind (wpAny_mkStr (wpAny_pure ⟨_, rfl, k z _ _ r⟩) (by show (tupleText [t]).length ≤ sizeLine; omega))
end
abbrev rOr1 (r r' : List V → Hp → VK → Prop) : List V → Hp → VK → Prop := fun xs H Q => r xs H Q ∨ r' xs H Q
/-- repr([x]), repr((x,)) -/
def rReprO (K : PySem.W.Frag) (C : Addr) (sp : Sp) : List V → Hp → VK → Prop := fun xs H Q => ∃ (l a dx : Addr) (fs : List (Str × V)) (t : Str), xs = [.ref l] ∧ H a = some (.ins C dx fs) ∧ t.length ≤ 1000 ∧
  ((SqL K H l [.ref a] ∧ sp [.ref a] H (fun v H' => v = .str t ∧ SqL K H' l [.ref a] ∧ Q (.str (listText [t])) H') E0) ∨ (SqT K H l [.ref a] ∧ sp [.ref a] H (fun v H' => v = .str t ∧ Q (.str (tupleText [t])) H') E0))
/-- what calls the def below the running body -/
abbrev Runs (X : Cx) (f : Addr) (sp : Sp) : Prop := ∀ (A : Around) (pins : List (Addr × Obj)) (σ : L2.St) (H : Hp) (s : Shared) (us : List Value) (vs : List V) (Q : VK) (E1 : Value → Shared → Prop) (R : Value → Shared → Prop), A.handled = X.A.handled → A.frames = X.A.frames → A.depth ≤ X.A.depth + 3 → A.units ≤ X.A.units + 3 →
  Inv X pins σ H s → Vals vs us → sp vs H Q E0 → (∀ u s', EP X pins σ Q u s' → R u s') → wpAny (model X.prog X.w) A (call (.ref f) us) R E1 s
theorem one_its {vs : List Value} {a : Addr} (r : Vals [V.ref a] vs) : vs = [.ref a] := by
  cases r with
  | cons r1 r2 => cases r2; cases r1; rfl
theorem text1_len {t : Str} (h : t.length ≤ 1000) : (listText [t]).length ≤ 100000 ∧ (tupleText [t]).length ≤ 100000 := by
  constructor
  · rw [listText1, strLen_append, strLen_append, strLen_append]
    have e1 : ((("[" : String) : Str)).length = 1 := rfl
    have e2 : ((("" : String) : Str)).length = 0 := rfl
    have e3 : ((("]" : String) : Str)).length = 1 := rfl
    omega
  · show ((("(" : Str) ++ t) ++ (",)" : Str)).length ≤ _
    rw [strLen_append, strLen_append]
    have e1 : ((("(" : String) : Str)).length = 1 := rfl
    have e2 : (((",)" : String) : Str)).length = 2 := rfl
    omega
theorem cr_reprO_of {X : Cx} {C f : Addr} {sp : Sp} (run : Runs X f sp) (hG : X.A.guards = some []) (hu : X.A.units + 10 < PySem.cLine) (hs : PySem.W.findIn X.K (.ref C) "__repr__" = some (some (.ref f))) (hf : PySem.W.isFn X.K (.ref f) = true) : CallR X (.builtin "repr") (rReprO X.K C sp) := by
  intro pins s σ H xs us Q I r h
  obtain ⟨l, a, dx, fs, t, rfl, ha, ht, h⟩ := h
  obtain ⟨u, rfl, ru⟩ := vals1 r
  cases ru
  obtain ⟨z1, z2⟩ := text1_len ht
  rcases h with ⟨hl, hsp⟩ | ⟨hl, hsp⟩
  · obtain ⟨its, rv, pl, _⟩ := I.list hl
    have ei := one_its rv
    subst ei
    obtain ⟨o, ho, hc, nn, hd⟩ := pl.isList
    have np : H s.heap.objs.size = none := I.hok.fresh (Nat.le_refl _)
    have fp : FpOk X pins H s.heap.objs.size := I.fpOk (Nat.le_refl _) np
    have I1 : Inv X pins σ H { s with heap := s.heap.push emptyO } := I.kept (t' := s.toks) fun b u e => Heap.get?_push_of_some _ e
    have I2 : Inv X ((s.heap.objs.size, emptyO) :: pins) σ H { s with heap := s.heap.push emptyO } := I1.pins_of fun p hp => by
      rcases List.mem_cons.mp hp with rfl | hp
      · exact ⟨Heap.get?_push_size _ rfl, np, fp.2.1, fp.2.2.1, fun v e => by cases e⟩
      · exact I1.pin p (List.mem_append_right _ hp)
    refine list_one (R := fun z => ∃ H', Inv X ((s.heap.objs.size, emptyO) :: pins) σ H' z ∧ SqL X.K H' l [.ref a] ∧ Q (.str (listText [t])) H') hG hu ho hc hd z1 (fun A' n Q' h1 h2 h3 h4 hn hQ => ?_) (fun z ⟨H', I', hs', _⟩ => ?_) fun z g u tk ⟨H', I', hs', q⟩ kp => ?_
    · obtain ⟨mA, J, _⟩ := ins_get I2.hok ha
      obtain ⟨od, J, _⟩ := J.look
      refine under_own hn (by omega) I2.kIn J hs hf (run A' _ σ H _ [.ref a] [.ref a] _ _ _ h1 h2 h3 h4 I2 (.cons rfl .nil) hsp fun v z ⟨x, H', I', rv', ex, hs', q⟩ => ?_)
      subst ex
      obtain ⟨tk, rfl⟩ := rv'
      exact ⟨t, tk, rfl, hQ z ⟨H', I', hs', q⟩⟩
    · obtain ⟨its', rv', pl', _⟩ := I'.list hs'
      have ei := one_its rv'
      subst ei
      obtain ⟨o', ho', _, n', hd'⟩ := pl'.isList
      exact ⟨⟨o', n', .ref a, ho', hd'⟩, (I'.pin _ (List.mem_append_right _ List.mem_cons_self)).1⟩
    · have np' := (I'.pin _ (List.mem_append_right _ List.mem_cons_self)).2.1
      have I3 : Inv X pins σ H' z := I'.pins_of fun p hp => I'.pin p (List.mem_append_right _ (List.mem_cons_of_mem _ hp))
      exact ⟨.str _, H', I3.turned (t' := tk) kp np' fp.2.1 fp.2.2.2.1 fp.2.2.2.2.1 fp.2.2.2.2.2, ⟨_, rfl⟩, q⟩
  · obtain ⟨its, rv, pt, _⟩ := I.tuple hl
    have ei := one_its rv
    subst ei
    obtain ⟨o, ho, hc, nn, hd⟩ := pt
    refine tup_one (R := fun z => ∃ H', Inv X pins σ H' z ∧ Q (.str (tupleText [t])) H') hG hu ho hc hd z2 (fun A' n Q' h1 h2 h3 h4 hn hQ => ?_) fun z u tk ⟨H', I', q⟩ => ?_
    · obtain ⟨mA, J, _⟩ := ins_get I.hok ha
      obtain ⟨od, J, _⟩ := J.look
      refine under_own hn (by omega) I.kIn J hs hf (run A' _ σ H _ [.ref a] [.ref a] _ _ _ h1 h2 h3 h4 I (.cons rfl .nil) hsp fun v z ⟨x, H', I', rv', ex, q⟩ => ?_)
      subst ex
      obtain ⟨tk, rfl⟩ := rv'
      exact ⟨t, tk, rfl, hQ z ⟨H', I', q⟩⟩
    · exact ⟨.str _, H', I'.tok tk, ⟨_, rfl⟩, q⟩
/-- in a def's own body -/
theorem runs_ok {X : Cx} {f : Addr} {fd : FuncData} {p : Str} {n : Nat} {sp : Sp} (F : FnOk X.prog X.w X.K X.mg X.base CX0 n f fd [p] sp) (hr : Room (n + 1) X.A) (hb : Binds X.K fd [p] []) : Runs X f sp := fun A pins σ H s us vs Q E1 R h1 h2 h3 h4 I r hsp hR =>
  run_below F ⟨h1.trans hr.hd, by have := hr.dp; omega, by have := hr.un; omega⟩ h2 hb I r hsp hR
variable [Tabs0]
end Dw

/-! repr([x]), repr((x,)) while an error is held; what they say of data; a body's end that is never reached. -/
namespace Dw
open PySem PySem.Spec PyProof.Rows L2
open L2H (RoomH PinOk cxH inv_startH)
variable [Tabs0]
section
variable {P : Program} {w : World} {K : PySem.W.Frag} {mg : Str → Option Value} {base : Heap} {k : Nat} {f : Addr} {fd : FuncData} {ps : List Str}
/-- the promise of a def that asks nothing of what is held, nor of what is guarded -/
structure FnT (P : Program) (w : World) (K : PySem.W.Frag) (mg : Str → Option Value) (base : Heap) (k : Nat) (f : Addr) (fd : FuncData) (ps : List Str) (sp : Sp) : Prop where
  len : ∀ vs H Q E, sp vs H Q E → vs.length = ps.length
  run : ∀ (A : Around) (outer : List Env) (s : Shared) (H : Hp) (args : Args) (us : List Value) (vs : List V) (Q : VK) (E : XK) (p : Addr × Obj), RoomH k A → PinOk outer H s p → Env0 P w K mg base A outer s H → BindsTo s fd args (ps.zip us) → Vals vs us → sp vs H Q E →
    codeAny (model P w) A (.call (.ref f) args) (CR CX0 outer P w H s Q E) s
theorem fn_ofT {sp : Sp} {name qual : Str} {params : Arguments} {body : List Stmt} {scope : Scope} {dV kV doc pm cdv ct oc : Value} {an od : Option Addr} {osl : Array (Option Value)} {N : List Str}
    (lk : K.lookup f = some ⟨oc, od, .func (PySem.W.fnOf name qual params body scope dV kV doc pm an cdv ct), osl⟩) (hcd : PySem.W.codeIn K cdv qual = true) (S : FnScope N ps scope) (len : ∀ vs H Q E, sp vs H Q E → vs.length = ps.length)
    (hbody : ∀ (A : Around) (outer : List Env) (s : Shared) (H : Hp) (vs : List V) (Q : VK) (E : XK) (p : Addr × Obj), RoomH k (A.deeper (envOfC qual scope s.heap.objs.size f cdv)) → sp vs H Q E →
      ∃ t, PSs (cxH CX0 P w K mg base N qual scope f cdv A outer s H E p) body t ∧ t { nx := fun _ H' => Q .non H', rt := Q } (L2.start N vs) H) :
    FnT P w K mg base (k + 1) f (PySem.W.fnOf name qual params body scope dV kV doc pm an cdv ct) ps sp := by
  refine ⟨len, fun A outer s H args us vs Q E p hr hpin e0 hb r hsp => ?_⟩
  have hl := len _ _ _ _ hsp
  have KX : K.In s.heap := e0.mod.kin.keeps fun b o e => (e0.bs b o e).1
  have lim : s.heap.NoLimit := e0.mod.nolimit.keeps fun b o e => (e0.bs b o e).1
  have hkind : ∀ y ∈ ps.zip us, scope.names.lookup y.1 = some .local ∨ (scope.names.lookup y.1 = some .cell ∧ ((cellsFrom (s.heap.objs.size + 1) scope.names []).lookup y.1).isSome = true) := fun ⟨n, v⟩ hy =>
    (S.par n (List.of_mem_zip hy).1).elim .inl fun q => .inr ⟨q, PySem.W.cellsFrom_some _ _ _ (.inl q)⟩
  refine codeAny_call_function hr.depth (KX _ _ lk) rfl S.co S.gen rfl (PySem.W.codeRec_of KX hcd) (hb _ _ _ _ ?_)
  refine wpAny_newFunctionEnv_cells S.kind hkind fun env he s1 x => ?_
  subst he
  obtain ⟨t, ht, hq⟩ := hbody A outer s H vs Q E p (hr.deeper _) hsp
  have I := inv_startH (CX := CX0) (P := P) (w := w) (K := K) (mg := mg) (base := base) (qual := qual) (f := f) (cd := cdv) (A := A) (E := E) S hpin e0 hl r x
  refine ⟨lim.keeps x.toInCall.keep, codeAny_func (wpAny_mono (ht.run [] s1 (L2.start N vs) H _ I hq) (fun fl s' hs => ?_) fun e s' hs => hs)⟩
  match fl, hs with
  | .ret u, ⟨v, _, H', J, rv, q⟩ => exact ⟨v, H', J.os, J.bare, J.base, J.hok, rv, q⟩
  | .next, ⟨_, H', J, q⟩ => exact ⟨V.non, H', J.os, J.bare, J.base, J.hok, rfl, q⟩
  | .brk, ⟨_, _, _, q⟩ => exact False.elim q
  | .cont, ⟨_, _, _, q⟩ => exact False.elim q
theorem fnT_ok {x qual : Str} {st : Stmt} {N : List Str} {s : Spc} (F : Fun K x qual st f fd) (S : FnScope N ps (defScope st)) (len : ∀ x, (s.args x).length = ps.length)
    (hbody : ∀ (cdv : Value) (A : Around) (outer : List Env) (s' : Shared) (H : Hp) (E : XK) (p : Addr × Obj), RoomH k (A.deeper (envOfC qual (defScope st) s'.heap.objs.size f cdv)) →
      ∃ t, PSs (cxH CX0 P w K mg base N qual (defScope st) f cdv A outer s' H E p) (defBody st) t ∧ ∀ x, s.ok x → Ds t (Gz0 N.length (s.args x)) ⟨fun _ => s.rel x .non, s.rel x, fun _ => False, fun _ => False⟩) : FnT P w K mg base (k + 1) f fd ps (toSp s) := by
  obtain ⟨oc, od, kV, doc, pm, an, cdv, ct, osl, rfl, lk, hcd⟩ := F.ex
  refine fn_ofT lk hcd S (spc_len len) fun A outer s' H vs Q E p hr h => ?_
  obtain ⟨t, ht, hb⟩ := hbody cdv A outer s' H E p hr
  exact ⟨t, ht, body_of h hb⟩
end
theorem runs_held {X : Cx} {f : Addr} {fd : FuncData} {q : Str} {n : Nat} {sp : Sp} {p : Addr × Obj} (F : FnT X.prog X.w X.K X.mg X.base n f fd [q] sp) (hr : RoomH (n + 1) X.A) (hp : p ∈ X.pn) (hb : Binds X.K fd [q] []) : Runs X f sp := fun A pins σ H s us vs Q E1 R h1 h2 h3 h4 I r hsp hR => by
  have e0 : Env0 X.prog X.w X.K X.mg X.base A X.stack s H := by
    have e := I.env0
    exact ⟨by rw [h2]; exact e.frames, e.mod, e.bs, e.bsz, e.funs, e.frf, e.hok, e.bare⟩
  have hl : us.length = [q].length := by rw [← r.length]; exact F.len _ _ _ _ hsp
  have b := hb s us I.kIn (by rw [List.append_nil]; exact hl)
  rw [List.append_nil] at b
  have P1 := I.pin p (List.mem_append_left _ hp)
  have hpin : PinOk X.stack H s p := ⟨P1.1, P1.2.1, fun hm => (List.mem_cons.mp (I.stkSub p.1 hm)).elim P1.2.2.1 P1.2.2.2.1, P1.2.2.2.2⟩
  refine wpAny_call (codeAny_mono (F.run A X.stack s H ⟨us, []⟩ us vs Q E0 p ⟨by have := hr.dp; omega, by have := hr.un; omega⟩ hpin e0 b r hsp) fun r s' hq => ?_)
  match r, hq with
  | .error e, hq => exact (show False from hq).elim
  | .ok .next, hq => exact (show False from hq).elim
  | .ok .brk, hq => exact (show False from hq).elim
  | .ok .cont, hq => exact (show False from hq).elim
  | .ok (.ret u), hq => exact hR _ _ (I.after hq)
/-! ### of data -/
section
variable {K : PySem.W.Frag} {C : Addr} {sp : Spc} {Γ : Gam} {te : TE} {ns : List Str} {ds : List D} {t : Str} {x : sp.ty} {F : Addr → Prop} {σ : L2.St} {W : Wd}
theorem rep_reprOL {v : V} {Q : VK} (g : SR F Γ σ W) (r : Rep W (.lst [.obj C ns ds]) v) (ha : sp.args x = [.obj C ns ds]) (np : noPs (sp.args x) = true) (ok : sp.ok x) (hd : ∀ d, sp.rel x d → d = .str t) (ht : t.length ≤ 1000) (q : ∀ H, Same W.H H → Q (.str (listText [t])) H) : rReprO K C (toSp sp) [v] W.H Q := by
  obtain ⟨p, vs, rfl, e, nu, u, _, rfl, r1, rfl⟩ := r
  obtain ⟨a, dx, ws, rfl, hH, nu1, l1, rr⟩ := r1
  refine ⟨p, a, dx, _, t, rfl, hH, ht, .inl ⟨.of e, ?_⟩⟩
  have r0 : RepL W (sp.args x) [.ref a] := by rw [ha]; exact RepL.one ⟨a, dx, ws, rfl, hH, nu1, l1, rr⟩
  exact pure_call g (fun _ z => z) (RepL.delP _ _ np r0) ok fun d' v H' hd' s' r' => by
    rw [hd d' hd'] at r'
    exact ⟨r', .of (s' _ _ e), q H' s'⟩
theorem rep_reprOT {v : V} {Q : VK} (g : SR F Γ σ W) (r : Rep W (.tup [.obj C ns ds]) v) (ha : sp.args x = [.obj C ns ds]) (np : noPs (sp.args x) = true) (ok : sp.ok x) (hd : ∀ d, sp.rel x d → d = .str t) (ht : t.length ≤ 1000) (q : ∀ H, Same W.H H → Q (.str (tupleText [t])) H) : rReprO K C (toSp sp) [v] W.H Q := by
  obtain ⟨p, vs, rfl, e, nu, u, _, rfl, r1, rfl⟩ := r
  obtain ⟨a, dx, ws, rfl, hH, nu1, l1, rr⟩ := r1
  refine ⟨p, a, dx, _, t, rfl, hH, ht, .inr ⟨e.sq, ?_⟩⟩
  have r0 : RepL W (sp.args x) [.ref a] := by rw [ha]; exact RepL.one ⟨a, dx, ws, rfl, hH, nu1, l1, rr⟩
  exact pure_call g (fun _ z => z) (RepL.delP _ _ np r0) ok fun d' v H' hd' s' r' => by
    rw [hd d' hd'] at r'
    exact ⟨r', q H' s'⟩
end
section
variable {K : PySem.W.Frag} {C : Addr} {sp : Spc} {Γ : Gam} {te : TE} {d : D} {z : Str} {x : Exn} {ed : Option Addr}
end
section
variable {K : PySem.W.Frag} {C : Addr} {sx : SpcX} {sp : Sp} {Γ : Gam} {ta : TE} {t : TA} {ds es : List D} {E : XK} {R : Option Addr → Hp → Prop}
end
section
open LamX
variable {K : PySem.W.Frag} {Γ : Gam} {Tt : List (Addr × Str)} {P : Addr} {q wd : Str} {c1 c2 : Value} {n ie i : Nat} {sl : Sl} {ts : Addr → Value → Option Addr → TS} {t : XK → TE} {d : D} {Q : D → Gam → Prop} {x : Exn}
end
/-! ### a body's end that is never reached -/
end Dw

/-! list(x), x a text. -/
namespace Dw
open PySem PySem.Spec PyProof.Rows L2
variable [Tabs0]
section
variable {K : PySem.W.Frag} {Γ : Gam} {ta : TE} {ds : List D}
end
end Dw

/-! an own class over ArithmeticError whose __init__ stores its fields -/
namespace PySem
namespace AeX
open PySem.W PySem.Calls PyProof.Rows PySem.HandSPX Builtin Builtin.ObjectAttr
abbrev aeEnd : List Value := [.type "ArithmeticError", .type "Exception", .type "BaseException", .type "object"]
section
variable {prog : Program} {w : World} {A : Around} {R : Result → Shared → Prop} {hp : Heap} {g : Array GenState} {d : Drawn} {t : Nat} {os : OsState}
end
end AeX
end PySem

namespace L2
open PySem PySem.Spec PyProof.Rows PySem.AeX
/-- what is told of such a class -/
structure OaxC (K : PySem.W.Frag) (C : Addr) : Prop where
  def_ : ∃ nm q N bs bm sn sub ab col dd k0 k1 k2 k3 k5, K.lookup C = some (excClassObj nm q C N bs bm true sn sub ab col dd k0 k1 k2 k3 k5 "ArithmeticError.__new__") ∧ PySem.W.excTail aeEnd bm = true
  over : PySem.W.excOver K C aeEnd = true
  puts : PySem.W.findIn K (.ref C) "__setattr__" = some (some (.builtin "object.__setattr__"))
  base : PySem.W.subIn K (.ref C) (.type "BaseException") = some true
  meta_ : PySem.W.typeIn K (.ref C) = some (.type "type")
  kept : PySem.W.keepIn K (.ref C) = true
section
variable {X : Cx} {pins : List (Addr × Obj)} {σ : St} {H : Hp} {s : Shared} {a C dx : Addr} {f : Str} {y : V} {u : Value} {Q : Unit → Shared → Prop} {E : Value → Shared → Prop} {A : Around}
end
section
variable {X : Cx} {o e : Expr} {es : List Expr} {to te : TE} {ta : TA} {f : Str} {p p' pos : Pos}
end
end L2
namespace Dw
open PySem PySem.Spec PyProof.Rows L2 LamX
variable [Tabs0]
section
variable {P : Program} {w : World} {K : PySem.W.Frag} {mg : Str → Option Value} {base : Heap}
end
end Dw

/-! zip of three lists; o.m(k = v); methods that return or raise. -/
namespace RZ
open PySem PySem.Spec PyProof.Rows L2
end RZ
namespace Dw
open PySem PySem.Spec PyProof.Rows L2 LamX
variable [Tabs0]
section
variable {K : PySem.W.Frag} {Γ : Gam} {ta tb tc : TE} {xs ys zs : List D} {Q : List D → Gam → Prop}
end
end Dw
namespace L2
open PySem PySem.Spec PyProof.Rows
section
variable {X : Cx} {CX : CXT} {k : Nat} {f C : Addr} {fd : FuncData} {ps ks : List Str} {sp : Sp} {E : XK} {m : Str} {pos apos : Pos} {o : Expr} {kws : List Keyword} {ta : TE} {tk : TA} {g : List Value → List Value → List Value} {gV : List V → List V → List V}
end
end L2
namespace Dw
open PySem PySem.Spec PyProof.Rows L2 LamX
variable [Tabs0]
section
variable {K : PySem.W.Frag} {Γ : Gam} {ta : TE} {t tk : TA} {ds es : List D} {d : D} {C : Addr} {s : Spc} {sx : SpcX} {sp : Sp} {E : XK} {ns : List Str} {m : Str} {gV : List V → List V → List V} {R : Option Addr → Hp → Prop} {Q : D → Gam → Prop}
end
end Dw
namespace Dw
open PySem PySem.Spec PyProof.Rows L2
variable [Tabs0]
section
variable {Γ : Gam} {wi : TI} {g : TG} {tt : TT} {te : TE} {vs : List Nat} {De : DE} {j : Nat}
end
end Dw
namespace Dw
open PySem PySem.Spec PyProof.Rows L2
section
variable {X : Cx} {C f : Addr} {fd : FuncData} {n : Nat} {p p2 : Str} {sp : Sp}
end
end Dw
namespace Dw
open PySem PySem.Spec PyProof.Rows L2
end Dw

/-! Lambdas as values: made, kept, called by a def that got them. -/
namespace Dw
open PySem PySem.Spec PyProof.Rows L2 LamX
/-! ### the heap without the cells, and with them again -/
def cutH (H : Hp) (cs : List Addr) : Hp := fun b => if b ∈ cs then none else H b
def pasteH (H H2 : Hp) (cs : List Addr) : Hp := fun b => if b ∈ cs then H b else H2 b
theorem cut_in {H : Hp} {cs : List Addr} {b : Addr} (h : b ∈ cs) : cutH H cs b = none := if_pos h
theorem cut_out {H : Hp} {cs : List Addr} {b : Addr} (h : b ∉ cs) : cutH H cs b = H b := if_neg h
theorem paste_in {H H2 : Hp} {cs : List Addr} {b : Addr} (h : b ∈ cs) : pasteH H H2 cs b = H b := if_pos h
theorem paste_out {H H2 : Hp} {cs : List Addr} {b : Addr} (h : b ∉ cs) : pasteH H H2 cs b = H2 b := if_neg h
/-- at cs stand known cells -/
def CellsAt (H : Hp) (cs : List Addr) : Prop := ∀ b ∈ cs, ∃ (o : Obj) (u : Option Value), o.data = .cell u ∧ H b = some (CellO b o)
theorem cell_o {P : Program} {w : World} {H : Hp} {h : Heap} {b : Addr} {o : Obj} (hok : HOk P w H h) (e : H b = some (CellO b o)) : h.get? b = some o := (hok b _ e).1
theorem cellO_ok {P : Program} {w : World} {H : Hp} {h : Heap} {b : Addr} {o : Obj} (e : h.get? b = some o) : ObjOk P w H h b (CellO b o) := ⟨e, ⟨o, e⟩, fun h1 h2 p st => st o p⟩
section
variable {P : Program} {w : World} {H H' : Hp} {h h' B : Heap} {cs : List Addr} {fs : List Addr}
theorem hok_cut (hc : CellsAt H cs) (x : HOk P w H h) : HOk P w (cutH H cs) h := fun b u e => by
  by_cases hb : b ∈ cs
  · rw [cut_in hb] at e; cases e
  · rw [cut_out hb] at e
    refine (x b u e).stay (fun _ _ _ q => q) (fun c q => ?_) fun c xs q => ?_
    · rw [cut_out fun z => ?_]
      · exact q
      · obtain ⟨o, u, _, e⟩ := hc c z
        rw [q] at e; cases e
    · rw [cut_out fun z => ?_]
      · exact q
      · obtain ⟨o, u, _, e⟩ := hc c z
        rw [q] at e; cases e
theorem hok_paste (hc : CellsAt H cs) (x : HOk P w H' h') (n : ∀ b ∈ cs, H' b = none) (k : ∀ b o, b ∈ cs → H b = some (CellO b o) → h'.get? b = some o) : HOk P w (pasteH H H' cs) h' := fun b u e => by
  by_cases hb : b ∈ cs
  · rw [paste_in hb] at e
    obtain ⟨o, _, _, e'⟩ := hc b hb
    rw [e'] at e; cases e
    exact cellO_ok (k b o hb e')
  · rw [paste_out hb] at e
    refine (x b u e).stay (fun _ _ _ q => q) (fun c q => ?_) fun c xs q => ?_
    · rw [paste_out fun z => by rw [n c z] at q; cases q]; exact q
    · rw [paste_out fun z => by rw [n c z] at q; cases q]; exact q
theorem un_paste (hc : CellsAt H cs) (U : Un fs [] (cutH H cs) H' h h') (n : ∀ b ∈ cs, H' b = none) : Un fs [] H (pasteH H H' cs) h h' where
  keep := fun b o e z f x => U.keep b o e (by
    by_cases hb : b ∈ cs
    · exact cut_in hb
    · rw [cut_out hb]; exact z) f x
  slot := fun b o e z f x => U.slot b o e (by
    by_cases hb : b ∈ cs
    · exact cut_in hb
    · rw [cut_out hb]; exact z) f x
  free := fun b o e z x => by
    have hb : b ∉ cs := fun hb => by
      obtain ⟨o, _, _, e'⟩ := hc b hb
      rw [z] at e'; cases e'
    rw [paste_out hb]
    exact U.free b o e (by rw [cut_out hb]; exact z) x
  there := U.there
  tups := fun b xs e => by
    have hb : b ∉ cs := fun hb => by
      obtain ⟨o, _, _, e'⟩ := hc b hb
      rw [e] at e'; cases e'
    rw [paste_out hb]
    exact U.tups b xs (by rw [cut_out hb]; exact e)
  frzs := fun b o u e => by
    have hb : b ∉ cs := fun hb => by
      obtain ⟨o, _, _, e'⟩ := hc b hb
      rw [e] at e'; cases e'
    rw [paste_out hb]
    exact U.frzs b o u (by rw [cut_out hb]; exact e)
  tbls := fun b ps e => by
    have hb : b ∉ cs := fun hb => by
      obtain ⟨o, _, _, e'⟩ := hc b hb
      rw [e] at e'; cases e'
    rw [paste_out hb]
    exact U.tbls b ps (by rw [cut_out hb]; exact e)
theorem ub_paste (hc : CellsAt H cs) (U : UB fs (cutH H cs) H' h B h') : UB fs H (pasteH H H' cs) h B h' where
  keep := fun b o e z f => U.keep b o e (by
    by_cases hb : b ∈ cs
    · exact cut_in hb
    · rw [cut_out hb]; exact z) f
  slot := U.slot
  free := fun b o e z => by
    have hb : b ∉ cs := fun hb => by
      obtain ⟨o, _, _, e'⟩ := hc b hb
      rw [z] at e'; cases e'
    rw [paste_out hb]
    exact U.free b o e (by rw [cut_out hb]; exact z)
  there := U.there
  tups := fun b xs e => by
    have hb : b ∉ cs := fun hb => by
      obtain ⟨o, _, _, e'⟩ := hc b hb
      rw [e] at e'; cases e'
    rw [paste_out hb]
    exact U.tups b xs (by rw [cut_out hb]; exact e)
  frzs := fun b o u e => by
    have hb : b ∉ cs := fun hb => by
      obtain ⟨o, _, _, e'⟩ := hc b hb
      rw [e] at e'; cases e'
    rw [paste_out hb]
    exact U.frzs b o u (by rw [cut_out hb]; exact e)
  tbls := fun b ps e => by
    have hb : b ∉ cs := fun hb => by
      obtain ⟨o, _, _, e'⟩ := hc b hb
      rw [e] at e'; cases e'
    rw [paste_out hb]
    exact U.tbls b ps (by rw [cut_out hb]; exact e)
end
section
variable {P : Program} {w : World} {H : Hp} {s : Shared} {cs : List Addr} {outer : List Env}
/-- an exception's way out, with the cells again -/
theorem cx_paste {E : XK} {u : Value} {s' : Shared} (hc : CellsAt H cs) (hok : HOk P w H s.heap) (frf : ∀ b ∈ frs outer, H b = none)
    (x : L2.CX P w outer (cutH H cs) s (fun cls d H' => (∀ b ∈ cs, H' b = none) → E cls d (pasteH H H' cs)) u s') : L2.CX P w outer H s E u s' := by
  obtain ⟨a, B, H', cls, d, rfl, fl, hB, ub, na, os, ag, hE⟩ := x
  have nf : ∀ b ∈ cs, b ∉ frs outer := fun b hb z => by
    obtain ⟨o, _, _, e⟩ := hc b hb
    rw [frf b z] at e; cases e
  have n : ∀ b ∈ cs, H' b = none := fun b hb => by
    obtain ⟨o, _, _, e⟩ := hc b hb
    exact ub.free b o (cell_o hok e) (cut_in hb)
  have kB : ∀ b o, b ∈ cs → H b = some (CellO b o) → B.get? b = some o := fun b o hb e => ub.keep b o (cell_o hok e) (cut_in hb) (nf b hb)
  refine ⟨a, B, pasteH H H' cs, cls, d, rfl, fl, hok_paste hc hB n kB, ub_paste hc ub, ?_, os, ag, hE n⟩
  have ha : a ∉ cs := fun hb => by
    obtain ⟨o, u, hd, e⟩ := hc a hb
    obtain ⟨f1, f2, f3, oe, vs, T, oT, ts, he, hz, hd', _⟩ := id fl
    have := (f1 a o (kB a o hb e)).symm.trans he
    cases this
    rw [hd] at hd'; cases hd'
  rw [paste_out ha]; exact na
theorem ce_paste {Q : VK} {u : Value} {s' : Shared} (hc : CellsAt H cs) (hok : HOk P w H s.heap) (frf : ∀ b ∈ frs outer, H b = none)
    (x : CE outer P w (cutH H cs) s (fun v H' => (∀ b ∈ cs, H' b = none) → Q v (pasteH H H' cs)) u s') : CE outer P w H s Q u s' := by
  obtain ⟨v, H', os, ag, un, hB, rv, q⟩ := x
  have nf : ∀ b ∈ cs, b ∉ frs outer := fun b hb z => by
    obtain ⟨o, _, _, e⟩ := hc b hb
    rw [frf b z] at e; cases e
  have n : ∀ b ∈ cs, H' b = none := fun b hb => by
    obtain ⟨o, _, _, e⟩ := hc b hb
    exact un.free b o (cell_o hok e) (cut_in hb) (by simp)
  have kB : ∀ b o, b ∈ cs → H b = some (CellO b o) → s'.heap.get? b = some o := fun b o hb e => un.keep b o (cell_o hok e) (cut_in hb) (nf b hb) (by simp)
  exact ⟨v, pasteH H H' cs, os, ag, un_paste hc un n, hok_paste hc hB n kB, rv, q n⟩
end
/-! ### the lambda's body -/
/-- the names of a lambda that captures ns -/
structure CloS (scope : Scope) (ns : List Str) : Prop where
  kind : scope.kind = .function
  co : scope.isCoroutine = false
  gen : scope.isGenerator = false
  own : ∀ y ∈ scope.names, y.2 ≠ .local ∧ y.2 ≠ .cell
  free : ∀ y ∈ scope.names, y.2 = .free → y.1 ∈ ns
  nd : ns.Nodup
  is : ∀ n ∈ ns, scope.names.lookup n = some .free
def cloSB (scope : Scope) (ns : List Str) : Bool :=
  decide (scope.kind = .function) && !scope.isCoroutine && !scope.isGenerator && (scope.names.all fun y => !decide (y.2 = .local) && !decide (y.2 = .cell) && (!decide (y.2 = .free) || decide (y.1 ∈ ns))) && decide ns.Nodup && ns.all fun n => decide (scope.names.lookup n = some .free)
theorem cloS_by {scope : Scope} {ns : List Str} (h : cloSB scope ns = true) : CloS scope ns := by
  unfold cloSB at h
  simp only [Bool.and_eq_true, Bool.or_eq_true, Bool.not_eq_true', decide_eq_true_eq, decide_eq_false_iff_not, List.all_eq_true] at h
  obtain ⟨⟨⟨⟨⟨h1, h2⟩, h3⟩, h4⟩, h5⟩, h6⟩ := h
  exact ⟨h1, h2, h3, fun y hy => (h4 y hy).1, fun y hy e => (h4 y hy).2.resolve_left fun z => z e, h5, h6⟩
abbrev cloEnv (L : LamK) (cl : List (Str × Addr)) (l f c : Addr) : Env := PySem.W.envX L.qual L.scope l f (.ref c) cl
/-- the context of the body, entered at s from the frames outer -/
def cloCx (P : Program) (w : World) (K : PySem.W.Frag) (mg : Str → Option Value) (base : Heap) (N : List Str) (L : LamK) (cl : List (Str × Addr)) (f c : Addr) (A : Around) (outer : List Env) (s : Shared) (H : Hp) (E : XK) : Cx where
  prog := P
  w := w
  K := K
  mg := mg
  base := base
  A := A.deeper (cloEnv L cl s.heap.objs.size f c)
  N := N
  s_0 := s
  H_0 := H
  env := cloEnv L cl s.heap.objs.size f c
  outer := outer
  stack := cloEnv L cl s.heap.objs.size f c :: outer
  ex := []
  fn := fun _ => false
  calm := true
  pn := []
  xe := fun e s' => wpAny (model P w) (A.deeper (cloEnv L cl s.heap.objs.size f c)) (leaving (cloEnv L cl s.heap.objs.size f c) e) (fun _ s'' => L2.CX P w outer H s E e s'') (fun e' s'' => L2.CX P w outer H s E e' s'') s'
theorem look_map {cl : List (Str × Addr)} (nd : (cl.map (·.1)).Nodup) : ∀ {i : Nat} {y : Str} {a : Addr}, cl[i]? = some (y, a) → cl.lookup y = some a := by
  induction cl with
  | nil => intro i y a e; simp at e
  | cons p r ih =>
    intro i y a e
    obtain ⟨n1, n2⟩ := List.nodup_cons.mp (show (p.1 :: r.map (·.1)).Nodup from nd)
    cases i with
    | zero =>
      have e : p = (y, a) := by simpa using e
      rw [e, List.lookup_cons, beq_self_eq_true]
    | succ i =>
      have e : r[i]? = some (y, a) := by simpa using e
      have hm : y ∈ r.map (·.1) := List.mem_map.mpr ⟨(y, a), List.mem_of_getElem? e, rfl⟩
      have hn : (y == p.1) = false := by
        cases q : y == p.1 with
        | false => rfl
        | true => exact absurd (eq_of_beq q ▸ hm) n1
      obtain ⟨p1, p2⟩ := p
      rw [List.lookup_cons, hn]
      exact ih n2 e
theorem look_mem {cl : List (Str × Addr)} {y : Str} {a : Addr} (h : cl.lookup y = some a) : (y, a) ∈ cl := PySem.mem_of_lookup h
theorem CellsO.get {H : Hp} {U : Addr → Prop} : ∀ {cl : List (Str × Addr)} {vs : List V} {i : Nat} {y : Str} {a : Addr}, CellsO H U cl vs → cl[i]? = some (y, a) → ∃ (v : V) (o : Obj) (u : Value), vs[i]? = some v ∧ o.data = .cell (some u) ∧ RelV v u ∧ H a = some (CellO a o)
  | [], _, _, _, _, _, e => by simp at e
  | p :: r, _, 0, y, a, ⟨v, ws, o, u, e1, hd, hr, ha, nu, t⟩, e => by
    have e : p = (y, a) := by simpa using e
    subst e
    exact ⟨v, o, u, by rw [e1]; rfl, hd, hr, ha⟩
  | p :: r, _, i + 1, y, a, ⟨v, ws, o, u, e1, hd, hr, ha, nu, t⟩, e => by
    obtain ⟨v', o', u', q1, q2, q3, q4⟩ := CellsO.get (i := i) t (by simpa using e)
    exact ⟨v', o', u', by rw [e1]; simpa using q1, q2, q3, q4⟩
theorem CellsO.len {H : Hp} {U : Addr → Prop} : ∀ {cl : List (Str × Addr)} {vs : List V}, CellsO H U cl vs → vs.length = cl.length
  | [], _, h => by rw [show _ = [] from h]; rfl
  | _ :: r, _, ⟨v, ws, o, u, e1, _, _, _, _, t⟩ => by rw [e1, List.length_cons, List.length_cons, CellsO.len t]
theorem CellsO.at {H : Hp} {U : Addr → Prop} : ∀ {cl : List (Str × Addr)} {vs : List V}, CellsO H U cl vs → CellsAt H (cl.map (·.2))
  | [], _, h => fun b hb => absurd hb (by simp)
  | p :: r, _, ⟨v, ws, o, u, e1, hd, hr, ha, nu, t⟩ => fun b hb => by
    rcases List.mem_cons.mp (show b ∈ p.2 :: r.map (·.2) from hb) with rfl | hb
    · exact ⟨o, some u, hd, ha⟩
    · exact CellsO.at t b hb
theorem snd_inj {cl : List (Str × Addr)} (nd : (cl.map (·.2)).Nodup) {x y : Str} {c : Addr} (h1 : (x, c) ∈ cl) (h2 : (y, c) ∈ cl) : x = y := by
  induction cl with
  | nil => cases h1
  | cons p r ih =>
    obtain ⟨n1, n2⟩ := List.nodup_cons.mp (show (p.2 :: r.map (·.2)).Nodup from nd)
    rcases List.mem_cons.mp h1 with e1 | h1 <;> rcases List.mem_cons.mp h2 with e2 | h2
    · rw [← e1] at e2; cases e2; rfl
    · exact absurd (List.mem_map.mpr ⟨(y, c), h2, by rw [← e1]⟩) n1
    · exact absurd (List.mem_map.mpr ⟨(x, c), h1, by rw [← e2]⟩) n1
    · exact ih n2 h1 h2
section
variable {P : Program} {w : World} {K : PySem.W.Frag} {mg : Str → Option Value} {base : Heap}
theorem clo_start {L : LamK} {ns : List Str} {cl : List (Str × Addr)} {f c : Addr} {A : Around} {outer : List Env} {s : Shared} {H : Hp} {E : XK} {vs : List V} {U : Addr → Prop} {h₁ : Heap} {tk : Nat} (S : CloS L.scope ns) (e0 : Env0 P w K mg base A outer s H) (hd : A.handled = none)
    (hn : cl.map (·.1) = ns) (nd : (cl.map (·.2)).Nodup) (hcl : CellsO H U cl vs) (hns : h₁.Ns s.heap.objs.size fun y => ([] : List (Str × Value)).reverse.lookup y) (kp : ∀ b o, s.heap.get? b = some o → h₁.get? b = some o) :
    Inv (cloCx P w K mg base ns L cl f c A outer s (cutH H (cl.map (·.2))) E) [] (vs.map some) (cutH H (cl.map (·.2))) { s with heap := h₁, toks := tk } := by
  have cat := hcl.at
  have ndn : (cl.map (·.1)).Nodup := by rw [hn]; exact S.nd
  have inC : ∀ {y a}, cl.lookup y = some a → a ∈ cl.map (·.2) := fun {y a} e => List.mem_map.mpr ⟨(y, a), look_mem e, rfl⟩
  have noA : ∀ b : Addr, b ∉ (cloCx P w K mg base ns L cl f c A outer s (cutH H (cl.map (·.2))) E).ex := fun b z => absurd (show b ∈ ([] : List Addr) from z) (by simp)
  have look : ∀ {y}, L.scope.names.lookup y = some .free → ∃ a, cl.lookup y = some a := fun {y} hl => by
    have hy : y ∈ ns := S.free (y, .free) (PySem.mem_of_lookup hl) rfl
    rw [← hn] at hy
    obtain ⟨⟨y', a⟩, hm, e⟩ := List.mem_map.mp hy
    have e : y' = y := e
    subst e
    obtain ⟨i, hi⟩ := List.getElem?_of_mem hm
    exact ⟨a, look_map ndn hi⟩
  have bsC : ∀ b o, base.get? b = some o → b ∉ cl.map (·.2) := fun b o e hb => by
    obtain ⟨o', _, _, e'⟩ := cat b hb
    rw [(e0.bs b o e).2] at e'; cases e'
  have frC : ∀ b ∈ frs outer, cutH H (cl.map (·.2)) b = none := fun b hb => by
    by_cases h : b ∈ cl.map (·.2)
    · exact cut_in h
    · rw [cut_out h]; exact e0.frf b hb
  have hokC := hok_cut cat e0.hok
  refine ⟨⟨e0.mod, S.kind, rfl, rfl, Nat.le_refl _, fun y z a e1 e2 => snd_inj nd (look_mem e1) (look_mem e2), fun y hy => ?_, fun y a z _ => ?_, fun _ => hd, Around.frames_deeper e0.frames, .inr ⟨rfl, rfl⟩, fun b z => absurd z (noA b), fun b o e => ⟨(e0.bs b o e).1, (cut_out (bsC b o e)).trans (e0.bs b o e).2⟩, e0.bsz, fun b _ _ => noA b,
      fun b z => absurd z (noA b), e0.funs, frC⟩,
    rfl, e0.bare, Un.kept kp, ⟨_, hns, fun i y v e1 e2 e3 => ?_⟩, fun y a e => ?_, hokC.fresh (Nat.le_refl _), fun y a e => cut_in (inC e), fun q hq => absurd (show q ∈ ([] : List (Addr × Obj)) ++ [] from hq) (by simp), hokC.kept kp, ?_⟩
  · have hy : L.scope.names.lookup y = some .cell ∨ L.scope.names.lookup y = some .free := hy
    rcases hy with hy | hy
    · exact absurd rfl (S.own _ (PySem.mem_of_lookup hy)).2
    · exact look hy
  · have z : false = true := z
    cases z
  · have e1 : ns[i]? = some y := e1
    have hf : L.scope.names.lookup y = some .free := S.is y (List.mem_of_getElem? e1)
    rw [← hn, List.getElem?_map] at e1
    obtain ⟨a, ha⟩ : ∃ a, cl[i]? = some (y, a) := by
      cases q : cl[i]? with
      | none => rw [q] at e1; cases e1
      | some p => rw [q] at e1; cases e1; exact ⟨p.2, rfl⟩
    obtain ⟨v', o, u, q1, q2, q3, q4⟩ := hcl.get ha
    have e2 : (vs.map some)[i]? = some (some v) := e2
    rw [List.getElem?_map, q1] at e2
    cases e2
    exact ⟨u, q3, .inr ⟨.inr hf, a, look_map ndn ha, o, kp _ _ (cell_o e0.hok q4), q2⟩⟩
  · obtain ⟨i, hi⟩ := List.getElem?_of_mem (look_mem e)
    obtain ⟨v', o, u, q1, q2, q3, q4⟩ := hcl.get hi
    exact ⟨some u, o, kp _ _ (cell_o e0.hok q4), q2⟩
  · show (vs.map some).length = ns.length
    rw [List.length_map, hcl.len, ← hn, List.length_map]
/-- a lambda, and what its body does -/
structure LamP (P : Program) (w : World) (K : PySem.W.Frag) (mg : Str → Option Value) (base : Heap) (k : Nat) where
  L : LamK
  ns : List Str
  t : XK → TE
  S : CloS L.scope ns
  bind : ∀ (cl : List (Str × Addr)) (pm cv ctv : Value), bindArgs (PySem.W.kla_fn "<lambda>" L.qual L.params L.body L.scope cl pm cv ctv) ⟨[], []⟩ = pure []
  body : ∀ (cl : List (Str × Addr)) (A : Around) (outer : List Env) (s : Shared) (H : Hp) (E : XK) (f c : Addr), Room k (A.deeper (cloEnv L cl s.heap.objs.size f c)) → PE (cloCx P w K mg base ns L cl f c A outer s H E) L.body (t E)
/-- what is known of a closure at f -/
structure CloAt (H : Hp) (L : LamK) (ns : List Str) (f : Addr) (cl : List (Str × Addr)) (vs : List V) : Prop where
  code : ∃ c, H f = some (LamO L cl f c) ∧ H c = some (CodeO c L.qual) ∧ f ∉ cl.map (·.2) ∧ c ∉ cl.map (·.2)
  names : cl.map (·.1) = ns
  nd : (cl.map (·.2)).Nodup
  cells : ∃ U, CellsO H U cl vs
/-- calling it -/
def tActC {P : Program} {w : World} {K : PySem.W.Frag} {mg : Str → Option Value} {base : Heap} {k : Nat} (i : Nat) (E : XK) : TE := fun σ H Q => ∃ (l : LamP P w K mg base k) (f : Addr) (cl : List (Str × Addr)) (vs : List V), σ[i]? = some (some (.ref f)) ∧ CloAt H l.L l.ns f cl vs ∧
  l.t (fun cls d H' => (∀ b ∈ cl.map (·.2), H' b = none) → E cls d (pasteH H H' (cl.map (·.2)))) (vs.map some) (cutH H (cl.map (·.2))) (fun v H' => (∀ b ∈ cl.map (·.2), H' b = none) → Q v (pasteH H H' (cl.map (·.2))))
theorem run_clo {k : Nat} (l : LamP P w K mg base k) {f : Addr} {cl : List (Str × Addr)} {vs : List V} {A : Around} {outer : List Env} {s : Shared} {H : Hp} {Q : VK} {E : XK} (hr : Room (k + 1) A) (e0 : Env0 P w K mg base A outer s H) (nl : s.heap.NoLimit) (ca : CloAt H l.L l.ns f cl vs)
    (ht : l.t (fun cls d H' => (∀ b ∈ cl.map (·.2), H' b = none) → E cls d (pasteH H H' (cl.map (·.2)))) (vs.map some) (cutH H (cl.map (·.2))) (fun v H' => (∀ b ∈ cl.map (·.2), H' b = none) → Q v (pasteH H H' (cl.map (·.2))))) :
    codeAny (model P w) A (.call (.ref f) ⟨[], []⟩) (CR (L2.CX P w) outer P w H s Q E) s := by
  obtain ⟨c, hf, hc, _, _⟩ := ca.code
  obtain ⟨U, hcl⟩ := ca.cells
  have cat := hcl.at
  obtain ⟨⟨pm, ctv, of1⟩, _, _⟩ := e0.hok f _ hf
  obtain ⟨⟨oc, vsc, t, hoc, hdc, hvc⟩, _, _⟩ := e0.hok c _ hc
  refine PySem.W.kla_callFunE hr.depth of1 rfl l.S.co l.S.gen rfl ⟨c, oc, vsc, t, rfl, hoc, hdc, hvc⟩ ?_
  rw [l.bind]
  refine wpAny_pure (wpAny_newFunctionEnv (fun y hy => (l.S.own y hy).2) (fun y hy => absurd hy (by simp)) (fun h₁ hns hsb => ⟨nl.fresh _ hsb, ?_⟩) l.S.kind)
  show codeAny _ _ (.expr l.L.body (cloEnv l.L cl s.heap.objs.size f c)) _ _
  have kp : ∀ b o, s.heap.get? b = some o → h₁.get? b = some o := fun b o e => hsb.extBut b o (Nat.ne_of_lt (Heap.lt_size e)) (Heap.get?_push_of_some _ e)
  have J := clo_start (f := f) (c := c) (E := fun cls d H' => (∀ b ∈ cl.map (·.2), H' b = none) → E cls d (pasteH H H' (cl.map (·.2)))) (tk := s.toks + ([] : List (Str × Value)).length) l.S e0 hr.hd ca.names ca.nd hcl hns kp
  refine PySem.W.kla_codeExpr (wpAny_mono ((l.body cl A outer s _ _ f c (hr.deeper _)).run [] _ _ _ _ J ht) (fun v s' hq => ?_) fun e s' hq => ?_)
  · obtain ⟨w', H', J', rv, q⟩ := hq
    exact ce_paste cat e0.hok e0.frf ⟨w', H', J'.os, J'.bare, J'.base, J'.hok, rv, q⟩
  · exact wpAny_mono hq (fun _ s'' h => cx_paste cat e0.hok e0.frf h) fun e' s'' h => cx_paste cat e0.hok e0.frf h
/-- x(), where x is a closure -/
theorem pe_actC {X : Cx} {k i : Nat} {a : Str} {W : WX} {E : XK} {p1 p2 : Pos} (tk : Takes X W) (hW : ∀ cls d σ' H', E cls d H' → W cls d σ' H') (hr : Room (k + 1) X.A) (hN : X.N[i]? = some a) (hv : Vis X.env.scope a) (hd : (a == ("__debug__" : Str)) = false := by decide) (hcd : (a == ("__classdict__" : Str)) = false := by decide) :
    PE X (.Call (.Name a p1) [] [] p2) (tActC (P := X.prog) (w := X.w) (K := X.K) (mg := X.mg) (base := X.base) (k := k) i E) := by
  refine ⟨fun pinsZ sZ σZ HZ Q IZ h => ?_⟩
  obtain ⟨l, f, cl, vs, hs, ca, ht⟩ := h
  refine wpAny_Call_Name_kw (thn ((pe_var (pos := p1) (i := i) hN hv hd hcd).run pinsZ sZ σZ HZ (fun v H1 => v = .ref f ∧ H1 = HZ) IZ ⟨.ref f, hs, rfl, rfl⟩) fun u s1 ⟨v, H1, I1, r1, q1⟩ => ?_)
  obtain ⟨ev, eH⟩ := q1
  subst ev
  rw [eH] at I1
  obtain rfl : u = Value.ref f := r1
  obtain ⟨c, hf, hc, _⟩ := ca.code
  obtain ⟨⟨pm, ctv, of1⟩, _, _⟩ := I1.hok f _ hf
  refine PySem.W.callWith_F0 ⟨_, _, _, _, of1⟩ ?_
  have hx : Passes (L2.CX X.prog X.w) X E := passes_call tk hW
  refine wpAny_call (codeAny_mono (run_clo l hr I1.env0 I1.nolimit ca ht) fun r s' hq => ?_)
  cases r with
  | error e => exact hx pinsZ σZ HZ s1 e s' I1 hq
  | ok fl =>
    cases fl with
    | ret u => exact I1.after hq
    | next => exact False.elim hq
    | brk => exact False.elim hq
    | cont => exact False.elim hq
end
end Dw

/-! A lambda made and kept; a call that lends the def's cells. -/
namespace Dw
open PySem PySem.Spec PyProof.Rows L2 LamX
section
variable {X : Cx} {pins : List (Addr × Obj)} {σ : L2.St} {H : Hp} {s : Shared}
theorem lam_make4 {T : List (Addr × Str)} {c P : Addr} {params : Arguments} {body : Expr} {scope : Scope} {pos : Pos} {E Q : Value → Shared → Prop} (I : Inv X pins σ H s) (TB : TabB X.base X.mg c P) (hcode : X.env.code = .ref c)
    (hm : (P, X.env.qual ++ "<lambda>") ∈ T) (hu : ∀ p ∈ T, p.1 = P → p.2 = X.env.qual ++ "<lambda>") (hT : Tabs T H) (hdef : defaultsOf params X.env = ([], [])) (hfree : ∀ y ∈ scope.names, y.2 = .free → ∃ c, X.env.cells.lookup y.1 = some c)
    (h : ∀ (f c' : Addr) (pm ctv : Value) (H1 : Hp) (s' : Shared), Inv X pins σ H1 s' → Chg P (X.env.qual ++ "<lambda>") H H1 → Tabs T H1 →
      s'.heap.get? f = some (PySem.W.kla_obj "<lambda>" (X.env.qual ++ "<lambda>") params body scope (cloFrom X.env.cells scope.names []) pm c' ctv) → H1 f = none → s.heap.objs.size ≤ f → f ≠ c' → H1 c' = some (CodeO c' (X.env.qual ++ "<lambda>")) →
      (H c' = none ∨ ∃ (ps : Array Value) (pos : Pos), H P = some (.tbl ps) ∧ codeAmong pos ps.toList = some (.ref c')) → Q (.ref f) s') :
    wpAny (model X.prog X.w) X.A (eval (.Lambda params body scope pos) X.env) Q E s := by
  obtain ⟨ps, hP, ht, ha⟩ := hT _ hm
  have hP' : s.heap.get? P = some { cls := .none, data := .fields ps } := I.hok P _ hP
  have bP := TB.bm.keeps I.bk
  refine PySem.W.kla_eval hdef ?_
  cases hc : codeAmong pos ps.toList with
  | some cv =>
    obtain ⟨c', rfl, hco⟩ := ha pos cv hc
    refine PySem.W.kla_makeFunctionHit (mg := X.mg) (c := c) (P := P) (ps := ps) (closure_ok hfree) I.ok.glob (I.mod.glob.keeps I.bk) hcode (TB.code.keeps I.bk) hP' ht hc bP fun ctv h' tk hx hsz => ?_
    have hcl : c' < s.heap.objs.size := (I.hok c' _ hco).lt
    exact h h'.objs.size c' _ ctv H _ (I.kept (t' := tk) fun b o e => Heap.get?_push_of_some _ (hx b o e)) (.inl rfl) hT (Heap.get?_push_size _ rfl) (I.hok.fresh hsz) hsz (fun e => absurd (Nat.lt_of_lt_of_le hcl hsz) (by rw [e]; exact Nat.lt_irrefl _)) hco (.inr ⟨ps, pos, hP, hc⟩)
  | none =>
    refine PySem.W.kla_makeFunction (mg := X.mg) (c := c) (P := P) (ps := ps) (closure_ok hfree) I.ok.glob (I.mod.glob.keeps I.bk) hcode (TB.code.keeps I.bk) hP' ht hc TB.gP bP fun c' ctv h' tk hx hge hlt hrec htb => ?_
    obtain ⟨c2, oc, vs, t, e2, hoc, hd, hv⟩ := hrec
    cases e2
    have nC : H c' = none := I.hok.fresh hge
    have hsz : s.heap.objs.size ≤ h'.objs.size := Nat.le_trans hge (Nat.le_of_lt hlt)
    have I1 := inv_table (t' := tk) (more := #[rawInt pos.line, rawInt pos.col, .ref c']) (h' := h'.push (PySem.W.kla_obj "<lambda>" (X.env.qual ++ "<lambda>") params body scope (cloFrom X.env.cells scope.names []) ((X.mg "__name__").getD .none) c' ctv)) I hP
      (fun b o hb e => Heap.get?_push_of_some _ (hx b o hb e)) (Heap.get?_push_of_some _ htb) hge ⟨oc, vs, t, Heap.get?_push_of_some _ hoc, hd, hv⟩
    refine h h'.objs.size c' _ ctv _ _ I1 (.inr ⟨c', ps, pos, hP, nC, rfl⟩) (tabs_grow hT hu hP ht ha nC) (Heap.get?_push_size _ rfl) ?_ hsz (Nat.ne_of_gt hlt) upd_same (.inl nC)
    rw [upd_ne (Nat.ne_of_gt hlt), upd_ne (Nat.ne_of_gt (Nat.lt_of_lt_of_le (Heap.lt_size hP') hsz))]
    exact I.hok.fresh hsz
/-- something more is known of a new object -/
theorem inv_learn {H1 : Hp} {s1 : Shared} {a : Addr} {o : HO} (I : Inv X pins σ H s) (I1 : Inv X pins σ H1 s1) (hn : H1 a = none) (ha : s.heap.objs.size ≤ a) (kp : ∀ p ∈ X.pn ++ pins, p.1 ≠ a) (new : ObjOk X.prog X.w (upd H1 a o) s1.heap a o) : Inv X pins σ (upd H1 a o) s1 := by
  have lt : ∀ b u, X.s_0.heap.get? b = some u → b ≠ a := fun b u e z => absurd (Nat.lt_of_lt_of_le (Heap.lt_size e) (Nat.le_trans I.sz ha)) (by rw [z]; exact Nat.lt_irrefl _)
  have ne : ∀ b u, H1 b = some u → b ≠ a := fun b u e => ne_of_none e hn
  have B := I1.base
  refine ⟨I1.ok, I1.os, I1.bare, ⟨B.keep, B.slot, fun b u e n x => ?_, B.there, fun b xs e => ?_, fun b u v e => ?_, fun b ps e => ?_⟩, I1.loc, I1.cell, ?_, fun x c e => ?_, fun p hp => ?_, fun b u e => ?_, I1.len⟩
  · rw [upd_ne (lt b u e)]; exact B.free b u e n x
  · have := B.tups b xs e
    rw [upd_ne (ne b _ this)]; exact this
  · have := B.frzs b u v e
    rw [upd_ne (ne b _ this)]; exact this
  · obtain ⟨more, this⟩ := B.tbls b ps e
    exact ⟨more, by rw [upd_ne (ne b _ this)]; exact this⟩
  · rw [upd_ne fun z => ?_]
    · exact I1.free
    · have := I.lt
      rw [z] at this
      exact absurd (Nat.lt_of_lt_of_le this ha) (Nat.lt_irrefl _)
  · rw [upd_ne fun z => ?_]
    · exact I1.freeC x c e
    · obtain ⟨v, ob, ho, _⟩ := I.cell x c e
      have := Heap.lt_size ho
      rw [z] at this
      exact absurd (Nat.lt_of_lt_of_le this ha) (Nat.lt_irrefl _)
  · obtain ⟨h1, h2, h3⟩ := I1.pin p hp
    exact ⟨h1, by rw [upd_ne (kp p hp)]; exact h2, h3⟩
  · by_cases hb : b = a
    · subst hb
      rw [upd_same] at e; cases e
      exact new
    · rw [upd_ne hb] at e
      exact (I1.hok b u e).stay (fun _ _ _ q => q) (fun c q => by rw [upd_ne (ne c _ q)]; exact q) fun c xs q => by rw [upd_ne (ne c _ q)]; exact q
/-- a lambda, made -/
def tLamV (T : List (Addr × Str)) (P : Addr) (L : LamK) (cl : List (Str × Addr)) : TE := fun σ H Q => Tabs T H ∧ ∀ H1, Chg P L.qual H H1 → Tabs T H1 → ∀ f c, H1 f = none → f ≠ c → H1 c = some (CodeO c L.qual) →
  (H c = none ∨ ∃ (ps : Array Value) (pos : Pos), H P = some (.tbl ps) ∧ codeAmong pos ps.toList = some (.ref c)) → Q (.ref f) (upd H1 f (LamO L cl f c))
theorem pe_lamV {T : List (Addr × Str)} {c P : Addr} {params : Arguments} {body : Expr} {scope : Scope} {lpos : Pos} (TB : TabB X.base X.mg c P) (hcode : X.env.code = .ref c) (hm : (P, X.env.qual ++ "<lambda>") ∈ T) (hu : ∀ p ∈ T, p.1 = P → p.2 = X.env.qual ++ "<lambda>") (L : LamS X.env.scope scope) (hdef : defaultsOf params X.env = ([], [])) :
    PE X (.Lambda params body scope lpos) (tLamV T P ⟨params, body, scope, X.env.qual ++ "<lambda>"⟩ (cloFrom X.env.cells scope.names [])) := by
  refine ⟨fun pins s σ H Q I h => ?_⟩
  obtain ⟨hT, h⟩ := h
  refine lam_make4 I TB hcode hm hu hT hdef (L.has I.ok) fun f c' pm ctv H1 s' I1 chg T1 hf hn hge ne hco hor => ?_
  have new : ObjOk X.prog X.w (upd H1 f (LamO ⟨params, body, scope, X.env.qual ++ "<lambda>"⟩ (cloFrom X.env.cells scope.names []) f c')) s'.heap f (LamO ⟨params, body, scope, X.env.qual ++ "<lambda>"⟩ (cloFrom X.env.cells scope.names []) f c') :=
    ⟨⟨pm, ctv, hf⟩, ⟨_, hf⟩, fun h1 h2 ⟨pm, ctv, e⟩ st => ⟨pm, ctv, st _ e⟩⟩
  exact ⟨.ref f, _, inv_learn I I1 hn hge (fun p hp z => by
    have := Heap.lt_size (I.pin p hp).1
    rw [z] at this
    exact absurd (Nat.lt_of_lt_of_le this hge) (Nat.lt_irrefl _)) new, rfl, h H1 chg T1 f c' hn ne hco hor⟩
end
/-! ### a call that lends the cells -/
/-- the cells cs, as g tells, are known too -/
def addH (H : Hp) (cs : List Addr) (g : Addr → Obj) : Hp := fun b => if b ∈ cs then some (CellO b (g b)) else H b
theorem add_in {H : Hp} {cs : List Addr} {g : Addr → Obj} {b : Addr} (h : b ∈ cs) : addH H cs g b = some (CellO b (g b)) := if_pos h
theorem add_out {H : Hp} {cs : List Addr} {g : Addr → Obj} {b : Addr} (h : b ∉ cs) : addH H cs g b = H b := if_neg h
/-- the cell of a name -/
abbrev adX (X : Cx) (y : Str) : Addr := (X.env.cells.lookup y).getD 0
/-- names of the def, by slot, that are cells: ws what they hold -/
def CapN (X : Cx) (σ : L2.St) : List (Nat × Str) → List V → Prop
  | [], ws => ws = []
  | (i, y) :: r, ws => ∃ (v : V) (us : List V), ws = v :: us ∧ X.N[i]? = some y ∧ σ[i]? = some (some v) ∧ X.env.scope.names.lookup y = some .cell ∧ CapN X σ r us
/-- g tells the cells' contents -/
def CapG (X : Cx) (g : Addr → Obj) : List (Nat × Str) → List V → Prop
  | [], ws => ws = []
  | (_, y) :: r, ws => ∃ (v : V) (us : List V) (u : Value), ws = v :: us ∧ (g (adX X y)).data = .cell (some u) ∧ RelV v u ∧ CapG X g r us
abbrev capA (X : Cx) (caps : List (Nat × Str)) : List Addr := caps.map fun p => adX X p.2
section
variable {X : Cx} {pins : List (Addr × Obj)} {σ : L2.St} {H : Hp} {s : Shared}
theorem cap_look (I : Inv X pins σ H s) {y : Str} (h : X.env.scope.names.lookup y = some .cell) : X.env.cells.lookup y = some (adX X y) := by
  obtain ⟨c, hc⟩ := I.ok.has y (.inl h)
  unfold adX
  rw [hc]; rfl
theorem capN_k : ∀ {caps : List (Nat × Str)} {ws : List V}, CapN X σ caps ws → ∀ p ∈ caps, X.env.scope.names.lookup p.2 = some .cell
  | [], _, _ => fun p hp => absurd hp (by simp)
  | (i, y) :: r, _, ⟨v, us, e, hN, hs, hk, t⟩ => fun p hp => by
    rcases List.mem_cons.mp hp with rfl | hp
    · exact hk
    · exact capN_k t p hp
theorem cap_g (I : Inv X pins σ H s) : ∀ {caps : List (Nat × Str)} {ws : List V}, CapN X σ caps ws → CapG X (fun b => (s.heap.get? b).getD { cls := .none, data := .fields #[] }) caps ws ∧ ∀ b ∈ capA X caps, s.heap.get? b = some ((s.heap.get? b).getD { cls := .none, data := .fields #[] })
  | [], _, h => ⟨h, fun b hb => absurd hb (by simp [capA])⟩
  | (i, y) :: r, _, ⟨v, us, e, hN, hs, hk, t⟩ => by
    obtain ⟨hg, ha⟩ := cap_g I t
    obtain ⟨m, _, hl⟩ := I.loc
    obtain ⟨u, ru, lk⟩ := hl i y v hN hs (.inr (.inl hk))
    have hc := cap_look I hk
    have cell : ∃ o : Obj, s.heap.get? (adX X y) = some o ∧ o.data = .cell (some u) := by
      rcases lk with ⟨k', _⟩ | ⟨_, c3, e', o, ho, hd⟩
      · have k' : X.env.scope.names.lookup y = some .local := k'
        rw [hk] at k'; cases k'
      · rw [hc] at e'; cases e'
        exact ⟨o, ho, hd⟩
    obtain ⟨o, ho, hd⟩ := cell
    refine ⟨⟨v, us, u, e, ?_, ru, hg⟩, fun b hb => ?_⟩
    · show ((s.heap.get? (adX X y)).getD _).data = _
      rw [ho]; exact hd
    · rcases List.mem_cons.mp (show b ∈ adX X y :: capA X r from hb) with rfl | hb
      · rw [ho]; rfl
      · exact ha b hb
/-- the callee's frame, the cells known -/
theorem env0_add {cs : List Addr} {g : Addr → Obj} (I : Inv X pins σ H s) (hfn : ∀ y, X.env.scope.names.lookup y = some .cell → X.fn y = true) (hc : ∀ b ∈ cs, ∃ y, X.env.cells.lookup y = some b ∧ X.env.scope.names.lookup y = some .cell) (hg : ∀ b ∈ cs, s.heap.get? b = some (g b)) :
    Env0 X.prog X.w X.K X.mg X.base X.A X.stack s (addH H cs g) ∧ ∀ b ∈ cs, b ∉ frs X.stack := by
  have e0 := I.env0
  have up : ∀ b ∈ cs, X.s_0.heap.objs.size ≤ b := fun b hb => let ⟨y, h1, h2⟩ := hc b hb; I.ok.cab y b (hfn y h2) h1
  have hn : ∀ b ∈ cs, H b = none := fun b hb => let ⟨y, h1, _⟩ := hc b hb; I.freeC y b h1
  have nf : ∀ b ∈ cs, b ∉ frs X.stack := fun b hb z => by
    obtain ⟨y, h1, _⟩ := hc b hb
    rcases List.mem_cons.mp (I.stkSub b z) with e | z
    · exact I.cne y b h1 e
    · obtain ⟨_, o, ho, _⟩ := I.ok.funs.mem z
      exact absurd (Nat.lt_of_lt_of_le (Heap.lt_size ho) (up b hb)) (Nat.lt_irrefl _)
  refine ⟨⟨e0.frames, e0.mod, fun b o e => ⟨(e0.bs b o e).1, ?_⟩, e0.bsz, e0.funs, fun b hb => ?_, fun b u e => ?_, e0.bare⟩, nf⟩
  · rw [add_out fun hb => ?_]
    · exact (e0.bs b o e).2
    · exact absurd (Nat.lt_of_lt_of_le (Heap.lt_size e) (Nat.le_trans I.ok.bsz (up b hb))) (Nat.lt_irrefl _)
  · rw [add_out fun h => nf b h hb]
    exact e0.frf b hb
  · by_cases hb : b ∈ cs
    · rw [add_in hb] at e; cases e
      exact cellO_ok (hg b hb)
    · rw [add_out hb] at e
      exact (e0.hok b u e).stay (fun _ _ _ q => q) (fun c q => by rw [add_out fun z => by rw [hn c z] at q; cases q]; exact q) fun c xs q => by rw [add_out fun z => by rw [hn c z] at q; cases q]; exact q
/-- behind the call: the cells are the def's own again -/
theorem ce_strip {cs : List Addr} {g : Addr → Obj} {Q : VK} {u : Value} {s' : Shared} (hn : ∀ b ∈ cs, H b = none) (hg : ∀ b ∈ cs, s.heap.get? b = some (g b)) (nf : ∀ b ∈ cs, b ∉ frs X.stack)
    (x : CE X.stack X.prog X.w (addH H cs g) s (fun v H' => (∀ b ∈ cs, H' b = some (CellO b (g b))) ∧ Q v (cutH H' cs)) u s') : CE X.stack X.prog X.w H s Q u s' := by
  obtain ⟨v, H', os, ag, un, hok, rv, hc, q⟩ := x
  have ks : ∀ b ∈ cs, s'.heap.get? b = some (g b) := fun b hb => cell_o hok (hc b hb)
  refine ⟨v, cutH H' cs, os, ag, ⟨fun b o e z f x => ?_, fun b o e z f x => ?_, fun b o e z x => ?_, un.there, fun b xs e => ?_, fun b o w e => ?_, fun b ps e => ?_⟩, fun b w e => ?_, rv, q⟩
  · by_cases hb : b ∈ cs
    · rw [hg b hb] at e; cases e
      exact ks b hb
    · exact un.keep b o e (by rw [add_out hb]; exact z) f x
  · exact un.slot b o e (by rw [add_out fun hb => nf b hb f]; exact z) f x
  · by_cases hb : b ∈ cs
    · exact cut_in hb
    · rw [cut_out hb]; exact un.free b o e (by rw [add_out hb]; exact z) x
  · have hb : b ∉ cs := fun hb => by rw [hn b hb] at e; cases e
    rw [cut_out hb]; exact un.tups b xs (by rw [add_out hb]; exact e)
  · have hb : b ∉ cs := fun hb => by rw [hn b hb] at e; cases e
    rw [cut_out hb]; exact un.frzs b o w (by rw [add_out hb]; exact e)
  · have hb : b ∉ cs := fun hb => by rw [hn b hb] at e; cases e
    rw [cut_out hb]; exact un.tbls b ps (by rw [add_out hb]; exact e)
  · by_cases hb : b ∈ cs
    · rw [cut_in hb] at e; cases e
    · rw [cut_out hb] at e
      refine (hok b w e).stay (fun _ _ _ q => q) (fun c q => ?_) fun c xs q => ?_
      · rw [cut_out fun z => by rw [hc c z] at q; cases q]; exact q
      · rw [cut_out fun z => by rw [hc c z] at q; cases q]; exact q
end
/-- f(..), the def's cells lent -/
def tCallC (X : Cx) (sp : Sp) (E : XK) (t : TA) : TE := fun σ H Q => t σ H fun vs H1 => ∃ (caps : List (Nat × Str)) (ws : List V), CapN X σ caps ws ∧ ∀ g : Addr → Obj, CapG X g caps ws → (∀ b ∈ capA X caps, H1 b = none) → (∀ p ∈ caps, ∀ q ∈ caps, adX X p.2 = adX X q.2 → p.2 = q.2) →
  sp vs (addH H1 (capA X caps) g) (fun v H' => (∀ b ∈ capA X caps, H' b = some (CellO b (g b))) ∧ Q v (cutH H' (capA X caps))) E
section
variable [Tabs0] {X : Cx} {k : Nat} {f : Addr} {fd : FuncData} {ps : List Str} {s : Spc} {E : XK} {x : Str} {p pos : Pos} {e : Expr} {es : List Expr} {t : TA}
theorem pe_callGC (F : FnG X.prog X.w X.K X.mg X.base k f fd ps s) (hr : Room k X.A) (hG : X.A.guards = some []) (hfn : ∀ y, X.env.scope.names.lookup y = some .cell → X.fn y = true) (hg : Gl X x) (hm : X.mg x = some (.ref f)) (hk : PySem.W.keepIn X.K (.ref f) = true) (hb : Binds X.K fd ps []) (ha : PA X (e :: es) t)
    (hdb : (x == ("__debug__" : Str)) = false := by decide) (he : starEach (e :: es) X.env = (false, eval e X.env) :: starEach es X.env := by rfl) (hpl : (backTo pos (starEach es X.env)).any (·.1) = false := by rfl) : PE X (.Call (.Name x p) (e :: es) [] pos) (tCallC X (toSp s) E t) := by
  refine ⟨fun pins s1 σ H Q I h => wpAny_Call_Name_kw (ld_glob I hg hm (PySem.W.callWith_K (h₀ := X.base) I.ok.mod.kin hk (thn (ha.run pos pins s1 σ H _ I h) fun us s2 ⟨vs, H1, I1, r, q⟩ => ⟨I1.kIn, ?_⟩) he hpl) hdb)⟩
  obtain ⟨caps, ws, hcap, q⟩ := q
  have hkk := capN_k hcap
  obtain ⟨hG1, hG2⟩ := cap_g I1 hcap
  have hc : ∀ b ∈ capA X caps, ∃ y, X.env.cells.lookup y = some b ∧ X.env.scope.names.lookup y = some .cell := fun b hb => by
    obtain ⟨p, hp, e⟩ := List.mem_map.mp hb
    have e : adX X p.2 = b := e
    rw [← e]
    exact ⟨p.2, cap_look I1 (hkk p hp), hkk p hp⟩
  have hn : ∀ b ∈ capA X caps, H1 b = none := fun b hb => let ⟨y, h1, _⟩ := hc b hb; I1.freeC y b h1
  obtain ⟨e0, nf⟩ := env0_add I1 hfn hc hG2
  have q := q _ hG1 hn fun p hp q hq e => I1.ok.inj p.2 q.2 (adX X p.2) (cap_look I1 (hkk p hp)) (by rw [e]; exact cap_look I1 (hkk q hq))
  have hb := hb s2 us I1.kIn (by rw [List.append_nil, ← r.length]; exact spc_len F.1 _ _ _ _ q)
  rw [List.append_nil] at hb
  refine wpAny_call (codeAny_mono (F.2 X.A X.stack s2 _ ⟨us, []⟩ us vs _ E hr hG e0 hb r q) fun res s3 hq => ?_)
  match res, hq with
  | .error _, hq => exact (show False from hq).elim
  | .ok (.ret _), hq => exact I1.after (ce_strip hn hG2 nf hq)
  | .ok .next, hq => exact (show False from hq).elim
  | .ok .brk, hq => exact (show False from hq).elim
  | .ok .cont, hq => exact (show False from hq).elim
end
/-! ### by data -/
section
variable [Tabs0]
theorem dl_lamV {Γ : Gam} {Tt : List (Addr × Str)} {P : Addr} {L : LamK} {cl : List (Str × Addr)} {i : Nat} {sl : Sl} {Q : D → Gam → Prop} (T : TabsOk Tt) (hP : (P, L.qual) ∈ Tt) (h0 : Γ[i]? = some sl) (tg : TgS sl) (hq : Q (.fnv L cl) Γ) : Dl (tLamV Tt P L cl) Γ Q := fun F σ W R g k => by
  have tb := g.tabs h0 tg
  refine ⟨tabs_of g.ok T tb, fun H1 c T1 f c' hn ne hco hor => ?_⟩
  obtain ⟨st, g1⟩ := g.chg T hP tb c T1
  have nu : ¬ W.U c' := by
    rcases hor with h | ⟨ps, pos, h1, h2⟩
    · exact g.ok.new h
    · exact (g.ok.pu P (tb _ _ (T.sound _ hP))).2.2.cod (T.sound _ hP) ps pos c' h1 h2
  have sm : Same H1 (upd H1 f (LamO L cl f c')) := same_upd hn
  have g2 : SR F Γ σ (W.at (upd H1 f (LamO L cl f c'))) := SR.same (W := W.at H1) sm g1
  have nf : ¬ W.U f := fun u => g1.ok.dom f u hn
  exact k (.ref f) (W.at (upd H1 f (LamO L cl f c'))) (.fnv L cl) Γ (st.trans (Stp.of_same (W := W.at H1) g1.ok sm)) g2 ⟨f, c', rfl, upd_same, nf, by
    show upd H1 f _ c' = _
    rw [upd_ne (Ne.symm ne)]; exact hco, nu⟩ hq
/-- the names captured, with what is known of them -/
def CapD (X : Cx) (Γ : Gam) (cd : List (Nat × Str × D)) : Prop := ∀ p ∈ cd, X.N[p.1]? = some p.2.1 ∧ X.env.scope.names.lookup p.2.1 = some .cell ∧ Γ[p.1]? = some (.val p.2.2)
/-- the names ns hold ds -/
def CapL (cd : List (Nat × Str × D)) : List Str → List D → Prop
  | [], ds => ds = []
  | y :: r, ds => ∃ (i : Nat) (d : D) (es : List D), ds = d :: es ∧ (i, y, d) ∈ cd ∧ CapL cd r es
theorem capd_n {X : Cx} {F : Addr → Prop} {Γ : Gam} {σ : L2.St} {W : Wd} (g : SR F Γ σ W) : ∀ {cd : List (Nat × Str × D)}, CapD X Γ cd → ∃ ws, CapN X σ (cd.map fun p => (p.1, p.2.1)) ws ∧ RepL W (cd.map fun p => p.2.2) ws
  | [], _ => ⟨[], rfl, rfl⟩
  | p :: r, h => by
    obtain ⟨ws, h1, h2⟩ := capd_n g (cd := r) fun q hq => h q (List.mem_cons_of_mem _ hq)
    obtain ⟨a1, a2, a3⟩ := h p List.mem_cons_self
    obtain ⟨v, e, rv⟩ := g.val p.1 p.2.2 a3
    exact ⟨v :: ws, ⟨v, ws, rfl, a1, e, a2, h1⟩, v, ws, rfl, rv, h2⟩
theorem capg_get {X : Cx} {W : Wd} {gf : Addr → Obj} : ∀ {cd : List (Nat × Str × D)} {ws : List V}, CapG X gf (cd.map fun p => (p.1, p.2.1)) ws → RepL W (cd.map fun p => p.2.2) ws → ∀ p ∈ cd, ∃ (v : V) (u : Value), (gf (adX X p.2.1)).data = .cell (some u) ∧ RelV v u ∧ Rep W p.2.2 v
  | [], _, _, _ => fun p hp => absurd hp (by simp)
  | q :: r, _, ⟨v, us, u, e, h1, h2, h3⟩, ⟨v', us', e', r1, r2⟩ => fun p hp => by
    rw [e] at e'; cases e'
    rcases List.mem_cons.mp hp with rfl | hp
    · exact ⟨v, u, h1, h2, r1⟩
    · exact capg_get h3 r2 p hp
end
end Dw

/-! Lambdas by data: given to a def (their cells lent), called there. -/
namespace Dw
open PySem PySem.Spec PyProof.Rows L2 LamX
variable [Tabs0]
mutual
/-- what needs no purse, no table and no closure -/
def okC : D → Bool
  | .purse => false | .scr _ _ => false | .tag _ => false | .fnv _ _ => false | .clo _ _ _ => false
  | .tup ds => okCs ds | .lst ds => okCs ds | .obj _ _ ds => okCs ds | .dct _ ds => okCs ds | .tupN ds => okCs ds
  | _ => true
def okCs : List D → Bool
  | [] => true
  | d :: ds => okC d && okCs ds
end
section
variable {W : Wd} {cs : List Addr}
theorem ca_ne {a : Addr} {u : HO} (hc : CellsAt W.H cs) (h : W.H a = some u) (ne : ∀ φ, u ≠ .ext φ) : a ∉ cs := fun z => by
  obtain ⟨o, _, _, e⟩ := hc a z
  rw [h] at e
  exact ne _ (Option.some.inj e)
theorem tup_cut {a : Addr} {vs : List V} (hc : CellsAt W.H cs) (h : TupAt W.H a vs) : TupAt (cutH W.H cs) a vs := by
  rcases h with h | ⟨o, h⟩
  · exact .inl (by rw [cut_out (ca_ne hc h fun φ z => nomatch z)]; exact h)
  · exact .inr ⟨o, by rw [cut_out (ca_ne hc h fun φ z => nomatch z)]; exact h⟩
end
mutual
theorem Rep.cut {W : Wd} {cs : List Addr} (hc : CellsAt W.H cs) : ∀ (d : D) (v : V), okC d = true → Rep W d v → Rep ⟨cutH W.H cs, W.U, fun _ => False⟩ d v
  | .non, _, _, h => h
  | .bl _, _, _, h => h
  | .int _, _, _, h => h
  | .str _, _, _, h => h
  | .raw _, _, _, h => h
  | .tup ds, _, n, ⟨a, vs, e, h, u, r⟩ => ⟨a, vs, e, tup_cut hc h, u, RepL.cut hc ds vs n r⟩
  | .tupN ds, _, n, ⟨a, vs, e, ⟨o, h, c1, c2⟩, u, r⟩ => ⟨a, vs, e, ⟨o, (cut_out (ca_ne hc h fun φ z => nomatch z)).trans h, c1, c2⟩, u, RepL.cut hc ds vs n r⟩
  | .lst ds, _, n, ⟨a, vs, e, h, u, r⟩ => ⟨a, vs, e, (cut_out (ca_ne hc h fun φ z => nomatch z)).trans h, u, RepL.cut hc ds vs n r⟩
  | .obj C ns ds, _, n, ⟨a, dx, vs, e, h, u, l, r⟩ => ⟨a, dx, vs, e, (cut_out (ca_ne hc h fun φ z => nomatch z)).trans h, u, l, RepL.cut hc ds vs n r⟩
  | .purse, _, n, _ => nomatch n
  | .rng lo hi, _, _, ⟨a, e, h, u⟩ => ⟨a, e, (cut_out (ca_ne hc h fun φ z => nomatch z)).trans h, u⟩
  | .dct ks ds, _, n, ⟨a, vs, e, h, u, l, r⟩ => ⟨a, vs, e, (cut_out (ca_ne hc h fun φ z => nomatch z)).trans h, u, l, RepL.cut hc ds vs n r⟩
  | .scr _ _, _, n, _ => nomatch n
  | .tag _, _, n, _ => nomatch n
  | .fnv _ _, _, n, _ => nomatch n
  | .clo _ _ _, _, n, _ => nomatch n
theorem RepL.cut {W : Wd} {cs : List Addr} (hc : CellsAt W.H cs) : ∀ (ds : List D) (vs : List V), okCs ds = true → RepL W ds vs → RepL ⟨cutH W.H cs, W.U, fun _ => False⟩ ds vs
  | [], _, _, h => h
  | d :: ds, _, n, ⟨v, r, e, h1, h2⟩ => by
    have n' : okC d = true ∧ okCs ds = true := by simpa [okCs] using n
    exact ⟨v, r, e, Rep.cut hc d v n'.1 h1, RepL.cut hc ds r n'.2 h2⟩
end
theorem CellsO.nu {H : Hp} {U : Addr → Prop} : ∀ {cl : List (Str × Addr)} {vs : List V}, CellsO H U cl vs → ∀ b ∈ cl.map (·.2), ¬ U b
  | [], _, h => fun b hb => absurd hb (by simp)
  | p :: r, _, ⟨v, ws, o, u, e1, hd, hr, ha, nu, t⟩ => fun b hb => by
    rcases List.mem_cons.mp (show b ∈ p.2 :: r.map (·.2) from hb) with rfl | hb
    · exact nu
    · exact CellsO.nu t b hb
theorem vals_sr {F : Addr → Prop} {W : Wd} {ds : List D} {vs : List V} (ok : WOk F W) (r : RepL W ds vs) : SR F (ds.map Sl.val) (vs.map some) W := by
  have key : ∀ (i : Nat) (z : Sl), (ds.map Sl.val)[i]? = some z → ∃ d, z = .val d ∧ ds[i]? = some d := fun i z h => by
    rw [List.getElem?_map] at h
    cases q : ds[i]? with
    | none => rw [q] at h; cases h
    | some d => rw [q] at h; cases h; exact ⟨d, rfl, rfl⟩
  refine ⟨ok, by rw [List.length_map, List.length_map, r.length], fun i d h => ?_, fun i d h => ?_, fun i j a x y h => ?_⟩
  · obtain ⟨d', e, hd⟩ := key i _ h
    cases e
    obtain ⟨v, e1, r1⟩ := r.get hd
    exact ⟨v, by rw [List.getElem?_map, e1]; rfl, r1⟩
  · obtain ⟨d', e, _⟩ := key i _ h
    cases e
  · obtain ⟨d', e, _⟩ := key i _ h
    cases e
section
variable {P : Program} {w : World} {K : PySem.W.Frag} {mg : Str → Option Value} {base : Heap} {k i : Nat} {Γ : Gam} {ds : List D} {E : XK} {x : Exn} {d : D} {R : Option Addr → Hp → Prop}
theorem same_paste {W : Wd} {cs : List Addr} {H' : Hp} (s : Same (cutH W.H cs) H') : Same W.H (pasteH W.H H' cs) := fun b u e => by
  by_cases hb : b ∈ cs
  · rw [paste_in hb]; exact e
  · rw [paste_out hb]
    exact s b u (by rw [cut_out hb]; exact e)
theorem keep_paste {W : Wd} {cs : List Addr} {H' : Hp} (n : ∀ b ∈ cs, H' b = none) : ∀ a u, H' a = some u → ¬ W.U a → pasteH W.H H' cs a = some u ∧ ¬ W.U a := fun a u e nu => by
  have : a ∉ cs := fun z => by rw [n a z] at e; cases e
  exact ⟨(paste_out this).trans e, nu⟩
/-- the closure raises x -/
theorem ert_actC (l : LamP P w K mg base k) (h0 : Γ[i]? = some (.val (.clo l.L l.ns ds))) (hok : okCs ds = true) (hb : ∀ E, ErT (l.t E) (ds.map Sl.val) x fun ed H' => E (.ref x.C) ed H') (hR : ∀ ed H', R ed H' → E (.ref x.C) ed H') : ErT (tActC (P := P) (w := w) (K := K) (mg := mg) (base := base) (k := k) i E) Γ x R := fun F σ W Q g kR => by
  obtain ⟨v, e, f, c, cl, vs, rfl, h1, n1, h2, n2, a1, a2, a3, a4, hcl, rr⟩ := g.val i _ h0
  have cat := hcl.at
  have nu := hcl.nu
  refine ⟨l, f, cl, vs, e, ⟨⟨c, h1, h2, a3, a4⟩, a1, a2, W.U, hcl⟩, ?_⟩
  have okW : WOk W.U ⟨cutH W.H (cl.map (·.2)), W.U, fun _ => False⟩ := ⟨fun a u z => g.ok.dom a u ((cut_out fun m => nu a m u).symm.trans z), fun a u => u, fun a z => z.elim⟩
  refine hb (fun cls d H' => (∀ b ∈ cl.map (·.2), H' b = none) → E cls d (pasteH W.H H' (cl.map (·.2)))) W.U (vs.map some) ⟨cutH W.H (cl.map (·.2)), W.U, fun _ => False⟩ _ (vals_sr okW (RepL.cut cat ds vs hok rr)) fun ed H' s' ex => fun hn => hR ed _ (kR ed _ (same_paste s') ⟨fun dd ed' => ?_, ?_⟩)
  · have z : cutH W.H (cl.map (·.2)) dd = none := ex.1 dd ed'
    by_cases hm : dd ∈ cl.map (·.2)
    · exfalso
      have q := ex.2
      obtain ⟨C, fs⟩ := x
      cases fs with
      | nil => rw [show ed = none from q] at ed'; cases ed'
      | cons f0 fs =>
        obtain ⟨dd', ws, e1, _, e2, _⟩ := q
        rw [e1] at ed'; cases ed'
        have e2 : H' dd = some _ := e2
        rw [hn dd hm] at e2; cases e2
    · rw [cut_out hm] at z; exact z
  · exact ExHeld.mono (W := ⟨H', W.U, fun _ => False⟩) (W' := W.at (pasteH W.H H' (cl.map (·.2)))) (keep_paste (W := W) hn) (fun _ z => z.elim) ex.2
/-- the closure returns d -/
theorem ev_actC (l : LamP P w K mg base k) (h0 : Γ[i]? = some (.val (.clo l.L l.ns ds))) (hok : okCs ds = true) (hb : ∀ E, Ev (l.t E) (ds.map Sl.val) d) : Ev (tActC (P := P) (w := w) (K := K) (mg := mg) (base := base) (k := k) i E) Γ d := fun F σ W Q g kR => by
  obtain ⟨v, e, f, c, cl, vs, rfl, h1, n1, h2, n2, a1, a2, a3, a4, hcl, rr⟩ := g.val i _ h0
  have cat := hcl.at
  have nu := hcl.nu
  refine ⟨l, f, cl, vs, e, ⟨⟨c, h1, h2, a3, a4⟩, a1, a2, W.U, hcl⟩, ?_⟩
  have okW : WOk W.U ⟨cutH W.H (cl.map (·.2)), W.U, fun _ => False⟩ := ⟨fun a u z => g.ok.dom a u ((cut_out fun m => nu a m u).symm.trans z), fun a u => u, fun a z => z.elim⟩
  refine hb (fun cls d H' => (∀ b ∈ cl.map (·.2), H' b = none) → E cls d (pasteH W.H H' (cl.map (·.2)))) W.U (vs.map some) ⟨cutH W.H (cl.map (·.2)), W.U, fun _ => False⟩ _ (vals_sr okW (RepL.cut cat ds vs hok rr)) fun v' H' s' r' => fun hn => kR v' _ (same_paste s') ?_
  exact Rep.mono (W := ⟨H', W.U, fun _ => False⟩) (W' := W.at (pasteH W.H H' (cl.map (·.2)))) (keep_paste (W := W) hn) (fun _ z => z.elim) d v' r'
end
/-! ### given to a def -/
section
variable {X : Cx}
theorem capl_mem {cd : List (Nat × Str × D)} : ∀ {ns : List Str} {ds : List D}, CapL cd ns ds → ∀ y ∈ ns, ∃ i d, (i, y, d) ∈ cd
  | [], _, _ => fun y hy => absurd hy (by simp)
  | n :: r, _, ⟨i, d, es, e, h, t⟩ => fun y hy => by
    rcases List.mem_cons.mp hy with rfl | hy
    · exact ⟨i, d, h⟩
    · exact capl_mem t y hy
theorem capl_cells {W1 W2 : Wd} {cd : List (Nat × Str × D)} {gf : Addr → Obj} (hU : ∀ p ∈ cd, ¬ W2.U (adX X p.2.1)) (hH : ∀ p ∈ cd, W2.H (adX X p.2.1) = some (CellO (adX X p.2.1) (gf (adX X p.2.1))))
    (hp : ∀ p ∈ cd, ∃ (v : V) (u : Value), (gf (adX X p.2.1)).data = .cell (some u) ∧ RelV v u ∧ Rep W1 p.2.2 v) (up : ∀ d v, noP d = true → Rep W1 d v → Rep W2 d v) : ∀ {ns : List Str} {ds : List D}, CapL cd ns ds → noPs ds = true →
    ∃ vs, CellsO W2.H W2.U (ns.map fun y => (y, adX X y)) vs ∧ RepL W2 ds vs
  | [], _, h, _ => ⟨[], rfl, by rw [show _ = [] from h]; rfl⟩
  | n :: r, _, ⟨i, d, es, e, h, t⟩, np => by
    subst e
    have np' : noP d = true ∧ noPs es = true := by simpa [noPs] using np
    obtain ⟨vs, c1, r1⟩ := capl_cells hU hH hp up t np'.2
    obtain ⟨v, u, h1, h2, h3⟩ := hp (i, n, d) h
    exact ⟨v :: vs, ⟨v, vs, _, u, rfl, h1, h2, hH (i, n, d) h, hU (i, n, d) h, c1⟩, v, vs, rfl, up d v np'.1 h3, r1⟩
abbrev fnvD (X : Cx) (q : LamK × List Str × List D) : D := .fnv q.1 (q.2.1.map fun y => (y, adX X y))
abbrev cloD (q : LamK × List Str × List D) : D := .clo q.1 q.2.1 q.2.2
theorem dl_callC {Γ : Gam} {s : Spc} {t : TA} {E : XK} {Q : D → Gam → Prop} (h : DlA t Γ fun ds Γ1 => ∃ (cd : List (Nat × Str × D)) (fs : List (LamK × List Str × List D)) (due : D) (x : s.ty) (b : Bool), ds = [.lst (fs.map (fnvD X)), due] ∧ CapD X Γ1 cd ∧ (∀ q ∈ fs, q.2.1.Nodup ∧ CapL cd q.2.1 q.2.2) ∧
      s.args x = [.lst (fs.map cloD), due] ∧ noPs (s.args x) = true ∧ s.ok x ∧ (∀ d', s.rel x d' → d' = .bl b) ∧ Q (.bl b) Γ1) : Dl (tCallC X (toSp s) E t) Γ Q := fun F σ W R g k => h F σ W _ g fun vs W1 ds Γ1 st g1 r ⟨cd, fs, due, x, b, e, hcd, hfs, ha, np, ok, hd, q⟩ => by
  subst e
  obtain ⟨ws, hcap, hrw⟩ := capd_n g1 hcd
  refine ⟨cd.map fun p => (p.1, p.2.1), ws, hcap, fun gf hg hn hinj => ?_⟩
  obtain ⟨cs, ecs⟩ : ∃ cs, cs = capA X (cd.map fun p => (p.1, p.2.1)) := ⟨_, rfl⟩
  have mcs : ∀ p ∈ cd, adX X p.2.1 ∈ cs := fun p hp => by
    rw [ecs]
    exact List.mem_map.mpr ⟨(p.1, p.2.1), List.mem_map.mpr ⟨p, hp, rfl⟩, rfl⟩
  rw [← ecs] at hn ⊢
  have sm : Same W1.H (addH W1.H cs gf) := fun a u e => (add_out fun z => by rw [hn a z] at e; cases e).trans e
  have okc : WOk W1.U ⟨addH W1.H cs gf, W1.U, fun _ => False⟩ := ⟨fun a u z => g1.ok.dom a u (sm.free z), fun a u => u, fun a z => z.elim⟩
  have up : ∀ d v, noP d = true → Rep W1 d v → Rep ⟨addH W1.H cs gf, W1.U, fun _ => False⟩ d v := fun d v n r => Rep.same (W := ⟨W1.H, W1.U, fun _ => False⟩) sm (Rep.delP d v n r)
  have hp := capg_get hg hrw
  have nU : ∀ p ∈ cd, ¬ W1.U (adX X p.2.1) := fun p hp u => g1.ok.dom _ u (hn _ (mcs p hp))
  have hH : ∀ p ∈ cd, addH W1.H cs gf (adX X p.2.1) = some (CellO (adX X p.2.1) (gf (adX X p.2.1))) := fun p hp => add_in (mcs p hp)
  rw [ha] at np
  have np' : noPs (fs.map cloD) = true ∧ noP due = true := by
    have : (noPs (fs.map cloD) && (noP due && true)) = true := np
    simpa using this
  have conv : ∀ {us : List V} (fs' : List (LamK × List Str × List D)), (∀ q ∈ fs', q ∈ fs) → noPs (fs'.map cloD) = true → RepL W1 (fs'.map (fnvD X)) us → RepL ⟨addH W1.H cs gf, W1.U, fun _ => False⟩ (fs'.map cloD) us := fun {us} fs' => by
    induction fs' generalizing us with
    | nil => intro _ _ h; exact h
    | cons q0 r ih =>
      intro hm hnp ⟨v, us', e, rv, rr⟩
      have n2 : noPs q0.2.2 = true ∧ noPs (r.map cloD) = true := by
        have : (noPs q0.2.2 && noPs (r.map cloD)) = true := hnp
        simpa using this
      refine ⟨v, us', e, ?_, ih (fun q hq => hm q (List.mem_cons_of_mem _ hq)) n2.2 rr⟩
      obtain ⟨f, c, ev, h1, u1, h2, u2⟩ := rv
      obtain ⟨nd, hcl⟩ := hfs q0 (hm q0 List.mem_cons_self)
      obtain ⟨vs', c1, r1⟩ := capl_cells (W1 := W1) (W2 := ⟨addH W1.H cs gf, W1.U, fun _ => False⟩) nU hH hp up hcl n2.1
      have nin : ∀ a u, W1.H a = some u → a ∉ (q0.2.1.map fun y => (y, adX X y)).map (·.2) := fun a u e z => by
        rw [List.map_map] at z
        obtain ⟨y, hy, e'⟩ := List.mem_map.mp z
        have e' : adX X y = a := e'
        obtain ⟨i, d, hm'⟩ := capl_mem hcl y hy
        have := hn _ (mcs _ hm')
        rw [e', e] at this; cases this
      refine ⟨f, c, q0.2.1.map fun y => (y, adX X y), vs', ev, sm _ _ h1, u1, sm _ _ h2, u2, ?_, ?_, nin f _ h1, nin c _ h2, c1, r1⟩
      · rw [List.map_map]
        exact (List.map_congr_left fun y _ => rfl).trans (List.map_id _)
      · rw [List.map_map]
        refine List.pairwise_map.mpr (nd.imp_of_mem fun {y z} hy hz ne e => ne ?_)
        obtain ⟨i, d, hm1⟩ := capl_mem hcl y hy
        obtain ⟨j, d', hm2⟩ := capl_mem hcl z hz
        exact hinj (i, y) (List.mem_map.mpr ⟨_, hm1, rfl⟩) (j, z) (List.mem_map.mpr ⟨_, hm2, rfl⟩) e
  obtain ⟨v1, _, rfl, ⟨a, us, rfl, hA, nuA, rl⟩, v2, _, rfl, rd, rfl⟩ := r
  refine ⟨x, W1.U, ⟨addH W1.H cs gf, W1.U, fun _ => False⟩, rfl, okc, ?_, ok, fun d v W' hrel st' ok' r' => ?_⟩
  · rw [ha]
    exact ⟨_, _, rfl, ⟨a, us, rfl, sm _ _ hA, nuA, conv fs (fun _ h => h) np'.1 rl⟩, v2, [], rfl, up due v2 np'.2 rd, rfl⟩
  · have s2 : Same (addH W1.H cs gf) W'.H := fun b o e => by
      by_cases hb : W1.U b
      · exact (st'.fr b hb).trans e
      · exact (st'.keep b o e hb).1
    rw [hd d hrel] at r'
    have r' : v = .bl b := r'
    refine ⟨fun c hc => s2 _ _ (add_in hc), ?_⟩
    have s3 : Same W1.H (cutH W'.H cs) := fun c o e => by
      rw [cut_out fun z => by rw [hn c z] at e; cases e]
      exact s2 _ _ (sm _ _ e)
    exact k v (W1.at (cutH W'.H cs)) (.bl b) Γ1 (st.trans (Stp.of_same g1.ok s3)) (g1.same s3) r' q
end
end Dw

/-! try with many clauses, some with a name; repr of data and of own objects; a call of a closure in it. -/
namespace Dw
open PySem PySem.Spec PyProof.Rows L2 LamX
/-- what the clauses wish of an exception of the body, one after the other; i: the slot of the name -/
def wManyN (K : PySem.W.Frag) (i : Nat) (D : Ends) : List (Value × Bool × (Addr → Value → Option Addr → TS)) → WX
  | [] => fun _ _ _ _ => False
  | (c, nm, ts) :: r => fun cls d σ H => ∃ b, PySem.W.exmOne K cls c = some b ∧ (b = true → ∀ a, H a = none → if nm = true then ts a cls d { nx := fun σ' H' => D.nx (σ'.set i none) H', rt := D.rt, bk := fun σ' H' => D.bk (σ'.set i none) H', ct := fun σ' H' => D.ct (σ'.set i none) H' } (σ.set i (some (.ref a))) H else ts a cls d D σ H) ∧ (b = false → wManyN K i D r cls d σ H)
inductive HdsN (X : Cx) (n : Str) (i : Nat) : List ExceptHandler → List (Value × Bool × (Addr → Value → Option Addr → TS)) → Prop
  | nil : HdsN X n i [] []
  | cons {x : Str} {c : Value} {ts : Addr → Value → Option Addr → TS} {b₀ : Stmt} {suite : List Stmt} {np pos' : Pos} {hds : List ExceptHandler} {l : List (Value × Bool × (Addr → Value → Option Addr → TS))} (hc : Names X x c)
      (hsu : ∀ (a : Addr) (oe : Obj) (cls : Value) (d : Option Addr) (pn : List (Addr × Obj)), Zc cls d oe → (∃ vs, oe.data = .fields vs) → PSs (X.suite a ((a, oe) :: pn)) (b₀ :: suite) (ts a cls d)) (r : HdsN X n i hds l) :
      HdsN X n i (.ExceptHandler (some (.Name x np)) none (b₀ :: suite) pos' :: hds) ((c, false, ts) :: l)
  | named {x : Str} {c : Value} {ts : Addr → Value → Option Addr → TS} {b₀ : Stmt} {suite : List Stmt} {np pos' : Pos} {hds : List ExceptHandler} {l : List (Value × Bool × (Addr → Value → Option Addr → TS))} (hi : X.N[i]? = some n) (hln : X.env.kindOf n = some .local) (hc : Names X x c)
      (hsu : ∀ (a : Addr) (oe : Obj) (cls : Value) (d : Option Addr) (pn : List (Addr × Obj)), Zc cls d oe → (∃ vs, oe.data = .fields vs) → PSs (X.suite a ((a, oe) :: pn)) (b₀ :: suite) (ts a cls d)) (r : HdsN X n i hds l) :
      HdsN X n i (.ExceptHandler (some (.Name x np)) (some n) (b₀ :: suite) pos' :: hds) ((c, true, ts) :: l)
section
variable {X : Cx} {body : List Stmt} {h₀ : ExceptHandler} {hds : List ExceptHandler} {l : List (Value × Bool × (Addr → Value → Option Addr → TS))} {pos : Pos} {tb : WX → TS} {n : Str} {i : Nat}
theorem ps_try_manyN (hs : X.stack = X.env :: X.outer) (hf : X.env.frame = some X.env.locals) (hN : X.N.Nodup)
    (hb : ∀ (W : WX) (pn : List (Addr × Obj)) (xe : Value → Shared → Prop), Takes (X.tr pn xe) W → PassesOwn (model X.prog X.w) X.A X.env xe → PSs (X.tr pn xe) body (tb W))
    (hh : HdsN X n i (h₀ :: hds) l) : PS X (.Try body (h₀ :: hds) [] [] pos) (fun D σ H => tb (wManyN X.K i D l) D σ H) := by
  refine ⟨fun pins s σ H D I h => ?_⟩
  have ok := I.ok
  have hfr : X.A.frames = some (X.env :: X.outer) := by rw [ok.frames, hs]
  refine wpAny_Try_except ?_
  refine wpAny_mono ((hb (wManyN X.K i D l) (X.pn ++ pins) (fun e s₁ => wpAny (model X.prog X.w) X.A (noteFrame e X.env) (fun _ s₂ => wpAny (model X.prog X.w) X.A (setFlight e none) (fun _ s₃ =>
    wpAny (model X.prog X.w) X.A (handleBy e X.env (h₀ :: hds)) (L2.SP X pins D) X.xe s₃) X.xe s₂) X.xe s₁) (fun u s' xx => ?_) PassesOwn.looking).run [] s σ H D (I.toTry _) h) (fun f s1 hsp => ?_) (fun e s1 he => he)
  · obtain ⟨a, B, sI, pins', σ', H', cls, d, rfl, J', nb, up, sky, na, os, ag, w⟩ := xx
    have J : Inv X pins σ' H' sI := J'.ofTry ok
    have sky' : Sky B (X.env :: X.outer) a (Zc cls d) X.env.locals s'.heap := by rw [← hs]; exact sky
    show wpAny (model X.prog X.w) X.A (noteFrame (.ref a) X.env) _ _ _
    refine Sky.land Zc.steady hfr hf sky' fun h3 fl3 up3 => ?_
    have J3 : Inv X pins σ' H' { s' with heap := h3 } := J.landed nb fl3.1 (up.trans up3) os ag
    obtain ⟨oe3, vs3, he3, hz3, hd3⟩ := fl3.there
    have nfr : a ∉ frs (X.env :: X.outer) := fun hm => by
      obtain ⟨_, o', e', hnf⟩ := fl3.2.2.1.mem hm
      rw [he3] at e'; cases e'
      exact hnf _ hd3
    have nL : a ≠ X.env.locals := fun z => nfr (List.mem_filterMap.mpr ⟨X.env, List.mem_cons_self, by rw [hf, z]⟩)
    have nF : a ∉ X.fs := fun hm => by
      obtain ⟨e, he, q⟩ := List.mem_filterMap.mp hm
      exact nfr (List.mem_filterMap.mpr ⟨e, List.mem_cons_of_mem _ he, q⟩)
    have S3 := J3.suite he3 hd3 na nL nF
    have LT : PySem.W.Looks (model X.prog X.w) h3 (typeOf (.ref a)) cls := fun A Q E s k q => wpAny_typeOf_ref (k _ _ he3) (by rw [hz3.1]; exact q)
    have test : ∀ {x : Str} {c : Value} {np : Pos} {Q E : Value → Shared → Prop}, Names X x c → Q c { s' with heap := h3 } → wpAny (model X.prog X.w) (X.A.mark (some (.ref a))) (eval (.Name x np) X.env) Q E { s' with heap := h3 } := fun {x c np Q E} hc q => by
      obtain ⟨hg, hdbg, hm | ⟨hm, hv, hnn⟩⟩ := hc
      · exact ld_glob (X := X.suite a ((a, oe3) :: (X.pn ++ pins))) S3 hg hm q hdbg
      · exact ld_blt (X := X.suite a ((a, oe3) :: (X.pn ++ pins))) S3 hg hm hv q hnn hdbg
    have go : ∀ {hds' : List ExceptHandler} {l' : List (Value × Bool × (Addr → Value → Option Addr → TS))}, HdsN X n i hds' l' → wManyN X.K i D l' cls d σ' H' →
        wpAny (model X.prog X.w) X.A (handleBy (.ref a) X.env hds') (L2.SP X pins D) X.xe { s' with heap := h3 } := by
      intro hds' l' hk
      induction hk with
      | nil => intro w; exact (show False from w).elim
      | @cons x c ts b₀ suite np pos' hds2 l2 hc hsu r ih =>
        intro w
        obtain ⟨b, hb1, hyes, hno⟩ := w
        refine wpAny_handleBy_cons (codeAny_handlers_test ?_) (by intro q; cases q)
        have LM := PySem.W.exm_one (M := model X.prog X.w) (J3.kIn) LT hb1
        refine test hc (LM.here ?_)
        cases b with
        | true =>
          refine codeAny_handlers_suite ?_
          refine HandSPX.lands_againZ fl3 fun h4 fl4 up4 => ?_
          have J4 : Inv X pins σ' H' { s' with heap := h4 } := J.landed nb fl4.1 ((up.trans up3).trans up4) os ag
          obtain ⟨oe4, vs4, he4, hz4, hd4⟩ := fl4.there
          have S4 := J4.suite he4 hd4 na nL nF
          have hy := hyes rfl a na
          rw [if_neg Bool.false_ne_true] at hy
          refine wpAny_mono ((hsu a oe4 cls d (X.pn ++ pins) hz4 ⟨_, hd4⟩).run [] _ _ H' _ S4 hy) (fun f s6 hsp => ?_) (fun _ _ z => False.elim z)
          match f, hsp with
          | .next, ⟨_, _, S6, q6⟩ => exact ⟨_, _, S6.unsuite ok, q6⟩
          | .brk, ⟨_, _, S6, q6⟩ => exact ⟨_, _, S6.unsuite ok, q6⟩
          | .cont, ⟨_, _, S6, q6⟩ => exact ⟨_, _, S6.unsuite ok, q6⟩
          | .ret u, ⟨_, _, _, S6, r6, q6⟩ => exact ⟨_, _, _, S6.unsuite ok, r6, q6⟩
        | false =>
          show wpAny _ X.A (handleBy (.ref a) X.env hds2) _ _ _
          exact ih (hno rfl)
      | @named x c ts b₀ suite np pos' hds2 l2 hi hln hc hsu r ih =>
        intro w
        obtain ⟨b, hb1, hyes, hno⟩ := w
        refine wpAny_handleBy_cons (codeAny_handlers_test ?_) (by intro q; cases q)
        have LM := PySem.W.exm_one (M := model X.prog X.w) (J3.kIn) LT hb1
        refine test hc (LM.here ?_)
        cases b with
        | true =>
          refine codeAny_handlers_suite_as ?_
          refine HandSPX.lands_againZ fl3 fun h4 fl4 up4 => ?_
          have J4 : Inv X pins σ' H' { s' with heap := h4 } := J.landed nb fl4.1 ((up.trans up3).trans up4) os ag
          obtain ⟨oe4, vs4, he4, hz4, hd4⟩ := fl4.there
          have hy := hyes rfl a na
          rw [if_pos rfl] at hy
          refine store_ok (X := X.suite a ((a, oe4) :: (X.pn ++ pins))) (v := .ref a) (J4.suite he4 hd4 na nL nF) hN hi (.inl hln) rfl (fun s5 S5 => ?_) (.inr hln)
          refine wpAny_mono ((hsu a oe4 cls d (X.pn ++ pins) hz4 ⟨_, hd4⟩).run [] s5 _ H' _ S5 hy) (fun f s6 hsp => ?_) (fun _ _ z => False.elim z)
          have end_ : ∀ {σ6 : L2.St} {H6 : Hp} {Q : Shared → Prop}, Inv (X.suite a ((a, oe4) :: (X.pn ++ pins))) [] σ6 H6 s6 → (∀ s7, Inv X pins (σ6.set i none) H6 s7 → Q s7) →
              wpAny (model X.prog X.w) X.A (do bindName X.env n .none; unbindBehindTheSuite X.env n pos') (fun _ s7 => Q s7) X.xe s6 := fun {σ6 H6 Q} S6 hq => gone_ok (S6.unsuite ok) hN hi hln hq
          match f, hsp with
          | .next, ⟨_, _, S6, q6⟩ => exact end_ S6 fun s7 J7 => ⟨_, _, J7, q6⟩
          | .brk, ⟨_, _, S6, q6⟩ => exact end_ S6 fun s7 J7 => ⟨_, _, J7, q6⟩
          | .cont, ⟨_, _, S6, q6⟩ => exact end_ S6 fun s7 J7 => ⟨_, _, J7, q6⟩
          | .ret u, ⟨_, _, _, S6, r6, q6⟩ => exact end_ S6 fun s7 J7 => ⟨_, _, _, J7, r6, q6⟩
        | false =>
          show wpAny _ X.A (handleBy (.ref a) X.env hds2) _ _ _
          exact ih (hno rfl)
    exact go hh w
  · match f, hsp with
    | .next, ⟨_, _, J', q⟩ => exact wpAny_execs_nil ⟨_, _, J'.ofTry ok, q⟩
    | .brk, ⟨_, _, J', q⟩ => exact ⟨_, _, J'.ofTry ok, q⟩
    | .cont, ⟨_, _, J', q⟩ => exact ⟨_, _, J'.ofTry ok, q⟩
    | .ret u, ⟨_, _, _, J', r, q⟩ => exact ⟨_, _, _, J'.ofTry ok, r, q⟩
/-- the class is known when the suite runs -/
theorem pss_cls {ss : List Stmt} {cls : Value} {PC : Addr → Prop} {t : Addr → TS} (h : ∀ C, cls = .ref C → PC C → PSs X ss (t C)) : PSs X ss (fun D σ H => ∃ C, cls = .ref C ∧ PC C ∧ t C D σ H) :=
  ⟨fun pins s σ H D I ⟨C, e, p, q⟩ => (h C e p).run pins s σ H D I q⟩
theorem pe_actCA {P : Program} {w : World} {K : PySem.W.Frag} {mg : Str → Option Value} {base : Heap} {k : Nat} {a : Str} {W : WX} {E : XK} {p1 p2 : Pos} (tk : Takes X W) (hW : ∀ cls d σ' H', E cls d H' → W cls d σ' H') (hr : Room (k + 1) X.A) (hN : X.N[i]? = some a) (hv : Vis X.env.scope a)
    (e1 : X.prog = P := by rfl) (e2 : X.w = w := by rfl) (e3 : X.K = K := by rfl) (e4 : X.mg = mg := by rfl) (e5 : X.base = base := by rfl) (hd : (a == ("__debug__" : Str)) = false := by decide) (hcd : (a == ("__classdict__" : Str)) = false := by decide) :
    PE X (.Call (.Name a p1) [] [] p2) (tActC (P := P) (w := w) (K := K) (mg := mg) (base := base) (k := k) i E) := by
  subst e1 e2 e3 e4 e5
  exact pe_actC tk hW hr hN hv hd hcd
end
/-! ### repr of own objects, alone or in a display of one -/
def rRep1 (K : PySem.W.Frag) (C : Addr) (sp : Sp) : List V → Hp → VK → Prop := rOr1 (rReprO K C sp) (rOwn1 C sp)
theorem cr_own_of {X : Cx} {C f : Addr} {sp : Sp} (run : Runs X f sp) (hu : X.A.units + 10 < PySem.cLine) (hs : PySem.W.findIn X.K (.ref C) "__repr__" = some (some (.ref f))) (hf : PySem.W.isFn X.K (.ref f) = true) : CallR X (.builtin "repr") (rOwn1 C sp) := by
  intro pins s σ H xs us Q I r h
  obtain ⟨a, dx, fs, rfl, ha, hsp⟩ := h
  obtain ⟨u, rfl, ru⟩ := vals1 r
  cases ru
  obtain ⟨mA, J, _⟩ := ins_get I.hok ha
  obtain ⟨od, J, _⟩ := J.look
  obtain ⟨m, hF⟩ := I.fr
  refine PySem.W.repr_K (by show X.A.units + 1 < cLine; omega) hF I.ok.mod.kin J hs hf ?_
  exact run X.A.in1 pins σ H s [Value.ref a] [V.ref a] _ _ _ rfl rfl (Nat.le_add_right _ _) (by show X.A.units + 1 ≤ _; omega) I (.cons rfl .nil) hsp fun u s' h => str_back h
section
variable {X : Cx} {C f : Addr} {fd : FuncData} {q : Str} {m : Nat} {sp : Sp}
theorem cr_rep1 (F : FnOk X.prog X.w X.K X.mg X.base CX0 m f fd [q] sp) (hr : Room (m + 1) X.A) (hG : X.A.guards = some []) (hs : PySem.W.findIn X.K (.ref C) "__repr__" = some (some (.ref f))) (hf : PySem.W.isFn X.K (.ref f) = true) (hb : Binds X.K fd [q] []) : CallR X (.builtin "repr") (rRep1 X.K C sp) := fun pins s σ H xs us Q I r h =>
  h.elim (cr_reprO_of (runs_ok F hr hb) hG (by have := hr.un; omega) hs hf pins s σ H xs us Q I r) (cr_own_of (runs_ok F hr hb) (by have := hr.un; omega) hs hf pins s σ H xs us Q I r)
theorem cr_rep1H {p : Addr × Obj} [Tabs0] (F : FnT X.prog X.w X.K X.mg X.base m f fd [q] sp) (hr : L2H.RoomH (m + 1) X.A) (hG : X.A.guards = some []) (hp : p ∈ X.pn) (hs : PySem.W.findIn X.K (.ref C) "__repr__" = some (some (.ref f))) (hf : PySem.W.isFn X.K (.ref f) = true) (hb : Binds X.K fd [q] []) : CallR X (.builtin "repr") (rRep1 X.K C sp) := fun pins s σ H xs us Q I r h =>
  h.elim (cr_reprO_of (runs_held F hr hp hb) hG (by have := hr.un; omega) hs hf pins s σ H xs us Q I r) (cr_own_of (runs_held F hr hp hb) (by have := hr.un; omega) hs hf pins s σ H xs us Q I r)
end
/-! ### by data -/
variable [Tabs0]
/-- what r says of d is z -/
def RpR (r : List V → Hp → VK → Prop) (d : D) (z : Str) : Prop := ∀ (F : Addr → Prop) (Γ : Gam) (σ : L2.St) (W : Wd) (v : V) (Q : VK), SR F Γ σ W → Rep W d v → (∀ H, Same W.H H → Q (.str z) H) → r [v] W.H Q
section
variable {K : PySem.W.Frag} {r r' : List V → Hp → VK → Prop} {d : D} {z : Str} {C : Addr} {s : Spc} {Γ : Gam} {te : TE} {x : Exn} {ed : Option Addr}
theorem RpR.inl (h : RpR r d z) : RpR (fun xs H Q => r xs H Q ∨ r' xs H Q) d z := fun F Γ σ W v Q g rv q => .inl (h F Γ σ W v Q g rv q)
theorem RpR.inr (h : RpR r' d z) : RpR (fun xs H Q => r xs H Q ∨ r' xs H Q) d z := fun F Γ σ W v Q g rv q => .inr (h F Γ σ W v Q g rv q)
theorem RpR.y (h : RpD d z) : RpR (rReprY K) d z := fun F Γ σ W v Q g rv q => rep_reprY rv h (q _ (Same.refl _))
/-- [x], (x,) or x -/
def RpO1 (C : Addr) (sp : Spc) (d : D) (z : Str) : Prop := ∃ (x : sp.ty) (ns : List Str) (ds : List D) (t : Str), sp.args x = [.obj C ns ds] ∧ noPs (sp.args x) = true ∧ sp.ok x ∧ (∀ d, sp.rel x d → d = .str t) ∧ t.length ≤ 1000 ∧ ((d = .lst [.obj C ns ds] ∧ z = listText [t]) ∨ (d = .tup [.obj C ns ds] ∧ z = tupleText [t]) ∨ (d = .obj C ns ds ∧ z = t))
theorem RpR.o (h : RpO1 C s d z) : RpR (rRep1 K C (toSp s)) d z := fun F Γ σ W v Q g rv q => by
  obtain ⟨x, ns, ds, t, ha, np, ok, hd, ht, ⟨rfl, rfl⟩ | ⟨rfl, rfl⟩ | ⟨rfl, rfl⟩⟩ := h
  · exact .inl (rep_reprOL g rv ha np ok hd ht q)
  · exact .inl (rep_reprOT g rv ha np ok hd ht q)
  · obtain ⟨a, dx, vs, rfl, hH, nu, l, rr⟩ := rv
    refine .inr ⟨a, dx, _, rfl, hH, ?_⟩
    have r0 : RepL W (s.args x) [.ref a] := by rw [ha]; exact RepL.one ⟨a, dx, vs, rfl, hH, nu, l, rr⟩
    exact pure_call g (fun _ z => z) (RepL.delP _ _ np r0) ok fun d' v H' hd' s' r' => by
      rw [hd d' hd'] at r'
      have r' : v = .str z := r'
      exact ⟨⟨z, r'⟩, by rw [r']; exact q H' s'⟩
theorem ev_reprR (h : Ev te Γ d) (hz : RpR r d z) : Ev (tCB r (tCons te tNil)) Γ (.str z) := fun F σ W Q g q => h F σ W _ g fun v H s rv => hz F Γ σ (W.at H) v Q (g.same s) rv fun H' s' => q _ H' (Same.trans s s') rfl
theorem evh_reprR (h : EvH te Γ x ed d) (hz : RpR r d z) : EvH (tCB r (tCons te tNil)) Γ x ed (.str z) := fun F σ W Q g hx q => h F σ W _ g hx fun v H s rv => hz F Γ σ (W.at H) v Q (g.same s) rv fun H' s' => q _ H' (Same.trans s s') rfl
end
/-- the suite without a name: it returns d -/
def SuitU (ts : Addr → Value → Option Addr → TS) (n : Nat) (x : Exn) (d : D) : Prop := ∀ (F : Addr → Prop) (W : Wd) (σ : L2.St) (a : Addr) (Dr : Ends) (ed : Option Addr), WOk F W → σ.length = n → W.H a = none → ExHeld W x ed → (∀ v H', Same W.H H' → Rep (W.at H') d v → Dr.rt v H') → ts a (.ref x.C) ed Dr σ W.H
/-- the first clause that takes x returns d -/
def Takes1 (K : PySem.W.Frag) (n i : Nat) (x : Exn) (d : D) : List (Value × Bool × (Addr → Value → Option Addr → TS)) → Prop
  | [] => False
  | (c, nm, ts) :: r => (PySem.W.exmOne K (.ref x.C) c = some true ∧ if nm = true then SuitX ts n i x d else SuitU ts n x d) ∨ (PySem.W.exmOne K (.ref x.C) c = some false ∧ Takes1 K n i x d r)
section
variable {K : PySem.W.Frag} {i n : Nat} {tb : WX → TS} {Γ : Gam} {De : DE} {x : Exn} {d : D} {l : List (Value × Bool × (Addr → Value → Option Addr → TS))}
theorem takes1_w {F : Addr → Prop} {W : Wd} {σ : L2.St} {ed : Option Addr} {D : Ends} (ok : WOk F W) (hl : σ.length = n) (hx : ExHeld W x ed) (k : ∀ v H', Same W.H H' → Rep (W.at H') d v → D.rt v H') : ∀ {l : List (Value × Bool × (Addr → Value → Option Addr → TS))}, Takes1 K n i x d l → wManyN K i D l (.ref x.C) ed σ W.H
  | [], h => (show False from h).elim
  | (c, nm, ts) :: r, h => by
    rcases h with ⟨h1, h2⟩ | ⟨h1, h2⟩
    · refine ⟨true, h1, fun _ a na => ?_, fun z => nomatch z⟩
      cases nm with
      | true =>
        rw [if_pos rfl] at h2 ⊢
        exact h2 F W σ a _ ed ok hl na hx k
      | false =>
        rw [if_neg Bool.false_ne_true] at h2 ⊢
        exact h2 F W σ a _ ed ok hl na hx k
    · exact ⟨false, h1, fun z => (nomatch z), fun _ => takes1_w ok hl hx k h2⟩
theorem ds_try_manyR (h : ∀ Wx, Ds (tb Wx) Γ De) : Ds (fun D σ H => tb (wManyN K i D l) D σ H) Γ De := fun F σ W Dr g l => h _ F σ W Dr g l
theorem ds_try_manyX (h : ∀ Wx : WX, ErS (tb Wx) Γ x fun ed H' => ∀ σ', σ'.length = n → Wx (.ref x.C) ed σ' H') (hx : Takes1 K n i x d l) (hd : De.rt d) : Ds (fun D σ H => tb (wManyN K i D l) D σ H) Γ De := fun F σ W Dr g lf => h _ F σ W Dr g fun ed H' s ex σ' hl => by
  have g1 : SR F Γ σ (W.at H') := g.same s
  exact takes1_w (W := W.at H') g1.ok hl ex.2 (fun v H2 s2 r => by
    have g2 : SR F Γ σ (W.at H2) := SR.same (W := W.at H') s2 g1
    exact lf.rt v (W.at H2) d ((Stp.of_same g.ok s).trans (Stp.of_same (W := W.at H') g1.ok s2)) g2.ok r hd) hx
end
end Dw

/-! A lambda made, with what its body does. -/
namespace Dw
open PySem PySem.Spec PyProof.Rows L2 LamX
def tLamP {P : Program} {w : World} {K : PySem.W.Frag} {mg : Str → Option Value} {base : Heap} {k : Nat} (T : List (Addr × Str)) (Pt : Addr) (l : LamP P w K mg base k) (cl : List (Str × Addr)) : TE := tLamV T Pt l.L cl
theorem pe_lamP {X : Cx} {P : Program} {w : World} {K : PySem.W.Frag} {mg : Str → Option Value} {base : Heap} {k : Nat} {T : List (Addr × Str)} {c Pt : Addr} {ns : List Str} {params : Arguments} {body : Expr} {scope : Scope} {lpos : Pos} {t : XK → TE} (TB : TabB X.base X.mg c Pt) (hcode : X.env.code = .ref c)
    (hm : (Pt, X.env.qual ++ "<lambda>") ∈ T) (hu : ∀ p ∈ T, p.1 = Pt → p.2 = X.env.qual ++ "<lambda>") (L : LamS X.env.scope scope) (hdef : defaultsOf params X.env = ([], [])) (S : CloS scope ns)
    (hbind : ∀ (q : Str) (cl : List (Str × Addr)) (pm cv ctv : Value), bindArgs (PySem.W.kla_fn "<lambda>" q params body scope cl pm cv ctv) ⟨[], []⟩ = pure [])
    (hbody : ∀ (cl : List (Str × Addr)) (A : Around) (outer : List Env) (s : Shared) (H : Hp) (E : XK) (f c : Addr), Room k (A.deeper (cloEnv ⟨params, body, scope, X.env.qual ++ "<lambda>"⟩ cl s.heap.objs.size f c)) → PE (cloCx P w K mg base ns ⟨params, body, scope, X.env.qual ++ "<lambda>"⟩ cl f c A outer s H E) body (t E)) :
    PE X (.Lambda params body scope lpos) (tLamP T Pt (⟨⟨params, body, scope, X.env.qual ++ "<lambda>"⟩, ns, t, S, fun cl pm cv ctv => hbind _ cl pm cv ctv, hbody⟩ : LamP P w K mg base k) (cloFrom X.env.cells scope.names [])) :=
  pe_lamV TB hcode hm hu L hdef
variable [Tabs0]
theorem dl_lamP {P : Program} {w : World} {K : PySem.W.Frag} {mg : Str → Option Value} {base : Heap} {k : Nat} {Γ : Gam} {Tt : List (Addr × Str)} {Pt : Addr} {l : LamP P w K mg base k} {cl : List (Str × Addr)} {i : Nat} {sl : Sl} {Q : D → Gam → Prop} (T : TabsOk Tt) (hP : (Pt, l.L.qual) ∈ Tt) (h0 : Γ[i]? = some sl) (tg : TgS sl)
    (hq : ∀ l' : LamP P w K mg base k, l'.ns = l.ns → (∀ E, l'.t E = l.t E) → Q (.fnv l'.L cl) Γ) : Dl (tLamP Tt Pt l cl) Γ Q := dl_lamV T hP h0 tg (hq l rfl fun _ => rfl)
theorem capD_nil {X : Cx} {Γ : Gam} : CapD X Γ [] := fun p hp => absurd hp (by simp)
theorem capD_cons {X : Cx} {Γ : Gam} {i : Nat} {y : Str} {d : D} {r : List (Nat × Str × D)} (h1 : X.N[i]? = some y) (h2 : X.env.scope.names.lookup y = some .cell) (h3 : Γ[i]? = some (.val d)) (t : CapD X Γ r) : CapD X Γ ((i, y, d) :: r) := fun p hp => by
  rcases List.mem_cons.mp hp with rfl | hp
  · exact ⟨h1, h2, h3⟩
  · exact t p hp
theorem capL_nil {cd : List (Nat × Str × D)} : CapL cd [] [] := rfl
theorem capL_cons {cd : List (Nat × Str × D)} {i : Nat} {y : Str} {d : D} {r : List Str} {ds : List D} (h : (i, y, d) ∈ cd) (t : CapL cd r ds) : CapL cd (y :: r) (d :: ds) := ⟨i, d, ds, rfl, h, t⟩
end Dw
namespace Dw
open PySem PySem.Spec PyProof.Rows L2
section
variable {X : Cx} {C f : Addr} {fd : FuncData} {q : Str} {m : Nat} {sp : Sp}
theorem rep1A (K : PySem.W.Frag) (F : FnOk X.prog X.w X.K X.mg X.base CX0 m f fd [q] sp) (hr : Room (m + 1) X.A) (hG : X.A.guards = some []) (hs : PySem.W.findIn X.K (.ref C) "__repr__" = some (some (.ref f))) (hf : PySem.W.isFn X.K (.ref f) = true) (hb : Binds X.K fd [q] []) (hK : X.K = K := by rfl) : CallR X (.builtin "repr") (rRep1 K C sp) := hK ▸ cr_rep1 F hr hG hs hf hb
theorem rep1HA (K : PySem.W.Frag) {p : Addr × Obj} [Tabs0] {k : Nat} (F : FnT X.prog X.w X.K X.mg X.base m f fd [q] sp) (hr : L2H.RoomH (m + 1) X.A) (hG : X.A.guards = some []) (hp : p ∈ X.pn) (hs : PySem.W.findIn X.K (.ref C) "__repr__" = some (some (.ref f))) (hf : PySem.W.isFn X.K (.ref f) = true) (hb : Binds X.K fd [q] []) (hK : X.K = K := by rfl) : CallR X (.builtin "repr") (rRep1 K C sp) := hK ▸ cr_rep1H F hr hG hp hs hf hb
end
end Dw
namespace Dw
open PySem PySem.Spec PyProof.Rows L2
theorem roomHS {k : Nat} {A : Around} {v : Option Value} (hr : Room k A) : L2H.RoomH k (A.mark v) := ⟨(L2H.roomH_of hr).dp, (L2H.roomH_of hr).un⟩
end Dw

/-! tuple * n, n = 1 too. -/
namespace L2
open PySem PySem.Spec PyProof.Rows
theorem tuple_mul1 (l : Addr) (items : Array Value) (n : Nat) (dd : Option Addr) (sl : Array (Option Value)) (u : Tok) :
    Meets (Builtin.«tuple.__mul__» ⟨[.ref l, .int 1 u], []⟩) (fun _ R s => s.heap.get? l = some { cls := .type "tuple", dict := dd, data := .seq items n, slots := sl } ∧ R (.ok (.ret (Value.ref l))) s) :=
  .of_wp fun prog w A R s h => by
    obtain ⟨hp, g, d, tk, os⟩ := s
    obtain ⟨hl, h⟩ := h
    have f1 := AutoSeq1.idx_int
    wp_walk using wpAny_loadPart' hl
    repeat (first
      | (refine wpAny_ite_false (decide_eq_false (by decide)) ?_; wp_walk using wpAny_loadPart' hl)
      | (refine wpAny_ite_true (by rw [show ((1 : Int) == 1) = true from rfl, Bool.or_true]) ?_; wp_walk using wpAny_loadPart' hl)
      | (refine wpAny_ite_true (decide_eq_true (by rw [show ((1 : Int) == 1) = true from rfl, Bool.or_true])) ?_; wp_walk using wpAny_loadPart' hl))
    exact ⟨_, rfl, h⟩
def rRepT1 (K : PySem.W.Frag) : R2 := fun x y H Q => ∃ l xs, x = .ref l ∧ y = .int 1 ∧ SqT K H l xs ∧ Q (.ref l) H
theorem op_repT1 {X : Cx} : OpR X (binaryOp .Mult) (rRepT1 X.K) := by
  intro pins s σ H x y v u Q I rx ry h
  obtain ⟨l, xs, rfl, rfl, hT, q⟩ := h
  cases rx
  obtain ⟨t, rfl⟩ := ry
  obtain ⟨its, r, ⟨⟨cls, dd, data, sl⟩, ho, hc, n, hd⟩, hs⟩ := I.tuple hT
  simp only at hc hd
  subst hc hd
  exact wpAny_binaryOp_repeat_ref (T := "tuple") (U := "int") (by decide) ⟨_, ho, rfl⟩ (fun s' => typeIs_int s' 1 t) noFill_tuple_mul F.fills_int_mul F.slot_int_rmul repeat_tuple F.slot_int_index.lookup
    (call_meets F.slot_int_rmul (typeIs_int s 1 t) F.entry_int_rmul (F.args_int_rmul_2 _ _) (int_rmul_tuple 1 t l its.toArray n dd sl)
      ⟨ho, rfl, ⟨_, ho, rfl⟩, call_meets F.slot_tuple_mul ⟨_, ho, rfl⟩ F.entry_tuple_mul (F.args_tuple_mul_2 _ _) (tuple_mul1 l its.toArray n dd sl t) ⟨ho, ⟨.ref l, H, I, rfl, q⟩⟩⟩)
end L2
namespace Dw
open PySem PySem.Spec PyProof.Rows L2
variable [Tabs0]
/-- tuple * n -/
theorem timesTA {X : Cx} (K : PySem.W.Frag) (hK : X.K = K := by rfl) : OpR X (binaryOp .Mult) (rOr rTimes (rOr (rRepT K) (rRepT1 K))) := hK ▸ opTimes.or (op_repT.or op_repT1)
theorem ev_repT {K : PySem.W.Frag} {Γ : Gam} {ta tb : TE} {ds : List D} {n : Nat} (h : Ev ta Γ (.tup ds)) (hn : Ev tb Γ (.int n)) (ne : ds ≠ []) (h1 : 1 ≤ n) (hk : n ≤ 1000) (hz : ds.length ≤ 1000) : Ev (tOp (rOr rTimes (rOr (rRepT K) (rRepT1 K))) ta tb) Γ (.tup (List.replicate n ds).flatten) := fun F σ W Q g k =>
  h F σ W _ g fun u H s ⟨a, vs, eu, hT, nu, l⟩ => hn F σ (W.at H) _ (g.same s) fun v H2 s2 r => by
    have r : v = .int n := r
    subst eu r
    have hT2 : TupAt H2 a vs := hT.same s2
    by_cases e : n = 1
    · subst e
      refine .inr (.inr ⟨a, vs, rfl, rfl, hT2.sq, k _ H2 (Same.trans s s2) ?_⟩)
      have : (List.replicate 1 ds).flatten = ds := by simp
      rw [this]
      exact ⟨a, vs, rfl, hT2, nu, RepL.same (W := W.at H) s2 l⟩
    · refine .inr (.inl ⟨a, n, vs, rfl, rfl, hT2.sq, fun z => ne ?_, by omega, by omega, by rw [← l.length]; exact hz, fun p hp => ?_⟩)
      · have := l.length
        rw [z] at this
        exact List.length_eq_zero_iff.mp this
      · rw [Int.toNat_natCast]
        exact k _ _ (Same.trans s (Same.trans s2 (same_upd hp))) (rep_new_tup (W := W.at H2) ((g.same s).same (W := W.at H) s2).ok.dom hp (repL_rep (RepL.same (W := W.at H) s2 l) n))
end Dw

namespace K27
open PySem PySem.Spec PyProof.Rows L2 Dw
variable [Tabs0]
/-! ### the text by places -/
def topS (i : Nat) : Stmt := PySem.Challenge.pw_rankedrules_k27_cases_refused.main.body.getD i (.Pass ⟨0, 0, 0, 0⟩)
abbrev s_is_name : Stmt := topS 25
abbrev N_is_name : List Str := ["value", "letter"]
theorem sc_is_name : FnScope N_is_name ["value"] (defScope s_is_name) := ⟨rfl, rfl, rfl, by decide +kernel, rfl, by decide +kernel, by decide +kernel⟩
abbrev s_are_names : Stmt := topS 26
abbrev N_are_names : List Str := ["values", "one", "other", "value"]
theorem sc_are_names : FnScope N_are_names ["values"] (defScope s_are_names) := ⟨rfl, rfl, rfl, by decide +kernel, rfl, by decide +kernel, by decide +kernel⟩
abbrev s_is_number : Stmt := topS 27
abbrev N_is_number : List Str := ["word", "digit"]
theorem sc_is_number : FnScope N_is_number ["word"] (defScope s_is_number) := ⟨rfl, rfl, rfl, by decide +kernel, rfl, by decide +kernel, by decide +kernel⟩
abbrev s_is_any_row : Stmt := topS 28
abbrev N_is_any_row : List Str := ["value", "sign"]
theorem sc_is_any_row : FnScope N_is_any_row ["value"] (defScope s_is_any_row) := ⟨rfl, rfl, rfl, by decide +kernel, rfl, by decide +kernel, by decide +kernel⟩
abbrev s_is_row : Stmt := topS 29
abbrev N_is_row : List Str := ["value", "many"]
theorem sc_is_row : FnScope N_is_row ["value", "many"] (defScope s_is_row) := ⟨rfl, rfl, rfl, by decide +kernel, rfl, by decide +kernel, by decide +kernel⟩
abbrev s_is_whole : Stmt := topS 30
abbrev N_is_whole : List Str := ["value"]
theorem sc_is_whole : FnScope N_is_whole ["value"] (defScope s_is_whole) := ⟨rfl, rfl, rfl, by decide +kernel, rfl, by decide +kernel, by decide +kernel⟩
abbrev s_is_ranking : Stmt := topS 32
abbrev N_is_ranking : List Str := ["value", "many", "rule"]
theorem sc_is_ranking : FnScope N_is_ranking ["value", "many"] (defScope s_is_ranking) := ⟨rfl, rfl, rfl, by decide +kernel, rfl, by decide +kernel, by decide +kernel⟩
abbrev s_InvalidRanking___init__ : Stmt := inClass (topS 7) 0
abbrev N_InvalidRanking___init__ : List Str := ["self", "given"]
theorem sc_InvalidRanking___init__ : FnScope N_InvalidRanking___init__ ["self", "given"] (defScope s_InvalidRanking___init__) := ⟨rfl, rfl, rfl, by decide +kernel, rfl, by decide +kernel, by decide +kernel⟩
abbrev s_check_ranking : Stmt := topS 33
abbrev N_check_ranking : List Str := ["ranking", "many"]
theorem sc_check_ranking : FnScope N_check_ranking ["ranking", "many"] (defScope s_check_ranking) := ⟨rfl, rfl, rfl, by decide +kernel, rfl, by decide +kernel, by decide +kernel⟩
abbrev s_UnknownName___init__ : Stmt := inClass (topS 8) 0
abbrev N_UnknownName___init__ : List Str := ["self", "given"]
theorem sc_UnknownName___init__ : FnScope N_UnknownName___init__ ["self", "given"] (defScope s_UnknownName___init__) := ⟨rfl, rfl, rfl, by decide +kernel, rfl, by decide +kernel, by decide +kernel⟩
abbrev s_check_known : Stmt := topS 34
abbrev N_check_known : List Str := ["name", "names"]
theorem sc_check_known : FnScope N_check_known ["name", "names"] (defScope s_check_known) := ⟨rfl, rfl, rfl, by decide +kernel, rfl, by decide +kernel, by decide +kernel⟩
abbrev s_read_book : Stmt := topS 38
abbrev N_read_book : List Str := ["text", "head", "_", "tail", "names", "first", "rows", "row"]
theorem sc_read_book : FnScope N_read_book ["text"] (defScope s_read_book) := ⟨rfl, rfl, rfl, by decide +kernel, rfl, by decide +kernel, by decide +kernel⟩
abbrev s_read_mark : Stmt := topS 40
abbrev N_read_mark : List Str := ["word"]
theorem sc_read_mark : FnScope N_read_mark ["word"] (defScope s_read_mark) := ⟨rfl, rfl, rfl, by decide +kernel, rfl, by decide +kernel, by decide +kernel⟩
abbrev s_read_candidates : Stmt := topS 41
abbrev N_read_candidates : List Str := ["text", "read_word", "parts", "names", "many", "marks", "part", "words", "row", "word"]
theorem sc_read_candidates : FnScope N_read_candidates ["text", "read_word"] (defScope s_read_candidates) := ⟨rfl, rfl, rfl, by decide +kernel, rfl, by decide +kernel, by decide +kernel⟩
abbrev s_read_case : Stmt := topS 42
abbrev N_read_case : List Str := ["text"]
theorem sc_read_case : FnScope N_read_case ["text"] (defScope s_read_case) := ⟨rfl, rfl, rfl, by decide +kernel, rfl, by decide +kernel, by decide +kernel⟩
abbrev s_row_holds : Stmt := topS 44
abbrev N_row_holds : List Str := ["row", "ranking", "rule"]
theorem sc_row_holds : FnScope N_row_holds ["row", "ranking"] (defScope s_row_holds) := ⟨rfl, rfl, rfl, by decide +kernel, rfl, by decide +kernel, by decide +kernel⟩
abbrev s_all_hold : Stmt := topS 45
abbrev N_all_hold : List Str := ["rows", "ranking", "row"]
theorem sc_all_hold : FnScope N_all_hold ["rows", "ranking"] (defScope s_all_hold) := ⟨rfl, rfl, rfl, by decide +kernel, rfl, by decide +kernel, by decide +kernel⟩
abbrev s_sign_of : Stmt := topS 46
abbrev N_sign_of : List Str := ["mark", "rival"]
theorem sc_sign_of : FnScope N_sign_of ["mark", "rival"] (defScope s_sign_of) := ⟨rfl, rfl, rfl, by decide +kernel, rfl, by decide +kernel, by decide +kernel⟩
abbrev s_row_between : Stmt := topS 47
abbrev N_row_between : List Str := ["mine", "theirs", "mark", "rival"]
theorem sc_row_between : FnScope N_row_between ["mine", "theirs"] (defScope s_row_between) := ⟨rfl, rfl, rfl, by decide +kernel, rfl, by decide +kernel, by decide +kernel⟩
abbrev s_has_sign : Stmt := topS 51
abbrev N_has_sign : List Str := ["row", "rules", "sign", "rule"]
theorem sc_has_sign : FnScope N_has_sign ["row", "rules", "sign"] (defScope s_has_sign) := ⟨rfl, rfl, rfl, by decide +kernel, rfl, by decide +kernel, by decide +kernel⟩
abbrev s_split : Stmt := topS 52
abbrev N_split : List Str := ["rows", "many", "made", "left", "still", "barred", "layer", "index", "row", "rule"]
theorem sc_split : FnScope N_split ["rows", "many"] (defScope s_split) := ⟨rfl, rfl, rfl, by decide +kernel, rfl, by decide +kernel, by decide +kernel⟩
abbrev s_some_fits : Stmt := topS 53
abbrev N_some_fits : List Str := ["rows", "many", "_", "still"]
theorem sc_some_fits : FnScope N_some_fits ["rows", "many"] (defScope s_some_fits) := ⟨rfl, rfl, rfl, by decide +kernel, rfl, by decide +kernel, by decide +kernel⟩
abbrev s_NotACase___init__ : Stmt := inClass (topS 10) 0
abbrev N_NotACase___init__ : List Str := ["self", "given"]
theorem sc_NotACase___init__ : FnScope N_NotACase___init__ ["self", "given"] (defScope s_NotACase___init__) := ⟨rfl, rfl, rfl, by decide +kernel, rfl, by decide +kernel, by decide +kernel⟩
abbrev s_check_case : Stmt := topS 56
abbrev N_check_case : List Str := ["case"]
theorem sc_check_case : FnScope N_check_case ["case"] (defScope s_check_case) := ⟨rfl, rfl, rfl, by decide +kernel, rfl, by decide +kernel, by decide +kernel⟩
abbrev s_Case_marks : Stmt := inClass (topS 55) 3
abbrev N_Case_marks : List Str := ["self"]
theorem sc_Case_marks : FnScope N_Case_marks ["self"] (defScope s_Case_marks) := ⟨rfl, rfl, rfl, by decide +kernel, rfl, by decide +kernel, by decide +kernel⟩
abbrev s_Case_names : Stmt := inClass (topS 55) 2
abbrev N_Case_names : List Str := ["self"]
theorem sc_Case_names : FnScope N_Case_names ["self"] (defScope s_Case_names) := ⟨rfl, rfl, rfl, by decide +kernel, rfl, by decide +kernel, by decide +kernel⟩
abbrev s_row_against : Stmt := topS 57
abbrev N_row_against : List Str := ["case", "one", "other"]
theorem sc_row_against : FnScope N_row_against ["case", "one", "other"] (defScope s_row_against) := ⟨rfl, rfl, rfl, by decide +kernel, rfl, by decide +kernel, by decide +kernel⟩
abbrev s_rows_of : Stmt := topS 58
abbrev N_rows_of : List Str := ["case", "one", "other"]
theorem sc_rows_of : FnScope N_rows_of ["case", "one"] (defScope s_rows_of) := ⟨rfl, rfl, rfl, by decide +kernel, rfl, by decide +kernel, by decide +kernel⟩
abbrev s_against : Stmt := topS 59
abbrev N_against : List Str := ["case", "one", "other"]
theorem sc_against : FnScope N_against ["case", "one", "other"] (defScope s_against) := ⟨rfl, rfl, rfl, by decide +kernel, rfl, by decide +kernel, by decide +kernel⟩
abbrev s_winners : Stmt := topS 60
abbrev N_winners : List Str := ["case", "ranking", "name"]
theorem sc_winners : FnScope N_winners ["case", "ranking"] (defScope s_winners) := ⟨rfl, rfl, rfl, by decide +kernel, rfl, by decide +kernel, by decide +kernel⟩
abbrev s_told_by : Stmt := topS 61
abbrev N_told_by : List Str := ["case", "one"]
theorem sc_told_by : FnScope N_told_by ["case", "one"] (defScope s_told_by) := ⟨rfl, rfl, rfl, by decide +kernel, rfl, by decide +kernel, by decide +kernel⟩
abbrev s_barred : Stmt := topS 62
abbrev N_barred : List Str := ["case", "many", "name"]
theorem sc_barred : FnScope N_barred ["case"] (defScope s_barred) := ⟨rfl, rfl, rfl, by decide +kernel, rfl, by decide +kernel, by decide +kernel⟩
abbrev s__law_cell : Stmt := topS 64
abbrev N__law_cell : List Str := ["_law_cells", "_law_k", "_law_made", "_law_own"]
theorem sc__law_cell : FnScope N__law_cell ["_law_cells", "_law_k"] (defScope s__law_cell) := ⟨rfl, rfl, rfl, by decide +kernel, rfl, by decide +kernel, by decide +kernel⟩
abbrev s__law_well : Stmt := topS 65
abbrev N__law_well : List Str := ["_law_cell_here"]
theorem sc__law_well : FnScope N__law_well ["_law_cell_here"] (defScope s__law_well) := ⟨rfl, rfl, rfl, by decide +kernel, rfl, by decide +kernel, by decide +kernel⟩
abbrev s__law_dip : Stmt := topS 66
abbrev N__law_dip : List Str := ["_law_jar", "_law_many", "_law_mixed", "_law_stock", "_law_digit"]
theorem sc__law_dip : FnScope N__law_dip ["_law_jar", "_law_many"] (defScope s__law_dip) := ⟨rfl, rfl, rfl, by decide +kernel, rfl, by decide +kernel, by decide +kernel⟩
abbrev s__law_pick : Stmt := topS 67
abbrev N__law_pick : List Str := ["_law_jar", "_law_things"]
theorem sc__law_pick : FnScope N__law_pick ["_law_jar", "_law_things"] (defScope s__law_pick) := ⟨rfl, rfl, rfl, by decide +kernel, rfl, by decide +kernel, by decide +kernel⟩
abbrev s__law_tags : Stmt := topS 68
abbrev N__law_tags : List Str := ["_law_jar", "_law_many", "_law_stock", "_law_at", "_law_step", "_law_k"]
theorem sc__law_tags : FnScope N__law_tags ["_law_jar", "_law_many"] (defScope s__law_tags) := ⟨rfl, rfl, rfl, by decide +kernel, rfl, by decide +kernel, by decide +kernel⟩
abbrev s__law_book_page : Stmt := topS 69
abbrev N__law_book_page : List Str := ["_law_tags_here", "_law_rows", "_law_row"]
theorem sc__law_book_page : FnScope N__law_book_page ["_law_tags_here", "_law_rows"] (defScope s__law_book_page) := ⟨rfl, rfl, rfl, by decide +kernel, rfl, by decide +kernel, by decide +kernel⟩
abbrev s__law_folk : Stmt := topS 70
abbrev N__law_folk : List Str := ["_law_jar", "_law_many", "_law_least", "_law_most", "_law_top", "_law_found", "_law_tag", "_law_marks", "_law_k"]
theorem sc__law_folk : FnScope N__law_folk ["_law_jar", "_law_many", "_law_least", "_law_most"] (defScope s__law_folk) := ⟨rfl, rfl, rfl, by decide +kernel, rfl, by decide +kernel, by decide +kernel⟩
abbrev s__law_case_page : Stmt := topS 71
abbrev N__law_case_page : List Str := ["_law_folk_here", "_law_tag", "_law_marks", "_law_mark"]
theorem sc__law_case_page : FnScope N__law_case_page ["_law_folk_here"] (defScope s__law_case_page) := ⟨rfl, rfl, rfl, by decide +kernel, rfl, by decide +kernel, by decide +kernel⟩
abbrev s_Book___repr__ : Stmt := inClass (topS 49) 8
abbrev N_Book___repr__ : List Str := ["self"]
theorem sc_Book___repr__ : FnScope N_Book___repr__ ["self"] (defScope s_Book___repr__) := ⟨rfl, rfl, rfl, by decide +kernel, rfl, by decide +kernel, by decide +kernel⟩
abbrev s_Case___repr__ : Stmt := inClass (topS 55) 6
abbrev N_Case___repr__ : List Str := ["self"]
theorem sc_Case___repr__ : FnScope N_Case___repr__ ["self"] (defScope s_Case___repr__) := ⟨rfl, rfl, rfl, by decide +kernel, rfl, by decide +kernel, by decide +kernel⟩
abbrev s__law_heard : Stmt := topS 72
abbrev N__law_heard : List Str := ["_law_act", "e"]
theorem sc__law_heard : FnScope N__law_heard ["_law_act"] (defScope s__law_heard) := ⟨rfl, rfl, rfl, by decide +kernel, rfl, by decide +kernel, by decide +kernel⟩
abbrev s__law_all_heard : Stmt := topS 73
abbrev N__law_all_heard : List Str := ["_law_acts", "_law_due", "_law_act"]
theorem sc__law_all_heard : FnScope N__law_all_heard ["_law_acts", "_law_due"] (defScope s__law_all_heard) := ⟨rfl, rfl, rfl, by decide +kernel, rfl, by decide +kernel, by decide +kernel⟩
abbrev s__law_bad_orders : Stmt := topS 74
abbrev N__law_bad_orders : List Str := ["_law_many", "_law_good", "_law_found"]
theorem sc__law_bad_orders : FnScope N__law_bad_orders ["_law_many"] (defScope s__law_bad_orders) := ⟨rfl, rfl, rfl, by decide +kernel, rfl, by decide +kernel, by decide +kernel⟩
abbrev s__law_names_right : Stmt := topS 75
abbrev N__law_names_right : List Str := ["_law_mine", "_law_folk_here", "_law_acts", "_law_mate", "_law_tag", "_law_thing"]
theorem sc__law_names_right : FnScope N__law_names_right ["_law_mine", "_law_folk_here"] (defScope s__law_names_right) := ⟨rfl, rfl, rfl, by decide +kernel, rfl, by decide +kernel, by decide +kernel⟩
abbrev s_Case___init__ : Stmt := inClass (topS 55) 0
abbrev N_Case___init__ : List Str := ["self", "text", "parts"]
theorem sc_Case___init__ : FnScope N_Case___init__ ["self", "text"] (defScope s_Case___init__) := ⟨rfl, rfl, rfl, by decide +kernel, rfl, by decide +kernel, by decide +kernel⟩
abbrev s_Book___init__ : Stmt := inClass (topS 49) 0
abbrev N_Book___init__ : List Str := ["self", "text", "parts"]
theorem sc_Book___init__ : FnScope N_Book___init__ ["self", "text"] (defScope s_Book___init__) := ⟨rfl, rfl, rfl, by decide +kernel, rfl, by decide +kernel, by decide +kernel⟩
abbrev s_Case___str__ : Stmt := inClass (topS 55) 5
abbrev N_Case___str__ : List Str := ["self"]
theorem sc_Case___str__ : FnScope N_Case___str__ ["self"] (defScope s_Case___str__) := ⟨rfl, rfl, rfl, by decide +kernel, rfl, by decide +kernel, by decide +kernel⟩
abbrev s__law_right : Stmt := topS 76
abbrev N__law_right : List Str := ["_law_jar", "_law_base", "_law_acts", "_law_folk_here", "_law_many", "_law_mine", "_law_thing"]
theorem sc__law_right : FnScope N__law_right ["_law_jar"] (defScope s__law_right) := ⟨rfl, rfl, rfl, by decide +kernel, rfl, by decide +kernel, by decide +kernel⟩
abbrev s_law : Stmt := topS 77
abbrev N_law : List Str := ["_law_cells", "_law_k"]
theorem sc_law : FnScope N_law ["_law_cells"] (defScope s_law) := ⟨rfl, rfl, rfl, by decide +kernel, rfl, by decide +kernel, by decide +kernel⟩
/-! ### what the top has written -/
structure Txt (K : PySem.W.Frag) (w : World) (mg : Str → Option Value) where
  C_Book : Addr
  m_Book : mg "Book" = some (.ref C_Book)
  cl_Book : Cls K C_Book
  C_Case : Addr
  m_Case : mg "Case" = some (.ref C_Case)
  cl_Case : Cls K C_Case
  C_InvalidCases : Addr
  m_InvalidCases : mg "InvalidCases" = some (.ref C_InvalidCases)
  C_InvalidNumber : Addr
  m_InvalidNumber : mg "InvalidNumber" = some (.ref C_InvalidNumber)
  C_InvalidOffers : Addr
  m_InvalidOffers : mg "InvalidOffers" = some (.ref C_InvalidOffers)
  C_InvalidRanking : Addr
  m_InvalidRanking : mg "InvalidRanking" = some (.ref C_InvalidRanking)
  C_InvalidRow : Addr
  m_InvalidRow : mg "InvalidRow" = some (.ref C_InvalidRow)
  C_NoRanking : Addr
  m_NoRanking : mg "NoRanking" = some (.ref C_NoRanking)
  C_NotABook : Addr
  m_NotABook : mg "NotABook" = some (.ref C_NotABook)
  C_NotACase : Addr
  m_NotACase : mg "NotACase" = some (.ref C_NotACase)
  C_TooMany : Addr
  m_TooMany : mg "TooMany" = some (.ref C_TooMany)
  C_UnknownName : Addr
  m_UnknownName : mg "UnknownName" = some (.ref C_UnknownName)
  xk_InvalidRanking : ExcC K C_InvalidRanking
  xe_InvalidRanking : PySem.W.exmOne K (.ref C_InvalidRanking) (.ref C_InvalidRanking) = some true
  xo_InvalidRanking : OexC K C_InvalidRanking
  xf_InvalidRanking : XfC K C_InvalidRanking
  xn_InvalidRanking_given : PySem.W.findIn K (.ref C_InvalidRanking) "given" = some none
  xn_InvalidRanking_index : PySem.W.findIn K (.ref C_InvalidRanking) "index" = some none
  xn_InvalidRanking_number : PySem.W.findIn K (.ref C_InvalidRanking) "number" = some none
  xn_InvalidRanking_told : PySem.W.findIn K (.ref C_InvalidRanking) "told" = some none
  xh_InvalidRanking_NotABook : PySem.W.exmOne K (.ref C_InvalidRanking) (.ref C_NotABook) = some false
  xh_InvalidRanking_NotACase : PySem.W.exmOne K (.ref C_InvalidRanking) (.ref C_NotACase) = some false
  xh_InvalidRanking_UnknownName : PySem.W.exmOne K (.ref C_InvalidRanking) (.ref C_UnknownName) = some false
  xh_InvalidRanking_InvalidRanking : PySem.W.exmOne K (.ref C_InvalidRanking) (.ref C_InvalidRanking) = some true
  xk_NotACase : ExcC K C_NotACase
  xe_NotACase : PySem.W.exmOne K (.ref C_NotACase) (.ref C_NotACase) = some true
  xo_NotACase : OexC K C_NotACase
  xf_NotACase : XfC K C_NotACase
  xn_NotACase_given : PySem.W.findIn K (.ref C_NotACase) "given" = some none
  xn_NotACase_index : PySem.W.findIn K (.ref C_NotACase) "index" = some none
  xn_NotACase_number : PySem.W.findIn K (.ref C_NotACase) "number" = some none
  xn_NotACase_told : PySem.W.findIn K (.ref C_NotACase) "told" = some none
  xh_NotACase_NotABook : PySem.W.exmOne K (.ref C_NotACase) (.ref C_NotABook) = some false
  xh_NotACase_NotACase : PySem.W.exmOne K (.ref C_NotACase) (.ref C_NotACase) = some true
  xk_UnknownName : ExcC K C_UnknownName
  xe_UnknownName : PySem.W.exmOne K (.ref C_UnknownName) (.ref C_UnknownName) = some true
  xo_UnknownName : OexC K C_UnknownName
  xf_UnknownName : XfC K C_UnknownName
  xn_UnknownName_given : PySem.W.findIn K (.ref C_UnknownName) "given" = some none
  xn_UnknownName_index : PySem.W.findIn K (.ref C_UnknownName) "index" = some none
  xn_UnknownName_number : PySem.W.findIn K (.ref C_UnknownName) "number" = some none
  xn_UnknownName_told : PySem.W.findIn K (.ref C_UnknownName) "told" = some none
  xh_UnknownName_NotABook : PySem.W.exmOne K (.ref C_UnknownName) (.ref C_NotABook) = some false
  xh_UnknownName_NotACase : PySem.W.exmOne K (.ref C_UnknownName) (.ref C_NotACase) = some false
  xh_UnknownName_UnknownName : PySem.W.exmOne K (.ref C_UnknownName) (.ref C_UnknownName) = some true
  f_is_name : Addr
  e_is_name : FuncData
  F_is_name : Fun K "is_name" "is_name" s_is_name f_is_name e_is_name
  b_is_name : Binds K e_is_name ["value"] []
  m_is_name : mg "is_name" = some (.ref f_is_name)
  f_are_names : Addr
  e_are_names : FuncData
  F_are_names : Fun K "are_names" "are_names" s_are_names f_are_names e_are_names
  b_are_names : Binds K e_are_names ["values"] []
  m_are_names : mg "are_names" = some (.ref f_are_names)
  f_is_number : Addr
  e_is_number : FuncData
  F_is_number : Fun K "is_number" "is_number" s_is_number f_is_number e_is_number
  b_is_number : Binds K e_is_number ["word"] []
  m_is_number : mg "is_number" = some (.ref f_is_number)
  f_is_any_row : Addr
  e_is_any_row : FuncData
  F_is_any_row : Fun K "is_any_row" "is_any_row" s_is_any_row f_is_any_row e_is_any_row
  b_is_any_row : Binds K e_is_any_row ["value"] []
  m_is_any_row : mg "is_any_row" = some (.ref f_is_any_row)
  f_is_row : Addr
  e_is_row : FuncData
  F_is_row : Fun K "is_row" "is_row" s_is_row f_is_row e_is_row
  b_is_row : Binds K e_is_row ["value", "many"] []
  m_is_row : mg "is_row" = some (.ref f_is_row)
  f_is_whole : Addr
  e_is_whole : FuncData
  F_is_whole : Fun K "is_whole" "is_whole" s_is_whole f_is_whole e_is_whole
  b_is_whole : Binds K e_is_whole ["value"] []
  m_is_whole : mg "is_whole" = some (.ref f_is_whole)
  f_is_ranking : Addr
  e_is_ranking : FuncData
  F_is_ranking : Fun K "is_ranking" "is_ranking" s_is_ranking f_is_ranking e_is_ranking
  b_is_ranking : Binds K e_is_ranking ["value", "many"] []
  m_is_ranking : mg "is_ranking" = some (.ref f_is_ranking)
  f_InvalidRanking___init__ : Addr
  e_InvalidRanking___init__ : FuncData
  F_InvalidRanking___init__ : Fun K "__init__" "InvalidRanking.__init__" s_InvalidRanking___init__ f_InvalidRanking___init__ e_InvalidRanking___init__
  b_InvalidRanking___init__ : Binds K e_InvalidRanking___init__ ["self", "given"] []
  xj_InvalidRanking : PySem.W.findIn K (.ref C_InvalidRanking) "__init__" = some (some (.ref f_InvalidRanking___init__))
  xy_InvalidRanking : PySem.W.typeIn K (.ref f_InvalidRanking___init__) = some (.type "function")
  f_check_ranking : Addr
  e_check_ranking : FuncData
  F_check_ranking : Fun K "check_ranking" "check_ranking" s_check_ranking f_check_ranking e_check_ranking
  b_check_ranking : Binds K e_check_ranking ["ranking", "many"] []
  m_check_ranking : mg "check_ranking" = some (.ref f_check_ranking)
  f_UnknownName___init__ : Addr
  e_UnknownName___init__ : FuncData
  F_UnknownName___init__ : Fun K "__init__" "UnknownName.__init__" s_UnknownName___init__ f_UnknownName___init__ e_UnknownName___init__
  b_UnknownName___init__ : Binds K e_UnknownName___init__ ["self", "given"] []
  xj_UnknownName : PySem.W.findIn K (.ref C_UnknownName) "__init__" = some (some (.ref f_UnknownName___init__))
  xy_UnknownName : PySem.W.typeIn K (.ref f_UnknownName___init__) = some (.type "function")
  f_check_known : Addr
  e_check_known : FuncData
  F_check_known : Fun K "check_known" "check_known" s_check_known f_check_known e_check_known
  b_check_known : Binds K e_check_known ["name", "names"] []
  m_check_known : mg "check_known" = some (.ref f_check_known)
  f_read_book : Addr
  e_read_book : FuncData
  F_read_book : Fun K "read_book" "read_book" s_read_book f_read_book e_read_book
  b_read_book : Binds K e_read_book ["text"] []
  m_read_book : mg "read_book" = some (.ref f_read_book)
  f_read_mark : Addr
  e_read_mark : FuncData
  F_read_mark : Fun K "read_mark" "read_mark" s_read_mark f_read_mark e_read_mark
  b_read_mark : Binds K e_read_mark ["word"] []
  m_read_mark : mg "read_mark" = some (.ref f_read_mark)
  f_read_candidates : Addr
  e_read_candidates : FuncData
  F_read_candidates : Fun K "read_candidates" "read_candidates" s_read_candidates f_read_candidates e_read_candidates
  b_read_candidates : Binds K e_read_candidates ["text", "read_word"] []
  m_read_candidates : mg "read_candidates" = some (.ref f_read_candidates)
  f_read_case : Addr
  e_read_case : FuncData
  F_read_case : Fun K "read_case" "read_case" s_read_case f_read_case e_read_case
  b_read_case : Binds K e_read_case ["text"] []
  m_read_case : mg "read_case" = some (.ref f_read_case)
  f_row_holds : Addr
  e_row_holds : FuncData
  F_row_holds : Fun K "row_holds" "row_holds" s_row_holds f_row_holds e_row_holds
  b_row_holds : Binds K e_row_holds ["row", "ranking"] []
  m_row_holds : mg "row_holds" = some (.ref f_row_holds)
  f_all_hold : Addr
  e_all_hold : FuncData
  F_all_hold : Fun K "all_hold" "all_hold" s_all_hold f_all_hold e_all_hold
  b_all_hold : Binds K e_all_hold ["rows", "ranking"] []
  m_all_hold : mg "all_hold" = some (.ref f_all_hold)
  f_sign_of : Addr
  e_sign_of : FuncData
  F_sign_of : Fun K "sign_of" "sign_of" s_sign_of f_sign_of e_sign_of
  b_sign_of : Binds K e_sign_of ["mark", "rival"] []
  m_sign_of : mg "sign_of" = some (.ref f_sign_of)
  f_row_between : Addr
  e_row_between : FuncData
  F_row_between : Fun K "row_between" "row_between" s_row_between f_row_between e_row_between
  b_row_between : Binds K e_row_between ["mine", "theirs"] []
  m_row_between : mg "row_between" = some (.ref f_row_between)
  f_has_sign : Addr
  e_has_sign : FuncData
  F_has_sign : Fun K "has_sign" "has_sign" s_has_sign f_has_sign e_has_sign
  b_has_sign : Binds K e_has_sign ["row", "rules", "sign"] []
  m_has_sign : mg "has_sign" = some (.ref f_has_sign)
  f_split : Addr
  e_split : FuncData
  F_split : Fun K "split" "split" s_split f_split e_split
  b_split : Binds K e_split ["rows", "many"] []
  m_split : mg "split" = some (.ref f_split)
  f_some_fits : Addr
  e_some_fits : FuncData
  F_some_fits : Fun K "some_fits" "some_fits" s_some_fits f_some_fits e_some_fits
  b_some_fits : Binds K e_some_fits ["rows", "many"] []
  m_some_fits : mg "some_fits" = some (.ref f_some_fits)
  f_NotACase___init__ : Addr
  e_NotACase___init__ : FuncData
  F_NotACase___init__ : Fun K "__init__" "NotACase.__init__" s_NotACase___init__ f_NotACase___init__ e_NotACase___init__
  b_NotACase___init__ : Binds K e_NotACase___init__ ["self", "given"] []
  xj_NotACase : PySem.W.findIn K (.ref C_NotACase) "__init__" = some (some (.ref f_NotACase___init__))
  xy_NotACase : PySem.W.typeIn K (.ref f_NotACase___init__) = some (.type "function")
  f_check_case : Addr
  e_check_case : FuncData
  F_check_case : Fun K "check_case" "check_case" s_check_case f_check_case e_check_case
  b_check_case : Binds K e_check_case ["case"] []
  m_check_case : mg "check_case" = some (.ref f_check_case)
  f_Case_marks : Addr
  e_Case_marks : FuncData
  F_Case_marks : Fun K "marks" "Case.marks" s_Case_marks f_Case_marks e_Case_marks
  b_Case_marks : Binds K e_Case_marks ["self"] []
  q_Case_marks : Addr
  p_Case_marks : PropOf K C_Case "marks" q_Case_marks f_Case_marks
  f_Case_names : Addr
  e_Case_names : FuncData
  F_Case_names : Fun K "names" "Case.names" s_Case_names f_Case_names e_Case_names
  b_Case_names : Binds K e_Case_names ["self"] []
  q_Case_names : Addr
  p_Case_names : PropOf K C_Case "names" q_Case_names f_Case_names
  f_row_against : Addr
  e_row_against : FuncData
  F_row_against : Fun K "row_against" "row_against" s_row_against f_row_against e_row_against
  b_row_against : Binds K e_row_against ["case", "one", "other"] []
  m_row_against : mg "row_against" = some (.ref f_row_against)
  f_rows_of : Addr
  e_rows_of : FuncData
  F_rows_of : Fun K "rows_of" "rows_of" s_rows_of f_rows_of e_rows_of
  b_rows_of : Binds K e_rows_of ["case", "one"] []
  m_rows_of : mg "rows_of" = some (.ref f_rows_of)
  f_against : Addr
  e_against : FuncData
  F_against : Fun K "against" "against" s_against f_against e_against
  b_against : Binds K e_against ["case", "one", "other"] []
  m_against : mg "against" = some (.ref f_against)
  f_winners : Addr
  e_winners : FuncData
  F_winners : Fun K "winners" "winners" s_winners f_winners e_winners
  b_winners : Binds K e_winners ["case", "ranking"] []
  m_winners : mg "winners" = some (.ref f_winners)
  f_told_by : Addr
  e_told_by : FuncData
  F_told_by : Fun K "told_by" "told_by" s_told_by f_told_by e_told_by
  b_told_by : Binds K e_told_by ["case", "one"] []
  m_told_by : mg "told_by" = some (.ref f_told_by)
  f_barred : Addr
  e_barred : FuncData
  F_barred : Fun K "barred" "barred" s_barred f_barred e_barred
  b_barred : Binds K e_barred ["case"] []
  m_barred : mg "barred" = some (.ref f_barred)
  f__law_cell : Addr
  e__law_cell : FuncData
  F__law_cell : Fun K "_law_cell" "_law_cell" s__law_cell f__law_cell e__law_cell
  b__law_cell : Binds K e__law_cell ["_law_cells", "_law_k"] []
  m__law_cell : mg "_law_cell" = some (.ref f__law_cell)
  f__law_well : Addr
  e__law_well : FuncData
  F__law_well : Fun K "_law_well" "_law_well" s__law_well f__law_well e__law_well
  b__law_well : Binds K e__law_well ["_law_cell_here"] []
  m__law_well : mg "_law_well" = some (.ref f__law_well)
  f__law_dip : Addr
  e__law_dip : FuncData
  F__law_dip : Fun K "_law_dip" "_law_dip" s__law_dip f__law_dip e__law_dip
  b__law_dip : Binds K e__law_dip ["_law_jar", "_law_many"] []
  m__law_dip : mg "_law_dip" = some (.ref f__law_dip)
  f__law_pick : Addr
  e__law_pick : FuncData
  F__law_pick : Fun K "_law_pick" "_law_pick" s__law_pick f__law_pick e__law_pick
  b__law_pick : Binds K e__law_pick ["_law_jar", "_law_things"] []
  m__law_pick : mg "_law_pick" = some (.ref f__law_pick)
  f__law_tags : Addr
  e__law_tags : FuncData
  F__law_tags : Fun K "_law_tags" "_law_tags" s__law_tags f__law_tags e__law_tags
  b__law_tags : Binds K e__law_tags ["_law_jar", "_law_many"] []
  m__law_tags : mg "_law_tags" = some (.ref f__law_tags)
  f__law_book_page : Addr
  e__law_book_page : FuncData
  F__law_book_page : Fun K "_law_book_page" "_law_book_page" s__law_book_page f__law_book_page e__law_book_page
  b__law_book_page : Binds K e__law_book_page ["_law_tags_here", "_law_rows"] []
  m__law_book_page : mg "_law_book_page" = some (.ref f__law_book_page)
  f__law_folk : Addr
  e__law_folk : FuncData
  F__law_folk : Fun K "_law_folk" "_law_folk" s__law_folk f__law_folk e__law_folk
  b__law_folk : Binds K e__law_folk ["_law_jar", "_law_many", "_law_least", "_law_most"] []
  m__law_folk : mg "_law_folk" = some (.ref f__law_folk)
  f__law_case_page : Addr
  e__law_case_page : FuncData
  F__law_case_page : Fun K "_law_case_page" "_law_case_page" s__law_case_page f__law_case_page e__law_case_page
  b__law_case_page : Binds K e__law_case_page ["_law_folk_here"] []
  m__law_case_page : mg "_law_case_page" = some (.ref f__law_case_page)
  f_Book___repr__ : Addr
  e_Book___repr__ : FuncData
  F_Book___repr__ : Fun K "__repr__" "Book.__repr__" s_Book___repr__ f_Book___repr__ e_Book___repr__
  b_Book___repr__ : Binds K e_Book___repr__ ["self"] []
  h_Book___repr__ : Meth K C_Book "__repr__" f_Book___repr__
  f_Case___repr__ : Addr
  e_Case___repr__ : FuncData
  F_Case___repr__ : Fun K "__repr__" "Case.__repr__" s_Case___repr__ f_Case___repr__ e_Case___repr__
  b_Case___repr__ : Binds K e_Case___repr__ ["self"] []
  h_Case___repr__ : Meth K C_Case "__repr__" f_Case___repr__
  f__law_heard : Addr
  e__law_heard : FuncData
  F__law_heard : Fun K "_law_heard" "_law_heard" s__law_heard f__law_heard e__law_heard
  b__law_heard : Binds K e__law_heard ["_law_act"] []
  m__law_heard : mg "_law_heard" = some (.ref f__law_heard)
  f__law_all_heard : Addr
  e__law_all_heard : FuncData
  F__law_all_heard : Fun K "_law_all_heard" "_law_all_heard" s__law_all_heard f__law_all_heard e__law_all_heard
  b__law_all_heard : Binds K e__law_all_heard ["_law_acts", "_law_due"] []
  m__law_all_heard : mg "_law_all_heard" = some (.ref f__law_all_heard)
  f__law_bad_orders : Addr
  e__law_bad_orders : FuncData
  F__law_bad_orders : Fun K "_law_bad_orders" "_law_bad_orders" s__law_bad_orders f__law_bad_orders e__law_bad_orders
  b__law_bad_orders : Binds K e__law_bad_orders ["_law_many"] []
  m__law_bad_orders : mg "_law_bad_orders" = some (.ref f__law_bad_orders)
  f__law_names_right : Addr
  e__law_names_right : FuncData
  F__law_names_right : Fun K "_law_names_right" "_law_names_right" s__law_names_right f__law_names_right e__law_names_right
  b__law_names_right : Binds K e__law_names_right ["_law_mine", "_law_folk_here"] []
  m__law_names_right : mg "_law_names_right" = some (.ref f__law_names_right)
  f_Case___init__ : Addr
  e_Case___init__ : FuncData
  F_Case___init__ : Fun K "__init__" "Case.__init__" s_Case___init__ f_Case___init__ e_Case___init__
  b_Case___init__ : Binds K e_Case___init__ ["self", "text"] []
  mk_Case : Mk K C_Case f_Case___init__
  f_Book___init__ : Addr
  e_Book___init__ : FuncData
  F_Book___init__ : Fun K "__init__" "Book.__init__" s_Book___init__ f_Book___init__ e_Book___init__
  b_Book___init__ : Binds K e_Book___init__ ["self", "text"] []
  mk_Book : Mk K C_Book f_Book___init__
  f_Case___str__ : Addr
  e_Case___str__ : FuncData
  F_Case___str__ : Fun K "__str__" "Case.__str__" s_Case___str__ f_Case___str__ e_Case___str__
  b_Case___str__ : Binds K e_Case___str__ ["self"] []
  h_Case___str__ : Meth K C_Case "__str__" f_Case___str__
  f__law_right : Addr
  e__law_right : FuncData
  F__law_right : Fun K "_law_right" "_law_right" s__law_right f__law_right e__law_right
  b__law_right : Binds K e__law_right ["_law_jar"] []
  m__law_right : mg "_law_right" = some (.ref f__law_right)
  f_law : Addr
  e_law : FuncData
  F_law : Fun K "law" "law" s_law f_law e_law
  b_law : Binds K e_law ["_law_cells"] []
  m_law : mg "law" = some (.ref f_law)
  lc__law_names_right : Addr
  lt__law_names_right : Addr
  FC__law_names_right : FunC K "_law_names_right" "_law_names_right" s__law_names_right f__law_names_right e__law_names_right lc__law_names_right
  lc__law_right : Addr
  lt__law_right : Addr
  FC__law_right : FunC K "_law_right" "_law_right" s__law_right f__law_right e__law_right lc__law_right
  tts : List (Addr × Str)
  tabs : TabsOk tts
  hm__law_names_right : (lt__law_names_right, (envOfC "_law_names_right" (defScope s__law_names_right) 0 f__law_names_right (.ref lc__law_names_right)).qual ++ "<lambda>") ∈ tts
  hm__law_right : (lt__law_right, (envOfC "_law_right" (defScope s__law_right) 0 f__law_right (.ref lc__law_right)).qual ++ "<lambda>") ∈ tts
  n_abs : mg "abs" = none
  n_all : mg "all" = none
  n_bool : mg "bool" = none
  n_divmod : mg "divmod" = none
  n_enumerate : mg "enumerate" = none
  n_int : mg "int" = none
  n_isinstance : mg "isinstance" = none
  n_len : mg "len" = none
  n_list : mg "list" = none
  n_max : mg "max" = none
  n_min : mg "min" = none
  n_range : mg "range" = none
  n_repr : mg "repr" = none
  n_sorted : mg "sorted" = none
  n_str : mg "str" = none
  n_tuple : mg "tuple" = none
  n_zip : mg "zip" = none
  t_DIGITS : Tok
  c_DIGITS : mg "DIGITS" = some (.str "0123456789" t_DIGITS)
  t_LEAST_CANDIDATES : Tok
  c_LEAST_CANDIDATES : mg "LEAST_CANDIDATES" = some (.int 2 t_LEAST_CANDIDATES)
  t_LETTERS : Tok
  c_LETTERS : mg "LETTERS" = some (.str "abcdefghijklmnopqrstuvwxyz" t_LETTERS)
  t_MOST_CANDIDATES : Tok
  c_MOST_CANDIDATES : mg "MOST_CANDIDATES" = some (.int 8 t_MOST_CANDIDATES)
  t_MOST_LETTERS : Tok
  c_MOST_LETTERS : mg "MOST_LETTERS" = some (.int 8 t_MOST_LETTERS)
  t_MOST_MARKS : Tok
  c_MOST_MARKS : mg "MOST_MARKS" = some (.int 99 t_MOST_MARKS)
  t_MOST_ROWS : Tok
  c_MOST_ROWS : mg "MOST_ROWS" = some (.int 20 t_MOST_ROWS)
  t_MOST_RULES : Tok
  c_MOST_RULES : mg "MOST_RULES" = some (.int 8 t_MOST_RULES)
  t_SIGNS : Tok
  c_SIGNS : mg "SIGNS" = some (.str "+-." t_SIGNS)
  k_against_other_one_case : KBinds K e_against ["case", "one", "other"] ["other", "one", "case"] (fun us ws => match us, ws with | [], [k0, k1, k2] => [k2, k1, k0] | _, _ => []) (fun us ws => match us, ws with | [], [k0, k1, k2] => [k2, k1, k0] | _, _ => [])
  k_told_by_one_case : KBinds K e_told_by ["case", "one"] ["one", "case"] (fun us ws => match us, ws with | [], [k0, k1] => [k1, k0] | _, _ => []) (fun us ws => match us, ws with | [], [k0, k1] => [k1, k0] | _, _ => [])
  k_winners_ranking_case : KBinds K e_winners ["case", "ranking"] ["ranking", "case"] (fun us ws => match us, ws with | [], [k0, k1] => [k1, k0] | _, _ => []) (fun us ws => match us, ws with | [], [k0, k1] => [k1, k0] | _, _ => [])
  k_barred_case : KBinds K e_barred ["case"] ["case"] (fun us ws => match us, ws with | [], [k0] => [k0] | _, _ => []) (fun us ws => match us, ws with | [], [k0] => [k0] | _, _ => [])
  no_text : NoAttr K C_Book "_text"
  no_names : NoAttr K C_Book "_names"
  no_rows : NoAttr K C_Book "_rows"
  ins_Book : InsOk K C_Book
  cno_text : NoAttr K C_Case "_text"
  cno_names : NoAttr K C_Case "_names"
  cno_marks : NoAttr K C_Case "_marks"
  ins_Case : InsOk K C_Case
  or_Book : PySem.W.findIn K (.ref C_Book) "__repr__" = some (some (.ref f_Book___repr__))
  ir_Book : PySem.W.isFn K (.ref f_Book___repr__) = true
  or_Case : PySem.W.findIn K (.ref C_Case) "__repr__" = some (some (.ref f_Case___repr__))
  ir_Case : PySem.W.isFn K (.ref f_Case___repr__) = true
  os_Case : PySem.W.findIn K (.ref C_Case) "__str__" = some (some (.ref f_Case___str__))
  is_Case : PySem.W.isFn K (.ref f_Case___str__) = true
  ct_Case : PySem.W.typeIn K (.ref C_Case) = some (.type "type")
  sub_BC : PySem.W.subIn K (.ref C_Book) (.ref C_Case) = some false
  ne_BC : (C_Book == C_Case) = false
  kt_Cs : PySem.W.kitOne K (.ref C_Case) (.type "str") = some false
end K27

namespace K27
open PySem PySem.Spec PyProof.Rows L2 Dw
variable [Tabs0]
/-- a row's signs, as codes -/
def isSign (c : Nat) : Prop := c = 43 ∨ c = 45 ∨ c = 46
structure RowOk (l : List Nat) (n : Nat) : Prop where
  len : l.length = n
  all : ∀ c ∈ l, isSign c
def sgn (l : List Nat) (k : Nat) : Nat := l.getD k 46
theorem ch_dot : (Str.ofString ".") = ch 46 := by decide +kernel
theorem ch_plus : (Str.ofString "+") = ch 43 := by decide +kernel
theorem ch_minus : (Str.ofString "-") = ch 45 := by decide +kernel
theorem sgn_at {l : List Nat} {n k : Nat} (h : l.length = n) (hk : k < n) : atI (tx l).cps.toList (k : Int) = some (sgn l k) := by
  have hl : k < l.length := by omega
  rw [tx_cps]
  refine atI_nat ?_
  unfold sgn
  rw [List.getElem?_eq_getElem hl, List.getD_eq_getElem?_getD, List.getElem?_eq_getElem hl]
  rfl
theorem isSign.lt {c : Nat} (h : isSign c) : c < 1114112 := by rcases h with h | h | h <;> omega
/-- the signs of a row along an order, without the dots -/
def told (l : List Nat) (o : List Nat) : List Nat := (o.map (sgn l)).filter (fun c => !decide (c = 46))
/-- whether a row holds -/
def holdsB (l : List Nat) (o : List Nat) : Bool :=
  match told l o with
  | [] => true
  | c :: _ => decide (c = 43)
def ordD (o : List Nat) : List D := o.map fun (k : Nat) => D.int k
theorem small8 {n : Nat} (h : n ≤ 8) : n ≤ sizeLine := Nat.le_trans h (by decide)
end K27

namespace K27
open PySem PySem.Spec PyProof.Rows L2 Dw
variable [Tabs0]
/-! flipped -/
def flip1 (c : Nat) : Nat := if c = 43 then 45 else if c = 45 then 43 else 46
def flipped (l : List Nat) : List Nat := l.map flip1
def spDraw : Spc where
  ty := Nat
  args := fun n => [.purse, .int n]
  ok := fun n => 0 < n ∧ n < 100000
  rel := fun n d => ∃ r : Nat, r < n ∧ d = .int r
end K27

namespace K27
open PySem PySem.Spec PyProof.Rows L2 Dw
variable [Tabs0]
structure NameOk (l : List Nat) : Prop where
  lo : 1 ≤ l.length
  hi : l.length ≤ 8
  all : ∀ c ∈ l, 97 ≤ c ∧ c ≤ 122
theorem lettersS : Str.ofString "abcdefghijklmnopqrstuvwxyz" = tx ((List.range 26).map (97 + ·)) := by decide +kernel
theorem signsS : Str.ofString "+-." = tx [43, 45, 46] := by decide +kernel
theorem NameOk.len {l : List Nat} (h : NameOk l) : (tx l).length ≤ sizeLine := by rw [tx_len]; exact small8 h.hi
theorem RowOk.sz {l : List Nat} {n : Nat} (h : RowOk l n) (hn : n ≤ 8) : (tx l).length ≤ sizeLine := by rw [tx_len, h.len]; exact small8 hn
theorem all_yes {α : Type} {xs : List α} {b : α → Bool} (h : ∀ x ∈ xs, b x = true) : xs.all b = true := List.all_eq_true.mpr h
theorem ev_cast {t : TE} {Γ : Gam} {d d' : D} (h : d = d') (e : Ev t Γ d) : Ev t Γ d' := h ▸ e
def nameD (ls : List (List Nat)) : List D := ls.map fun l => D.str (tx l)
structure NamesOk (ls : List (List Nat)) : Prop where
  lo : 1 ≤ ls.length
  hi : ls.length ≤ 8
  all : ∀ l ∈ ls, NameOk l
  inc : ∀ p ∈ ls.zip (ls.drop 1), p.1 < p.2
theorem zip_names (ls ms : List (List Nat)) : zipD (nameD ls) (nameD ms) = (ls.zip ms).map fun p => D.tup [.str (tx p.1), .str (tx p.2)] := by
  unfold zipD nameD
  rw [List.zip_map, List.map_map]; rfl
end K27

namespace K27
open PySem PySem.Spec PyProof.Rows L2 Dw
variable [Tabs0]
theorem ev_notT {K : PySem.W.Frag} {t : TE} {Γ : Gam} {b : Bool} (h : EvT (tTru K t) Γ b) : Ev (tNotT K t) Γ (.bl (!b)) := fun F σ W Q g k => by
  have e := h F σ W (fun c H => Q (.bl (!c)) H) g fun H s => k _ H s rfl
  exact e
structure LotOk (o : List Nat) (m : Nat) : Prop where
  lt : ∀ k ∈ o, k < m
  inc : o.Pairwise (· < ·)
end K27

namespace K27
open PySem PySem.Spec PyProof.Rows L2 Dw
variable [Tabs0]
/-! plain data: what a claim or a certificate may be -/
mutual
def plW (z : Nat) : Nat → D → Bool
  | _, .non => true | _, .bl _ => true | _, .int _ => true | _, .str x => PyData.strOk x && decide (x.length ≤ 100000)
  | k + 1, .tup ds => decide (ds.length ≤ z) && plWs z k ds
  | k + 1, .lst ds => decide (ds.length ≤ z) && plWs z k ds
  | k + 1, .dct ks ds => decide (ds.length ≤ z) && plWs z k ds
  | 0, .tup _ => false | 0, .lst _ => false | 0, .dct _ _ => false
  | _, .obj _ _ _ => false | _, .raw _ => false | _, .purse => false | _, .rng _ _ => false | _, .scr _ _ => false | _, .tag _ => false | _, .fnv _ _ => false | _, .clo _ _ _ => false | _, .tupN _ => false
def plWs (z : Nat) : Nat → List D → Bool
  | _, [] => true
  | k, d :: ds => plW z k d && plWs z k ds
end
abbrev plB := plW 60
abbrev plBs := plWs 60
theorem plWs_iff {z k : Nat} : ∀ {ds : List D}, plWs z k ds = true ↔ ∀ d ∈ ds, plW z k d = true
  | [] => by simp [plWs]
  | d :: ds => by
    have e : plWs z k (d :: ds) = (plW z k d && plWs z k ds) := by cases k <;> rfl
    rw [e, Bool.and_eq_true, plWs_iff (ds := ds)]
    simp
theorem plBs_iff {k : Nat} {ds : List D} : plBs k ds = true ↔ ∀ d ∈ ds, plB k d = true := plWs_iff
mutual
theorem plW_mono {z z' : Nat} (hz : z ≤ z') : ∀ (k m : Nat) (d : D), k ≤ m → plW z k d = true → plW z' m d = true
  | _, _, .non, _, _ => by unfold plW; rfl
  | _, _, .bl _, _, _ => by unfold plW; rfl
  | _, _, .int _, _, _ => by unfold plW; rfl
  | k, m, .str x, _, h => by
    have e : plW z k (.str x) = (PyData.strOk x && decide (x.length ≤ 100000)) := by cases k <;> rfl
    have e2 : plW z' m (.str x) = (PyData.strOk x && decide (x.length ≤ 100000)) := by cases m <;> rfl
    rw [e2, ← e, h]
  | k + 1, m + 1, .tup ds, hm, h => by
    have h : (decide (ds.length ≤ z) && plWs z k ds) = true := h
    show (decide (ds.length ≤ z') && plWs z' m ds) = true
    rw [Bool.and_eq_true] at h ⊢
    exact ⟨decide_eq_true (Nat.le_trans (of_decide_eq_true h.1) hz), plWs_mono hz k m ds (by omega) h.2⟩
  | k + 1, m + 1, .lst ds, hm, h => by
    have h : (decide (ds.length ≤ z) && plWs z k ds) = true := h
    show (decide (ds.length ≤ z') && plWs z' m ds) = true
    rw [Bool.and_eq_true] at h ⊢
    exact ⟨decide_eq_true (Nat.le_trans (of_decide_eq_true h.1) hz), plWs_mono hz k m ds (by omega) h.2⟩
  | k + 1, m + 1, .dct ks ds, hm, h => by
    have h : (decide (ds.length ≤ z) && plWs z k ds) = true := h
    show (decide (ds.length ≤ z') && plWs z' m ds) = true
    rw [Bool.and_eq_true] at h ⊢
    exact ⟨decide_eq_true (Nat.le_trans (of_decide_eq_true h.1) hz), plWs_mono hz k m ds (by omega) h.2⟩
  | 0, _, .tup _, _, h => nomatch h
  | 0, _, .lst _, _, h => nomatch h
  | 0, _, .dct _ _, _, h => nomatch h
  | k + 1, 0, .tup _, hm, _ => absurd hm (by omega)
  | k + 1, 0, .lst _, hm, _ => absurd hm (by omega)
  | k + 1, 0, .dct _ _, hm, _ => absurd hm (by omega)
  | k, _, .obj _ _ _, _, h => by cases k <;> exact nomatch h
  | k, _, .raw _, _, h => by cases k <;> exact nomatch h
  | k, _, .purse, _, h => by cases k <;> exact nomatch h
  | k, _, .rng _ _, _, h => by cases k <;> exact nomatch h
  | k, _, .scr _ _, _, h => by cases k <;> exact nomatch h
  | k, _, .tag _, _, h => by cases k <;> exact nomatch h
  | k, _, .fnv _ _, _, h => by cases k <;> exact nomatch h
  | k, _, .clo _ _ _, _, h => by cases k <;> exact nomatch h
  | k, _, .tupN _, _, h => by cases k <;> exact nomatch h
theorem plWs_mono {z z' : Nat} (hz : z ≤ z') : ∀ (k m : Nat) (ds : List D), k ≤ m → plWs z k ds = true → plWs z' m ds = true
  | _, _, [], _, _ => by unfold plWs; rfl
  | k, m, d :: ds, hm, h => by
    have e : plWs z k (d :: ds) = (plW z k d && plWs z k ds) := by cases k <;> rfl
    have e2 : plWs z' m (d :: ds) = (plW z' m d && plWs z' m ds) := by cases m <;> rfl
    rw [e, Bool.and_eq_true] at h
    rw [e2, plW_mono hz k m d hm h.1, plWs_mono hz k m ds hm h.2]; rfl
end
theorem plB_mono (k m : Nat) (d : D) (h : k ≤ m) (q : plB k d = true) : plB m d = true := plW_mono (Nat.le_refl _) k m d h q
mutual
theorem plB_np : ∀ (k : Nat) (d : D), plB k d = true → noP d = true
  | _, .non, _ => rfl
  | _, .bl _, _ => rfl
  | _, .int _, _ => rfl
  | _, .str _, _ => rfl
  | k + 1, .tup ds, h => plBs_np k ds (by have h : (decide (ds.length ≤ 60) && plBs k ds) = true := h; rw [Bool.and_eq_true] at h; exact h.2)
  | k + 1, .lst ds, h => plBs_np k ds (by have h : (decide (ds.length ≤ 60) && plBs k ds) = true := h; rw [Bool.and_eq_true] at h; exact h.2)
  | k + 1, .dct _ ds, h => plBs_np k ds (by have h : (decide (ds.length ≤ 60) && plBs k ds) = true := h; rw [Bool.and_eq_true] at h; exact h.2)
  | 0, .tup _, h => nomatch h
  | 0, .lst _, h => nomatch h
  | 0, .dct _ _, h => nomatch h
  | k, .obj _ _ _, h => by cases k <;> exact nomatch h
  | _, .raw _, _ => rfl
  | k, .purse, h => by cases k <;> exact nomatch h
  | _, .rng _ _, _ => rfl
  | k, .scr _ _, h => by cases k <;> exact nomatch h
  | k, .tag _, h => by cases k <;> exact nomatch h
  | k, .fnv _ _, h => by cases k <;> exact nomatch h
  | k, .clo _ _ _, h => by cases k <;> exact nomatch h
  | k, .tupN _, h => by cases k <;> exact nomatch h
theorem plBs_np : ∀ (k : Nat) (ds : List D), plBs k ds = true → noPs ds = true
  | _, [], _ => rfl
  | k, d :: ds, h => by
    have e : plBs k (d :: ds) = (plB k d && plBs k ds) := by cases k <;> rfl
    rw [e, Bool.and_eq_true] at h
    show (noP d && noPs ds) = true
    rw [plB_np k d h.1, plBs_np k ds h.2]; rfl
end
/-- a plain value -/
def Pv (d : D) : Prop := plB 12 d = true
theorem Pv.ty {d : D} (h : Pv d) : hasTy d = true := by
  cases d <;> first | rfl | exact nomatch h
theorem Pv.np {d : D} (h : Pv d) : noP d = true := plB_np _ _ h
theorem Pv.str {x : Str} (h : Pv (.str x)) : okS x ∧ x.length ≤ 100000 := by
  have h : (PyData.strOk x && decide (x.length ≤ 100000)) = true := h
  rw [Bool.and_eq_true, decide_eq_true_eq] at h
  exact h
theorem Pv.tup {ds : List D} (h : Pv (.tup ds)) : ds.length ≤ 60 ∧ ∀ d ∈ ds, Pv d := by
  have h : (decide (ds.length ≤ 60) && plBs 11 ds) = true := h
  rw [Bool.and_eq_true, decide_eq_true_eq] at h
  exact ⟨h.1, fun d hd => plB_mono 11 12 d (by decide) (plBs_iff.mp h.2 d hd)⟩
theorem np1 {d : D} {r : List D} (h : Pv d) (hr : noPs r = true) : noPs (d :: r) = true := by
  show (noP d && noPs r) = true
  rw [h.np, hr]; rfl
theorem pv_strs {l : List Nat} (h : ∀ c ∈ l, c < 1114112) (hz : l.length ≤ 100000) : Pv (.str (tx l)) := by
  show (PyData.strOk (tx l) && decide ((tx l).length ≤ 100000)) = true
  rw [show PyData.strOk (tx l) = true from okS_tx h, tx_len, decide_eq_true hz]; rfl
/-! what isinstance tells -/
def isStrB : D → Bool | .str _ => true | _ => false
def isTupB : D → Bool | .tup _ => true | _ => false
def isIntB : D → Bool | .int _ => true | .bl _ => true | _ => false
def isBoolB : D → Bool | .bl _ => true | _ => false
section
variable {K : PySem.W.Frag} {d : D}
theorem kit_str (h : hasTy d = true) : PySem.W.kitOne K (tyD d) (.type "str") = some (isStrB d) := by cases d <;> first | rfl | exact nomatch h
theorem kit_tup (h : hasTy d = true) : PySem.W.kitOne K (tyD d) (.type "tuple") = some (isTupB d) := by cases d <;> first | rfl | exact nomatch h
theorem kit_int (h : hasTy d = true) : PySem.W.kitOne K (tyD d) (.type "int") = some (isIntB d) := by cases d <;> first | rfl | exact nomatch h
theorem kit_bool (h : hasTy d = true) : PySem.W.kitOne K (tyD d) (.type "bool") = some (isBoolB d) := by cases d <;> first | rfl | exact nomatch h
theorem str_of (h : isStrB d = true) : ∃ x, d = .str x := by cases d <;> first | exact ⟨_, rfl⟩ | exact nomatch h
theorem tup_of (h : isTupB d = true) : ∃ x, d = .tup x := by cases d <;> first | exact ⟨_, rfl⟩ | exact nomatch h
end
def wholeB : D → Bool | .int _ => true | _ => false
theorem whole_eq (d : D) : (isIntB d && !isBoolB d) = wholeB d := by cases d <;> rfl
theorem whole_of {d : D} (h : wholeB d = true) : ∃ i, d = .int i := by cases d <;> first | exact ⟨_, rfl⟩ | exact nomatch h
def spWholeG : Spc where
  ty := D
  args := fun d => [d]
  ok := fun d => Pv d
  rel := fun d e => e = .bl (wholeB d)
def idxB : D → Int → Bool | .int i, m => decide (0 ≤ i) && decide (i < m) | _, _ => false
/-- a text of some codes -/
def rowC (l : List Nat) : Bool := decide (1 ≤ l.length) && decide (l.length ≤ 8) && l.all fun c => decide (c ∈ [43, 45, 46])
def anyRowB : D → Bool | .str x => rowC x.cps.toList | _ => false
theorem rowC_ok {l : List Nat} : rowC l = true ↔ RowOk l l.length ∧ 1 ≤ l.length ∧ l.length ≤ 8 := by
  unfold rowC
  rw [Bool.and_eq_true, Bool.and_eq_true, decide_eq_true_eq, decide_eq_true_eq, List.all_eq_true]
  constructor
  · rintro ⟨⟨h1, h2⟩, h⟩
    refine ⟨⟨rfl, fun c hc => ?_⟩, h1, h2⟩
    have := of_decide_eq_true (h c hc)
    simp only [List.mem_cons, List.not_mem_nil, or_false] at this
    exact this
  · rintro ⟨h, h1, h2⟩
    refine ⟨⟨h1, h2⟩, fun c hc => decide_eq_true ?_⟩
    rcases h.all c hc with rfl | rfl | rfl <;> decide
def spAnyG : Spc where
  ty := D
  args := fun d => [d]
  ok := fun d => Pv d
  rel := fun d e => e = .bl (anyRowB d)
def lenB : D → Nat → Bool | .str x, n => decide (x.length = n) | _, _ => false
def rowB (d : D) (n : Nat) : Bool := anyRowB d && lenB d n
def spRowG : Spc where
  ty := D × Nat
  args := fun x => [x.1, .int x.2]
  ok := fun x => Pv x.1
  rel := fun x e => e = .bl (rowB x.1 x.2)
theorem rowB_iff {d : D} {n : Nat} : rowB d n = true ↔ ∃ l, d = .str (tx l) ∧ RowOk l n ∧ 1 ≤ n ∧ n ≤ 8 := by
  constructor
  · intro h
    unfold rowB at h
    rw [Bool.and_eq_true] at h
    cases d <;> first | exact absurd h.1 Bool.false_ne_true | skip
    rename_i x
    obtain ⟨h1, h2⟩ := h
    obtain ⟨r, a, b⟩ := rowC_ok.mp h1
    have h2 : decide (x.length = n) = true := h2
    rw [decide_eq_true_eq] at h2
    have e : x.cps.toList.length = n := by rw [← h2]; rfl
    rw [e] at r a b
    exact ⟨x.cps.toList, congrArg D.str (of_tx x), r, a, b⟩
  · rintro ⟨l, rfl, r, a, b⟩
    show (rowC (tx l).cps.toList && decide ((tx l).length = n)) = true
    rw [tx_cps, tx_len, r.len, decide_eq_true rfl, Bool.and_true]
    exact rowC_ok.mpr (by rw [r.len]; exact ⟨r, a, b⟩)
def letterC (c : Nat) : Bool := decide (c ∈ (List.range 26).map (97 + ·))
theorem letter_iff {c : Nat} : letterC c = true ↔ 97 ≤ c ∧ c ≤ 122 := by
  unfold letterC
  rw [decide_eq_true_eq, List.mem_map]
  constructor
  · rintro ⟨a, h, rfl⟩
    have := List.mem_range.mp h
    omega
  · rintro ⟨h1, h2⟩
    exact ⟨c - 97, List.mem_range.mpr (by omega), by omega⟩
def nmC (l : List Nat) : Bool := decide (1 ≤ l.length) && decide (l.length ≤ 8) && l.all letterC
theorem nmC_ok {l : List Nat} : nmC l = true ↔ NameOk l := by
  unfold nmC
  rw [Bool.and_eq_true, Bool.and_eq_true, decide_eq_true_eq, decide_eq_true_eq, List.all_eq_true]
  exact ⟨fun ⟨⟨h1, h2⟩, h⟩ => ⟨h1, h2, fun c hc => letter_iff.mp (h c hc)⟩, fun h => ⟨⟨h.lo, h.hi⟩, fun c hc => letter_iff.mpr (h.all c hc)⟩⟩
def nmB : D → Bool | .str x => nmC x.cps.toList | _ => false
def spNameG : Spc where
  ty := D
  args := fun d => [d]
  ok := fun d => Pv d
  rel := fun d e => e = .bl (nmB d)
theorem nmB_iff {d : D} : nmB d = true ↔ ∃ l, d = .str (tx l) ∧ NameOk l := by
  constructor
  · intro h
    cases d <;> first | exact absurd h Bool.false_ne_true | skip
    rename_i x
    exact ⟨x.cps.toList, congrArg D.str (of_tx x), nmC_ok.mp h⟩
  · rintro ⟨l, rfl, h⟩
    show nmC (tx l).cps.toList = true
    rw [tx_cps]
    exact nmC_ok.mpr h
end K27

namespace K27
open PySem PySem.Spec PyProof.Rows L2 Dw
variable [Tabs0]
theorem d_is_whole {P : Program} {w : World} {K : PySem.W.Frag} {mg : Str → Option Value} {base : Heap} (T : Txt K w mg) : FnOk P w K mg base CX0 1 T.f_is_whole T.e_is_whole ["value"] (toSp (spWholeG)) := by
  refine fn_ok T.F_is_whole sc_is_whole (fun _ => rfl) fun cdv A outer s' H E hr => ?_
  refine ⟨_, (pss_one (ps_ret (pe_and (pe_callB (isiA K) (by rfl) T.n_isinstance (by decide +kernel) (pa_cons (pv 0) (pa_cons (pe_bltn (v := .ty "int") (by rfl) T.n_int (by decide +kernel) rfl) pa_nil))) (pe_one (notA K (pe_callB (isiA K) (by rfl) T.n_isinstance (by decide +kernel) (pa_cons (pv 0) (pa_cons (pe_bltn (v := .ty "bool") (by rfl) T.n_bool (by decide +kernel) rfl) pa_nil)))))))), fun x hx => ?_⟩
  obtain ⟨d, rfl⟩ : ∃ l : D, l = x := ⟨x, rfl⟩
  have hd : Pv d := hx
  refine ds_ret (Ev.dl (ev_cast (congrArg D.bl (whole_eq d)) (ev_andV (a := isIntB d) (b := !isBoolB d) (ev_isi (ev_var rfl) ev_raw (.inl hd.ty) (.ty "int") (kit_int hd.ty)) fun _ => ev_notT (b := isBoolB d) (evt_tru_bl (ev_isi (ev_var rfl) ev_raw (.inl hd.ty) (.ty "bool") (kit_bool hd.ty))))) rfl)
end K27

namespace K27
open PySem PySem.Spec PyProof.Rows L2 Dw
variable [Tabs0]
theorem d_is_any_row {P : Program} {w : World} {K : PySem.W.Frag} {mg : Str → Option Value} {base : Heap} (T : Txt K w mg) : FnOk P w K mg base CX0 1 T.f_is_any_row T.e_is_any_row ["value"] (toSp (spAnyG)) := by
  refine fn_ok T.F_is_any_row sc_is_any_row (fun _ => rfl) fun cdv A outer s' H E hr => ?_
  refine ⟨_, (pss_cons (ps_if (PW.pt (pw_or (pt_not (truA K (pe_callB (isiA K) (by rfl) T.n_isinstance (by decide +kernel) (pa_cons (pv 0) (pa_cons (pe_bltn (v := .ty "str") (by rfl) T.n_str (by decide +kernel) rfl) pa_nil))))) (pw_or1 (pt_not (pt_chain opLe opLe pe_int (pe_callB (lenA K) (by rfl) T.n_len (by decide +kernel) (pa_cons (pv 0) pa_nil)) (pe_glob (v := .int 8) (by rfl) T.c_MOST_RULES ⟨_, rfl⟩)))))) (pss_one (ps_ret pe_bl)) pss_nil) (pss_one (ps_ret (pe_callB (allA K) (by rfl) T.n_all (by decide +kernel) (pa_cons (pe_lc (own := [("sign", 1)]) rfl sc_is_any_row.nd (piR K (pv 0)) (blkOk_by (own := [("sign", 1)]) (N := N_is_any_row) (sc := (defScope s_is_any_row)) (by decide +kernel)) (fun _ _ _ _ _ => pg_name (i := 1) sc_is_any_row.nd rfl (Or.inl rfl)) (fun _ _ _ _ _ => pts_nil) (fun _ _ _ _ _ => (pe_cmpR (inA K) (pv 1) (pe_glob (v := .str "+-.") (by rfl) T.c_SIGNS ⟨_, rfl⟩) (by rfl)))) pa_nil))))), fun x hx => ?_⟩
  obtain ⟨d, rfl⟩ : ∃ l : D, l = x := ⟨x, rfl⟩
  have hd : Pv d := hx
  by_cases hs : isStrB d = true
  · obtain ⟨s, rfl⟩ := str_of hs
    obtain ⟨l, rfl⟩ : ∃ l, s = tx l := ⟨_, of_tx s⟩
    have hz := hd.str.2
    rw [tx_len] at hz
    have hc : (decide ((1 : Int) ≤ ((tx l).length : Int)) && decide (((tx l).length : Int) ≤ 8)) = (decide (1 ≤ l.length) && decide (l.length ≤ 8)) := by
      rw [tx_len]
      congr 1
      · exact decide_eq_decide.mpr (by omega)
      · exact decide_eq_decide.mpr (by omega)
    refine ds_seq (ds_if (EvT.dl (b := !(decide (1 ≤ l.length) && decide (l.length ≤ 8))) ?_ ⟨fun h => ?_, fun h => ?_⟩))
    · have e := evt_or (Γ := Gz0 2 (spAnyG.args (.str (tx l)))) (a := false) (b := !(decide ((1 : Int) ≤ ((tx l).length : Int)) && decide (((tx l).length : Int) ≤ 8))) (evt_not (a := true) (evt_tru_bl (K := K) (ev_isi (K := K) (ta := tVar 0) (d := .str (tx l)) (ev_var rfl) ev_raw (.inl rfl) (.ty "str") rfl))) fun _ => evt_not (evt_chain (ta := tC (.int 1)) (tb := tCB (Dw.rLen K) (tCons (tVar 0) tNil)) (tc := tC (.int 8)) ev_int (ev_lenS (ev_var rfl) (small (by rw [tx_len]; exact hz))) (fun _ => ev_int) dr2_le fun _ => dr2_le)
      rw [hc] at e
      exact e
    · refine ds_ret (Ev.dl ev_bl ?_)
      show D.bl false = D.bl (rowC (tx l).cps.toList)
      unfold rowC
      rw [tx_cps, show (decide (1 ≤ l.length) && decide (l.length ≤ 8)) = false by rw [Bool.not_eq_true'] at h; exact h]; rfl
    · refine ds_next (ds_ret (Ev.dl (ev_all_lc (xs := l) (c := fun c => .str (ch c)) (b := fun c => decide (c ∈ [43, 45, 46])) ?_ (by omega) fun c hc => ⟨[1], _, dg_name, fun i hi => hi, evt_yes, ev_op (ev_var rfl) ev_str ?_⟩) ?_))
      · have := ej_str (K := K) (ta := tVar 0) (Γ := Gz0 2 (spAnyG.args (.str (tx l)))) (x := tx l) (ev_var rfl)
        rw [signs_tx, List.map_map] at this
        exact this
      · rw [signsS]; exact in_code
      · show D.bl _ = D.bl (rowC (tx l).cps.toList)
        unfold rowC
        rw [tx_cps, show (decide (1 ≤ l.length) && decide (l.length ≤ 8)) = true by rw [Bool.not_eq_false'] at h; exact h]; rfl
  · have hs : isStrB d = false := by simpa using hs
    refine ds_seq (ds_if (EvT.dl (b := true) (evt_or (a := true) (b := false) (evt_not (a := false) (evt_tru_bl (ev_isi (ev_var rfl) ev_raw (.inl hd.ty) (.ty "str") (by rw [kit_str hd.ty, hs])))) fun h => (nomatch h)) ⟨fun _ => ds_ret (Ev.dl ev_bl ?_), fun h => (nomatch h)⟩))
    cases d <;> first | rfl | exact nomatch hs
end K27

namespace K27
open PySem PySem.Spec PyProof.Rows L2 Dw
variable [Tabs0]
theorem d_is_row {P : Program} {w : World} {K : PySem.W.Frag} {mg : Str → Option Value} {base : Heap} (T : Txt K w mg) : FnOk P w K mg base CX0 2 T.f_is_row T.e_is_row ["value", "many"] (toSp (spRowG)) := by
  refine fn_ok T.F_is_row sc_is_row (fun _ => rfl) fun cdv A outer s' H E hr => ?_
  refine ⟨_, (pss_one (ps_ret (pe_and (pe_call (d_is_any_row T) (hr.mono (by decide)) (by rfl) T.m_is_any_row T.F_is_any_row.kp T.b_is_any_row .nil pass0 (pa_cons (pv 0) pa_nil)) (pe_one (pe_cmpR (eqA K hr.units) (pe_callB (lenA K) (by rfl) T.n_len (by decide +kernel) (pa_cons (pv 0) pa_nil)) (pv 1) (nomark _)))))), fun x hx => ?_⟩
  obtain ⟨d, n⟩ := x
  have hd : Pv d := hx
  refine ds_ret (Ev.dl (ev_andV (a := anyRowB d) (b := lenB d n) (ev_call (s := spAnyG) (x := d) (eva_cons (ev_var rfl) eva_nil) (np1 hd rfl) hd fun d h => h) fun h => ?_) rfl)
  cases d <;> first | exact absurd h Bool.false_ne_true | skip
  rename_i s
  refine ev_op (ev_lenS (ev_var rfl) (small hd.str.2)) (ev_var rfl) (eq_ib ?_)
  exact decide_eq_decide.mpr (by omega)
end K27

namespace K27
open PySem PySem.Spec PyProof.Rows L2 Dw
variable [Tabs0]
theorem d_is_name {P : Program} {w : World} {K : PySem.W.Frag} {mg : Str → Option Value} {base : Heap} (T : Txt K w mg) : FnOk P w K mg base CX0 1 T.f_is_name T.e_is_name ["value"] (toSp (spNameG)) := by
  refine fn_ok T.F_is_name sc_is_name (fun _ => rfl) fun cdv A outer s' H E hr => ?_
  refine ⟨_, (pss_cons (ps_if (PW.pt (pw_or (pt_not (truA K (pe_callB (isiA K) (by rfl) T.n_isinstance (by decide +kernel) (pa_cons (pv 0) (pa_cons (pe_bltn (v := .ty "str") (by rfl) T.n_str (by decide +kernel) rfl) pa_nil))))) (pw_or1 (pt_not (pt_chain opLe opLe pe_int (pe_callB (lenA K) (by rfl) T.n_len (by decide +kernel) (pa_cons (pv 0) pa_nil)) (pe_glob (v := .int 8) (by rfl) T.c_MOST_LETTERS ⟨_, rfl⟩)))))) (pss_one (ps_ret pe_bl)) pss_nil) (pss_one (ps_ret (pe_callB (allA K) (by rfl) T.n_all (by decide +kernel) (pa_cons (pe_lc (own := [("letter", 1)]) rfl sc_is_name.nd (piR K (pv 0)) (blkOk_by (own := [("letter", 1)]) (N := N_is_name) (sc := (defScope s_is_name)) (by decide +kernel)) (fun _ _ _ _ _ => pg_name (i := 1) sc_is_name.nd rfl (Or.inl rfl)) (fun _ _ _ _ _ => pts_nil) (fun _ _ _ _ _ => (pe_cmpR (inA K) (pv 1) (pe_glob (v := .str "abcdefghijklmnopqrstuvwxyz") (by rfl) T.c_LETTERS ⟨_, rfl⟩) (by rfl)))) pa_nil))))), fun x hx => ?_⟩
  obtain ⟨d, rfl⟩ : ∃ l : D, l = x := ⟨x, rfl⟩
  have hd : Pv d := hx
  by_cases hs : isStrB d = true
  · obtain ⟨s, rfl⟩ := str_of hs
    obtain ⟨l, rfl⟩ : ∃ l, s = tx l := ⟨_, of_tx s⟩
    have hz := hd.str.2
    rw [tx_len] at hz
    have hc : (decide ((1 : Int) ≤ ((tx l).length : Int)) && decide (((tx l).length : Int) ≤ 8)) = (decide (1 ≤ l.length) && decide (l.length ≤ 8)) := by
      rw [tx_len]
      congr 1
      · exact decide_eq_decide.mpr (by omega)
      · exact decide_eq_decide.mpr (by omega)
    refine ds_seq (ds_if (EvT.dl (b := !(decide (1 ≤ l.length) && decide (l.length ≤ 8))) ?_ ⟨fun h => ?_, fun h => ?_⟩))
    · have e := evt_or (Γ := Gz0 2 (spNameG.args (.str (tx l)))) (a := false) (b := !(decide ((1 : Int) ≤ ((tx l).length : Int)) && decide (((tx l).length : Int) ≤ 8))) (evt_not (a := true) (evt_tru_bl (K := K) (ev_isi (K := K) (ta := tVar 0) (d := .str (tx l)) (ev_var rfl) ev_raw (.inl rfl) (.ty "str") rfl))) fun _ => evt_not (evt_chain (ta := tC (.int 1)) (tb := tCB (Dw.rLen K) (tCons (tVar 0) tNil)) (tc := tC (.int 8)) ev_int (ev_lenS (ev_var rfl) (small (by rw [tx_len]; exact hz))) (fun _ => ev_int) dr2_le fun _ => dr2_le)
      rw [hc] at e
      exact e
    · refine ds_ret (Ev.dl ev_bl ?_)
      show D.bl false = D.bl (nmC (tx l).cps.toList)
      unfold nmC
      rw [tx_cps, show (decide (1 ≤ l.length) && decide (l.length ≤ 8)) = false by rw [Bool.not_eq_true'] at h; exact h]; rfl
    · refine ds_next (ds_ret (Ev.dl (ev_all_lc (xs := l) (c := fun c => .str (ch c)) (b := letterC) ?_ (by omega) fun c hc => ⟨[1], _, dg_name, fun i hi => hi, evt_yes, ev_op (ev_var rfl) ev_str ?_⟩) ?_))
      · have := ej_str (K := K) (ta := tVar 0) (Γ := Gz0 2 (spNameG.args (.str (tx l)))) (x := tx l) (ev_var rfl)
        rw [signs_tx, List.map_map] at this
        exact this
      · rw [lettersS]; exact in_code
      · show D.bl _ = D.bl (nmC (tx l).cps.toList)
        unfold nmC
        rw [tx_cps, show (decide (1 ≤ l.length) && decide (l.length ≤ 8)) = true by rw [Bool.not_eq_false'] at h; exact h]; rfl
  · have hs : isStrB d = false := by simpa using hs
    refine ds_seq (ds_if (EvT.dl (b := true) (evt_or (a := true) (b := false) (evt_not (a := false) (evt_tru_bl (ev_isi (ev_var rfl) ev_raw (.inl hd.ty) (.ty "str") (by rw [kit_str hd.ty, hs])))) fun h => (nomatch h)) ⟨fun _ => ds_ret (Ev.dl ev_bl ?_), fun h => (nomatch h)⟩))
    cases d <;> first | rfl | exact nomatch hs

end K27

namespace K27
open PySem PySem.Spec PyProof.Rows L2 Dw
variable [Tabs0]
def bookTx (ls rs : List (List Nat)) : List Nat := TL.joinL [32] ((TL.joinL [32] ls ++ [58]) :: rs)
def bookD (C : Addr) (ls rs : List (List Nat)) : D := .obj C ["_text", "_names", "_rows"] [.str (tx (bookTx ls rs)), .tup (nameD ls), .tup (nameD rs)]
structure BookOk (ls rs : List (List Nat)) : Prop where
  names : NamesOk ls
  few : rs.length ≤ 20
  rows : ∀ r ∈ rs, RowOk r ls.length
theorem kit_self {K : PySem.W.Frag} {C : Addr} : PySem.W.kitOne K (.ref C) (.ref C) = some true := by
  unfold PySem.W.kitOne
  rw [if_pos]
  first | exact beq_self_eq_true _ | simp | rfl
abbrev Bk := List (List Nat) × List (List Nat)
/-! signs fused -/
def chD (l : List Nat) : List D := l.map fun c => D.str (ch c)
theorem inV_ch (c : Nat) : ∀ l : List Nat, inV (.str (ch c)) ((chD l).map scV) = decide (c ∈ l)
  | [] => rfl
  | b :: l => by
    show ((ch b == ch c) || inV (.str (ch c)) ((chD l).map scV)) = _
    rw [inV_ch c l, Bool.eq_iff_iff]
    simp only [Bool.or_eq_true, beq_iff_eq, ch_eq, decide_eq_true_eq, List.mem_cons]
    constructor
    · rintro (h | h)
      · exact .inl h.symm
      · exact .inr h
    · rintro (h | h)
      · exact .inl h.symm
      · exact .inr h
theorem sc_ch (l : List Nat) : (chD l).all isSc = true := by
  induction l with
  | nil => rfl
  | cons c l ih => exact ih
end K27

namespace K27
open PySem PySem.Spec PyProof.Rows L2 Dw
variable [Tabs0]
theorem np_name (ls : List (List Nat)) : noPs (nameD ls) = true := noPs_map (fun _ => rfl) ls
theorem np_ord (o : List Nat) : noPs (ordD o) = true := noPs_map (fun _ => rfl) o
theorem np_tup {ds : List D} (h : noPs ds = true) : noPs [.tup ds] = true := by show (noPs ds && true) = true; rw [h]; rfl
theorem np_book (C : Addr) (ls rs : List (List Nat)) : noPs [bookD C ls rs] = true := by
  show ((true && ((noPs (nameD ls)) && (noPs (nameD rs) && true))) && true) = true
  rw [np_name, np_name]; rfl
theorem joinL_len {m : Nat} : ∀ ls : List (List Nat), (∀ p ∈ ls, p.length ≤ m) → (TL.joinL [32] ls).length ≤ ls.length * (m + 1)
  | [], _ => Nat.zero_le _
  | [p], h => by
    have := h p (List.mem_singleton.mpr rfl)
    show p.length ≤ 1 * (m + 1)
    omega
  | p :: q :: r, h => by
    have h1 := h p List.mem_cons_self
    have h2 := joinL_len (q :: r) fun x hx => h x (List.mem_cons_of_mem _ hx)
    show (p ++ ([32] ++ TL.joinL [32] (q :: r))).length ≤ (List.length (q :: r) + 1) * (m + 1)
    rw [List.length_append, List.length_append, Nat.add_mul]
    show p.length + (1 + _) ≤ _
    omega
theorem joinL_mem {c : Nat} : ∀ ls : List (List Nat), c ∈ TL.joinL [32] ls → c = 32 ∨ ∃ p ∈ ls, c ∈ p
  | [], h => absurd h (by simp [TL.joinL])
  | [p], h => .inr ⟨p, List.mem_singleton.mpr rfl, h⟩
  | p :: q :: r, h => by
    have h : c ∈ p ++ ([32] ++ TL.joinL [32] (q :: r)) := h
    rcases List.mem_append.mp h with h | h
    · exact .inr ⟨p, List.mem_cons_self, h⟩
    · rcases List.mem_append.mp h with h | h
      · exact .inl (List.mem_singleton.mp h)
      · rcases joinL_mem (q :: r) h with h | ⟨x, hx, hc⟩
        · exact .inl h
        · exact .inr ⟨x, List.mem_cons_of_mem _ hx, hc⟩
theorem bookTx_eq (ls : List (List Nat)) : ∀ rs : List (List Nat), bookTx ls rs = TL.joinL [32] ls ++ ([58] ++ TL.joinL [32] ([] :: rs))
  | [] => rfl
  | q :: r => by
    show (TL.joinL [32] ls ++ [58]) ++ ([32] ++ TL.joinL [32] (q :: r)) = TL.joinL [32] ls ++ ([58] ++ ([] ++ ([32] ++ TL.joinL [32] (q :: r))))
    rw [List.nil_append, List.append_assoc]
theorem spaceS : Str.ofString " " = tx [32] := by decide +kernel
theorem colonS : Str.ofString ":" = tx [58] := by decide +kernel
theorem split_sp {ps : List (List Nat)} (hne : ps ≠ []) (h : ∀ p ∈ ps, 32 ∉ p) : Txt.split (tx (TL.joinL [32] ps)) (Str.ofString " ") = ps.map tx := by
  rw [spaceS]
  refine (SX.split_S (a := TL.joinL [32] ps) (b := [32]) (by simp) (by decide)).trans ?_
  rw [SX.spl_join hne h]; rfl
theorem part_sp {p q : List Nat} (h : 58 ∉ p) : Txt.partition (tx (p ++ ([58] ++ q))) (Str.ofString ":") = (tx p, tx [58], tx q) := by
  rw [colonS]
  exact SX.partition_some (by simp) (SX.par_head q h)
theorem BookOk.h58 {ls rs : List (List Nat)} (h : BookOk ls rs) : 58 ∉ TL.joinL [32] ls := fun hm => by
  rcases joinL_mem ls hm with h' | ⟨p, hp, hc⟩
  · cases h'
  · have := (h.names.all p hp).all 58 hc; omega
theorem BookOk.h32 {ls rs : List (List Nat)} (h : BookOk ls rs) : ∀ p ∈ ls, 32 ∉ p := fun p hp hc => by
  have := (h.names.all p hp).all 32 hc; omega
theorem BookOk.r32 {ls rs : List (List Nat)} (h : BookOk ls rs) : ∀ p ∈ [] :: rs, 32 ∉ p := fun p hp hc => by
  rcases List.mem_cons.mp hp with rfl | hp
  · exact absurd hc (by simp)
  · rcases (h.rows p hp).all 32 hc with h | h | h <;> cases h
theorem BookOk.hl {ls rs : List (List Nat)} (h : BookOk ls rs) : (TL.joinL [32] ls).length ≤ 72 := by
  have := joinL_len (m := 8) ls fun p hp => (h.names.all p hp).hi
  have := h.names.hi
  omega
theorem BookOk.tl {ls rs : List (List Nat)} (h : BookOk ls rs) : (TL.joinL [32] ([] :: rs)).length ≤ 189 := by
  have e := joinL_len (m := 8) ([] :: rs) fun p hp => by
    rcases List.mem_cons.mp hp with rfl | hp
    · exact Nat.zero_le _
    · rw [(h.rows p hp).len]; exact h.names.hi
  rw [List.length_cons] at e
  have := h.few
  omega
theorem BookOk.len {ls rs : List (List Nat)} (h : BookOk ls rs) : (tx (bookTx ls rs)).length ≤ 300 := by
  rw [tx_len, bookTx_eq, List.length_append, List.length_append]
  have := h.hl
  have := h.tl
  show _ + (1 + _) ≤ _
  omega
def spInit : Spc where
  ty := Bk
  args := fun x => [.str (tx (bookTx x.1 x.2))]
  ok := fun x => BookOk x.1 x.2
  rel := fun x d => d = .tup [.str (tx (bookTx x.1 x.2)), .tup (nameD x.1), .tup (nameD x.2)]
theorem nameD_map (ls : List (List Nat)) : (ls.map tx).map D.str = nameD ls := by rw [List.map_map]; rfl
end K27

namespace K27
open PySem PySem.Spec PyProof.Rows L2 Dw
variable [Tabs0]
structure FuOk (ls rs : List (List Nat)) (o : List Nat) : Prop where
  book : BookOk ls rs
  lot : LotOk o rs.length
end K27

namespace K27
open PySem PySem.Spec PyProof.Rows L2 Dw
variable [Tabs0]
def lots : Nat → List (List Nat)
  | 0 => [[]]
  | n + 1 => lots n ++ (lots n).map (· ++ [n])
def ordT (os : List (List Nat)) : List D := os.map fun o => D.tup (ordD o)
theorem ordD_snoc (o : List Nat) (i : Nat) : ordD o ++ [D.int i] = ordD (o ++ [i]) := by
  unfold ordD
  rw [List.map_append]; rfl
theorem ordD_len (o : List Nat) : (ordD o).length = o.length := List.length_map ..
theorem ordT_len (o : List (List Nat)) : (ordT o).length = o.length := List.length_map ..
end K27

namespace K27
open PySem PySem.Spec PyProof.Rows L2 Dw
variable [Tabs0]
def nameB (l : List Nat) : Bool := decide (1 ≤ l.length) && decide (l.length ≤ 8) && l.all fun c => decide (97 ≤ c) && decide (c ≤ 122)
theorem nameB_ok {l : List Nat} (h : nameB l = true) : NameOk l := by
  unfold nameB at h
  rw [Bool.and_eq_true, Bool.and_eq_true, List.all_eq_true] at h
  exact ⟨of_decide_eq_true h.1.1, of_decide_eq_true h.1.2, fun c hc => by
    have := h.2 c hc
    rw [Bool.and_eq_true] at this
    exact ⟨of_decide_eq_true this.1, of_decide_eq_true this.2⟩⟩
theorem lt_of_ne : ∀ a b : List Nat, a ≠ b → ¬ b < a → a < b
  | [], [], h, _ => absurd rfl h
  | [], b :: bs, _, _ => List.nil_lt_cons b bs
  | a :: as, [], _, h => absurd (List.nil_lt_cons a as) h
  | a :: as, b :: bs, h, h' => by
    rw [List.cons_lt_cons_iff] at h' ⊢
    by_cases e : a = b
    · subst e
      exact .inr ⟨rfl, lt_of_ne as bs (fun z => h (by rw [z])) fun z => h' (.inr ⟨rfl, z⟩)⟩
    · exact .inl (by
        have : ¬ b < a := fun z => h' (.inl z)
        omega)
theorem rising_inc : ∀ (x : Str) (r : List Str), risingS x r = true → (x :: r).Nodup → ∀ p ∈ (((x :: r).map fun s => s.cps.toList).zip (r.map fun s => s.cps.toList)), p.1 < p.2
  | x, [], _, _, p, hp => by cases hp
  | x, y :: r, h, nd, p, hp => by
    have h : (!ltCps y.cps.toList x.cps.toList && risingS y r) = true := h
    rw [Bool.and_eq_true, ltCps_eq, Bool.not_eq_true', decide_eq_false_iff_not] at h
    obtain ⟨n1, n2⟩ := List.nodup_cons.mp nd
    rcases List.mem_cons.mp hp with rfl | hp
    · exact lt_of_ne _ _ (fun z => n1 (by
        have z' : x.cps.toList = y.cps.toList := z
        have : x = y := by rw [of_tx x, of_tx y, z']
        rw [this]; exact List.mem_cons_self)) h.1
    · exact rising_inc y r h.2 n2 p hp
theorem nameD_len (ls : List (List Nat)) : (nameD ls).length = ls.length := List.length_map ..
theorem nodup_tx {l : List (List Nat)} (h : l.Nodup) : (l.map tx).Nodup := by
  rw [List.nodup_iff_pairwise_ne] at h ⊢
  exact List.pairwise_map.mpr (h.imp fun h z => h (tx_eq.mp z))
end K27

namespace K27
open PySem PySem.Spec PyProof.Rows L2 Dw
variable [Tabs0]
end K27

namespace K27
open PySem PySem.Spec PyProof.Rows L2 Dw
variable [Tabs0]
theorem sum_tx {m : Nat} : ∀ ls : List (List Nat), (∀ p ∈ ls, p.length ≤ m) → ((ls.map tx).map (·.length)).sum ≤ ls.length * m
  | [], _ => Nat.zero_le _
  | p :: r, h => by
    have h1 := h p List.mem_cons_self
    have h2 := sum_tx r fun x hx => h x (List.mem_cons_of_mem _ hx)
    rw [List.map_cons, List.map_cons, List.sum_cons, tx_len, List.length_cons, Nat.add_mul]
    omega
theorem join_sp (ls : List (List Nat)) : Txt.join (Str.ofString " ") (ls.map tx) = tx (TL.joinL [32] ls) := by rw [spaceS, join_tx]
end K27

namespace K27
open PySem PySem.Spec PyProof.Rows L2 Dw
variable [Tabs0]
theorem dr2_pow {i j : Int} (h : CPow i j) : DR2 (rI CPow fun i j => .int (i ^ j.toNat)) (.int i) (.int j) (.int (i ^ j.toNat)) := dr2_rI h fun _ => rfl
theorem scr_at {ns : List Int} {spot : Nat} (h : spot < ns.length) : atI (ns.map V.int) (spot : Int) = some (.int (ns.getD spot 0)) := by
  refine atI_nat ?_
  rw [List.getElem?_map, List.getElem?_eq_getElem h, List.getD_eq_getElem?_getD, List.getElem?_eq_getElem h]; rfl
end K27

namespace K27
open PySem PySem.Spec PyProof.Rows L2 Dw
variable [Tabs0]
/-! lots and rankings of any plain values -/
def intOf : D → Int | .int i => i | _ => 0
theorem all_ints : ∀ {ds : List D}, ds.all wholeB = true → ds = (ds.map intOf).map D.int
  | [], _ => rfl
  | d :: r, h => by
    rw [List.all_cons, Bool.and_eq_true] at h
    obtain ⟨i, rfl⟩ := whole_of h.1
    rw [List.map_cons, List.map_cons, ← all_ints h.2]; rfl
def rangeI (n : Nat) : List Int := (List.range n).map fun k : Nat => (k : Int)
def rkB : D → Nat → Bool | .tup ds, n => ds.all wholeB && decide ((ds.map intOf).mergeSort (fun a b => decide (a ≤ b)) = rangeI n) | _, _ => false
def spIsRkG : Spc where
  ty := D × Nat
  args := fun x => [x.1, .int x.2]
  ok := fun x => Pv x.1 ∧ x.2 ≤ 8
  rel := fun x e => e = .bl (rkB x.1 x.2)
theorem sort_u {ns ns' : List Int} (h1 : ns'.Perm ns) (h2 : ns'.Pairwise (· ≤ ·)) : ns' = ns.mergeSort (fun a b => decide (a ≤ b)) := by
  have p := List.mergeSort_perm ns (fun a b => decide (a ≤ b))
  have s := List.pairwise_mergeSort (le := fun a b : Int => decide (a ≤ b)) (fun a b c h1 h2 => by
    simp only [decide_eq_true_eq] at h1 h2 ⊢
    omega) (fun a b => by
    simp only [Bool.or_eq_true, decide_eq_true_eq]
    omega) ns
  refine List.Perm.eq_of_pairwise (le := (· ≤ ·)) (fun a b _ _ h h' => Int.le_antisymm h h') h2 (s.imp fun {a b} h => of_decide_eq_true h) (h1.trans p.symm)
theorem rkB_iff {d : D} {n : Nat} : rkB d n = true ↔ ∃ o, d = .tup (ordD o) ∧ o.Perm (List.range n) := by
  constructor
  · intro h
    cases d <;> first | exact absurd h Bool.false_ne_true | skip
    rename_i ds
    have h : (ds.all wholeB && decide ((ds.map intOf).mergeSort (fun a b => decide (a ≤ b)) = rangeI n)) = true := h
    rw [Bool.and_eq_true, decide_eq_true_eq] at h
    obtain ⟨h1, h2⟩ := h
    have p := List.mergeSort_perm (ds.map intOf) (fun a b => decide (a ≤ b))
    rw [h2] at p
    have nn : ∀ i ∈ ds.map intOf, 0 ≤ i := fun i hi => by
      have := p.symm.subset hi
      obtain ⟨k, _, rfl⟩ := List.mem_map.mp this
      omega
    refine ⟨(ds.map intOf).map Int.toNat, ?_, ?_⟩
    · have e : ordD ((ds.map intOf).map Int.toNat) = (ds.map intOf).map D.int := by
        unfold ordD
        rw [List.map_map]
        refine List.map_congr_left fun i hi => ?_
        have := nn i hi
        show D.int ((i.toNat : Nat) : Int) = D.int i
        rw [show ((i.toNat : Nat) : Int) = i by omega]
      rw [e, ← all_ints h1]
    · have := (p.symm).map Int.toNat
      have e : (rangeI n).map Int.toNat = List.range n := by
        unfold rangeI
        rw [List.map_map, show (Int.toNat ∘ fun k : Nat => (k : Int)) = id by funext k; simp, List.map_id]
      rw [e] at this
      exact this
  · rintro ⟨o, rfl, h⟩
    show ((ordD o).all wholeB && decide (((ordD o).map intOf).mergeSort (fun a b => decide (a ≤ b)) = rangeI n)) = true
    have e1 : (ordD o).all wholeB = true := by
      unfold ordD
      rw [List.all_map, List.all_eq_true]
      exact fun _ _ => rfl
    have e2 : (ordD o).map intOf = o.map fun k : Nat => (k : Int) := by unfold ordD; rw [List.map_map]; rfl
    rw [e1, e2, ← sort_u (ns' := rangeI n) ((h.map _).symm) (List.pairwise_map.mpr ((List.pairwise_lt_range (n := n)).imp fun {a b} h => by omega)), decide_eq_true rfl]; rfl
theorem eqv_ints : ∀ xs ys : List Int, PyData.eqvAll (pys (xs.map D.int)) (pys (ys.map D.int)) = decide (xs = ys)
  | [], [] => rfl
  | [], y :: ys => by
    show false = _
    simp
  | x :: xs, [] => by
    show false = _
    simp
  | x :: xs, y :: ys => by
    show ((x == y) && PyData.eqvAll (pys (xs.map D.int)) (pys (ys.map D.int))) = _
    rw [eqv_ints xs ys, Bool.eq_iff_iff]
    simp
theorem sh_ints (xs : List Int) : dOk 1 (.lst (xs.map D.int)) = true := dOks_map fun _ _ => rfl
theorem eq_intsL {K : PySem.W.Frag} {xs ys : List Int} : DR2 (rEqX K) (.lst (xs.map D.int)) (.lst (ys.map D.int)) (.bl (decide (xs = ys))) := by
  obtain ⟨p1, s1⟩ := dOk_shaped (sh_ints xs) (by decide)
  obtain ⟨p2, s2⟩ := dOk_shaped (sh_ints ys) (by decide)
  have := eq_deep (K := K) p1 p2 s1 s2
  rw [show PyData.eqv (py (.lst (xs.map D.int))) (py (.lst (ys.map D.int))) = PyData.eqvAll (pys (xs.map D.int)) (pys (ys.map D.int)) from rfl, eqv_ints] at this
  exact this
theorem rng_int (n : Nat) : rng n = (rangeI n).map D.int := by unfold rng rangeI; rw [List.map_map]; rfl
/-! names of any plain values -/
def codesOf : D → List Nat | .str x => x.cps.toList | _ => []
def incB (ls : List (List Nat)) : Bool := (ls.zip (ls.drop 1)).all fun p => decide (p.1 < p.2)
def namesB (ds : List D) : Bool := ds.all nmB && incB (ds.map codesOf)
theorem all_names : ∀ {ds : List D}, ds.all nmB = true → ds = nameD (ds.map codesOf) ∧ ∀ l ∈ ds.map codesOf, NameOk l
  | [], _ => ⟨rfl, fun l h => absurd h (by simp)⟩
  | d :: r, h => by
    rw [List.all_cons, Bool.and_eq_true] at h
    obtain ⟨l, rfl, hl⟩ := nmB_iff.mp h.1
    obtain ⟨e, hr⟩ := all_names h.2
    have ec : codesOf (.str (tx l)) = l := tx_cps l
    rw [List.map_cons, ec]
    refine ⟨?_, fun x hx => ?_⟩
    · show D.str (tx l) :: r = D.str (tx l) :: nameD (r.map codesOf)
      rw [← e]
    · rcases List.mem_cons.mp hx with rfl | hx
      · exact hl
      · exact hr x hx
theorem codes_name (ls : List (List Nat)) : (nameD ls).map codesOf = ls := by
  unfold nameD
  rw [List.map_map]
  have e : (codesOf ∘ fun l => D.str (tx l)) = id := by funext l; exact tx_cps l
  rw [e, List.map_id]
theorem namesB_iff {ds : List D} : namesB ds = true ↔ ∃ ls, ds = nameD ls ∧ (∀ l ∈ ls, NameOk l) ∧ ∀ p ∈ ls.zip (ls.drop 1), p.1 < p.2 := by
  unfold namesB incB
  rw [Bool.and_eq_true]
  constructor
  · rintro ⟨h1, h2⟩
    obtain ⟨e, hn⟩ := all_names h1
    exact ⟨_, e, hn, fun p hp => of_decide_eq_true (List.all_eq_true.mp h2 p hp)⟩
  · rintro ⟨ls, rfl, h1, h2⟩
    rw [codes_name]
    refine ⟨?_, List.all_eq_true.mpr fun p hp => decide_eq_true (h2 p hp)⟩
    unfold nameD
    rw [List.all_map, List.all_eq_true]
    exact fun l hl => nmB_iff.mpr ⟨l, rfl, h1 l hl⟩
def spNamesG : Spc where
  ty := List D
  args := fun ds => [.tup ds]
  ok := fun ds => Pv (.tup ds)
  rel := fun ds e => e = .bl (namesB ds)
theorem cut_tail (ds : List D) : Dw.cutD ds (some 1) none = ds.drop 1 := by
  unfold Dw.cutD
  rw [HT.sIx_none]
  have e : HT.sIx ds.length 0 (some 1) = min 1 ds.length := by
    show (if (1 : Int) < 0 then ((1 : Int) + (ds.length : Int)).toNat else min (1 : Int).toNat ds.length) = _
    rw [if_neg (by decide)]; rfl
  rw [e]
  cases ds with
  | nil => rfl
  | cons d r =>
    rw [show min 1 (d :: r).length = 1 by simp [Nat.min_def], List.take_of_length_le (by simp)]
theorem pv_names {ls : List (List Nat)} (h : ∀ l ∈ ls, NameOk l) (hz : ls.length ≤ 60) : Pv (.tup (nameD ls)) := by
  show (decide ((nameD ls).length ≤ 60) && plBs 11 (nameD ls)) = true
  rw [show (nameD ls).length = ls.length from List.length_map .., decide_eq_true hz, Bool.true_and, plBs_iff]
  intro d hd
  obtain ⟨l, hl, rfl⟩ := List.mem_map.mp hd
  have := h l hl
  exact pv_strs (fun c hc => by have := this.all c hc; omega) (by have := this.hi; omega)
theorem names_ok {ls : List (List Nat)} (h : NamesOk ls) : namesB (nameD ls) = true := namesB_iff.mpr ⟨ls, rfl, h.all, h.inc⟩
theorem row_ok {l : List Nat} {n : Nat} (h : RowOk l n) (h1 : 1 ≤ n) (h8 : n ≤ 8) : rowB (.str (tx l)) n = true := rowB_iff.mpr ⟨l, rfl, h, h1, h8⟩
end K27

namespace K27
open PySem PySem.Spec PyProof.Rows L2 Dw
variable [Tabs0]
theorem d_is_ranking {P : Program} {w : World} {K : PySem.W.Frag} {mg : Str → Option Value} {base : Heap} (T : Txt K w mg) : FnOk P w K mg base CX0 2 T.f_is_ranking T.e_is_ranking ["value", "many"] (toSp (spIsRkG)) := by
  refine fn_ok T.F_is_ranking sc_is_ranking (fun _ => rfl) fun cdv A outer s' H E hr => ?_
  refine ⟨_, (pss_cons (ps_if (PW.pt (pw_or (pt_not (truA K (pe_callB (isiA K) (by rfl) T.n_isinstance (by decide +kernel) (pa_cons (pv 0) (pa_cons (pe_bltn (v := .ty "tuple") (by rfl) T.n_tuple (by decide +kernel) rfl) pa_nil))))) (pw_or1 (pt_not (truA K (pe_callB (allA K) (by rfl) T.n_all (by decide +kernel) (pa_cons (pe_lc (own := [("rule", 2)]) rfl sc_is_ranking.nd (piR K (pv 0)) (blkOk_by (own := [("rule", 2)]) (N := N_is_ranking) (sc := (defScope s_is_ranking)) (by decide +kernel)) (fun _ _ _ _ _ => pg_name (i := 2) sc_is_ranking.nd rfl (Or.inl rfl)) (fun _ _ _ _ _ => pts_nil) (fun _ _ _ _ _ => (pe_call (d_is_whole T) (hr.mono (by decide)) (by rfl) T.m_is_whole T.F_is_whole.kp T.b_is_whole .nil pass0 (pa_cons (pv 2) pa_nil)))) pa_nil))))))) (pss_one (ps_ret pe_bl)) pss_nil) (pss_one (ps_ret (pe_cmpR (eqA K hr.units) (pe_callB (sortTA K) (by rfl) T.n_sorted (by decide +kernel) (pa_cons (pv 0) pa_nil)) (pe_listRg rfl (by rfl) T.n_list (prg_1 (by rfl) T.n_range (pv 1))) (nomark _))))), fun x hx => ?_⟩
  obtain ⟨d, n⟩ := x
  obtain ⟨hd, h8⟩ := hx
  have hd : Pv d := hd
  have h8 : n ≤ 8 := h8
  by_cases ht : isTupB d = true
  · obtain ⟨ds, rfl⟩ := tup_of ht
    obtain ⟨hz, hp⟩ := hd.tup
    refine ds_seq (ds_if (EvT.dl (b := !ds.all wholeB) (evt_or (a := false) (b := !ds.all wholeB) (evt_not (a := true) (evt_tru_bl (ev_isi (ev_var rfl) ev_raw (.inl rfl) (.ty "tuple") rfl))) fun _ => evt_not (evt_tru_bl (ev_all_lc (K := K) (xs := ds) (c := fun d => d) (b := wholeB) ?it (by omega) fun k hk => ⟨[2], _, dg_name, fun i hi => hi, evt_yes, ev_call (s := spWholeG) (x := k) (eva_cons (ev_var rfl) eva_nil) (np1 (hp k hk) rfl) (hp k hk) fun d h => h⟩))) ⟨fun h => ?_, fun h => ds_next ?_⟩))
    case it => rw [List.map_id']; exact ej_tup (ev_var rfl)
    · refine ds_ret (Ev.dl ev_bl ?_)
      show D.bl false = D.bl (ds.all wholeB && _)
      rw [Bool.not_eq_true'] at h
      rw [h]; rfl
    · rw [Bool.not_eq_false'] at h
      refine ds_ret (Ev.dl (ev_op (x := .lst (((ds.map intOf).mergeSort (fun a b => decide (a ≤ b))).map D.int)) (y := .lst ((rangeI n).map D.int)) (EvN.ev ?srt) (EvN.ev ?rg) eq_intsL) ?_)
      case srt => exact evn_sortT (ns := ds.map intOf) (ev_cast (congrArg D.tup (all_ints h)) (ev_var rfl)) (by rw [List.length_map]; omega) fun ns h1 h2 => sort_u h1 h2
      case rg => rw [← rng_int]; exact evn_listRg (ev_var rfl) (by omega)
      show D.bl _ = D.bl (ds.all wholeB && _)
      rw [h]; rfl
  · have ht : isTupB d = false := by simpa using ht
    refine ds_seq (ds_if (EvT.dl (b := true) (evt_or (a := true) (b := false) (evt_not (a := false) (evt_tru_bl (ev_isi (ev_var rfl) ev_raw (.inl hd.ty) (.ty "tuple") (by rw [kit_tup hd.ty, ht])))) fun h => (nomatch h)) ⟨fun _ => ds_ret (Ev.dl ev_bl ?_), fun h => (nomatch h)⟩))
    cases d <;> first | rfl | exact nomatch ht
end K27

namespace K27
open PySem PySem.Spec PyProof.Rows L2 Dw
variable [Tabs0]
theorem d_are_names {P : Program} {w : World} {K : PySem.W.Frag} {mg : Str → Option Value} {base : Heap} (T : Txt K w mg) : FnOk P w K mg base CX0 2 T.f_are_names T.e_are_names ["values"] (toSp (spNamesG)) := by
  refine fn_ok T.F_are_names sc_are_names (fun _ => rfl) fun cdv A outer s' H E hr => ?_
  refine ⟨_, (pss_cons (ps_if (pt_not (truA K (pe_callB (allA K) (by rfl) T.n_all (by decide +kernel) (pa_cons (pe_lc (own := [("value", 3)]) rfl sc_are_names.nd (piR K (pv 0)) (blkOk_by (own := [("value", 3)]) (N := N_are_names) (sc := (defScope s_are_names)) (by decide +kernel)) (fun _ _ _ _ _ => pg_name (i := 3) sc_are_names.nd rfl (Or.inl rfl)) (fun _ _ _ _ _ => pts_nil) (fun _ _ _ _ _ => (pe_call (d_is_name T) (hr.mono (by decide)) (by rfl) T.m_is_name T.F_is_name.kp T.b_is_name .nil pass0 (pa_cons (pv 3) pa_nil)))) pa_nil)))) (pss_one (ps_ret pe_bl)) pss_nil) (pss_one (ps_ret (pe_callB (allA K) (by rfl) T.n_all (by decide +kernel) (pa_cons (pe_lc (own := [("one", 1), ("other", 2)]) rfl sc_are_names.nd (zipA K (by rfl) T.n_zip (pa_cons (pv 0) (pa_cons (pe_slice (slXA K) (pv 0) (po_some pe_int) po_none) pa_nil))) (blkOk_by (own := [("one", 1), ("other", 2)]) (N := N_are_names) (sc := (defScope s_are_names)) (by decide +kernel)) (fun _ _ _ _ _ => tupA K 2 rfl (pgs_cons (pg_name (i := 1) sc_are_names.nd rfl (Or.inl rfl)) (pgs_cons (pg_name (i := 2) sc_are_names.nd rfl (Or.inl rfl)) pgs_nil))) (fun _ _ _ _ _ => pts_nil) (fun _ _ _ _ _ => (pe_cmpR opLt (pv 1) (pv 2) (nomark _)))) pa_nil))))), fun x hx => ?_⟩
  obtain ⟨ds, rfl⟩ : ∃ l : List D, l = x := ⟨x, rfl⟩
  have hd : Pv (.tup ds) := hx
  obtain ⟨hz, hp⟩ := hd.tup
  refine ds_seq (ds_if (EvT.dl (b := !ds.all nmB) (evt_not (evt_tru_bl (ev_all_lc (K := K) (xs := ds) (c := fun d => d) (b := nmB) ?it (by omega) fun k hk => ⟨[3], _, dg_name, fun i hi => hi, evt_yes, ev_call (s := spNameG) (x := k) (eva_cons (ev_var rfl) eva_nil) (np1 (hp k hk) rfl) (hp k hk) fun d h => h⟩))) ⟨fun h => ?_, fun h => ds_next ?_⟩))
  case it => rw [List.map_id']; exact ej_tup (ev_var rfl)
  · refine ds_ret (Ev.dl ev_bl ?_)
    show D.bl false = D.bl (namesB ds)
    unfold namesB
    rw [Bool.not_eq_true'] at h
    rw [h]; rfl
  · rw [Bool.not_eq_false'] at h
    obtain ⟨e, hn⟩ := all_names h
    generalize hls : ds.map codesOf = ls at e hn
    subst e
    have el : (nameD ls).length = ls.length := List.length_map ..
    refine ds_ret (Ev.dl (ev_all_lc (xs := ls.zip (ls.drop 1)) (c := fun p => .tup [.str (tx p.1), .str (tx p.2)]) (b := fun p => decide (p.1 < p.2)) ?_ ?_ ?_) ?_)
    · rw [← zip_names]
      have e : nameD (ls.drop 1) = Dw.cutD (nameD ls) (some 1) none := by
        rw [cut_tail]
        unfold nameD
        rw [List.map_drop]
      rw [e]
      exact ei_zipT (ev_var rfl) (ev_sliceTY (ev_var rfl) (eo_some ev_int) eo_none)
    · rw [List.length_zip]; omega
    · intro p hp
      exact ⟨[1] ++ [2], _, dg_tup2 dg_name dg_name, fun i hi => hi, evt_yes, ev_op (ev_var rfl) (ev_var rfl) lt_tx⟩
    · show D.bl (incB ls) = D.bl (namesB (nameD ls))
      unfold namesB
      rw [h, codes_name]; rfl

end K27

namespace K27
open PySem PySem.Spec PyProof.Rows L2 Dw
variable [Tabs0]
/-! the layers -/
def rowAt (rs : List (List Nat)) (i : Nat) : List Nat := rs.getD i []
def minB (rs : List (List Nat)) (still : List Nat) (k : Nat) : Bool := still.any fun i => decide (sgn (rowAt rs i) k = 45)
def plusB (rs : List (List Nat)) (lay : List Nat) (i : Nat) : Bool := lay.any fun k => decide (sgn (rowAt rs i) k = 43)
def openB (rs : List (List Nat)) (i : Nat) : Bool := (rowAt rs i).any fun c => !decide (c = 46)
def open0 (rs : List (List Nat)) : List Nat := (List.range rs.length).filter (openB rs)
def layF (rs : List (List Nat)) : Nat → List (List Nat) → List Nat → List Nat → List (List Nat) × List Nat
  | 0, made, _, still => (made, still)
  | f + 1, made, left, still =>
    if still = [] then (if left = [] then made else made ++ [left], [])
    else if left.filter (fun k => !minB rs still k) = [] then (made, still)
    else layF rs f (made ++ [left.filter fun k => !minB rs still k]) (left.filter (minB rs still)) (still.filter fun i => !plusB rs (left.filter fun k => !minB rs still k) i)
def splitM (rs : List (List Nat)) (n : Nat) : List (List Nat) × List Nat := layF rs (n + 1) [] (List.range n) (open0 rs)
/-- a row that some layer settles, all ahead of it being dots, and none of it a minus -/
def Settled (rs : List (List Nat)) (made : List (List Nat)) (i : Nat) : Prop := ∃ pre lay post, made = pre ++ lay :: post ∧ (∀ l ∈ pre, ∀ k ∈ l, sgn (rowAt rs i) k = 46) ∧ (∀ k ∈ lay, sgn (rowAt rs i) k ≠ 45) ∧ ∃ k ∈ lay, sgn (rowAt rs i) k = 43
structure LayI (rs : List (List Nat)) (n : Nat) (made : List (List Nat)) (left still : List Nat) : Prop where
  perm : (made.flatten ++ left).Perm (List.range n)
  ne : ∀ l ∈ made, l ≠ []
  sub : still.Sublist (open0 rs)
  dots : ∀ i ∈ still, ∀ l ∈ made, ∀ k ∈ l, sgn (rowAt rs i) k = 46
  done : ∀ i ∈ open0 rs, i ∉ still → Settled rs made i
  inc : left.Sublist (List.range n)
theorem Settled.more {rs made i} (l : List (List Nat)) (h : Settled rs made i) : Settled rs (made ++ l) i := by
  obtain ⟨pre, lay, post, rfl, h1, h2, h3⟩ := h
  exact ⟨pre, lay, post ++ l, by simp, h1, h2, h3⟩
theorem filter_split (p : Nat → Bool) : ∀ l : List Nat, ((l.filter fun k => !p k) ++ l.filter p).Perm l
  | [] => .refl _
  | a :: l => by
    have ih := filter_split p l
    cases h : p a with
    | true =>
      rw [List.filter_cons_of_neg (by simp [h]), List.filter_cons_of_pos h]
      exact (List.perm_middle).trans (ih.cons a)
    | false =>
      rw [List.filter_cons_of_pos (by simp [h]), List.filter_cons_of_neg (by simp [h])]
      exact ih.cons a
theorem LayI.next {rs n made left still} (hs : ∀ i c, sgn (rowAt rs i) c = 43 ∨ sgn (rowAt rs i) c = 45 ∨ sgn (rowAt rs i) c = 46) (h : LayI rs n made left still) (hl : left.filter (fun k => !minB rs still k) ≠ []) :
    LayI rs n (made ++ [left.filter fun k => !minB rs still k]) (left.filter (minB rs still)) (still.filter fun i => !plusB rs (left.filter fun k => !minB rs still k) i) := by
  have nomin : ∀ i ∈ still, ∀ k ∈ left.filter (fun k => !minB rs still k), sgn (rowAt rs i) k ≠ 45 := fun i hi k hk z => by
    have h1 := (List.mem_filter.mp hk).2
    have : minB rs still k = true := List.any_eq_true.mpr ⟨i, hi, decide_eq_true z⟩
    rw [this] at h1; cases h1
  refine ⟨?_, fun l hm => ?_, (List.filter_sublist).trans h.sub, fun i hi l hm k hk => ?_, fun i hi hn => ?_, (List.filter_sublist).trans h.inc⟩
  · rw [List.flatten_append, List.append_assoc]
    refine (List.Perm.append_left _ ?_).trans h.perm
    simp only [List.flatten_cons, List.flatten_nil, List.append_nil]
    exact filter_split _ left
  · rcases List.mem_append.mp hm with hm | hm
    · exact h.ne l hm
    · rw [List.mem_singleton.mp hm]; exact hl
  · obtain ⟨hi, hp⟩ := List.mem_filter.mp hi
    rcases List.mem_append.mp hm with hm | hm
    · exact h.dots i hi l hm k hk
    · rw [List.mem_singleton.mp hm] at hk
      rcases hs i k with z | z | z
      · have : plusB rs (left.filter fun k => !minB rs still k) i = true := List.any_eq_true.mpr ⟨k, hk, decide_eq_true z⟩
        rw [this] at hp; cases hp
      · exact absurd z (nomin i hi k hk)
      · exact z
  · by_cases hi2 : i ∈ still
    · have hp : plusB rs (left.filter fun k => !minB rs still k) i = true := by
        cases q : plusB rs (left.filter fun k => !minB rs still k) i with
        | true => rfl
        | false => exact absurd (List.mem_filter.mpr ⟨hi2, by rw [q]; rfl⟩) hn
      obtain ⟨k, hk, z⟩ := List.any_eq_true.mp hp
      exact ⟨made, _, [], by simp, fun l hm k hk => h.dots i hi2 l hm k hk, nomin i hi2, k, hk, of_decide_eq_true z⟩
    · exact (h.done i hi hi2).more _
theorem lay_len {rs : List (List Nat)} {left still : List Nat} (hl : left.filter (fun k => !minB rs still k) ≠ []) : (left.filter (minB rs still)).length < left.length := by
  have := (filter_split (minB rs still) left).length_eq
  rw [List.length_append] at this
  have h2 : 0 < (left.filter fun k => !minB rs still k).length := List.length_pos_iff.mpr hl
  omega
theorem layI_0 (rs : List (List Nat)) (n : Nat) : LayI rs n [] (List.range n) (open0 rs) :=
  ⟨.refl _, fun l h => absurd h (by simp), List.Sublist.refl _, fun i _ l h => absurd h (by simp), fun i h h' => absurd h h', List.Sublist.refl _⟩
/-- how the making ends -/
theorem layF_end {rs : List (List Nat)} {n : Nat} (hs : ∀ i c, sgn (rowAt rs i) c = 43 ∨ sgn (rowAt rs i) c = 45 ∨ sgn (rowAt rs i) c = 46) : ∀ (f : Nat) (made : List (List Nat)) (left still : List Nat), LayI rs n made left still → left.length < f →
    (∃ ls, layF rs f made left still = (ls, []) ∧ LayI rs n ls [] []) ∨ (∃ ls lf st, layF rs f made left still = (ls, st) ∧ st ≠ [] ∧ LayI rs n ls lf st ∧ lf.filter (fun k => !minB rs st k) = [])
  | 0, _, _, _, _, h => absurd h (Nat.not_lt_zero _)
  | f + 1, made, left, still, h, hf => by
    unfold layF
    by_cases h1 : still = []
    · subst h1
      rw [if_pos rfl]
      refine .inl ⟨_, rfl, ?_⟩
      by_cases h2 : left = []
      · rw [if_pos h2]; subst h2; exact h
      · rw [if_neg h2]
        refine ⟨?_, fun l hm => ?_, h.sub, fun i hi => absurd hi (by simp), fun i hi hn => (h.done i hi hn).more _, List.nil_sublist _⟩
        · have := h.perm
          simpa using this
        · rcases List.mem_append.mp hm with hm | hm
          · exact h.ne l hm
          · rw [List.mem_singleton.mp hm]; exact h2
    · rw [if_neg h1]
      by_cases h2 : left.filter (fun k => !minB rs still k) = []
      · rw [if_pos h2]; exact .inr ⟨_, _, _, rfl, h1, h, h2⟩
      · rw [if_neg h2]
        exact layF_end hs f _ _ _ (h.next hs h2) (by have := lay_len h2; omega)
/-- a row along an order: dots, then a sign -/
theorem told_dots {l : List Nat} : ∀ {p : List Nat}, (∀ k ∈ p, sgn l k = 46) → told l p = []
  | [], _ => rfl
  | k :: p, h => by
    have ih := told_dots (l := l) (p := p) fun j hj => h j (List.mem_cons_of_mem _ hj)
    unfold told at ih ⊢
    rw [List.map_cons, List.filter_cons_of_neg (by rw [h k List.mem_cons_self]; decide)]
    exact ih
theorem told_app (l p q : List Nat) : told l (p ++ q) = told l p ++ told l q := by
  unfold told
  rw [List.map_append, List.filter_append]
theorem holds_lay {l : List Nat} : ∀ {q : List Nat}, (∀ k ∈ q, sgn l k = 43 ∨ sgn l k = 46) → (∃ k ∈ q, sgn l k = 43) → ∀ r, holdsB l (q ++ r) = true
  | [], _, h, _ => by obtain ⟨k, hk, _⟩ := h; cases hk
  | k :: q, h, h2, r => by
    rcases h k List.mem_cons_self with z | z
    · unfold holdsB told
      rw [List.cons_append, List.map_cons, List.filter_cons_of_pos (by rw [z]; decide), z]; rfl
    · have : told l (k :: q ++ r) = told l (q ++ r) := by
        unfold told
        rw [List.cons_append, List.map_cons, List.filter_cons_of_neg (by rw [z]; decide)]
      unfold holdsB
      rw [this]
      obtain ⟨j, hj, zj⟩ := h2
      rcases List.mem_cons.mp hj with rfl | hj
      · rw [z] at zj; cases zj
      · exact holds_lay (fun x hx => h x (List.mem_cons_of_mem _ hx)) ⟨j, hj, zj⟩ r
theorem holds_pre {l p q : List Nat} (h : ∀ k ∈ p, sgn l k = 46) : holdsB l (p ++ q) = holdsB l q := by
  unfold holdsB
  rw [told_app, told_dots h]; rfl
theorem holds_dots {l p : List Nat} (h : ∀ k ∈ p, sgn l k = 46) : holdsB l p = true := by
  unfold holdsB
  rw [told_dots h]
/-- layers each in some order -/
def walked (g : List Nat → List Nat) (ls : List (List Nat)) : List Nat := (ls.map g).flatten
theorem walked_perm {g : List Nat → List Nat} (hg : ∀ l, (g l).Perm l) : ∀ ls : List (List Nat), (walked g ls).Perm ls.flatten
  | [] => .refl _
  | l :: ls => by
    show (g l ++ walked g ls).Perm (l ++ ls.flatten)
    exact (hg l).append (walked_perm hg ls)
theorem settled_holds {rs : List (List Nat)} {ls : List (List Nat)} {i : Nat} (hs : ∀ i c, sgn (rowAt rs i) c = 43 ∨ sgn (rowAt rs i) c = 45 ∨ sgn (rowAt rs i) c = 46) {g : List Nat → List Nat} (hg : ∀ l, (g l).Perm l) (h : Settled rs ls i) : holdsB (rowAt rs i) (walked g ls) = true := by
  obtain ⟨pre, lay, post, rfl, h1, h2, k, hk, hk2⟩ := h
  have e : walked g (pre ++ lay :: post) = walked g pre ++ (g lay ++ walked g post) := by
    unfold walked
    simp
  rw [e, holds_pre fun k hk => ?_]
  · refine holds_lay (fun j hj => ?_) ⟨k, (hg lay).mem_iff.mpr hk, hk2⟩ _
    rcases hs i j with z | z | z
    · exact .inl z
    · exact absurd z (h2 j ((hg lay).mem_iff.mp hj))
    · exact .inr z
  · have hm := (walked_perm hg pre).mem_iff.mp hk
    obtain ⟨l, hl, hk⟩ := List.mem_flatten.mp hm
    exact h1 l hl k hk
theorem closed_dots {rs : List (List Nat)} {i : Nat} (hi : i < rs.length) (h : i ∉ open0 rs) (k : Nat) : sgn (rowAt rs i) k = 46 := by
  have hn : openB rs i = false := by
    cases q : openB rs i with
    | false => rfl
    | true => exact absurd (List.mem_filter.mpr ⟨List.mem_range.mpr hi, q⟩) h
  unfold openB at hn
  unfold sgn
  rw [List.getD_eq_getElem?_getD]
  cases q : (rowAt rs i)[k]? with
  | none => rfl
  | some c =>
    have := (List.any_eq_false.mp hn) c (List.mem_of_getElem? q)
    simpa using this
/-- where the layers end well, each order through them fits -/
theorem lay_fits {rs : List (List Nat)} {n : Nat} {ls : List (List Nat)} (hs : ∀ i c, sgn (rowAt rs i) c = 43 ∨ sgn (rowAt rs i) c = 45 ∨ sgn (rowAt rs i) c = 46) (h : LayI rs n ls [] []) {g : List Nat → List Nat} (hg : ∀ l, (g l).Perm l) :
    (walked g ls).Perm (List.range n) ∧ ∀ i, i < rs.length → holdsB (rowAt rs i) (walked g ls) = true := by
  refine ⟨(walked_perm hg ls).trans (by have := h.perm; simpa using this), fun i hi => ?_⟩
  by_cases ho : i ∈ open0 rs
  · exact settled_holds hs hg (h.done i ho (by simp))
  · exact holds_dots fun k _ => closed_dots hi ho k
/-- where they end badly, no order fits -/
theorem lay_stuck' {rs : List (List Nat)} {n : Nat} {ls : List (List Nat)} {lf st : List Nat} (h : LayI rs n ls lf st) (hne : st ≠ []) (hl : lf.filter (fun k => !minB rs st k) = []) (hr : ∀ i, i < rs.length → (rowAt rs i).length ≤ n) (o : List Nat) (ho : o.Perm (List.range n)) : ∃ i ∈ st, holdsB (rowAt rs i) o = false := by
  have bar : ∀ k ∈ lf, ∃ i ∈ st, sgn (rowAt rs i) k = 45 := fun k hk => by
    have : minB rs st k = true := by
      cases q : minB rs st k with
      | true => rfl
      | false =>
        have hm : k ∈ lf.filter (fun k => !minB rs st k) := List.mem_filter.mpr ⟨hk, by rw [q]; rfl⟩
        rw [hl] at hm; cases hm
    obtain ⟨i, hi, z⟩ := List.any_eq_true.mp this
    exact ⟨i, hi, of_decide_eq_true z⟩
  have inn : ∀ i ∈ st, i < rs.length := fun i hi => List.mem_range.mp (List.mem_filter.mp (h.sub.subset hi)).1
  have pl : ∀ k < n, k ∉ lf → ∀ i ∈ st, sgn (rowAt rs i) k = 46 := fun k hk hn i hi => by
    have : k ∈ ls.flatten ++ lf := h.perm.mem_iff.mpr (List.mem_range.mpr hk)
    rcases List.mem_append.mp this with hm | hm
    · obtain ⟨l, hl, hk⟩ := List.mem_flatten.mp hm
      exact h.dots i hi l hl k hk
    · exact absurd hm hn
  have hlf : ∃ k ∈ lf, k < n := by
    obtain ⟨i, hi⟩ := List.exists_mem_of_ne_nil st hne
    have ho := (List.mem_filter.mp (h.sub.subset hi)).2
    obtain ⟨c, hc, z⟩ := List.any_eq_true.mp ho
    obtain ⟨k, hk, e⟩ := List.mem_iff_getElem.mp hc
    have hkn : k < n := Nat.lt_of_lt_of_le hk (hr i (inn i hi))
    by_cases hk2 : k ∈ lf
    · exact ⟨k, hk2, hkn⟩
    · have := pl k hkn hk2 i hi
      unfold sgn at this
      rw [List.getD_eq_getElem?_getD, List.getElem?_eq_getElem hk] at this
      have this : (rowAt rs i)[k] = 46 := this
      rw [e] at this
      rw [this] at z; cases z
  obtain ⟨k0, hk0, hk0n⟩ := hlf
  -- the first of the order that is in no layer
  have first : ∀ o : List Nat, (∃ k ∈ o, k ∈ lf) → ∃ p k q, o = p ++ k :: q ∧ k ∈ lf ∧ ∀ j ∈ p, j ∉ lf := fun o => by
    induction o with
    | nil => rintro ⟨k, hk, _⟩; cases hk
    | cons a o ih =>
      intro hx
      by_cases ha : a ∈ lf
      · exact ⟨[], a, o, rfl, ha, fun j hj => absurd hj (by simp)⟩
      · obtain ⟨k, hk, hk2⟩ := hx
        rcases List.mem_cons.mp hk with rfl | hk
        · exact absurd hk2 ha
        · obtain ⟨p, j, q, e, h1, h2⟩ := ih ⟨k, hk, hk2⟩
          refine ⟨a :: p, j, q, by rw [e]; rfl, h1, fun x hx => ?_⟩
          rcases List.mem_cons.mp hx with rfl | hx
          · exact ha
          · exact h2 x hx
  obtain ⟨p, k, q, e, h1, h2⟩ := first o ⟨k0, ho.mem_iff.mpr (List.mem_range.mpr hk0n), hk0⟩
  obtain ⟨i, hi, z⟩ := bar k h1
  refine ⟨i, hi, ?_⟩
  rw [e, holds_pre fun j hj => pl j (List.mem_range.mp (ho.mem_iff.mp (by rw [e]; exact List.mem_append_left _ hj))) (h2 j hj) i hi]
  unfold holdsB told
  rw [List.map_cons, List.filter_cons_of_pos (by rw [z]; decide), z]; rfl
/-! all orders -/
theorem all_rows {rs : List (List Nat)} {p : List Nat → Prop} : (∀ r ∈ rs, p r) ↔ ∀ i, i < rs.length → p (rowAt rs i) := by
  constructor
  · intro h i hi
    unfold rowAt
    rw [List.getD_eq_getElem?_getD, List.getElem?_eq_getElem hi]
    exact h _ (List.getElem_mem hi)
  · intro h r hr
    obtain ⟨i, hi, rfl⟩ := List.mem_iff_getElem.mp hr
    have := h i hi
    unfold rowAt at this
    rw [List.getD_eq_getElem?_getD, List.getElem?_eq_getElem hi] at this
    exact this
end K27

namespace K27
open PySem PySem.Spec PyProof.Rows L2 Dw
variable [Tabs0]
theorem np_to {o : List Nat} {r : List D} (h : noPs r = true) : noPs (.tup (ordD o) :: r) = true := by show (noPs (ordD o) && noPs r) = true; rw [np_ord, h]; rfl
theorem np_lo {o : List Nat} {r : List D} (h : noPs r = true) : noPs (.lst (ordD o) :: r) = true := by show (noPs (ordD o) && noPs r) = true; rw [np_ord, h]; rfl
theorem np_tn {o : List (List Nat)} {r : List D} (h : noPs r = true) : noPs (.tup (nameD o) :: r) = true := by show (noPs (nameD o) && noPs r) = true; rw [np_name, h]; rfl
theorem np_ln {o : List (List Nat)} {r : List D} (h : noPs r = true) : noPs (.lst (nameD o) :: r) = true := by show (noPs (nameD o) && noPs r) = true; rw [np_name, h]; rfl
theorem rowAt_at {rs : List (List Nat)} {i : Nat} (h : i < rs.length) : atI (nameD rs) (i : Int) = some (.str (tx (rowAt rs i))) := by
  refine atI_nat ?_
  unfold nameD rowAt
  rw [List.getElem?_map, List.getElem?_eq_getElem h, List.getD_eq_getElem?_getD, List.getElem?_eq_getElem h]; rfl
theorem rowAt_ok {rs : List (List Nat)} {n i : Nat} (h : ∀ r ∈ rs, RowOk r n) (hi : i < rs.length) : RowOk (rowAt rs i) n := by
  unfold rowAt
  rw [List.getD_eq_getElem?_getD, List.getElem?_eq_getElem hi]
  exact h _ (List.getElem_mem hi)
/-- the plain texts of a row -/
theorem ev_inC {K : PySem.W.Frag} {ta t : TE} {Γ : Gam} {r' : R2} {c : Nat} {l : List Nat} (ha : Ev ta Γ (.str (ch c))) (h : EvB t Γ (chD l)) : Ev (tOp (rOr (rIn K false) r') ta t) Γ (.bl (decide (c ∈ l))) := by
  have e := ev_in (neg := false) (K := K) (r' := r') ha h rfl (sc_ch l)
  rw [show (if false = true then !inV (scV (.str (ch c))) ((chD l).map scV) else inV (scV (.str (ch c))) ((chD l).map scV)) = decide (c ∈ l) from inV_ch c l] at e
  exact e
theorem sgn_ev {K : PySem.W.Frag} {ta tb : TE} {Γ : Gam} {l : List Nat} {n k : Nat} (h : RowOk l n) (h8 : n ≤ 8) (hk : k < n) (ha : Ev ta Γ (.str (tx l))) (hb : Ev tb Γ (.int k)) : Ev (tOp (rIx K) ta tb) Γ (.str (ch (sgn l k))) := ev_op ha hb (dr2_ixS (h.sz h8) (sgn_at h.len hk))
theorem mem_mapB {l : List Nat} {f : Nat → Nat} {c : Nat} : decide (c ∈ l.map f) = l.any fun k => decide (f k = c) := by
  rw [Bool.eq_iff_iff, decide_eq_true_eq, List.mem_map, List.any_eq_true]
  simp only [decide_eq_true_eq]
theorem ok_ordT1 (l : List Nat) : dOk 1 (.tup (ordD l)) = true := dOks_map fun _ _ => rfl
def spRowHolds : Spc where
  ty := List Nat × List Nat
  args := fun x => [.str (tx x.1), .tup (ordD x.2)]
  ok := fun x => ∃ n, RowOk x.1 n ∧ n ≤ 8 ∧ ∀ k ∈ x.2, k < n
  rel := fun x d => d = .bl (holdsB x.1 x.2)
theorem holds_at {l o : List Nat} {i k : Nat} (q : o[i]? = some k) (h : ∀ j ∈ o.take i, sgn l j = 46) (hk : sgn l k ≠ 46) : holdsB l o = decide (sgn l k = 43) := by
  obtain ⟨hi, e⟩ := List.getElem?_eq_some_iff.mp q
  have e1 : o = o.take i ++ k :: o.drop (i + 1) := by
    rw [← e, List.getElem_cons_drop, List.take_append_drop]
  have e2 : holdsB l o = holdsB l (o.take i ++ k :: o.drop (i + 1)) := by rw [← e1]
  rw [e2, holds_pre h]
  unfold holdsB told
  rw [List.map_cons, List.filter_cons_of_pos (by simp [hk])]
def spHasSign : Spc where
  ty := List Nat × List Nat × Nat
  args := fun x => [.str (tx x.1), .lst (ordD x.2.1), .str (ch x.2.2)]
  ok := fun x => ∃ n, RowOk x.1 n ∧ n ≤ 8 ∧ x.2.1.length ≤ 8 ∧ ∀ k ∈ x.2.1, k < n
  rel := fun x d => d = .bl (x.2.1.any fun k => decide (sgn x.1 k = x.2.2))
def rowsD (b : Bool) (rs : List (List Nat)) : D := if b = true then .lst (nameD rs) else .tup (nameD rs)
def spSplit : Spc where
  ty := List (List Nat) × Nat × Bool
  args := fun x => [rowsD x.2.2 x.1, .int x.2.1]
  ok := fun x => (∀ r ∈ x.1, RowOk r x.2.1) ∧ x.2.1 ≤ 8 ∧ x.1.length ≤ 1000
  rel := fun x d => d = .tup [.lst (ordT (splitM x.1 x.2.1).1), .lst (ordD (splitM x.1 x.2.1).2)]
theorem np_rd {b : Bool} {o : List (List Nat)} {r : List D} (h : noPs r = true) : noPs (rowsD b o :: r) = true := by
  cases b with
  | true => exact np_ln h
  | false => exact np_tn h
theorem ev_rowsD {K : PySem.W.Frag} {ta tb : TE} {Γ : Gam} {b : Bool} {rs : List (List Nat)} {i : Nat} (hi : i < rs.length) (ha : Ev ta Γ (rowsD b rs)) (hb : Ev tb Γ (.int i)) : Ev (tOp (rIx K) ta tb) Γ (.str (tx (rowAt rs i))) := by
  cases b with
  | true => exact ev_ix (Ev.b (ds := nameD rs) ha) hb (rowAt_at hi)
  | false => exact ev_ixT (ds := nameD rs) ha hb (rowAt_at hi)
theorem ei_rowsD {K : PySem.W.Frag} {ta : TE} {Γ : Gam} {b : Bool} {rs : List (List Nat)} (ha : Ev ta Γ (rowsD b rs)) : Ei (fun σ H R => iEnum K (tCons ta tNil) σ H R ∨ iEnumT K (tCons ta tNil) σ H R) Γ (enumD (nameD rs)) := by
  cases b with
  | true => exact ei_enumL (Ev.b (ds := nameD rs) ha)
  | false => exact ei_enumT ha
theorem enum_rows (rs : List (List Nat)) : enumD (nameD rs) = (List.range rs.length).map fun (i : Nat) => D.tup [.int i, .str (tx (rowAt rs i))] := by
  apply List.ext_getElem?
  intro i
  by_cases hi : i < rs.length
  · obtain ⟨x, hx⟩ : ∃ x, (enumD (nameD rs))[i]? = some x := ⟨_, List.getElem?_eq_getElem (by rw [enumD_length, nameD_len]; exact hi)⟩
    obtain ⟨y, hy, rfl⟩ := enumD_get hx
    rw [hx, List.getElem?_map, List.getElem?_range hi]
    have hy' : (rs.map fun l => D.str (tx l))[i]? = some y := hy
    rw [List.getElem?_map, List.getElem?_eq_getElem hi] at hy'
    cases hy'
    show _ = some (D.tup [.int i, .str (tx (rowAt rs i))])
    unfold rowAt
    rw [List.getD_eq_getElem?_getD, List.getElem?_eq_getElem hi]; rfl
  · rw [List.getElem?_eq_none (by rw [enumD_length, nameD_len]; omega), List.getElem?_eq_none (by simpa using hi)]
theorem open_of {rs : List (List Nat)} {n i : Nat} (h : RowOk (rowAt rs i) n) : (decide (43 ∈ rowAt rs i) || decide (45 ∈ rowAt rs i)) = openB rs i := by
  unfold openB
  rw [Bool.eq_iff_iff, Bool.or_eq_true, decide_eq_true_eq, decide_eq_true_eq, List.any_eq_true]
  constructor
  · rintro (h | h)
    · exact ⟨_, h, rfl⟩
    · exact ⟨_, h, rfl⟩
  · rintro ⟨c, hc, hn⟩
    rcases h.all c hc with rfl | rfl | rfl
    · exact .inl hc
    · exact .inr hc
    · exact absurd hn (by decide)
theorem nin_filter {p : Nat → Bool} (l : List Nat) : (l.filter fun k => !decide (k ∈ l.filter p)) = l.filter fun k => !p k := by
  refine List.filter_congr fun k hk => ?_
  congr 1
  rw [Bool.eq_iff_iff, decide_eq_true_eq, List.mem_filter]
  exact ⟨fun h => h.2, fun h => ⟨hk, h⟩⟩
theorem isEmpty_ord (l : List Nat) : (ordD l).isEmpty = decide (l = []) := by cases l <;> rfl
theorem ordT_snoc (ms : List (List Nat)) (l : List Nat) : ordT ms ++ [D.tup (ordD l)] = ordT (ms ++ [l]) := by unfold ordT; rw [List.map_append]; rfl
end K27

namespace K27
open PySem PySem.Spec PyProof.Rows L2 Dw
variable [Tabs0]
theorem d_has_sign {P : Program} {w : World} {K : PySem.W.Frag} {mg : Str → Option Value} {base : Heap} (T : Txt K w mg) : FnOk P w K mg base CX0 1 T.f_has_sign T.e_has_sign ["row", "rules", "sign"] (toSp (spHasSign)) := by
  refine fn_ok T.F_has_sign sc_has_sign (fun _ => rfl) fun cdv A outer s' H E hr => ?_
  refine ⟨_, (pss_one (ps_ret (pe_cmpR (inA K) (pv 2) (pe_lc (own := [("rule", 3)]) rfl sc_has_sign.nd (piR K (pv 1)) (blkOk_by (own := [("rule", 3)]) (N := N_has_sign) (sc := (defScope s_has_sign)) (by decide +kernel)) (fun _ _ _ _ _ => pg_name (i := 3) sc_has_sign.nd rfl (Or.inl rfl)) (fun _ _ _ _ _ => pts_nil) (fun _ _ _ _ _ => (pe_ix (ixA K) (pv 0) (pv 3) (fun _ _ => rfl)))) (by rfl)))), fun x hx => ?_⟩
  obtain ⟨l, o, c⟩ := x
  obtain ⟨n, hl, h8, hz, hk⟩ := hx
  have hl : RowOk l n := hl
  have hz : o.length ≤ 8 := hz
  have hk : ∀ k ∈ o, k < n := hk
  refine ds_ret (Ev.dl (ev_cast (congrArg D.bl mem_mapB) (ev_inC (l := o.map (sgn l)) (ev_var rfl) (EvN.b ?_))) rfl)
  have e : chD (o.map (sgn l)) = o.map fun k => D.str (ch (sgn l k)) := by unfold chD; rw [List.map_map]; rfl
  rw [e]
  exact evn_lc1 (xs := o) (c := fun k : Nat => D.int k) (ej_list (ev_var (d := .lst (ordD o)) rfl).b) (by omega) fun k hk' => ⟨[3], _, dg_name, fun i hi => hi, evt_yes, sgn_ev hl h8 (hk k hk') (ev_var rfl) (ev_var rfl)⟩
end K27

namespace K27
open PySem PySem.Spec PyProof.Rows L2 Dw
variable [Tabs0]
theorem lay_step {rs : List (List Nat)} {f : Nat} {made : List (List Nat)} {left still : List Nat} (h1 : still ≠ []) : layF rs (f + 1) made left still = if left.filter (fun k => !minB rs still k) = [] then (made, still) else layF rs f (made ++ [left.filter fun k => !minB rs still k]) (left.filter (minB rs still)) (still.filter fun i => !plusB rs (left.filter fun k => !minB rs still k) i) := by
  show (if still = [] then _ else _) = _
  rw [if_neg h1]
theorem lay_done {rs : List (List Nat)} {f : Nat} {made : List (List Nat)} {left : List Nat} : layF rs (f + 1) made left [] = (if left = [] then made else made ++ [left], []) := by
  show (if _ then _ else _) = _
  rw [if_pos rfl]
/-- what stays so while layers are made -/
structure Mk (rs : List (List Nat)) (n m : Nat) (made : List (List Nat)) (left still : List Nat) : Prop where
  eq : layF rs m made left still = splitM rs n
  lt : left.length < m
  few : made.length + left.length ≤ n
  ltn : ∀ k ∈ left, k < n
  ltr : ∀ i ∈ still, i < rs.length
  fst : still.length ≤ rs.length
  flat : made.flatten.length + left.length ≤ n
theorem mk_0 (rs : List (List Nat)) (n : Nat) : Mk rs n (n + 1) [] (List.range n) (open0 rs) := ⟨rfl, by rw [List.length_range]; omega, by rw [List.length_range]; exact Nat.le_of_eq (Nat.zero_add n), fun k h => List.mem_range.mp h, fun i h => List.mem_range.mp (List.mem_filter.mp h).1, by
  have := List.length_filter_le (openB rs) (List.range rs.length)
  rw [List.length_range] at this; exact this, by rw [List.length_range]; exact Nat.le_of_eq (Nat.zero_add n)⟩
theorem Mk.next {rs n m made left still} (h : Mk rs n (m + 1) made left still) (h1 : still ≠ []) (h2 : left.filter (fun k => !minB rs still k) ≠ []) : Mk rs n m (made ++ [left.filter fun k => !minB rs still k]) (left.filter (minB rs still)) (still.filter fun i => !plusB rs (left.filter fun k => !minB rs still k) i) := by
  have l := lay_len h2
  have e := h.eq
  rw [lay_step h1, if_neg h2] at e
  refine ⟨e, by have := h.lt; omega, ?_, fun k hk => h.ltn k (List.mem_filter.mp hk).1, fun i hi => h.ltr i (List.mem_filter.mp hi).1, Nat.le_trans (List.length_filter_le _ _) h.fst, ?_⟩
  · have := h.few
    rw [List.length_append]
    show made.length + 1 + _ ≤ n
    omega
  · have := h.flat
    have e2 := (filter_split (minB rs still) left).length_eq
    rw [List.length_append] at e2
    rw [List.flatten_append, List.length_append]
    simp only [List.flatten_cons, List.flatten_nil, List.append_nil]
    omega
def layOut (rs : List (List Nat)) (n : Nat) : D := .tup [.lst (ordT (splitM rs n).1), .lst (ordD (splitM rs n).2)]
theorem minB_any {rs : List (List Nat)} {still : List Nat} {k : Nat} : decide (45 ∈ still.map fun i => sgn (rowAt rs i) k) = minB rs still k := mem_mapB
theorem BookOk.n8 {ls rs} (h : BookOk ls rs) : ls.length ≤ 8 := h.names.hi
end K27

namespace K27
open PySem PySem.Spec PyProof.Rows L2 Dw
variable [Tabs0]
theorem d_split {P : Program} {w : World} {K : PySem.W.Frag} {mg : Str → Option Value} {base : Heap} (T : Txt K w mg) : FnOk P w K mg base CX0 2 T.f_split T.e_split ["rows", "many"] (toSp (spSplit)) := by
  refine fn_ok T.F_split sc_split (fun _ => rfl) fun cdv A outer s' H E hr => ?_
  refine ⟨_, (pss_cons (ps_set (i := 2) sc_split.nd rfl (Or.inl rfl) (pe_lst pa_nil)) (pss_cons (ps_set (i := 3) sc_split.nd rfl (Or.inl rfl) (pe_listRg rfl (by rfl) T.n_list (prg_1 (by rfl) T.n_range (pv 1)))) (pss_cons (ps_set (i := 4) sc_split.nd rfl (Or.inr rfl) (pe_lc (own := [("index", 7), ("row", 8)]) rfl sc_split.nd (enumTA K (by rfl) T.n_enumerate (pa_cons (pv 0) pa_nil)) (blkOk_by (own := [("index", 7), ("row", 8)]) (N := N_split) (sc := (defScope s_split)) (by decide +kernel)) (fun _ _ _ _ _ => tupA K 2 rfl (pgs_cons (pg_name (i := 7) sc_split.nd rfl (Or.inl rfl)) (pgs_cons (pg_name (i := 8) sc_split.nd rfl (Or.inl rfl)) pgs_nil))) (fun _ _ _ _ _ => pts_one (PW.pt (pw_or (pt_cmpR (inA K) pe_str (pv 8) (by rfl)) (pw_or1 (pt_cmpR (inA K) pe_str (pv 8) (by rfl)))))) (fun _ _ _ _ _ => (pv 7)))) (pss_cons (ps_while PassesOwn.never (truA K (pv 4)) (pss_cons (ps_set (i := 5) sc_split.nd rfl (Or.inr rfl) (pe_lc (own := [("rule", 9)]) rfl sc_split.nd (piR K (pv 3)) (blkOk_by (own := [("rule", 9)]) (N := N_split) (sc := (defScope s_split)) (by decide +kernel)) (fun _ _ _ _ _ => pg_name (i := 9) sc_split.nd rfl (Or.inr rfl)) (fun _ _ _ _ _ => pts_one (pt_cmpR (inA K) pe_str (pe_lc (own := [("index", 7)]) rfl sc_split.nd (piR K (pv 4)) (blkOk_by (own := [("index", 7)]) (N := N_split) (sc := (relS { kind := .function, names := [(".0", .local), ("rule", .cell), ("rows", .free), ("still", .free)], isGenerator := false, isCoroutine := false, more := [] } (defScope s_split))) (by decide +kernel)) (fun _ _ _ _ _ => pg_name (i := 7) sc_split.nd rfl (Or.inl rfl)) (fun _ _ _ _ _ => pts_nil) (fun _ _ _ _ _ => (pe_ix (ixA K) (pe_ix (ixA K) (pv 0) (pv 7) (fun _ _ => rfl)) (pv 9) (fun _ _ => rfl)))) (by rfl))) (fun _ _ _ _ _ => (pv 9)))) (pss_cons (ps_set (i := 6) sc_split.nd rfl (Or.inr rfl) (pe_lc (own := [("rule", 9)]) rfl sc_split.nd (piR K (pv 3)) (blkOk_by (own := [("rule", 9)]) (N := N_split) (sc := (defScope s_split)) (by decide +kernel)) (fun _ _ _ _ _ => pg_name (i := 9) sc_split.nd rfl (Or.inl rfl)) (fun _ _ _ _ _ => pts_one (pt_cmpR (ninA K) (pv 9) (pv 5) (by rfl))) (fun _ _ _ _ _ => (pv 9)))) (pss_cons (ps_if (pt_not (truA K (pv 6))) (pss_one (ps_ret (pe_tup (pa_cons (pv 2) (pa_cons (pv 4) pa_nil))))) pss_nil) (pss_cons (ps_expr (bmA K PySem.F.plainAttrs_list PySem.F.slot_list_append PySem.F.type_list_append mt_append (pv 2) (pa_cons (pe_callTy (tupleA K) (by rfl) T.n_tuple (by decide +kernel) (pa_cons (pv 6) pa_nil)) pa_nil))) (pss_cons (ps_set (i := 3) sc_split.nd rfl (Or.inl rfl) (pv 5)) (pss_one (ps_set (i := 4) sc_split.nd rfl (Or.inr rfl) (pe_lc (own := [("index", 7)]) rfl sc_split.nd (piR K (pv 4)) (blkOk_by (own := [("index", 7)]) (N := N_split) (sc := (defScope s_split)) (by decide +kernel)) (fun _ _ _ _ _ => pg_name (i := 7) sc_split.nd rfl (Or.inl rfl)) (fun _ _ _ _ _ => pts_one (pt_not (truA K (pe_call (d_has_sign T) (hr.mono (by decide)) (by rfl) T.m_has_sign T.F_has_sign.kp T.b_has_sign .nil pass0 (pa_cons (pe_ix (ixA K) (pv 0) (pv 7) (fun _ _ => rfl)) (pa_cons (pv 6) (pa_cons pe_str pa_nil))))))) (fun _ _ _ _ _ => (pv 7))))))))))) (pss_cons (ps_if (truA K (pv 3)) (pss_one (ps_expr (bmA K PySem.F.plainAttrs_list PySem.F.slot_list_append PySem.F.type_list_append mt_append (pv 2) (pa_cons (pe_callTy (tupleA K) (by rfl) T.n_tuple (by decide +kernel) (pa_cons (pv 3) pa_nil)) pa_nil)))) pss_nil) (pss_one (ps_ret (pe_tup (pa_cons (pv 2) (pa_cons (pv 4) pa_nil)))))))))), fun x hx => ?_⟩
  obtain ⟨rs, n, b⟩ := x
  obtain ⟨hr', h8, hz⟩ := hx
  have hr' : ∀ r ∈ rs, RowOk r n := hr'
  have h8 : n ≤ 8 := h8
  have hz : rs.length ≤ 1000 := hz
  have hat : ∀ i, i < rs.length → RowOk (rowAt rs i) n := fun i hi => rowAt_ok hr' hi
  refine ds_seq (ds_asg_own (evn_lst eva_nil (Nat.zero_le _)) ?_)
  refine ds_seq (ds_asg (Ev.dl (EvN.ev (evn_listRg (n := n) (ev_var rfl) (by omega))) ?_))
  refine ds_seq (ds_asg (Ev.dl (ev_cast (d' := .lst (ordD (open0 rs))) rfl (EvN.ev (evn_lc (xs := List.range rs.length) (c := fun (i : Nat) => D.tup [.int i, .str (tx (rowAt rs i))]) (p := openB rs) (f := fun (i : Nat) => D.int i) ?it (by rw [List.length_range]; omega) fun i hi => ⟨[7] ++ [8], _, dg_tup2 dg_name dg_name, fun i hi => hi, ?tst, fun _ => ev_var rfl⟩))) ?_))
  case it =>
    rw [← enum_rows]
    exact ei_rowsD (ev_var rfl)
  case tst =>
    rw [← open_of (hat i (List.mem_range.mp hi))]
    have e1 := in_code (K := K) (l := rowAt rs i) (c := 43)
    have e2 := in_code (K := K) (l := rowAt rs i) (c := 45)
    rw [← ch_plus] at e1
    rw [← ch_minus] at e2
    exact evt_or (evt_test (ev_op ev_str (ev_var rfl) e1)) fun _ => evt_test (ev_op ev_str (ev_var rfl) e2)
  refine ds_seq (ds_while (fun m Γ' => ∃ (made : List (List Nat)) (left still : List Nat) (s5 s6 s7 s8 s9 : Sl), Γ' = [.val (rowsD b rs), .val (.int n), .own (ordT made), .val (.lst (ordD left)), .val (.lst (ordD still)), s5, s6, s7, s8, s9] ∧ Mk rs n m made left still)
    (n + 1) ⟨[], List.range n, open0 rs, _, _, _, _, _, rfl, mk_0 rs n⟩ fun m Γ' ⟨made, left, still, s5, s6, s7, s8, s9, e, mk⟩ => ?_)
  subst e
  obtain ⟨f, rfl⟩ : ∃ f, m = f + 1 := ⟨m - 1, by have := mk.lt; omega⟩
  refine EvT.dl (evt_tru_lst (ev_var (d := .lst (ordD still)) rfl).b) ⟨fun h => ?_, fun h => ?_⟩
  · have h1 : still ≠ [] := fun z => by rw [z] at h; cases h
    have l8 : left.length ≤ 8 := by have := mk.few; omega
    refine ds_seq (ds_asg (Ev.dl (ev_cast (d' := .lst (ordD (left.filter (minB rs still)))) rfl (EvN.ev (evn_lc (xs := left) (c := fun k : Nat => D.int k) (p := minB rs still) (f := fun k : Nat => D.int k) (ej_list (ev_var (d := .lst (ordD left)) rfl).b) (by omega) fun k hk => ⟨[9], _, dg_name, fun i hi => hi, ?bt, fun _ => ev_var rfl⟩))) ?_))
    case bt =>
      rw [← minB_any]
      refine evt_test (ev_inC (l := still.map fun i => sgn (rowAt rs i) k) (ev_cast (congrArg D.str ch_minus) ev_str) (EvN.b ?_))
      have e : chD (still.map fun i => sgn (rowAt rs i) k) = still.map fun i => D.str (ch (sgn (rowAt rs i) k)) := by unfold chD; rw [List.map_map]; rfl
      rw [e]
      exact evn_lc1 (xs := still) (c := fun i : Nat => D.int i) (ej_list (ev_var (d := .lst (ordD still)) rfl).b) (by have := mk.fst; omega) fun i hi => ⟨[7], _, dg_name, fun i hi => hi, evt_yes, sgn_ev (hat i (mk.ltr i hi)) h8 (mk.ltn k hk) (ev_rowsD (mk.ltr i hi) (ev_var (d := rowsD b rs) rfl) (ev_var rfl)) (ev_var rfl)⟩
    refine ds_seq (ds_asg (Ev.dl (ev_cast (d' := .lst (ordD (left.filter fun k => !minB rs still k))) ?c1 (EvN.ev (evn_lc (xs := left) (c := fun k : Nat => D.int k) (p := fun k => !decide (k ∈ left.filter (minB rs still))) (f := fun k : Nat => D.int k) (ej_list (ev_var (d := .lst (ordD left)) rfl).b) (by omega) fun k hk => ⟨[9], _, dg_name, fun i hi => hi, evt_test (ev_inO (neg := true) (l := left.filter (minB rs still)) (ev_var rfl) (ev_var (d := .lst (ordD (left.filter (minB rs still)))) rfl).b), fun _ => ev_var rfl⟩))) ?_))
    case c1 => rw [nin_filter]; rfl
    refine ds_seq (ds_if (EvT.dl (evt_not (evt_tru_lst (ev_var (d := .lst (ordD (left.filter fun k => !minB rs still k))) rfl).b)) ⟨fun h2 => ?_, fun h2 => ds_next ?_⟩))
    · rw [isEmpty_ord, Bool.not_not] at h2
      have h2 := of_decide_eq_true h2
      have e := mk.eq
      rw [lay_step h1, if_pos h2] at e
      refine ds_freeze 2 rfl (ds_ret (Ev.dl (ev_tup (eva_cons (ev_var (d := .lst (ordT made)) rfl) (eva_cons (ev_var (d := .lst (ordD still)) rfl) eva_nil)) (small (show 2 ≤ 100000 by decide))) ?_))
      show D.tup [.lst (ordT made), .lst (ordD still)] = layOut rs n
      unfold layOut
      rw [← e]
    · rw [isEmpty_ord, Bool.not_not] at h2
      have h2 := of_decide_eq_false h2
      have mk2 := mk.next h1 h2
      refine ds_seq (ds_drop (dl_append ⟨_, rfl⟩ (dla_cons (Ev.dl (ev_tuple (ev_var (d := .lst (ordD (left.filter fun k => !minB rs still k))) rfl).b) (dla_nil ⟨_, ordT made, rfl, rfl, ?_, ?_⟩)))))
      · rw [ordT_len]; have := mk.few; exact Nat.lt_of_le_of_lt (by omega : made.length ≤ 8) (by decide)
      · rw [ordT_snoc]
        refine ds_seq (ds_asg (Ev.dl (ev_var (d := .lst (ordD (left.filter (minB rs still)))) rfl) ?_))
        refine ds_asg (Ev.dl (EvN.ev (evn_lc (xs := still) (c := fun k : Nat => D.int k) (p := fun i => !plusB rs (left.filter fun k => !minB rs still k) i) (f := fun k : Nat => D.int k) (ej_list (ev_var (d := .lst (ordD still)) rfl).b) (by have := mk.fst; omega) fun i hi => ⟨[7], _, dg_name, fun i hi => hi, evt_not (evt_tru_bl (ev_call (s := spHasSign) (x := (rowAt rs i, left.filter fun k => !minB rs still k, 43)) (eva_cons (ev_rowsD (mk.ltr i hi) (ev_var (d := rowsD b rs) rfl) (ev_var rfl)) (eva_cons (ev_var rfl) (eva_cons (ev_cast (congrArg D.str ch_plus) ev_str) eva_nil))) (np_lo (r := [_]) rfl) ⟨n, hat i (mk.ltr i hi), h8, Nat.le_trans (List.length_filter_le _ _) l8, fun k hk => mk.ltn k (List.mem_filter.mp hk).1⟩ fun d h => h)), fun _ => ev_var rfl⟩)) ?_)
        exact ⟨f, Nat.lt_succ_self f, _, _, _, _, _, _, _, _, rfl, mk2⟩
  · have h1 : still = [] := by
      rw [isEmpty_ord] at h
      simpa using h
    subst h1
    have e := mk.eq
    rw [lay_done] at e
    have fin : ∀ (ms : List (List Nat)) (s3 s4' : Sl), ms = (splitM rs n).1 → Ds (tRet (tTup (tCons (tVar 2) (tCons (tVar 4) tNil)))) [.val (rowsD b rs), .val (.int n), .own (ordT ms), s3, .val (.lst (ordD [])), s5, s6, s7, s8, s9] { nx := fun _ => spSplit.rel (rs, n, b) D.non, rt := spSplit.rel (rs, n, b) } := fun ms s3 s4' hm => by
      refine ds_freeze 2 rfl (ds_ret (Ev.dl (ev_tup (eva_cons (ev_var (d := .lst (ordT ms)) rfl) (eva_cons (ev_var (d := .lst (ordD [])) rfl) eva_nil)) (small (show 2 ≤ 100000 by decide))) ?_))
      show D.tup [.lst (ordT ms), .lst (ordD [])] = layOut rs n
      unfold layOut
      rw [hm, show (splitM rs n).2 = [] by rw [← e]]
    refine ds_seq (ds_if (EvT.dl (evt_tru_lst (ev_var (d := .lst (ordD left)) rfl).b) ⟨fun h2 => ?_, fun h2 => ds_next ?_⟩))
    · have h2 : left ≠ [] := fun z => by rw [z] at h2; cases h2
      rw [if_neg h2] at e
      refine ds_drop (dl_append ⟨_, rfl⟩ (dla_cons (Ev.dl (ev_tuple (ev_var (d := .lst (ordD left)) rfl).b) (dla_nil ⟨_, ordT made, rfl, rfl, ?_, ?_⟩))))
      · rw [ordT_len]; have := mk.few; exact Nat.lt_of_le_of_lt (by omega : made.length ≤ 8) (by decide)
      · rw [ordT_snoc]
        exact fin _ _ s5 (by rw [← e])
    · have h2 : left = [] := by rw [isEmpty_ord] at h2; simpa using h2
      rw [if_pos h2] at e
      exact fin _ _ s5 (by rw [← e])
end K27

namespace K27
open PySem PySem.Spec PyProof.Rows L2 Dw
variable [Tabs0]
end K27

namespace K27
open PySem PySem.Spec PyProof.Rows L2 Dw
variable [Tabs0]
/-! rankings as tuples that may be asked for a place -/
end K27

namespace K27
open PySem PySem.Spec PyProof.Rows L2 Dw
variable [Tabs0]
def selQ (rs : List (List Nat)) (o : List Nat) : List (List Nat) := o.map fun i => rowAt rs i
def Fit (rs : List (List Nat)) (n : Nat) : Prop := ∃ o : List Nat, o.Perm (List.range n) ∧ ∀ r ∈ rs, holdsB r o = true
def SgnOk (rs : List (List Nat)) (n : Nat) : Prop := (∀ i c, sgn (rowAt rs i) c = 43 ∨ sgn (rowAt rs i) c = 45 ∨ sgn (rowAt rs i) c = 46) ∧ ∀ i, i < rs.length → (rowAt rs i).length ≤ n
theorem selQ_len (rs : List (List Nat)) (o : List Nat) : (selQ rs o).length = o.length := List.length_map ..
theorem selQ_at {rs : List (List Nat)} {o : List Nat} {j : Nat} (h : j < o.length) : rowAt (selQ rs o) j = rowAt rs o[j] := by
  unfold selQ
  conv => lhs; unfold rowAt
  rw [List.getD_eq_getElem?_getD, List.getElem?_map, List.getElem?_eq_getElem h]; rfl
theorem fit_sel {rs : List (List Nat)} {n : Nat} {p q : List Nat} (h : Fit (selQ rs q) n) (hs : ∀ k ∈ p, k ∈ q) : Fit (selQ rs p) n := by
  obtain ⟨o, ho, hh⟩ := h
  refine ⟨o, ho, fun r hr => ?_⟩
  obtain ⟨k, hk, rfl⟩ := List.mem_map.mp hr
  exact hh _ (List.mem_map.mpr ⟨k, hs k hk, rfl⟩)
/-- where the layers end badly, the rows that stay open fit no order -/
theorem stuck_open {rs : List (List Nat)} {n : Nat} {ls : List (List Nat)} {lf st : List Nat} (h : LayI rs n ls lf st) (hne : st ≠ []) (hl : lf.filter (fun k => !minB rs st k) = []) (hr : ∀ i, i < rs.length → (rowAt rs i).length ≤ n) : ¬ Fit (selQ rs st) n := by
  rintro ⟨o, ho, hh⟩
  obtain ⟨i, hi, z⟩ := lay_stuck' h hne hl hr o ho
  rw [hh _ (List.mem_map.mpr ⟨i, hi, rfl⟩)] at z; cases z
def Still (rs : List (List Nat)) (n : Nat) : List Nat := (splitM rs n).2
theorem still_cases {rs : List (List Nat)} {n : Nat} (h : SgnOk rs n) : (Still rs n = [] ∧ Fit rs n) ∨ ∃ ls lf, Still rs n ≠ [] ∧ LayI rs n ls lf (Still rs n) ∧ lf.filter (fun k => !minB rs (Still rs n) k) = [] ∧ ¬ Fit (selQ rs (Still rs n)) n := by
  rcases layF_end h.1 (n + 1) [] (List.range n) (open0 rs) (layI_0 rs n) (by rw [List.length_range]; omega) with ⟨ls, e, hh⟩ | ⟨ls, lf, st, e, h1, hh, h2⟩
  · have e : splitM rs n = (ls, []) := e
    refine .inl ⟨by unfold Still; rw [e], ?_⟩
    obtain ⟨w1, w2⟩ := lay_fits h.1 hh (g := fun l => l) (fun l => .refl _)
    exact ⟨_, w1, all_rows.mpr w2⟩
  · have e : splitM rs n = (ls, st) := e
    have e2 : Still rs n = st := by unfold Still; rw [e]
    refine .inr ⟨ls, lf, ?_⟩
    rw [e2]
    exact ⟨h1, hh, h2, stuck_open hh h1 h2 h.2⟩
theorem still_fit {rs : List (List Nat)} {n : Nat} (h : SgnOk rs n) : Still rs n = [] ↔ Fit rs n := by
  constructor
  · intro e
    rcases still_cases h with ⟨_, f⟩ | ⟨_, _, z, _⟩
    · exact f
    · exact absurd e z
  · intro f
    rcases still_cases h with ⟨e, _⟩ | ⟨ls, lf, z, hh, h2, nf⟩
    · exact e
    · obtain ⟨o, ho, hf⟩ := f
      refine absurd ⟨o, ho, fun r hr => ?_⟩ nf
      obtain ⟨k, hk, rfl⟩ := List.mem_map.mp hr
      exact all_rows.mp hf k (List.mem_range.mp (List.mem_filter.mp (hh.sub.subset hk)).1)
/-! the lot that is told -/
def qStep (rs : List (List Nat)) (n : Nat) (kept : List Nat) (i : Nat) : List Nat :=
  if Still (selQ rs (kept.filter fun j => !decide (j = i))) n = [] then kept else kept.filter fun j => !decide (j = i)
structure QI (rs : List (List Nat)) (n : Nat) (kept seen : List Nat) : Prop where
  sub : kept.Sublist (List.range rs.length)
  nf : ¬ Fit (selQ rs kept) n
  min : ∀ i ∈ seen, i ∈ kept → Fit (selQ rs (kept.filter fun j => !decide (j = i))) n
theorem sel_sgn {rs : List (List Nat)} {n : Nat} (h : SgnOk rs n) {o : List Nat} (ho : ∀ k ∈ o, k < rs.length) : SgnOk (selQ rs o) n := by
  refine ⟨fun i c => ?_, fun i hi => ?_⟩
  · by_cases hi : i < o.length
    · rw [selQ_at hi]; exact h.1 _ _
    · unfold rowAt sgn
      rw [List.getD_eq_getElem?_getD (l := selQ rs o), List.getElem?_eq_none (by rw [selQ_len]; omega)]
      exact .inr (.inr rfl)
  · rw [selQ_len] at hi
    rw [selQ_at hi]
    exact h.2 _ (ho _ (List.getElem_mem hi))
theorem QI.next {rs : List (List Nat)} {n : Nat} (h : SgnOk rs n) {kept seen : List Nat} (q : QI rs n kept seen) (i : Nat) : QI rs n (qStep rs n kept i) (seen ++ [i]) := by
  have hf : ∀ k ∈ kept.filter (fun j => !decide (j = i)), k < rs.length := fun k hk => List.mem_range.mp (q.sub.subset (List.mem_filter.mp hk).1)
  unfold qStep
  by_cases e : Still (selQ rs (kept.filter fun j => !decide (j = i))) n = []
  · rw [if_pos e]
    refine ⟨q.sub, q.nf, fun j hj hk => ?_⟩
    rcases List.mem_append.mp hj with hj | hj
    · exact q.min j hj hk
    · rw [List.mem_singleton.mp hj]
      exact (still_fit (sel_sgn h hf)).mp e
  · rw [if_neg e]
    refine ⟨List.filter_sublist.trans q.sub, fun f => e ((still_fit (sel_sgn h hf)).mpr f), fun j hj hk => ?_⟩
    have hk' := (List.mem_filter.mp hk).1
    rcases List.mem_append.mp hj with hj | hj
    · refine fit_sel (q.min j hj hk') fun k hk2 => ?_
      obtain ⟨a, b⟩ := List.mem_filter.mp hk2
      exact List.mem_filter.mpr ⟨(List.mem_filter.mp a).1, b⟩
    · have := (List.mem_filter.mp hk).2
      rw [List.mem_singleton.mp hj] at this
      simp at this
/-! all lots of some things -/
def spSome : Spc where
  ty := List (List Nat) × Nat × Bool
  args := fun x => [rowsD x.2.2 x.1, .int x.2.1]
  ok := fun x => (∀ r ∈ x.1, RowOk r x.2.1) ∧ x.2.1 ≤ 8 ∧ x.1.length ≤ 1000
  rel := fun x d => d = .bl (decide (Still x.1 x.2.1 = []))
end K27

namespace K27
open PySem PySem.Spec PyProof.Rows L2 Dw
variable [Tabs0]
theorem d_some_fits {P : Program} {w : World} {K : PySem.W.Frag} {mg : Str → Option Value} {base : Heap} (T : Txt K w mg) : FnOk P w K mg base CX0 3 T.f_some_fits T.e_some_fits ["rows", "many"] (toSp (spSome)) := by
  refine fn_ok T.F_some_fits sc_some_fits (fun _ => rfl) fun cdv A outer s' H E hr => ?_
  refine ⟨_, (pss_cons (ps_asg (pe_call (d_split T) (hr.mono (by decide)) (by rfl) T.m_split T.F_split.kp T.b_split .nil pass0 (pa_cons (pv 0) (pa_cons (pv 1) pa_nil))) (tupA K 2 rfl (pgs_cons (pg_name (i := 2) sc_some_fits.nd rfl (Or.inl rfl)) (pgs_cons (pg_name (i := 3) sc_some_fits.nd rfl (Or.inl rfl)) pgs_nil)))) (pss_one (ps_ret (notA K (pv 3))))), fun x hx => ?_⟩
  obtain ⟨rs, n, b⟩ := x
  obtain ⟨hr', h8, hz⟩ := hx
  refine ds_seq (ds_asg_g (Ev.dl (ev_call (s := spSplit) (x := (rs, n, b)) (eva_cons (ev_var rfl) (eva_cons (ev_var rfl) eva_nil)) (np_rd (r := [_]) rfl) ⟨hr', h8, hz⟩ fun d h => h) ⟨[2] ++ [3], _, dg_tup2 dg_name dg_name, ?_⟩))
  refine ds_ret (Ev.dl (ev_notT (evt_tru_lst (ev_var (d := .lst (ordD (splitM rs n).2)) rfl).b)) ?_)
  show D.bl _ = D.bl _
  rw [isEmpty_ord, Bool.not_not]; rfl
end K27

namespace K27
open PySem PySem.Spec PyProof.Rows L2 Dw
variable [Tabs0]
/-! heads as bits -/
def headOf (l : List Nat) : Nat := (l.map fun k => 2 ^ k).sum
def hd (p : Nat → Bool) (n : Nat) : Nat := headOf ((List.range n).filter p)
def sideM (c : Nat) (r : List Nat) : Nat := hd (fun k => decide (sgn r k = c)) r.length
/-- whether k may come right behind the head: no row has a minus for it, and no plus in the head -/
def openBit (rs : List (List Nat)) (head k : Nat) : Bool := !head.testBit k && rs.all fun r => !(decide (sideM 43 r &&& head = 0) && decide (sgn r k = 45))
end K27

namespace K27
open PySem PySem.Spec PyProof.Rows L2 Dw
variable [Tabs0]
structure EndOk (b : List (List Nat)) : Prop where
  lo : 1 ≤ b.length
  hi : b.length ≤ 256
  in_ : ∀ head, head < b.length → ∀ k ∈ b.getD head [], head ||| 2 ^ k < b.length ∧ k ≤ 8
  few : ∀ head, (b.getD head []).length ≤ 8
end K27

namespace K27
open PySem PySem.Spec PyProof.Rows L2 Dw
variable [Tabs0]
/-! any text, read as a book -/
def splitL : List Nat → List (List Nat)
  | [] => [[]]
  | c :: l => if c = 32 then [] :: splitL l else match splitL l with | [] => [[c]] | p :: r => (c :: p) :: r
theorem splitL_ne : ∀ l : List Nat, splitL l ≠ []
  | [] => fun h => nomatch h
  | c :: l => by
    unfold splitL
    by_cases h : c = 32
    · rw [if_pos h]; exact fun h => nomatch h
    · rw [if_neg h]
      cases splitL l <;> exact fun h => nomatch h
theorem splitL_cons {c : Nat} {l : List Nat} (h : c ≠ 32) {p : List Nat} {r : List (List Nat)} (e : splitL l = p :: r) : splitL (c :: l) = (c :: p) :: r := by
  show (if c = 32 then [] :: splitL l else match splitL l with | [] => [[c]] | p :: r => (c :: p) :: r) = _
  rw [if_neg h, e]
theorem splitL_sp (l : List Nat) : splitL (32 :: l) = [] :: splitL l := if_pos rfl
theorem splitL_ind {P : List Nat → List (List Nat) → Prop} (h0 : P [] [[]]) (h1 : ∀ l ps, ps ≠ [] → P l ps → P (32 :: l) ([] :: ps)) (h2 : ∀ c l p r, c ≠ 32 → P l (p :: r) → P (c :: l) ((c :: p) :: r)) : ∀ l, P l (splitL l)
  | [] => h0
  | c :: l => by
    have ih := splitL_ind h0 h1 h2 l
    by_cases h : c = 32
    · subst h
      rw [splitL_sp]
      exact h1 l _ (splitL_ne l) ih
    · cases e : splitL l with
      | nil => exact absurd e (splitL_ne l)
      | cons p r =>
        rw [splitL_cons h e]
        rw [e] at ih
        exact h2 c l p r h ih
theorem joinX_cons (p : List Nat) {r : List (List Nat)} (h : r ≠ []) : TL.joinL [32] (p :: r) = p ++ ([32] ++ TL.joinL [32] r) := by
  cases r with
  | nil => exact absurd rfl h
  | cons q r => simp [TL.joinL]
theorem joinL_one (p : List Nat) : TL.joinL [32] [p] = p := by simp [TL.joinL]
theorem joinL_head (c : Nat) (p : List Nat) (r : List (List Nat)) : TL.joinL [32] ((c :: p) :: r) = c :: TL.joinL [32] (p :: r) := by
  cases r with
  | nil => rw [joinL_one, joinL_one]
  | cons q r => rw [joinX_cons (c :: p) (r := q :: r) (by simp), joinX_cons p (r := q :: r) (by simp)]; rfl
theorem splitL_join (l : List Nat) : TL.joinL [32] (splitL l) = l := splitL_ind (P := fun l ps => TL.joinL [32] ps = l) rfl (fun l ps hn h => by rw [joinX_cons _ hn, h]; rfl) (fun c l p r _ h => by rw [joinL_head, h]) l
theorem splitL_no (l : List Nat) : ∀ p ∈ splitL l, 32 ∉ p := splitL_ind (P := fun _ ps => ∀ p ∈ ps, 32 ∉ p) (fun p h => by rw [List.mem_singleton.mp h]; simp) (fun l ps _ h p hp => by
  rcases List.mem_cons.mp hp with rfl | hp
  · simp
  · exact h p hp) (fun c l p r hc h q hq => by
  rcases List.mem_cons.mp hq with rfl | hq
  · have := h p List.mem_cons_self
    intro hm
    rcases List.mem_cons.mp hm with e | hm
    · exact hc e.symm
    · exact this hm
  · exact h q (List.mem_cons_of_mem _ hq)) l
theorem splitL_len (l : List Nat) : (splitL l).length ≤ l.length + 1 := splitL_ind (P := fun l ps => ps.length ≤ l.length + 1) (Nat.le_refl _) (fun l ps _ h => by simp; omega) (fun c l p r _ h => by simp at h ⊢; omega) l
theorem splitL_sub (l : List Nat) : ∀ p ∈ splitL l, p.length ≤ l.length ∧ ∀ c ∈ p, c ∈ l := splitL_ind (P := fun l ps => ∀ p ∈ ps, p.length ≤ l.length ∧ ∀ c ∈ p, c ∈ l) (fun p h => by rw [List.mem_singleton.mp h]; simp) (fun l ps _ h p hp => by
  rcases List.mem_cons.mp hp with rfl | hp
  · simp
  · obtain ⟨a, b⟩ := h p hp
    exact ⟨by simp; omega, fun c hc => List.mem_cons_of_mem _ (b c hc)⟩) (fun c l p r _ h q hq => by
  rcases List.mem_cons.mp hq with rfl | hq
  · obtain ⟨a, b⟩ := h p List.mem_cons_self
    refine ⟨by simp; omega, fun d hd => ?_⟩
    rcases List.mem_cons.mp hd with rfl | hd
    · exact List.mem_cons_self
    · exact List.mem_cons_of_mem _ (b d hd)
  · obtain ⟨a, b⟩ := h q (List.mem_cons_of_mem _ hq)
    exact ⟨by simp; omega, fun d hd => List.mem_cons_of_mem _ (b d hd)⟩) l
theorem splitL_app {p l : List Nat} (h : 32 ∉ p) : ∀ {q : List Nat} {r : List (List Nat)}, splitL l = q :: r → splitL (p ++ l) = (p ++ q) :: r := by
  induction p with
  | nil => intro q r e; exact e
  | cons c p ih =>
    intro q r e
    have hc : c ≠ 32 := fun z => h (by rw [z]; exact List.mem_cons_self)
    exact splitL_cons hc (ih (fun z => h (List.mem_cons_of_mem _ z)) e)
theorem splitL_of : ∀ {ps : List (List Nat)}, ps ≠ [] → (∀ p ∈ ps, 32 ∉ p) → splitL (TL.joinL [32] ps) = ps
  | [], h, _ => absurd rfl h
  | [p], _, h => by
    have := splitL_app (l := []) (h p List.mem_cons_self) (q := []) (r := []) rfl
    rw [List.append_nil] at this
    rw [joinL_one, this]
  | p :: q :: r, _, h => by
    rw [joinX_cons _ (by simp)]
    have ih := splitL_of (ps := q :: r) (by simp) fun x hx => h x (List.mem_cons_of_mem _ hx)
    have := splitL_app (l := [32] ++ TL.joinL [32] (q :: r)) (h p List.mem_cons_self) (q := []) (r := q :: r) (by rw [show [32] ++ TL.joinL [32] (q :: r) = 32 :: TL.joinL [32] (q :: r) from rfl, splitL_sp, ih])
    rw [List.append_nil] at this
    exact this
theorem splitS (l : List Nat) : Txt.split (tx l) (Str.ofString " ") = (splitL l).map tx := by
  have := split_sp (splitL_ne l) (splitL_no l)
  rw [splitL_join] at this
  exact this
def cutAt : List Nat → Option (List Nat × List Nat)
  | [] => none
  | c :: l => if c = 58 then some ([], l) else (cutAt l).map fun x => (c :: x.1, x.2)
theorem cutAt_some : ∀ {l p q : List Nat}, cutAt l = some (p, q) → l = p ++ ([58] ++ q) ∧ 58 ∉ p
  | [], p, q, h => nomatch h
  | c :: l, p, q, h => by
    unfold cutAt at h
    by_cases hc : c = 58
    · rw [if_pos hc] at h
      cases h
      exact ⟨by rw [hc]; rfl, by simp⟩
    · rw [if_neg hc] at h
      cases e : cutAt l with
      | none => rw [e] at h; cases h
      | some x =>
        obtain ⟨a, b⟩ := x
        rw [e] at h; cases h
        obtain ⟨h1, h2⟩ := cutAt_some e
        refine ⟨by rw [h1]; rfl, fun hm => ?_⟩
        rcases List.mem_cons.mp hm with z | hm
        · exact hc z.symm
        · exact h2 hm
theorem cutAt_none : ∀ {l : List Nat}, cutAt l = none ↔ 58 ∉ l
  | [] => by simp [cutAt]
  | c :: l => by
    unfold cutAt
    by_cases hc : c = 58
    · rw [if_pos hc]
      simp [hc]
    · rw [if_neg hc, Option.map_eq_none_iff, cutAt_none (l := l), List.mem_cons, not_or]
      exact ⟨fun h => ⟨fun z => hc z.symm, h⟩, fun h => h.2⟩
theorem cutAt_of : ∀ {p q : List Nat}, 58 ∉ p → cutAt (p ++ ([58] ++ q)) = some (p, q)
  | [], q, _ => if_pos rfl
  | c :: p, q, h => by
    show (if c = 58 then some ([], p ++ ([58] ++ q)) else (cutAt (p ++ ([58] ++ q))).map fun x => (c :: x.1, x.2)) = _
    rw [if_neg (fun z => h (by rw [z]; exact List.mem_cons_self)), cutAt_of fun z => h (List.mem_cons_of_mem _ z)]; rfl
/-- the tests of a text's head and tail -/
def headB (ns : List (List Nat)) (f : List Nat) : Bool := decide (f = []) && decide (ns.length ≤ 8) && namesB (nameD ns)
def tailB (rows : List (List Nat)) (n : Nat) : Bool := decide (rows.length ≤ 20) && rows.all fun r => rowB (.str (tx r)) n
def bookP (ns : List (List Nat)) : List (List Nat) → Option Bk
  | [] => none
  | f :: rows => if (headB ns f && tailB rows ns.length) = true then some (ns, rows) else none
def bookQ (l : List Nat) : Option Bk := (cutAt l).bind fun x => bookP (splitL x.1) (splitL x.2)
theorem bookQ_tx {ls rs : List (List Nat)} (h : BookOk ls rs) : bookQ (bookTx ls rs) = some (ls, rs) := by
  unfold bookQ
  rw [bookTx_eq, cutAt_of h.h58]
  show bookP (splitL (TL.joinL [32] ls)) (splitL (TL.joinL [32] ([] :: rs))) = _
  rw [splitL_of (fun e => by have := h.names.lo; rw [e] at this; cases this) h.h32, splitL_of (by simp) h.r32]
  refine if_pos ?_
  unfold headB tailB
  rw [decide_eq_true rfl, decide_eq_true h.names.hi, names_ok h.names, decide_eq_true h.few, List.all_eq_true.mpr fun r hr => row_ok (h.rows r hr) h.names.lo h.names.hi]; rfl
theorem okS_codes {l : List Nat} (h : okS (tx l)) : ∀ c ∈ l, c < 1114112 := fun c hc => by
  have h : (tx l).cps.all (fun c => decide (c < 1114112)) = true := h
  rw [← Array.all_toList, List.all_eq_true, tx_cps] at h
  exact of_decide_eq_true (h c hc)
def pairD (b : Bk) : D := .tup [.tup (nameD b.1), .tup (nameD b.2)]
def bookOf : D → Option Bk
  | .str x => bookQ x.cps.toList
  | _ => none
def optD : Option Bk → D
  | some b => pairD b
  | none => .non
/-- a text that is not long beyond sense -/
def shT : D → Bool
  | .str x => decide (x.length ≤ 15000)
  | _ => true
def spReadG : Spc where
  ty := D
  args := fun d => [d]
  ok := fun d => Pv d ∧ shT d = true
  rel := fun d e => e = optD (bookOf d)
theorem bookOf_tx {ls rs : List (List Nat)} (h : BookOk ls rs) : bookOf (.str (tx (bookTx ls rs))) = some (ls, rs) := by
  show bookQ (tx (bookTx ls rs)).cps.toList = _
  rw [tx_cps]; exact bookQ_tx h
theorem not_str {d : D} (h : isStrB d = false) : bookOf d = none := by cases d <;> first | rfl | exact nomatch h
theorem bk_none {l : List Nat} (h : bookQ l = none) : D.non = optD (bookOf (.str (tx l))) := by
  show _ = optD (bookQ (tx l).cps.toList)
  rw [tx_cps, h]; rfl
end K27

namespace K27
open PySem PySem.Spec PyProof.Rows L2 Dw
variable [Tabs0]
theorem d_read_book {P : Program} {w : World} {K : PySem.W.Frag} {mg : Str → Option Value} {base : Heap} (T : Txt K w mg) : FnOk P w K mg base CX0 3 T.f_read_book T.e_read_book ["text"] (toSp (spReadG)) := by
  refine fn_ok T.F_read_book sc_read_book (fun _ => rfl) fun cdv A outer s' H E hr => ?_
  refine ⟨_, (pss_cons (ps_if (PW.pt (pw_or (pt_not (truA K (pe_callB (isiA K) (by rfl) T.n_isinstance (by decide +kernel) (pa_cons (pv 0) (pa_cons (pe_bltn (v := .ty "str") (by rfl) T.n_str (by decide +kernel) rfl) pa_nil))))) (pw_or1 (pt_cmpR (ninA K) pe_str (pv 0) (by rfl))))) (pss_one (ps_ret pe_non)) pss_nil) (pss_cons (ps_asg (pe_partition (pv 0) pe_str) (tupA K 3 rfl (pgs_cons (pg_name (i := 1) sc_read_book.nd rfl (Or.inl rfl)) (pgs_cons (pg_name (i := 2) sc_read_book.nd rfl (Or.inl rfl)) (pgs_cons (pg_name (i := 3) sc_read_book.nd rfl (Or.inl rfl)) pgs_nil))))) (pss_cons (ps_set (i := 4) sc_read_book.nd rfl (Or.inr rfl) (pe_callTy (tupleA K) (by rfl) T.n_tuple (by decide +kernel) (pa_cons (pe_split (pv 1) pe_str) pa_nil))) (pss_cons (ps_asg (pe_split (pv 3) pe_str) (star1XA K rfl (pg_name (i := 5) sc_read_book.nd rfl (Or.inl rfl)) (pg_name (i := 6) sc_read_book.nd rfl (Or.inl rfl)))) (pss_cons (ps_if (PW.pt (pw_or (pt_cmpR (neA K hr.units) (pv 5) pe_str (nomark _)) (pw_or (pt_cmpR opGt (pe_callB (lenA K) (by rfl) T.n_len (by decide +kernel) (pa_cons (pv 4) pa_nil)) (pe_glob (v := .int 8) (by rfl) T.c_MOST_RULES ⟨_, rfl⟩) (nomark _)) (pw_or1 (pt_not (truA K (pe_call (d_are_names T) (hr.mono (by decide)) (by rfl) T.m_are_names T.F_are_names.kp T.b_are_names .nil pass0 (pa_cons (pv 4) pa_nil)))))))) (pss_one (ps_ret pe_non)) pss_nil) (pss_cons (ps_if (PW.pt (pw_or (pt_cmpR opGt (pe_callB (lenA K) (by rfl) T.n_len (by decide +kernel) (pa_cons (pv 6) pa_nil)) (pe_glob (v := .int 20) (by rfl) T.c_MOST_ROWS ⟨_, rfl⟩) (nomark _)) (pw_or1 (pt_not (truA K (pe_callB (allA K) (by rfl) T.n_all (by decide +kernel) (pa_cons (pe_lc (own := [("row", 7)]) rfl sc_read_book.nd (piR K (pv 6)) (blkOk_by (own := [("row", 7)]) (N := N_read_book) (sc := (defScope s_read_book)) (by decide +kernel)) (fun _ _ _ _ _ => pg_name (i := 7) sc_read_book.nd rfl (Or.inl rfl)) (fun _ _ _ _ _ => pts_nil) (fun _ _ _ _ _ => (pe_call (d_is_row T) (hr.mono (by decide)) (by rfl) T.m_is_row T.F_is_row.kp T.b_is_row .nil pass0 (pa_cons (pv 7) (pa_cons (pe_callB (lenA K) (by rfl) T.n_len (by decide +kernel) (pa_cons (pv 4) pa_nil)) pa_nil))))) pa_nil))))))) (pss_one (ps_ret pe_non)) pss_nil) (pss_one (ps_ret (pe_tup (pa_cons (pv 4) (pa_cons (pe_callTy (tupleA K) (by rfl) T.n_tuple (by decide +kernel) (pa_cons (pv 6) pa_nil)) pa_nil))))))))))), fun x hx => ?_⟩
  obtain ⟨d, rfl⟩ : ∃ l : D, l = x := ⟨x, rfl⟩
  obtain ⟨hd, hsh⟩ := hx
  have hd : Pv d := hd
  by_cases hs : isStrB d = true
  · obtain ⟨s, rfl⟩ := str_of hs
    obtain ⟨l, rfl⟩ : ∃ l, s = tx l := ⟨_, of_tx s⟩
    have hc := hd.str.1
    have hl : l.length ≤ 15000 := by
      have : decide ((tx l).length ≤ 15000) = true := hsh
      rw [tx_len] at this
      exact of_decide_eq_true this
    have hz : (tx l).length ≤ sizeLine := small (by rw [tx_len]; omega)
    have e58 := nin_code (K := K) (l := l) (c := 58)
    rw [show ch 58 = Str.ofString ":" by decide +kernel] at e58
    refine ds_seq (ds_if (EvT.dl (b := false || !decide (58 ∈ l)) (evt_or (a := false) (b := !decide (58 ∈ l)) (evt_not (a := true) (evt_tru_bl (ev_isi (ev_var rfl) ev_raw (.inl rfl) (.ty "str") rfl))) fun _ => evt_test (ev_op ev_str (ev_var rfl) e58)) ⟨fun h => ds_ret (Ev.dl ev_non (bk_none ?no)), fun h => ds_next ?_⟩))
    case no =>
      have : 58 ∉ l := by simpa using h
      unfold bookQ
      rw [cutAt_none.mpr this]; rfl
    obtain ⟨p, q, e⟩ : ∃ p q, cutAt l = some (p, q) := by
      cases e : cutAt l with
      | none => exact absurd (cutAt_none.mp e) (by simpa using h)
      | some x => exact ⟨x.1, x.2, rfl⟩
    obtain ⟨el, h58⟩ := cutAt_some e
    have eb : bookQ l = bookP (splitL p) (splitL q) := by
      unfold bookQ
      rw [e]; rfl
    have lpq : p.length + q.length ≤ l.length := by rw [el]; simp
    have hp : Txt.partition (tx l) (Str.ofString ":") = (tx p, tx [58], tx q) := by rw [el]; exact part_sp h58
    refine ds_seq (ds_asg_g (Ev.dl (ev_cast (d' := .tup [.str (tx p), .str (tx [58]), .str (tx q)]) (by rw [hp]) (ev_partition (ev_var rfl) ev_str (by decide +kernel) hz)) ⟨[1] ++ ([2] ++ [3]), _, dg_tup3 dg_name dg_name dg_name, ?_⟩))
    refine ds_seq (ds_asg (Ev.dl (ev_cast (d' := .tup (nameD (splitL p))) ?e1 (ev_tuple (EvN.b (evn_split (a := tx p) (ev_var rfl) ev_str (by decide +kernel) ?z1)))) ?_))
    case e1 => rw [splitS, nameD_map]
    case z1 => rw [tx_len]; exact small (by omega)
    have lq := splitL_len q
    cases eq : splitL q with
    | nil => exact absurd eq (splitL_ne q)
    | cons f rows =>
      rw [eq, List.length_cons] at lq
      have eb : bookQ l = if (headB (splitL p) f && tailB rows (splitL p).length) = true then some (splitL p, rows) else none := by rw [eb, eq]; rfl
      refine ds_seq (ds_starL (Ev.dl (EvN.ev (evn_split (a := tx q) (ev_var rfl) ev_str (by decide +kernel) ?z2)) ⟨.str (tx f), nameD rows, .inl ?e2, ?z3, ?_⟩))
      case e2 => rw [splitS, eq]; show D.lst ((tx f :: rows.map tx).map D.str) = _; rw [List.map_cons, nameD_map]
      case z2 => rw [tx_len]; exact small (by omega)
      case z3 => unfold nameD; rw [List.length_map]; omega
      have l1 : (nameD (splitL p)).length = (splitL p).length := List.length_map ..
      have l2 : (nameD rows).length = rows.length := List.length_map ..
      have sub := splitL_sub p
      have subq := splitL_sub q
      have codes : ∀ c ∈ l, c < 1114112 := fun c hc' => okS_codes hc c hc'
      have pcodes : ∀ c ∈ p, c ∈ l := fun c hc' => by rw [el]; exact List.mem_append_left _ hc'
      have qcodes : ∀ c ∈ q, c ∈ l := fun c hc' => by rw [el]; simp [hc']
      have t1 : (!decide (f = [])) = (!decide (tx f = Str.ofString "")) := by
        congr 1
        rw [show Str.ofString "" = tx [] by decide +kernel]
        exact decide_eq_decide.mpr tx_eq.symm
      refine ds_seq (ds_if (EvT.dl (b := !headB (splitL p) f) ?hd ⟨fun h2 => ds_ret (Ev.dl ev_non (bk_none ?no2)), fun h2 => ds_next ?_⟩))
      case hd =>
        have e3 : (!headB (splitL p) f) = (!decide (f = []) || (!decide ((splitL p).length ≤ 8) || !namesB (nameD (splitL p)))) := by
          unfold headB
          cases decide (f = []) <;> cases decide ((splitL p).length ≤ 8) <;> cases namesB (nameD (splitL p)) <;> rfl
        rw [e3]
        refine evt_or (evt_test (ev_op (ev_var rfl) ev_str (ne_sb t1.symm))) fun _ => evt_or (evt_test (ev_op (ev_lenT (ds := nameD (splitL p)) (ev_var rfl)) ev_int (gt_b ?g))) fun h9 => evt_not (evt_tru_bl (ev_call (s := spNamesG) (x := nameD (splitL p)) (eva_cons (ev_var rfl) eva_nil) (np_tup (np_name _)) ?pv fun d h => h))
        case g =>
          rw [l1]
          have : decide ((8 : Int) < ((splitL p).length : Int)) = !decide ((splitL p).length ≤ 8) := by
            rw [← decide_not]
            exact decide_eq_decide.mpr (by omega)
          exact this
        case pv =>
          have h9 : (splitL p).length ≤ 8 := by simpa using h9
          show (decide ((nameD (splitL p)).length ≤ 60) && plBs 11 (nameD (splitL p))) = true
          rw [l1, decide_eq_true (by omega), Bool.true_and, plBs_iff]
          intro d hd'
          obtain ⟨w, hw, rfl⟩ := List.mem_map.mp hd'
          obtain ⟨s1, s2⟩ := sub w hw
          exact pv_strs (fun c hc' => codes c (pcodes c (s2 c hc'))) (by omega)
      case no2 =>
        rw [eb, if_neg]
        rw [Bool.not_eq_true'] at h2
        rw [h2]; simp
      rw [Bool.not_eq_false'] at h2
      have h2' := h2
      unfold headB at h2'
      rw [Bool.and_eq_true, Bool.and_eq_true, decide_eq_true_eq, decide_eq_true_eq] at h2'
      refine ds_seq (ds_if (EvT.dl (b := !tailB rows (splitL p).length) ?tl ⟨fun h3 => ds_ret (Ev.dl ev_non (bk_none ?no3)), fun h3 => ds_next ?_⟩))
      case tl =>
        have e3 : (!tailB rows (splitL p).length) = (!decide (rows.length ≤ 20) || !rows.all fun r => rowB (.str (tx r)) (splitL p).length) := by
          unfold tailB
          cases decide (rows.length ≤ 20) <;> rfl
        rw [e3]
        refine evt_or (evt_test (ev_op (ev_len (ds := nameD rows) (ev_var rfl).b) ev_int (gt_b ?g2))) fun h9 => evt_not (evt_tru_bl (ev_all_lc (K := K) (xs := rows) (c := fun l => .str (tx l)) (b := fun r => rowB (.str (tx r)) (splitL p).length) (ej_list (ev_var (d := .lst (nameD rows)) rfl).b) ?z4 fun r hr' => ⟨[7], _, dg_name, fun i hi => hi, evt_yes, ev_call (s := spRowG) (x := (.str (tx r), (splitL p).length)) (eva_cons (ev_var rfl) (eva_cons (ev_cast (congrArg (fun n : Nat => D.int n) l1) (ev_lenT (ds := nameD (splitL p)) (ev_var rfl))) eva_nil)) rfl ?pr fun d h => h⟩))
        case g2 =>
          rw [l2]
          have : decide ((20 : Int) < (rows.length : Int)) = !decide (rows.length ≤ 20) := by
            rw [← decide_not]
            exact decide_eq_decide.mpr (by omega)
          exact this
        case z4 => omega
        case pr =>
          obtain ⟨s1, s2⟩ := subq r (by rw [eq]; exact List.mem_cons_of_mem _ hr')
          exact pv_strs (fun c hc' => codes c (qcodes c (s2 c hc'))) (by omega)
      case no3 =>
        rw [eb, if_neg]
        rw [Bool.not_eq_true'] at h3
        rw [h3]; simp
      rw [Bool.not_eq_false'] at h3
      refine ds_ret (Ev.dl (ev_tup (eva_cons (ev_var rfl) (eva_cons (ev_tuple (ev_var (d := .lst (nameD rows)) rfl).b) eva_nil)) (small (show 2 ≤ 100000 by decide))) ?_)
      show _ = optD (bookQ (tx l).cps.toList)
      rw [tx_cps, eb, h2, h3]; rfl
  · have hs : isStrB d = false := by simpa using hs
    refine ds_seq (ds_if (EvT.dl (b := true) (evt_or (a := true) (b := false) (evt_not (a := false) (evt_tru_bl (ev_isi (ev_var rfl) ev_raw (.inl hd.ty) (.ty "str") (by rw [kit_str hd.ty, hs])))) fun h => (nomatch h)) ⟨fun _ => ds_ret (Ev.dl ev_non ?_), fun h => (nomatch h)⟩))
    show D.non = optD (bookOf d)
    rw [not_str hs]; rfl

end K27

namespace K27
open PySem PySem.Spec PyProof.Rows L2 Dw
variable [Tabs0]
/-! books made of texts, by any reading -/
theorem sh_book {ls rs : List (List Nat)} (h : BookOk ls rs) : shT (.str (tx (bookTx ls rs))) = true := decide_eq_true (Nat.le_trans h.len (by decide))
theorem joinX_all {p : Nat → Prop} (h32 : p 32) : ∀ ls : List (List Nat), (∀ l ∈ ls, ∀ c ∈ l, p c) → ∀ c ∈ TL.joinL [32] ls, p c
  | [], _, c, hc => absurd hc (by simp [TL.joinL])
  | [l], h, c, hc => h l List.mem_cons_self c (by simpa [TL.joinL] using hc)
  | l :: m :: r, h, c, hc => by
    rw [joinX_cons l (r := m :: r) (by simp), List.mem_append, List.mem_append] at hc
    rcases hc with hc | hc | hc
    · exact h l List.mem_cons_self c hc
    · rw [List.mem_singleton.mp hc]; exact h32
    · exact joinX_all h32 (m :: r) (fun l' hl => h l' (List.mem_cons_of_mem _ hl)) c hc
theorem bookX_codes {ls rs : List (List Nat)} (h : BookOk ls rs) : ∀ c ∈ bookTx ls rs, c < 1114112 := by
  unfold bookTx
  refine joinX_all (p := fun c => c < 1114112) (by decide) _ fun l hl c hc => ?_
  rcases List.mem_cons.mp hl with rfl | hl
  · rcases List.mem_append.mp hc with hc | hc
    · refine joinX_all (p := fun c => c < 1114112) (by decide) _ (fun l hl c hc => ?_) c hc
      have := ((h.names.all l hl).all c hc).2
      omega
    · rw [List.mem_singleton.mp hc]; decide
  · exact ((h.rows l hl).all c hc).lt
theorem pv_book {ls rs : List (List Nat)} (h : BookOk ls rs) : Pv (.str (tx (bookTx ls rs))) := pv_strs (bookX_codes h) (by have := h.len; rw [tx_len] at this; omega)
theorem opt_book {ls rs : List (List Nat)} (h : BookOk ls rs) : optD (bookOf (.str (tx (bookTx ls rs)))) = .tup [.tup (nameD ls), .tup (nameD rs)] := by
  rw [bookOf_tx h]; rfl
end K27

namespace K27
open PySem PySem.Spec PyProof.Rows L2 Dw
variable [Tabs0]
theorem d_Book___init__ {P : Program} {w : World} {K : PySem.W.Frag} {mg : Str → Option Value} {base : Heap} (T : Txt K w mg) : FnOk P w K mg base CX0 4 T.f_Book___init__ T.e_Book___init__ ["self", "text"] (toIn T.C_Book ["_text", "_names", "_rows"] spInit) := by
  refine in_ok T.F_Book___init__ sc_Book___init__ (fun _ => rfl) fun cdv A outer s' H E hr => ?_
  refine ⟨_, (pss_cons (ps_set (i := 2) sc_Book___init__.nd rfl (Or.inl rfl) (pe_call (d_read_book T) (hr.mono (by decide)) (by rfl) T.m_read_book T.F_read_book.kp T.b_read_book .nil pass0 (pa_cons (pv 1) pa_nil))) (pss_cons (ps_if (pt_cmpR op_isN (pv 2) pe_non (nomark _)) (pss_one ps_never) pss_nil) (pss_cons (ps_fld (pv 0) (pv 1) rfl) (pss_one (ps_asg (pv 2) (tupA K 2 rfl (pgs_cons (pg_fld (pv 0)) (pgs_cons (pg_fld (pv 0)) pgs_nil)))))))), fun x hx a => ?_⟩
  obtain ⟨ls, rs⟩ := x
  have hb : BookOk ls rs := hx
  refine di_seq (di_of (ds_asg (Ev.dl (ev_call (s := spReadG) (d := .tup [.tup (nameD ls), .tup (nameD rs)]) (x := .str (tx (bookTx ls rs))) (eva_cons (ev_var rfl) eva_nil) rfl ⟨pv_book hb, sh_book hb⟩ fun d h => by rw [h]; exact opt_book hb) ?_)))
  refine di_seq (di_of (ds_if (EvT.dl (b := false) (evt_test (ev_op (ev_var rfl) ev_non (dr2_isN fun W v h => ?_))) ⟨fun h => (nomatch h), fun _ => ds_next ?_⟩)))
  · obtain ⟨p, vs, e, _⟩ := h
    rw [e]; exact decide_eq_false fun h => nomatch h
  refine di_seq (di_fld T.cl_Book T.no_text (by simp) (by decide) (ev_var rfl) (ev_var rfl) ?_)
  exact di_fld2 T.cl_Book T.no_names T.no_rows (by decide +kernel) (by decide +kernel) (by decide) (ev_var rfl) (ev_var rfl) ⟨rfl, rfl⟩


end K27

namespace K27
open PySem PySem.Spec PyProof.Rows L2 Dw
variable [Tabs0]
end K27

namespace K27
open PySem PySem.Spec PyProof.Rows L2 Dw
variable [Tabs0]
/-! the numbers are those of the rankings that fit -/
/-- a way through the heads from head on -/
inductive Way (rs : List (List Nat)) (n : Nat) : Nat → List Nat → Prop
  | done : Way rs n (2 ^ n - 1) []
  | step (head k : Nat) (o : List Nat) (h : head ≠ 2 ^ n - 1) (hk : k < n) (ho : openBit rs head k = true) (w : Way rs n (head ||| 2 ^ k) o) : Way rs n head (k :: o)
end K27

namespace K27
open PySem PySem.Spec PyProof.Rows L2 Dw
variable [Tabs0]
/-! what can be told -/
mutual
def rOk : Nat → D → Bool
  | _, .non => true | _, .int i => shOk (.int i) && decide (shB (.int i) ≤ 10) | _, .str x => PyData.strOk x && decide (x.length ≤ 300)
  | k + 1, .tup ds => rOks k ds | k + 1, .lst ds => rOks k ds
  | _, _ => false
def rOks : Nat → List D → Bool
  | _, [] => true
  | k, d :: ds => rOk k d && rOks k ds
end
mutual
def cntD : D → Nat
  | .tup ds => cntDs ds + 1 | .lst ds => cntDs ds + 1
  | _ => 1
def cntDs : List D → Nat
  | [] => 0
  | d :: ds => cntD d + cntDs ds
end
mutual
theorem rOk_sh : ∀ (k : Nat) (d : D), rOk k d = true → dOk k d = true ∧ shOk d = true ∧ shB d + 2 ≤ 3010 * cntD d
  | k, .non, _ => ⟨by cases k <;> rfl, rfl, by show 5 + 2 ≤ 3010 * 1; decide⟩
  | k, .int i, h => by
    have h : (shOk (.int i) && decide (shB (.int i) ≤ 10)) = true := by cases k <;> exact h
    rw [Bool.and_eq_true, decide_eq_true_eq] at h
    exact ⟨by cases k <;> rfl, h.1, by show _ ≤ 3010 * 1; have := h.2; omega⟩
  | k, .str x, h => by
    have h : (PyData.strOk x && decide (x.length ≤ 300)) = true := by cases k <;> exact h
    rw [Bool.and_eq_true, decide_eq_true_eq] at h
    obtain ⟨h1, h2⟩ := h
    exact ⟨by cases k <;> exact h1, rfl, by show 10 * x.length + 2 + 2 ≤ 3010 * 1; omega⟩
  | k + 1, .tup ds, h => by
    obtain ⟨h1, h2, h3⟩ := rOks_sh k ds h
    exact ⟨h1, h2, by show shBs ds + 4 + 2 ≤ 3010 * (cntDs ds + 1); omega⟩
  | k + 1, .lst ds, h => by
    obtain ⟨h1, h2, h3⟩ := rOks_sh k ds h
    exact ⟨h1, h2, by show shBs ds + 4 + 2 ≤ 3010 * (cntDs ds + 1); omega⟩
  | 0, .tup _, h => nomatch h
  | 0, .lst _, h => nomatch h
  | k, .bl _, h => by cases k <;> exact nomatch h
  | k, .dct _ _, h => by cases k <;> exact nomatch h
  | k, .obj _ _ _, h => by cases k <;> exact nomatch h
  | k, .raw _, h => by cases k <;> exact nomatch h
  | k, .purse, h => by cases k <;> exact nomatch h
  | k, .rng _ _, h => by cases k <;> exact nomatch h
  | k, .scr _ _, h => by cases k <;> exact nomatch h
  | k, .tag _, h => by cases k <;> exact nomatch h
  | k, .fnv _ _, h => by cases k <;> exact nomatch h
  | k, .clo _ _ _, h => by cases k <;> exact nomatch h
  | k, .tupN _, h => by cases k <;> exact nomatch h
theorem rOks_sh : ∀ (k : Nat) (ds : List D), rOks k ds = true → dOks k ds = true ∧ shOks ds = true ∧ shBs ds ≤ 3010 * cntDs ds
  | k, [], _ => ⟨by cases k <;> rfl, rfl, by show 0 ≤ _; exact Nat.zero_le _⟩
  | k, d :: ds, h => by
    have e : rOks k (d :: ds) = (rOk k d && rOks k ds) := by cases k <;> rfl
    rw [e, Bool.and_eq_true] at h
    obtain ⟨a1, a2, a3⟩ := rOk_sh k d h.1
    obtain ⟨b1, b2, b3⟩ := rOks_sh k ds h.2
    have e2 : dOks k (d :: ds) = (dOk k d && dOks k ds) := by cases k <;> rfl
    refine ⟨by rw [e2, a1, b1]; rfl, by show (shOk d && shOks ds) = true; rw [a2, b2]; rfl, ?_⟩
    show shB d + 2 + shBs ds ≤ 3010 * (cntD d + cntDs ds)
    omega
end
end K27

namespace K27
open PySem PySem.Spec PyProof.Rows L2 Dw
variable [Tabs0]
def spAllHoldG : Spc where
  ty := List (List Nat) × List Nat × Bool
  args := fun x => [rowsD x.2.2 x.1, .tup (ordD x.2.1)]
  ok := fun x => ∃ n, (∀ r ∈ x.1, RowOk r n) ∧ n ≤ 8 ∧ x.1.length ≤ 1000 ∧ ∀ k ∈ x.2.1, k < n
  rel := fun x d => d = .bl (x.1.all fun r => holdsB r x.2.1)
theorem ej_rows {K : PySem.W.Frag} {ta : TE} {Γ : Gam} {b : Bool} {rs : List (List Nat)} (h : Ev ta Γ (rowsD b rs)) : Ei (iAnyR K ta) Γ (nameD rs) := by
  cases b with
  | true => exact ej_list (Ev.b (ds := nameD rs) h)
  | false => exact ej_tup h
end K27

namespace K27
open PySem PySem.Spec PyProof.Rows L2 Dw
variable [Tabs0]
theorem d_row_holds {P : Program} {w : World} {K : PySem.W.Frag} {mg : Str → Option Value} {base : Heap} (T : Txt K w mg) : FnOk P w K mg base CX0 1 T.f_row_holds T.e_row_holds ["row", "ranking"] (toSp (spRowHolds)) := by
  refine fn_ok T.F_row_holds sc_row_holds (fun _ => rfl) fun cdv A outer s' H E hr => ?_
  refine ⟨_, (pss_cons (ps_for PassesOwn.never rfl (piR K (pv 1)) (pg_name (i := 2) sc_row_holds.nd rfl (Or.inl rfl)) (pss_one (ps_if (pt_cmpR (neA K hr.units) (pe_ix (ixA K) (pv 0) (pv 2) (fun _ _ => rfl)) pe_str (nomark _)) (pss_one (ps_ret (pe_cmpR (eqA K hr.units) (pe_ix (ixA K) (pv 0) (pv 2) (fun _ _ => rfl)) pe_str (nomark _)))) pss_nil))) (pss_one (ps_ret pe_bl))), fun x hx => ?_⟩
  obtain ⟨l, o⟩ := x
  obtain ⟨n, hl, h8, hk⟩ := hx
  have hl : RowOk l n := hl
  have hk : ∀ k ∈ o, k < n := hk
  refine ds_seq (ds_for (fun xs i Γ' => xs = ordD o ∧ ∃ s : Sl, Γ' = [.val (.str (tx l)), .val (.tup (ordD o)), s] ∧ ∀ k ∈ o.take i, sgn l k = 46)
    (dj_tup (Ev.dl (ev_var rfl) ⟨ordD o, rfl, ⟨rfl, _, rfl, fun k h => absurd h (by simp)⟩, fun i x Γ' hx' ⟨exs, s, e, hd⟩ => ?_, fun Γ' ⟨exs, s, e, hd⟩ => ?_⟩)))
  · subst e
    have hx3 : (o.map fun k : Nat => D.int k)[i]? = some x := hx'
    rw [List.getElem?_map] at hx3
    cases q : o[i]? with
    | none => rw [q] at hx3; cases hx3
    | some k =>
      rw [q] at hx3; cases hx3
      have hkn := hk k (List.mem_of_getElem? q)
      refine ⟨[2], _, dg_name, ds_if (EvT.dl (evt_test (ev_op (sgn_ev hl h8 hkn (ev_var rfl) (ev_var rfl)) ev_str ne_str')) ⟨fun h => ?_, fun h => ?_⟩)⟩
      · refine ds_ret (Ev.dl (ev_op (sgn_ev hl h8 hkn (ev_var rfl) (ev_var rfl)) ev_str eq_str') ?_)
        show D.bl _ = D.bl (holdsB l o)
        have hne : sgn l k ≠ 46 := fun z => by
          rw [z, ← ch_dot] at h
          simp at h
        rw [holds_at q hd hne, ch_plus]
        congr 1
        rw [Bool.eq_iff_iff]; simp [ch_eq]
      · refine ds_next ⟨exs, _, rfl, fun j hj => ?_⟩
        have hz : sgn l k = 46 := by
          rw [ch_dot] at h
          simpa [ch_eq] using h
        rw [List.take_add_one, q] at hj
        rcases List.mem_append.mp hj with hj | hj
        · exact hd j hj
        · rw [List.mem_singleton.mp hj]; exact hz
  · subst e
    rw [ordD_len, List.take_length] at hd
    exact ds_ret (Ev.dl ev_bl (congrArg D.bl (holds_dots hd).symm))
end K27

namespace K27
open PySem PySem.Spec PyProof.Rows L2 Dw
variable [Tabs0]
theorem d_all_hold {P : Program} {w : World} {K : PySem.W.Frag} {mg : Str → Option Value} {base : Heap} (T : Txt K w mg) : FnOk P w K mg base CX0 2 T.f_all_hold T.e_all_hold ["rows", "ranking"] (toSp (spAllHoldG)) := by
  refine fn_ok T.F_all_hold sc_all_hold (fun _ => rfl) fun cdv A outer s' H E hr => ?_
  refine ⟨_, (pss_one (ps_ret (pe_callB (allA K) (by rfl) T.n_all (by decide +kernel) (pa_cons (pe_lc (own := [("row", 2)]) rfl sc_all_hold.nd (piR K (pv 0)) (blkOk_by (own := [("row", 2)]) (N := N_all_hold) (sc := (defScope s_all_hold)) (by decide +kernel)) (fun _ _ _ _ _ => pg_name (i := 2) sc_all_hold.nd rfl (Or.inl rfl)) (fun _ _ _ _ _ => pts_nil) (fun _ _ _ _ _ => (pe_call (d_row_holds T) (hr.mono (by decide)) (by rfl) T.m_row_holds T.F_row_holds.kp T.b_row_holds .nil pass0 (pa_cons (pv 2) (pa_cons (pv 1) pa_nil))))) pa_nil)))), fun x hx => ?_⟩
  obtain ⟨rs, o, b⟩ := x
  obtain ⟨n, hr', h8, hz, hk⟩ := hx
  have hr' : ∀ r ∈ rs, RowOk r n := hr'
  have hz : rs.length ≤ 1000 := hz
  exact ds_ret (Ev.dl (ev_all_lc (K := K) (xs := rs) (c := fun r => .str (tx r)) (b := fun r => holdsB r o) (ej_rows (ev_var (d := rowsD b rs) rfl)) (by omega) fun r hr => ⟨[2], _, dg_name, fun i hi => hi, evt_yes, ev_call (s := spRowHolds) (x := (r, o)) (eva_cons (ev_var rfl) (eva_cons (ev_var rfl) eva_nil)) (np_to (r := []) rfl) ⟨n, hr' r hr, h8, hk⟩ fun d h => h⟩) rfl)
end K27

namespace K27
open PySem PySem.Spec PyProof.Rows L2 Dw
variable [Tabs0]
/-! claims about a book -/
inductive Cw where
  | fits | quarrels | follows (d : D) | opn (d : D) | above (a b : D)
def Cw.word : Cw → Str
  | .fits => "fits" | .quarrels => "quarrels" | .follows _ => "follows" | .opn _ => "open" | .above _ _ => "above"
def Cw.parts : Cw → List D
  | .fits => [] | .quarrels => [] | .follows d => [d] | .opn d => [d] | .above a b => [a, b]
end K27

namespace K27
open PySem PySem.Spec PyProof.Rows L2 Dw
variable [Tabs0]
/-! the law's own draws -/
def spAnyOf : Spc where
  ty := Bool × List D
  args := fun x => [.purse, if x.1 then .lst x.2 else .tup x.2]
  ok := fun x => 0 < x.2.length ∧ x.2.length < 100000
  rel := fun x d => d ∈ x.2
theorem plW_tup {z k : Nat} {ds : List D} (h1 : ds.length ≤ z) (h2 : ∀ d ∈ ds, plW z k d = true) : plW z (k + 1) (.tup ds) = true := by
  show (decide (ds.length ≤ z) && plWs z k ds) = true
  rw [decide_eq_true h1, Bool.true_and]
  exact plWs_iff.mpr h2
theorem plW_int (z k : Nat) (i : Int) : plW z k (.int i) = true := by cases k <;> rfl
theorem plW_pv {z k : Nat} {d : D} (h : plW z k d = true) (hz : z ≤ 60) (hk : k ≤ 12) : Pv d := plW_mono hz k 12 d hk h
theorem plW_ord {o : List Nat} {z : Nat} (h : o.length ≤ z) : plW z 1 (.tup (ordD o)) = true := plW_tup (by rw [ordD_len]; exact h) fun d hd => by
  obtain ⟨k, _, rfl⟩ := List.mem_map.mp hd
  exact plW_int _ _ _
end K27

namespace K27
open PySem PySem.Spec PyProof.Rows L2 Dw
variable [Tabs0]
end K27

namespace K27
open PySem PySem.Spec PyProof.Rows L2 Dw
variable [Tabs0]
/-! lots, quarrels and the rows that stay open, by the law's own look -/
end K27

namespace K27
open PySem PySem.Spec PyProof.Rows L2 Dw
variable [Tabs0]
/-! all rankings, and pairs of them -/
structure OrdI (n i : Nat) (o : List Nat) : Prop where
  len : o.length = i
  nd : o.Nodup
  lt : ∀ k ∈ o, k < n
end K27

namespace K27
open PySem PySem.Spec PyProof.Rows L2 Dw
variable [Tabs0]
/-! which rankings fit, by the layers and by walking through all -/
end K27

namespace K27
open PySem PySem.Spec PyProof.Rows L2 Dw
variable [Tabs0]
/-! cases: names with marks -/
structure NumOk (l : List Nat) (k : Nat) : Prop where
  lo : 1 ≤ l.length
  hi : l.length ≤ 2
  dig : ∀ c ∈ l, 48 ≤ c ∧ c ≤ 57
  lead : (decide (l = [48]) || !decide (sgn l 0 = 48)) = true
  val : NumText.digitsVal l = k
def numB (k : Nat) : Bool := decide (1 ≤ (TL.numL k).length) && decide ((TL.numL k).length ≤ 2) && (TL.numL k).all (fun c => decide (48 ≤ c) && decide (c ≤ 57)) && (decide (TL.numL k = [48]) || !decide (sgn (TL.numL k) 0 = 48)) && decide (NumText.digitsVal (TL.numL k) = k)
theorem num_all : (List.range 100).all numB = true := by decide +kernel
theorem num_ok {k : Nat} (h : k < 100) : NumOk (TL.numL k) k := by
  have := List.all_eq_true.mp num_all k (List.mem_range.mpr h)
  unfold numB at this
  rw [Bool.and_eq_true, Bool.and_eq_true, Bool.and_eq_true, Bool.and_eq_true, decide_eq_true_eq, decide_eq_true_eq, decide_eq_true_eq, List.all_eq_true] at this
  obtain ⟨⟨⟨⟨a, b⟩, c⟩, d⟩, e⟩ := this
  refine ⟨a, b, fun x hx => ?_, d, e⟩
  have := c x hx
  rw [Bool.and_eq_true, decide_eq_true_eq, decide_eq_true_eq] at this
  exact this
theorem digitsS : Str.ofString "0123456789" = tx ((List.range 10).map (48 + ·)) := by decide +kernel
theorem zeroS : Str.ofString "0" = ch 48 := by decide +kernel
theorem semiS : Str.ofString "; " = tx [59, 32] := by decide +kernel
def spIsNum : Spc where
  ty := List Nat × Nat
  args := fun x => [.str (tx x.1)]
  ok := fun x => NumOk x.1 x.2
  rel := fun _ d => d = .bl true
def spMark : Spc where
  ty := List Nat × Nat
  args := fun x => [.str (tx x.1)]
  ok := fun x => NumOk x.1 x.2 ∧ x.2 < 100
  rel := fun x d => d = .int x.2
def wordsL (p : List Nat × List Nat) : List (List Nat) := p.1 :: p.2.map TL.numL
def partT (p : List Nat × List Nat) : List Nat := TL.joinL [32] (wordsL p)
def caseTx (ls ms : List (List Nat)) : List Nat := TL.joinL [59, 32] ((ls.zip ms).map partT)
structure CaseOk (ls ms : List (List Nat)) (n : Nat) : Prop where
  names : NamesOk ls
  two : 2 ≤ ls.length
  same : ms.length = ls.length
  wide : ∀ m ∈ ms, m.length = n
  lo : 1 ≤ n
  hi : n ≤ 8
  marks : ∀ m ∈ ms, ∀ k ∈ m, k < 100
def caseD (ls ms : List (List Nat)) : D := .tup [.tupN (nameD ls), .tup (ms.map fun m => .tup (ordD m))]
def spReadC (f : Addr) (b : Bool) : Spc where
  ty := List (List Nat) × List (List Nat) × Nat
  args := fun x => .str (tx (caseTx x.1 x.2.1)) :: (if b then [.raw (.ref f)] else [])
  ok := fun x => CaseOk x.1 x.2.1 x.2.2
  rel := fun x d => d = caseD x.1 x.2.1
def agC (a b : Nat) : Nat := if a < b then 43 else if b < a then 45 else 46
def agR (a b : List Nat) : List Nat := (a.zip b).map fun p => agC p.1 p.2
theorem agR_ok {a b : List Nat} {n : Nat} (h1 : a.length = n) (h2 : b.length = n) : RowOk (agR a b) n := ⟨by unfold agR; rw [List.length_map, List.length_zip]; omega, fun c hc => by
  obtain ⟨p, _, rfl⟩ := List.mem_map.mp hc
  unfold agC
  by_cases h : p.1 < p.2
  · rw [if_pos h]; exact .inl rfl
  · rw [if_neg h]
    by_cases h2 : p.2 < p.1
    · rw [if_pos h2]; exact .inr (.inl rfl)
    · rw [if_neg h2]; exact .inr (.inr rfl)⟩
def spSignOf : Spc where
  ty := Nat × Nat
  args := fun x => [.int x.1, .int x.2]
  ok := fun _ => True
  rel := fun x d => d = .str (ch (agC x.1 x.2))
def spBetween : Spc where
  ty := List Nat × List Nat × Nat
  args := fun x => [.tup (ordD x.1), .tup (ordD x.2.1)]
  ok := fun x => x.1.length = x.2.2 ∧ x.2.1.length = x.2.2 ∧ x.2.2 ≤ 8
  rel := fun x d => d = .str (tx (agR x.1 x.2.1))
theorem ch_sameC {a b : Nat} : decide (ch a = ch b) = decide (a = b) := decide_eq_decide.mpr ch_eq
theorem zip_ord (a b : List Nat) : zipD (ordD a) (ordD b) = (a.zip b).map fun p => D.tup [.int (p.1 : Nat), .int (p.2 : Nat)] := by
  unfold zipD ordD
  rw [List.zip_map, List.map_map]; rfl
theorem ev_strK {Γ : Gam} {ta : TE} {i : Int} (h : Ev ta Γ (.int i)) (hz : i.natAbs.log2 < 1920) : Ev (tCB (fun xs H Q => ∃ i, xs = [.int i] ∧ i.natAbs.log2 < 1920 ∧ Q (.str (toString i)) H) (tCons ta tNil)) Γ (.str (Str.ofString (toString i))) := fun F σ W Q g k =>
  h F σ W _ g fun v H s r => ⟨i, by rw [show v = V.int i from r], hz, k _ H s rfl⟩
theorem ev_intS {Γ : Gam} {ta : TE} {a : Str} {n : Int} (h : Ev ta Γ (.str a)) (hn : PySem.intText? a = some n) (hl : a.length ≤ 640) : Ev (tCB (fun xs H Q => ∃ a n, xs = [.str a] ∧ PySem.intText? a = some n ∧ a.length ≤ 640 ∧ Q (.int n) H) (tCons ta tNil)) Γ (.int n) := fun F σ W Q g k =>
  h F σ W _ g fun v H s r => ⟨a, n, by rw [show v = V.str a from r], hn, hl, k _ H s rfl⟩
theorem NumOk.int {l : List Nat} {k : Nat} (h : NumOk l k) : PySem.intText? (tx l) = some (k : Int) := by
  have := SX.int_S (a := l) (List.all_eq_true.mpr fun c hc => by
    have := h.dig c hc
    rw [Bool.and_eq_true, decide_eq_true_eq, decide_eq_true_eq]; exact this) (fun e => by have := h.lo; rw [e] at this; cases this) (by have := h.hi; omega)
  rw [h.val] at this
  exact this
theorem names_zip {ls ms : List (List Nat)} (h : ms.length = ls.length) : (ls.zip ms).map (·.1) = ls := List.map_fst_zip (by omega)
theorem marks_zip {ls ms : List (List Nat)} (h : ms.length = ls.length) : (ls.zip ms).map (·.2) = ms := List.map_snd_zip (by omega)
theorem joinX_c {c : Nat} {sep : List Nat} (hs : c ∉ sep) : ∀ ps : List (List Nat), (∀ p ∈ ps, c ∉ p) → c ∉ TL.joinL sep ps
  | [], _, hc => absurd hc (by simp [TL.joinL])
  | [l], h, hc => h l List.mem_cons_self (by simpa [TL.joinL] using hc)
  | l :: m :: r, h, hc => by
    have e : TL.joinL sep (l :: m :: r) = l ++ (sep ++ TL.joinL sep (m :: r)) := by simp [TL.joinL]
    rw [e, List.mem_append, List.mem_append] at hc
    rcases hc with hc | hc | hc
    · exact h l List.mem_cons_self hc
    · exact hs hc
    · exact joinX_c hs (m :: r) (fun l' hl => h l' (List.mem_cons_of_mem _ hl)) hc
theorem joinL_lenB {m : Nat} (sep : List Nat) : ∀ ps : List (List Nat), (∀ p ∈ ps, p.length ≤ m) → (TL.joinL sep ps).length ≤ ps.length * (m + sep.length)
  | [], _ => by simp [TL.joinL]
  | [l], h => by
    have := h l List.mem_cons_self
    simp [TL.joinL]; omega
  | l :: q :: r, h => by
    have e : TL.joinL sep (l :: q :: r) = l ++ (sep ++ TL.joinL sep (q :: r)) := by simp [TL.joinL]
    have ih := joinL_lenB sep (q :: r) fun p hp => h p (List.mem_cons_of_mem _ hp)
    have h1 := h l List.mem_cons_self
    rw [e, List.length_append, List.length_append, List.length_cons (a := l), Nat.succ_mul]
    omega
theorem CaseOk.zip {ls ms : List (List Nat)} {n : Nat} (h : CaseOk ls ms n) {p : List Nat × List Nat} (hp : p ∈ ls.zip ms) : NameOk p.1 ∧ p.2.length = n ∧ ∀ k ∈ p.2, k < 100 :=
  ⟨h.names.all _ (List.of_mem_zip hp).1, h.wide _ (List.of_mem_zip hp).2, h.marks _ (List.of_mem_zip hp).2⟩
theorem words_no {p : List Nat × List Nat} {n c : Nat} (h : NameOk p.1 ∧ p.2.length = n ∧ ∀ k ∈ p.2, k < 100) (hc : c = 32 ∨ c = 59) : ∀ w ∈ wordsL p, c ∉ w := fun w hw hm => by
  rcases List.mem_cons.mp hw with rfl | hw
  · have := h.1.all c hm; omega
  · obtain ⟨k, hk, rfl⟩ := List.mem_map.mp hw
    have := (num_ok (h.2.2 k hk)).dig c hm; omega
theorem words_len {p : List Nat × List Nat} {n : Nat} (h : NameOk p.1 ∧ p.2.length = n ∧ ∀ k ∈ p.2, k < 100) : (wordsL p).length = n + 1 := by
  unfold wordsL
  rw [List.length_cons, List.length_map, h.2.1]
theorem words_8 {p : List Nat × List Nat} {n : Nat} (h : NameOk p.1 ∧ p.2.length = n ∧ ∀ k ∈ p.2, k < 100) : ∀ w ∈ wordsL p, w.length ≤ 8 := fun w hw => by
  rcases List.mem_cons.mp hw with rfl | hw
  · exact h.1.hi
  · obtain ⟨k, hk, rfl⟩ := List.mem_map.mp hw
    have := (num_ok (h.2.2 k hk)).hi; omega
theorem CaseOk.part {ls ms : List (List Nat)} {n : Nat} (h : CaseOk ls ms n) {q : List Nat} (hq : q ∈ (ls.zip ms).map partT) : q.length ≤ 81 ∧ 59 ∉ q := by
  obtain ⟨p, hp, rfl⟩ := List.mem_map.mp hq
  have hz := h.zip hp
  refine ⟨?_, joinX_c (by simp) _ fun w hw => words_no hz (.inr rfl) w hw⟩
  have := joinL_lenB (m := 8) [32] (wordsL p) fun w hw => words_8 hz w hw
  rw [words_len hz] at this
  have h8 := h.hi
  have : (n + 1) * (8 + [32].length) ≤ 9 * 9 := Nat.mul_le_mul (by omega) (by decide)
  show (TL.joinL [32] (wordsL p)).length ≤ 81
  omega
theorem CaseOk.zl {ls ms : List (List Nat)} {n : Nat} (h : CaseOk ls ms n) : (ls.zip ms).length = ls.length := by
  rw [List.length_zip, h.same, Nat.min_self]
theorem CaseOk.len {ls ms : List (List Nat)} {n : Nat} (h : CaseOk ls ms n) : (caseTx ls ms).length ≤ 664 := by
  have := joinL_lenB (m := 81) [59, 32] ((ls.zip ms).map partT) fun q hq => (h.part hq).1
  rw [List.length_map, h.zl] at this
  have h8 := h.names.hi
  have : ls.length * (81 + [59, 32].length) ≤ 8 * 83 := Nat.mul_le_mul h8 (by decide)
  unfold caseTx
  omega
theorem CaseOk.split {ls ms : List (List Nat)} {n : Nat} (h : CaseOk ls ms n) : (Txt.split (tx (caseTx ls ms)) (Str.ofString "; ")).map D.str = (ls.zip ms).map fun p => D.str (tx (partT p)) := by
  have hne : (ls.zip ms).map partT ≠ [] := fun e => by
    have h2 := h.two
    have := congrArg List.length e
    rw [List.length_map, h.zl] at this
    have : ls.length = 0 := this
    omega
  have e := SX.split_S (a := caseTx ls ms) (b := [59, 32]) (by simp) (by decide)
  unfold caseTx at e
  rw [SX.spl_join hne fun q hq => (h.part hq).2] at e
  rw [semiS]
  show (Txt.split (tx (TL.joinL [59, 32] ((ls.zip ms).map partT))) (tx [59, 32])).map D.str = _
  rw [show Txt.split (tx (TL.joinL [59, 32] ((ls.zip ms).map partT))) (tx [59, 32]) = ((ls.zip ms).map partT).map tx from e, List.map_map, List.map_map]; rfl
theorem words_split {p : List Nat × List Nat} {n : Nat} (h : NameOk p.1 ∧ p.2.length = n ∧ ∀ k ∈ p.2, k < 100) : (Txt.split (tx (partT p)) (Str.ofString " ")).map D.str = nameD (wordsL p) := by
  unfold partT
  rw [split_sp (by unfold wordsL; simp) (words_no h (.inl rfl)), nameD_map]
theorem inV_non (o : List Nat) : inV .non ((ordD o).map scV) = false := by
  unfold inV ordD
  rw [List.map_map, List.any_map, List.any_eq_false]
  intro k _
  show ¬ (eqV (V.int (k : Int)) V.non = true)
  exact Bool.false_ne_true
end K27

namespace K27
open PySem PySem.Spec PyProof.Rows L2 Dw
variable [Tabs0]
theorem d_is_number {P : Program} {w : World} {K : PySem.W.Frag} {mg : Str → Option Value} {base : Heap} (T : Txt K w mg) : FnOk P w K mg base CX0 1 T.f_is_number T.e_is_number ["word"] (toSp (spIsNum)) := by
  refine fn_ok T.F_is_number sc_is_number (fun _ => rfl) fun cdv A outer s' H E hr => ?_
  refine ⟨_, (pss_cons (ps_if (PW.pt (pw_or (pt_cmpR (eqA K hr.units) (pv 0) pe_str (nomark _)) (pw_or1 (pt_not (truA K (pe_callB (allA K) (by rfl) T.n_all (by decide +kernel) (pa_cons (pe_lc (own := [("digit", 1)]) rfl sc_is_number.nd (piR K (pv 0)) (blkOk_by (own := [("digit", 1)]) (N := N_is_number) (sc := (defScope s_is_number)) (by decide +kernel)) (fun _ _ _ _ _ => pg_name (i := 1) sc_is_number.nd rfl (Or.inl rfl)) (fun _ _ _ _ _ => pts_nil) (fun _ _ _ _ _ => (pe_cmpR (inA K) (pv 1) (pe_glob (v := .str "0123456789") (by rfl) T.c_DIGITS ⟨_, rfl⟩) (by rfl)))) pa_nil))))))) (pss_one (ps_ret pe_bl)) pss_nil) (pss_one (ps_ret (pe_or (pe_cmpR (eqA K hr.units) (pv 0) pe_str (nomark _)) (pe_one (pe_cmpR (neA K hr.units) (pe_ix (ixA K) (pv 0) pe_int (fun _ _ => rfl)) pe_str (nomark _))))))), fun x hx => ?_⟩
  obtain ⟨l, k⟩ := x
  have ho : NumOk l k := hx
  have h1 := ho.lo
  have h2 := ho.hi
  have ne : decide (tx l = Str.ofString "") = false := decide_eq_false fun e => by
    rw [show Str.ofString "" = tx [] by decide +kernel, tx_eq] at e
    rw [e] at h1; exact absurd h1 (by decide)
  refine ds_seq (ds_if (EvT.dl (b := false) (evt_or (a := false) (b := false) (evt_test (ev_op (ev_var rfl) ev_str (eq_sb ne))) fun _ => evt_not (a := true) (evt_tru_bl (ev_cast (congrArg D.bl (all_yes (xs := l) (b := fun _ => true) fun _ _ => rfl)) (ev_all_lc (K := K) (xs := l) (c := fun c => .str (ch c)) (b := fun _ => true) ?it (by omega) fun c hc => ⟨[1], _, dg_name, fun i hi => hi, evt_yes, ev_op (ev_var rfl) ev_str ?dg⟩)))) ⟨fun h => (nomatch h), fun _ => ds_next ?_⟩))
  case it =>
    have := ej_str (K := K) (ta := tVar 0) (Γ := Gz0 2 (spIsNum.args (l, k))) (x := tx l) (ev_var rfl)
    rw [signs_tx, List.map_map] at this
    exact this
  case dg =>
    rw [digitsS]
    have e : decide (c ∈ (List.range 10).map (48 + ·)) = true := decide_eq_true (by
      have := ho.dig c hc
      exact List.mem_map.mpr ⟨c - 48, List.mem_range.mpr (by omega), by omega⟩)
    exact e ▸ in_code
  · refine ds_ret (Ev.dl (ev_cast (congrArg D.bl ho.lead) (ev_orV (ev_op (ev_var rfl) ev_str (eq_sb ?a)) fun _ => ev_op (ev_op (ev_var rfl) ev_int (dr2_ixS (x := tx l) (by rw [tx_len]; exact small (by omega)) (sgn_at (l := l) (k := 0) rfl (by omega)))) ev_str (ne_sb ?b))) rfl)
    case a =>
      rw [zeroS]
      exact decide_eq_decide.mpr (tx_eq (b := [48]))
    case b =>
      rw [zeroS]
      show (!decide (ch (sgn l 0) = ch 48)) = _
      rw [ch_sameC]
end K27

namespace K27
open PySem PySem.Spec PyProof.Rows L2 Dw
variable [Tabs0]
theorem d_read_mark {P : Program} {w : World} {K : PySem.W.Frag} {mg : Str → Option Value} {base : Heap} (T : Txt K w mg) : FnOk P w K mg base CX0 2 T.f_read_mark T.e_read_mark ["word"] (toSp (spMark)) := by
  refine fn_ok T.F_read_mark sc_read_mark (fun _ => rfl) fun cdv A outer s' H E hr => ?_
  refine ⟨_, (pss_cons (ps_if (PW.pt (pw_or (pt_not (truA K (pe_call (d_is_number T) (hr.mono (by decide)) (by rfl) T.m_is_number T.F_is_number.kp T.b_is_number .nil pass0 (pa_cons (pv 0) pa_nil)))) (pw_or (pt_cmpR opGt (pe_callB (lenA K) (by rfl) T.n_len (by decide +kernel) (pa_cons (pv 0) pa_nil)) (pe_callB (lenA K) (by rfl) T.n_len (by decide +kernel) (pa_cons (pe_callTy call_str_int (by rfl) T.n_str (by decide +kernel) (pa_cons (pe_glob (v := .int 99) (by rfl) T.c_MOST_MARKS ⟨_, rfl⟩) pa_nil)) pa_nil)) (nomark _)) (pw_or1 (pt_cmpR opGt (pe_callTy call_int_str (by rfl) T.n_int (by decide +kernel) (pa_cons (pv 0) pa_nil)) (pe_glob (v := .int 99) (by rfl) T.c_MOST_MARKS ⟨_, rfl⟩) (nomark _)))))) (pss_one (ps_ret pe_non)) pss_nil) (pss_one (ps_ret (pe_callTy call_int_str (by rfl) T.n_int (by decide +kernel) (pa_cons (pv 0) pa_nil))))), fun x hx => ?_⟩
  obtain ⟨l, k⟩ := x
  obtain ⟨ho, hk⟩ := hx
  have ho : NumOk l k := ho
  have hk : k < 100 := hk
  have h2 := ho.hi
  have s2 : (Str.ofString (toString (99 : Int))).length = 2 := by decide +kernel
  have hl2 : (tx l).length ≤ 2 := by rw [tx_len]; exact h2
  have hz : (tx l).length ≤ sizeLine := by rw [tx_len]; exact small (by omega)
  have hi : Ev (tCB (fun xs H Q => ∃ a n, xs = [.str a] ∧ PySem.intText? a = some n ∧ a.length ≤ 640 ∧ Q (.int n) H) (tCons (tVar 0) tNil)) (Gz0 1 (spMark.args (l, k))) (.int k) := ev_intS (ev_var rfl) ho.int (Nat.le_trans hl2 (by decide))
  refine ds_seq (ds_if (EvT.dl (b := false) (evt_or (a := false) (b := false) (evt_not (a := true) (evt_tru_bl (ev_call (s := spIsNum) (x := (l, k)) (eva_cons (ev_var rfl) eva_nil) rfl ho fun d h => h))) fun _ => evt_or (a := false) (b := false) (evt_test (ev_op (ev_lenS (ev_var rfl) hz) (ev_lenS (ev_strK ev_int (by decide)) (by rw [s2]; decide)) (gt_b (decide_eq_false (by rw [s2]; show ¬ ((2 : Nat) : Int) < ((tx l).length : Int); omega))))) fun _ => evt_test (ev_op hi ev_int (gt_b (decide_eq_false (by omega))))) ⟨fun h => (nomatch h), fun _ => ds_next (ds_ret (Ev.dl hi rfl))⟩))
end K27

namespace K27
open PySem PySem.Spec PyProof.Rows L2 Dw
variable [Tabs0]
theorem d_sign_of {P : Program} {w : World} {K : PySem.W.Frag} {mg : Str → Option Value} {base : Heap} (T : Txt K w mg) : FnOk P w K mg base CX0 1 T.f_sign_of T.e_sign_of ["mark", "rival"] (toSp (spSignOf)) := by
  refine fn_ok T.F_sign_of sc_sign_of (fun _ => rfl) fun cdv A outer s' H E hr => ?_
  refine ⟨_, (pss_cons (ps_if (pt_cmpR opLt (pv 0) (pv 1) (nomark _)) (pss_one (ps_ret pe_str)) pss_nil) (pss_one (ps_ret (pe_ifExp (pt_cmpR opGt (pv 0) (pv 1) (nomark _)) pe_str pe_str)))), fun x hx => ?_⟩
  obtain ⟨a, b⟩ := x
  refine ds_seq (ds_if (EvT.dl (evt_test (ev_op (ev_var rfl) (ev_var rfl) lt_int')) ⟨fun h => ds_ret (Ev.dl ev_str ?_), fun h => ds_next (ds_ret (Ev.dl (ev_if (evt_test (ev_op (ev_var rfl) (ev_var rfl) dr2_gt)) (fun _ => ev_str) fun _ => ev_str) ?_))⟩))
  · have h : decide ((a : Int) < (b : Int)) = true := h
    have h := of_decide_eq_true h
    show D.str (Str.ofString "+") = D.str (ch (agC a b))
    rw [ch_plus, show agC a b = 43 from if_pos (by omega)]
  · have h : decide ((a : Int) < (b : Int)) = false := h
    have h := of_decide_eq_false h
    by_cases h2 : b < a
    · have e : agC a b = 45 := (if_neg (by omega)).trans (if_pos h2)
      refine (if_pos (decide_eq_true (show (b : Int) < (a : Int) by omega))).trans ?_
      show D.str (Str.ofString "-") = D.str (ch (agC a b))
      rw [ch_minus, e]
    · have e : agC a b = 46 := (if_neg (by omega)).trans (if_neg h2)
      refine (if_neg (by rw [decide_eq_true_eq]; show ¬ (b : Int) < (a : Int); omega)).trans ?_
      show D.str (Str.ofString ".") = D.str (ch (agC a b))
      rw [ch_dot, e]
end K27

namespace K27
open PySem PySem.Spec PyProof.Rows L2 Dw
variable [Tabs0]
theorem d_row_between {P : Program} {w : World} {K : PySem.W.Frag} {mg : Str → Option Value} {base : Heap} (T : Txt K w mg) : FnOk P w K mg base CX0 2 T.f_row_between T.e_row_between ["mine", "theirs"] (toSp (spBetween)) := by
  refine fn_ok T.F_row_between sc_row_between (fun _ => rfl) fun cdv A outer s' H E hr => ?_
  refine ⟨_, (pss_one (ps_ret (joinA K pe_str (pe_lc (own := [("mark", 2), ("rival", 3)]) rfl sc_row_between.nd (zipA K (by rfl) T.n_zip (pa_cons (pv 0) (pa_cons (pv 1) pa_nil))) (blkOk_by (own := [("mark", 2), ("rival", 3)]) (N := N_row_between) (sc := (defScope s_row_between)) (by decide +kernel)) (fun _ _ _ _ _ => tupA K 2 rfl (pgs_cons (pg_name (i := 2) sc_row_between.nd rfl (Or.inl rfl)) (pgs_cons (pg_name (i := 3) sc_row_between.nd rfl (Or.inl rfl)) pgs_nil))) (fun _ _ _ _ _ => pts_nil) (fun _ _ _ _ _ => (pe_call (d_sign_of T) (hr.mono (by decide)) (by rfl) T.m_sign_of T.F_sign_of.kp T.b_sign_of .nil pass0 (pa_cons (pv 2) (pa_cons (pv 3) pa_nil)))))))), fun x hx => ?_⟩
  obtain ⟨a, b, n⟩ := x
  obtain ⟨ha, hb, h8⟩ := hx
  have ha : a.length = n := ha
  have hb : b.length = n := hb
  have h8 : n ≤ 8 := h8
  have hl : (agR a b).length = n := (agR_ok ha hb).len
  refine ds_ret (Ev.dl (ev_join (x := Str.ofString "") (ys := (agR a b).map ch) ev_str (EvN.b ?_) ?_) ?_)
  · have e1 : ((agR a b).map ch).map D.str = (a.zip b).map fun p => D.str (ch (agC p.1 p.2)) := by
      unfold agR
      rw [List.map_map, List.map_map]; rfl
    rw [e1]
    refine evn_lc1 (xs := a.zip b) (c := fun p => .tup [.int (p.1 : Nat), .int (p.2 : Nat)]) (by rw [← zip_ord]; exact ei_zipT (ev_var rfl) (ev_var rfl)) (by rw [List.length_zip]; omega) fun p hp => ⟨[2] ++ [3], _, dg_tup2 dg_name dg_name, fun i hi => hi, evt_yes, ev_call (s := spSignOf) (x := (p.1, p.2)) (eva_cons (ev_var rfl) (eva_cons (ev_var rfl) eva_nil)) rfl trivial fun d h => h⟩
  · rw [chs_len, List.length_map, hl]
    show n + n * 0 ≤ _
    omega
  · show D.str _ = D.str _
    rw [join_chs]
end K27

namespace K27
open PySem PySem.Spec PyProof.Rows L2 Dw
variable [Tabs0]
theorem d_read_candidates {P : Program} {w : World} {K : PySem.W.Frag} {mg : Str → Option Value} {base : Heap} (T : Txt K w mg) : FnOk P w K mg base CX0 3 T.f_read_candidates T.e_read_candidates ["text", "read_word"] (toSp (spReadC T.f_read_mark true)) := by
  refine fn_ok T.F_read_candidates sc_read_candidates (fun _ => rfl) fun cdv A outer s' H E hr => ?_
  refine ⟨_, (pss_cons (ps_if (pt_not (truA K (pe_callB (isiA K) (by rfl) T.n_isinstance (by decide +kernel) (pa_cons (pv 0) (pa_cons (pe_bltn (v := .ty "str") (by rfl) T.n_str (by decide +kernel) rfl) pa_nil))))) (pss_one (ps_ret pe_non)) pss_nil) (pss_cons (ps_setLc (i := 2) (own := [("part", 6)]) rfl sc_read_candidates.nd rfl rfl (sw_true rfl rfl rfl (by decide +kernel)) (piR K (pe_split (pv 0) pe_str)) (blkOk_by (own := [("part", 6)]) (N := N_read_candidates) (sc := (defScope s_read_candidates)) (by decide +kernel)) (fun _ _ _ _ _ => pg_name (i := 6) sc_read_candidates.nd rfl (Or.inl rfl)) (fun _ _ _ _ _ => pts_nil) (fun _ _ _ _ _ => (pe_split (pv 6) pe_str))) (pss_cons (ps_set (i := 3) sc_read_candidates.nd rfl (Or.inl rfl) (pe_callTy (tupleFA K) (by rfl) T.n_tuple (by decide +kernel) (pa_cons (pe_lc (own := [("words", 7)]) rfl sc_read_candidates.nd (piR K (pv 2)) (blkOk_by (own := [("words", 7)]) (N := N_read_candidates) (sc := (defScope s_read_candidates)) (by decide +kernel)) (fun _ _ _ _ _ => pg_name (i := 7) sc_read_candidates.nd rfl (Or.inl rfl)) (fun _ _ _ _ _ => pts_nil) (fun _ _ _ _ _ => (pe_ix (ixA K) (pv 7) pe_int (fun _ _ => rfl)))) pa_nil))) (pss_cons (ps_if (PW.pt (pw_or (pt_not (pt_chain opLe opLe (pe_glob (v := .int 2) (by rfl) T.c_LEAST_CANDIDATES ⟨_, rfl⟩) (pe_callB (lenA K) (by rfl) T.n_len (by decide +kernel) (pa_cons (pv 3) pa_nil)) (pe_glob (v := .int 8) (by rfl) T.c_MOST_CANDIDATES ⟨_, rfl⟩))) (pw_or1 (pt_not (truA K (pe_call (d_are_names T) (hr.mono (by decide)) (by rfl) T.m_are_names T.F_are_names.kp T.b_are_names .nil pass0 (pa_cons (pv 3) pa_nil))))))) (pss_one (ps_ret pe_non)) pss_nil) (pss_cons (ps_set (i := 4) sc_read_candidates.nd rfl (Or.inr rfl) (pe_op op_sub (pe_callB (lenA K) (by rfl) T.n_len (by decide +kernel) (pa_cons (pe_ix (ixA K) (pv 2) pe_int (fun _ _ => rfl)) pa_nil)) pe_int)) (pss_cons (ps_if (PW.pt (pw_or (pt_not (pt_chain opLe opLe pe_int (pv 4) (pe_glob (v := .int 8) (by rfl) T.c_MOST_RULES ⟨_, rfl⟩))) (pw_or1 (pt_not (truA K (pe_callB (allA K) (by rfl) T.n_all (by decide +kernel) (pa_cons (pe_lc (own := [("words", 7)]) rfl sc_read_candidates.nd (piR K (pv 2)) (blkOk_by (own := [("words", 7)]) (N := N_read_candidates) (sc := (defScope s_read_candidates)) (by decide +kernel)) (fun _ _ _ _ _ => pg_name (i := 7) sc_read_candidates.nd rfl (Or.inl rfl)) (fun _ _ _ _ _ => pts_nil) (fun _ _ _ _ _ => (pe_cmpR (eqA K hr.units) (pe_callB (lenA K) (by rfl) T.n_len (by decide +kernel) (pa_cons (pv 7) pa_nil)) (pe_op (plusF K) (pv 4) pe_int) (nomark _)))) pa_nil))))))) (pss_one (ps_ret pe_non)) pss_nil) (pss_cons (ps_set (i := 5) sc_read_candidates.nd rfl (Or.inl rfl) (pe_callTy (tupleFA K) (by rfl) T.n_tuple (by decide +kernel) (pa_cons (pe_lc (own := [("words", 7)]) rfl sc_read_candidates.nd (piR K (pv 2)) (blkOk_by (own := [("words", 7)]) (N := N_read_candidates) (sc := (defScope s_read_candidates)) (by decide +kernel)) (fun _ _ _ _ _ => pg_name (i := 7) sc_read_candidates.nd rfl (Or.inl rfl)) (fun _ _ _ _ _ => pts_nil) (fun _ _ _ _ _ => (pe_callTy (tupleFA K) (by rfl) T.n_tuple (by decide +kernel) (pa_cons (pe_lc (own := [("word", 9)]) rfl sc_read_candidates.nd (piR K (pe_slice (slXA K) (pv 7) (po_some pe_int) po_none)) (blkOk_by (own := [("word", 9)]) (N := N_read_candidates) (sc := (relS { kind := .function, names := [(".0", .local), ("words", .local), ("tuple", .globalImplicit), ("read_word", .free)], isGenerator := false, isCoroutine := false, more := [] } (defScope s_read_candidates))) (by decide +kernel)) (fun _ _ _ _ _ => pg_name (i := 9) sc_read_candidates.nd rfl (Or.inl rfl)) (fun _ _ _ _ _ => pts_nil) (fun _ _ _ _ _ => (pe_callL (i := 1) (d_read_mark T) (hr.mono (by decide)) (by rfl) (Or.inr (Or.inl (by rfl))) T.F_read_mark.kp T.b_read_mark .nil pass0 (pa_cons (pv 9) pa_nil)))) pa_nil)))) pa_nil))) (pss_cons (ps_if (pt_not (truA K (pe_callB (allA K) (by rfl) T.n_all (by decide +kernel) (pa_cons (pe_lc (own := [("row", 8)]) rfl sc_read_candidates.nd (piR K (pv 5)) (blkOk_by (own := [("row", 8)]) (N := N_read_candidates) (sc := (defScope s_read_candidates)) (by decide +kernel)) (fun _ _ _ _ _ => pg_name (i := 8) sc_read_candidates.nd rfl (Or.inl rfl)) (fun _ _ _ _ _ => pts_nil) (fun _ _ _ _ _ => (pe_cmpR (ninA K) pe_non (pv 8) (by rfl)))) pa_nil)))) (pss_one (ps_ret pe_non)) pss_nil) (pss_one (ps_ret (pe_tupF (pa_cons (pv 3) (pa_cons (pv 5) pa_nil))))))))))))), fun x hx => ?_⟩
  obtain ⟨ls, ms, n⟩ := x
  have hc : CaseOk ls ms n := hx
  have h8 := hc.names.hi
  have h2 := hc.two
  have n1 := hc.lo
  have n8 := hc.hi
  have hlen := hc.len
  have zl := hc.zl
  have zz : ∀ p ∈ ls.zip ms, NameOk p.1 ∧ p.2.length = n ∧ ∀ k ∈ p.2, k < 100 := fun p hp => hc.zip hp
  have l1 : (nameD ls).length = ls.length := List.length_map ..
  have wl : ∀ p ∈ ls.zip ms, (nameD (wordsL p)).length = n + 1 := fun p hp => (List.length_map ..).trans (words_len (zz p hp))
  have en : (ls.zip ms).map (fun p => D.str (tx p.1)) = nameD ls := by
    unfold nameD
    conv => rhs; rw [← names_zip hc.same]
    rw [List.map_map]; rfl
  have em : (ls.zip ms).map (fun p => D.tup (ordD p.2)) = ms.map fun m => D.tup (ordD m) := by
    conv => rhs; rw [← marks_zip hc.same]
    rw [List.map_map]; rfl
  obtain ⟨z0, hz0⟩ : ∃ z, (ls.zip ms)[0]? = some z := ⟨_, List.getElem?_eq_getElem (by omega)⟩
  have hz0m := List.mem_of_getElem? hz0
  refine ds_seq (ds_if (EvT.dl (b := false) (evt_not (a := true) (evt_tru_bl (ev_isi (ev_var rfl) ev_raw (.inl rfl) (.ty "str") rfl))) ⟨fun h => (nomatch h), fun _ => ds_next ?_⟩))
  refine ds_seq (ds_asg (Ev.dl (EvN.ev (evn_lc1 (xs := ls.zip ms) (c := fun p => .str (tx (partT p))) (f := fun p => .lst (nameD (wordsL p))) (hc.split ▸ ej_list (EvN.b (evn_split (a := tx (caseTx ls ms)) (ev_var rfl) ev_str (by decide +kernel) (by rw [tx_len]; exact small (by omega))))) (by omega) fun p hp => ⟨[6], _, dg_name, fun i hi => hi, evt_yes, ev_cast (congrArg D.lst (words_split (zz p hp))) (EvN.ev (evn_split (a := tx (partT p)) (ev_var rfl) ev_str (by decide +kernel) (by rw [tx_len]; have := (hc.part (List.mem_map_of_mem (f := partT) hp)).1; exact small (by omega))))⟩)) ?_))
  have pv : ∀ Γ : Gam, Γ[2]? = some (.val (.lst ((ls.zip ms).map fun p => D.lst (nameD (wordsL p))))) → Ei (iAnyR K (tVar 2)) Γ ((ls.zip ms).map fun p => D.lst (nameD (wordsL p))) := fun Γ h => ej_list (ev_var h).b
  refine ds_seq (ds_asg (Ev.dl (ev_cast (congrArg D.tupN en) (ev_tupleN (EvN.b (evn_lc1 (xs := ls.zip ms) (c := fun p => .lst (nameD (wordsL p))) (f := fun p => .str (tx p.1)) (pv _ rfl) (by omega) fun p hp => ⟨[7], _, dg_name, fun i hi => hi, evt_yes, ev_ix (ev_var (d := .lst (nameD (wordsL p))) rfl).b ev_int (atI_nat (j := 0) rfl)⟩)))) ?_))
  refine ds_seq (ds_if (EvT.dl (b := false) (evt_or (a := false) (b := false) (evt_not (a := true) (evt_chain (p := true) (q := true) ev_int (ev_lenT (ds := nameD ls) (ev_dn (ev_var rfl))) (fun _ => ev_int) (le_b (decide_eq_true (by omega))) fun _ => le_b (decide_eq_true (by omega)))) fun _ => evt_not (a := true) (evt_tru_bl (ev_call (s := spNamesG) (x := nameD ls) (eva_cons (ev_dn (ev_var rfl)) eva_nil) (np_tup (np_name _)) (pv_names hc.names.all (by omega)) fun d h => by rw [h, names_ok hc.names]))) ⟨fun h => (nomatch h), fun _ => ds_next ?_⟩))
  refine ds_seq (ds_asg (Ev.dl (ev_cast (d' := .int (n : Nat)) (congrArg D.int (by rw [wl z0 hz0m]; omega)) (ev_op (ev_len (ds := nameD (wordsL z0)) (Ev.b (ev_ix (ev_var (d := .lst ((ls.zip ms).map fun p => D.lst (nameD (wordsL p)))) rfl).b ev_int (atI_nat (j := 0) (by rw [List.getElem?_map, hz0]; rfl))))) ev_int dr2_sub)) ?_))
  refine ds_seq (ds_if (EvT.dl (b := false) (evt_or (a := false) (b := false) (evt_not (a := true) (evt_chain (p := true) (q := true) ev_int (ev_var rfl) (fun _ => ev_int) (le_b (decide_eq_true (by omega))) fun _ => le_b (decide_eq_true (by omega)))) fun _ => evt_not (a := true) (evt_tru_bl (ev_cast (congrArg D.bl (all_yes (xs := ls.zip ms) (b := fun _ => true) fun _ _ => rfl)) (ev_all_lc (K := K) (xs := ls.zip ms) (c := fun p => .lst (nameD (wordsL p))) (b := fun _ => true) (pv _ rfl) (by omega) fun p hp => ⟨[7], _, dg_name, fun i hi => hi, evt_yes, ev_op (ev_len (ds := nameD (wordsL p)) (ev_var rfl).b) (ev_op (ev_var rfl) ev_int (plF_of (pl_int (i := (n : Int)) (j := 1)))) (eq_ib (by rw [wl p hp]; exact decide_eq_true (by omega)))⟩)))) ⟨fun h => (nomatch h), fun _ => ds_next ?_⟩))
  refine ds_seq (ds_asg (Ev.dl (ev_cast (congrArg D.tup em) (ev_tupleF (EvN.b (evn_lc1 (xs := ls.zip ms) (c := fun p => .lst (nameD (wordsL p))) (f := fun p => .tup (ordD p.2)) (pv _ rfl) (by omega) fun p hp => ⟨[7], _, dg_name, fun i hi => hi, evt_yes, ev_tupleF (EvN.b (evn_lc1 (xs := p.2) (c := fun k => .str (tx (TL.numL k))) (f := fun k : Nat => D.int k) ?sl (by have := (zz p hp).2.1; omega) fun k hk => ⟨[9], _, dg_name, fun i hi => hi, evt_yes, ev_callL (s := spMark) (x := (TL.numL k, k)) rfl (eva_cons (ev_var rfl) eva_nil) rfl ⟨num_ok ((zz p hp).2.2 k hk), (zz p hp).2.2 k hk⟩ fun d h => h⟩))⟩)))) ?_))
  case sl =>
    have e : Dw.cutD (nameD (wordsL p)) (some 1) none = p.2.map fun k => D.str (tx (TL.numL k)) := by
      rw [cut_tail]
      unfold wordsL nameD
      rw [List.map_cons, List.drop_one, List.tail_cons, List.map_map]; rfl
    exact e ▸ ej_list (EvN.b (evn_sliceY (ds := nameD (wordsL p)) (ev_var rfl).b (eo_some ev_int) eo_none))
  refine ds_seq (ds_if (EvT.dl (b := false) (evt_not (a := true) (evt_tru_bl (ev_cast (congrArg D.bl (all_yes (xs := ms) (b := fun _ => true) fun _ _ => rfl)) (ev_all_lc (K := K) (xs := ms) (c := fun m => .tup (ordD m)) (b := fun _ => true) (ej_tup (ev_var rfl)) (by have := hc.same; omega) fun m hm => ⟨[8], _, dg_name, fun i hi => hi, evt_yes, ev_cast (congrArg D.bl (congrArg not (inV_non m))) (ev_inT (K := K) (neg := true) (d := .non) (ds := ordD m) ev_non (ev_var rfl) rfl (sc_ord m))⟩)))) ⟨fun h => (nomatch h), fun _ => ds_next ?_⟩))
  exact ds_ret (Ev.dl (ev_tupF (eva_cons (ev_var rfl) (eva_cons (ev_var rfl) eva_nil)) (small (show 2 ≤ 100000 by decide))) rfl)
end K27

namespace K27
open PySem PySem.Spec PyProof.Rows L2 Dw
variable [Tabs0]
theorem d_read_case {P : Program} {w : World} {K : PySem.W.Frag} {mg : Str → Option Value} {base : Heap} (T : Txt K w mg) : FnOk P w K mg base CX0 4 T.f_read_case T.e_read_case ["text"] (toSp (spReadC T.f_read_mark false)) := by
  refine fn_ok T.F_read_case sc_read_case (fun _ => rfl) fun cdv A outer s' H E hr => ?_
  refine ⟨_, (pss_one (ps_ret (pe_call (d_read_candidates T) (hr.mono (by decide)) (by rfl) T.m_read_candidates T.F_read_candidates.kp T.b_read_candidates .nil pass0 (pa_cons (pv 0) (pa_cons (pe_glob (v := .ref T.f_read_mark) (by rfl) T.m_read_mark rfl) pa_nil))))), fun x hx => ?_⟩
  obtain ⟨ls, ms, n⟩ := x
  exact ds_ret (Ev.dl (ev_call (s := spReadC T.f_read_mark true) (x := (ls, ms, n)) (eva_cons (ev_var rfl) (eva_cons ev_raw eva_nil)) rfl hx fun d h => h) rfl)
end K27

namespace K27
open PySem PySem.Spec PyProof.Rows L2 Dw
variable [Tabs0]
theorem inc_pair : ∀ {ls : List (List Nat)}, (∀ p ∈ ls.zip (ls.drop 1), p.1 < p.2) → ls.Pairwise (· < ·)
  | [], _ => .nil
  | [a], _ => List.pairwise_singleton ..
  | a :: b :: r, h => by
    have hab : a < b := h (a, b) List.mem_cons_self
    have ih := inc_pair (ls := b :: r) fun p hp => h p (List.mem_cons_of_mem _ hp)
    refine List.pairwise_cons.mpr ⟨fun x hx => ?_, ih⟩
    rcases List.mem_cons.mp hx with rfl | hx
    · exact hab
    · exact List.lt_trans hab ((List.pairwise_cons.mp ih).1 x hx)
theorem NamesOk.pw {ls : List (List Nat)} (h : NamesOk ls) : ls.Pairwise (· < ·) := inc_pair h.inc
theorem rowAt_get {ls : List (List Nat)} {a : Nat} (h : a < ls.length) : rowAt ls a = ls[a] := by
  unfold rowAt
  rw [List.getD_eq_getElem?_getD, List.getElem?_eq_getElem h]; rfl
theorem rowAt_lt {ls : List (List Nat)} (h : ls.Pairwise (· < ·)) {a b : Nat} (hb : b < ls.length) (hab : a < b) : rowAt ls a < rowAt ls b := by
  rw [rowAt_get hb, rowAt_get (by omega)]
  exact List.pairwise_iff_getElem.mp h a b (by omega) hb hab
theorem rowAt_inj {ls : List (List Nat)} (h : ls.Pairwise (· < ·)) {a b : Nat} (ha : a < ls.length) (hb : b < ls.length) (e : rowAt ls a = rowAt ls b) : a = b := by
  rcases Nat.lt_trichotomy a b with h1 | h1 | h1
  · have := rowAt_lt h hb h1
    rw [e] at this
    exact absurd this (List.lt_irrefl _)
  · exact h1
  · have := rowAt_lt h ha h1
    rw [e] at this
    exact absurd this (List.lt_irrefl _)
theorem rowAt_mem {ls : List (List Nat)} {a : Nat} (h : a < ls.length) : rowAt ls a ∈ ls := by rw [rowAt_get h]; exact List.getElem_mem h
theorem inV_name (c : List Nat) : ∀ ls : List (List Nat), inV (.str (tx c)) ((nameD ls).map scV) = decide (c ∈ ls)
  | [] => rfl
  | b :: l => by
    show ((tx b == tx c) || inV (.str (tx c)) ((nameD l).map scV)) = _
    rw [inV_name c l, Bool.eq_iff_iff]
    simp only [Bool.or_eq_true, beq_iff_eq, tx_eq, decide_eq_true_eq, List.mem_cons]
    constructor
    · rintro (h | h)
      · exact .inl h.symm
      · exact .inr h
    · rintro (h | h)
      · exact .inl h.symm
      · exact .inr h
theorem sc_names (ls : List (List Nat)) : (nameD ls).all isSc = true := by
  unfold nameD
  rw [List.all_map, List.all_eq_true]
  exact fun _ _ => rfl
def idxM (m i : Nat) : List Nat := (List.range m).filter fun k => !decide (k = i)
def rwM (ms : List (List Nat)) (i : Nat) : List (List Nat) := (idxM ms.length i).map fun k => agR (rowAt ms i) (rowAt ms k)
theorem idxM_lt {m i k : Nat} (h : k ∈ idxM m i) : k < m ∧ k ≠ i := by
  obtain ⟨h1, h2⟩ := List.mem_filter.mp h
  exact ⟨List.mem_range.mp h1, by simpa using h2⟩
theorem idxM_len (m i : Nat) : (idxM m i).length ≤ m := by
  refine Nat.le_trans (List.length_filter_le _ _) ?_
  rw [List.length_range]; exact Nat.le_refl _
theorem rwM_ok {ls ms : List (List Nat)} {n i : Nat} (h : CaseOk ls ms n) (hi : i < ls.length) : ∀ r ∈ rwM ms i, RowOk r n := fun r hr => by
  obtain ⟨k, hk, rfl⟩ := List.mem_map.mp hr
  have := idxM_lt hk
  have e := h.same
  exact agR_ok (h.wide _ (rowAt_mem (by omega))) (h.wide _ (rowAt_mem this.1))
end K27

namespace K27
open PySem PySem.Spec PyProof.Rows L2 Dw
variable [Tabs0]
/-! cases drawn and told by the law -/
def msD (ms : List (List Nat)) : List D := ms.map fun m => D.tup (ordD m)
theorem msD_at {ms : List (List Nat)} {k : Nat} (h : k < ms.length) : (msD ms)[k]? = some (.tup (ordD (rowAt ms k))) := by
  unfold msD
  rw [List.getElem?_map, List.getElem?_eq_getElem h, rowAt_get h]; rfl
theorem nameD_ix {ls : List (List Nat)} {k : Nat} (h : k < ls.length) : (nameD ls)[k]? = some (.str (tx (rowAt ls k))) := by
  unfold nameD
  rw [List.getElem?_map, List.getElem?_eq_getElem h, rowAt_get h]; rfl
end K27

namespace K27
open PySem PySem.Spec PyProof.Rows L2 Dw
variable [Tabs0]
/-! cases as things of the program, and what they certify -/
def caseO (C : Addr) (ls ms : List (List Nat)) : D := .obj C ["_text", "_names", "_marks"] [.str (tx (caseTx ls ms)), .tupN (nameD ls), .tup (msD ms)]
theorem np_msD (ms : List (List Nat)) : noPs (msD ms) = true := noPs_map (f := fun m => D.tup (ordD m)) (fun m => np_ord m) ms
theorem np_caseO {C : Addr} {ls ms : List (List Nat)} {r : List D} (h : noPs r = true) : noPs (caseO C ls ms :: r) = true := by
  show ((true && (noPs (nameD ls) && (noPs (msD ms) && true))) && noPs r) = true
  rw [np_name, np_msD, h]; rfl
theorem idx_name {ls : List (List Nat)} {i : Nat} (pw : ls.Pairwise (· < ·)) (hi : i < ls.length) : (ls.map tx).idxOf (tx (rowAt ls i)) = i := by
  have hm : tx (rowAt ls i) ∈ ls.map tx := List.mem_map_of_mem (rowAt_mem hi)
  have h1 := idx_at hm
  have hlt : (ls.map tx).idxOf (tx (rowAt ls i)) < ls.length := by
    have := List.idxOf_lt_length_iff.mpr hm
    rw [List.length_map] at this
    exact this
  generalize (ls.map tx).idxOf (tx (rowAt ls i)) = j at h1 hlt
  rw [List.getElem?_map, List.getElem?_eq_getElem hlt] at h1
  have h1 : tx ls[j] = tx (rowAt ls i) := Option.some.inj h1
  exact rowAt_inj pw hlt hi (by rw [rowAt_get hlt]; exact tx_eq.mp h1)
theorem names_range (ls : List (List Nat)) : (List.range ls.length).map (fun k => D.str (tx (rowAt ls k))) = nameD ls := by
  unfold nameD
  refine List.ext_getElem (by simp) fun k h1 h2 => ?_
  have hk : k < ls.length := by simpa using h2
  rw [List.getElem_map, List.getElem_map, List.getElem_range, rowAt_get hk]
abbrev CaseT := List (List Nat) × List (List Nat) × Nat
def spCInit : Spc where
  ty := CaseT
  args := fun x => [.str (tx (caseTx x.1 x.2.1))]
  ok := fun x => CaseOk x.1 x.2.1 x.2.2
  rel := fun x d => d = .tup [.str (tx (caseTx x.1 x.2.1)), .tupN (nameD x.1), .tup (msD x.2.1)]
def spCkCase (C : Addr) : Spc where
  ty := CaseT
  args := fun x => [caseO C x.1 x.2.1]
  ok := fun _ => True
  rel := fun _ d => d = .non
def spCText (C : Addr) : Spc where
  ty := CaseT
  args := fun x => [caseO C x.1 x.2.1]
  ok := fun _ => True
  rel := fun x d => d = .str (tx (caseTx x.1 x.2.1))
def spCNames (C : Addr) : Spc where
  ty := CaseT
  args := fun x => [caseO C x.1 x.2.1]
  ok := fun _ => True
  rel := fun x d => d = .tupN (nameD x.1)
def spCMarks (C : Addr) : Spc where
  ty := CaseT
  args := fun x => [caseO C x.1 x.2.1]
  ok := fun _ => True
  rel := fun x d => d = .tup (msD x.2.1)
def spKnown : Spc where
  ty := List (List Nat) × Nat
  args := fun x => [.str (tx (rowAt x.1 x.2)), .tupN (nameD x.1)]
  ok := fun x => x.2 < x.1.length
  rel := fun _ d => d = .non
def spAgC (C : Addr) : Spc where
  ty := CaseT × Nat × Nat
  args := fun x => [caseO C x.1.1 x.1.2.1, .str (tx (rowAt x.1.1 x.2.1)), .str (tx (rowAt x.1.1 x.2.2))]
  ok := fun x => CaseOk x.1.1 x.1.2.1 x.1.2.2 ∧ x.2.1 < x.1.1.length ∧ x.2.2 < x.1.1.length
  rel := fun x d => d = .str (tx (agR (rowAt x.1.2.1 x.2.1) (rowAt x.1.2.1 x.2.2)))
def spRowsOf (C : Addr) : Spc where
  ty := CaseT × Nat
  args := fun x => [caseO C x.1.1 x.1.2.1, .str (tx (rowAt x.1.1 x.2))]
  ok := fun x => CaseOk x.1.1 x.1.2.1 x.1.2.2 ∧ x.2 < x.1.1.length
  rel := fun x d => d = .tup (nameD (rwM x.1.2.1 x.2))
end K27

namespace K27
open PySem PySem.Spec PyProof.Rows L2 Dw
variable [Tabs0]
theorem d_Case___init__ {P : Program} {w : World} {K : PySem.W.Frag} {mg : Str → Option Value} {base : Heap} (T : Txt K w mg) : FnOk P w K mg base CX0 5 T.f_Case___init__ T.e_Case___init__ ["self", "text"] (toIn T.C_Case ["_text", "_names", "_marks"] spCInit) := by
  refine in_ok T.F_Case___init__ sc_Case___init__ (fun _ => rfl) fun cdv A outer s' H E hr => ?_
  refine ⟨_, (pss_cons (ps_set (i := 2) sc_Case___init__.nd rfl (Or.inl rfl) (pe_call (d_read_case T) (hr.mono (by decide)) (by rfl) T.m_read_case T.F_read_case.kp T.b_read_case .nil pass0 (pa_cons (pv 1) pa_nil))) (pss_cons (ps_if (pt_cmpR op_isN (pv 2) pe_non (nomark _)) (pss_one ps_never) pss_nil) (pss_cons (ps_fld (pv 0) (pv 1) rfl) (pss_one (ps_asg (pv 2) (tupA K 2 rfl (pgs_cons (pg_fld (pv 0)) (pgs_cons (pg_fld (pv 0)) pgs_nil)))))))), fun x hx a => ?_⟩
  obtain ⟨ls, ms, n⟩ := x
  have hc : CaseOk ls ms n := hx
  refine di_seq (di_of (ds_asg (Ev.dl (ev_call (s := spReadC T.f_read_mark false) (d := .tup [.tupN (nameD ls), .tup (msD ms)]) (x := (ls, ms, n)) (eva_cons (ev_var rfl) eva_nil) rfl hc fun d h => h) ?_)))
  refine di_seq (di_of (ds_if (EvT.dl (b := false) (evt_test (ev_op (ev_var rfl) ev_non (dr2_isN fun W v h => ?_))) ⟨fun h => (nomatch h), fun _ => ds_next ?_⟩)))
  · obtain ⟨p, vs, e, _⟩ := h
    rw [e]; exact decide_eq_false fun h => nomatch h
  refine di_seq (di_fld T.cl_Case T.cno_text (by simp) (by decide) (ev_var rfl) (ev_var rfl) ?_)
  exact di_fld2 T.cl_Case T.cno_names T.cno_marks (by decide +kernel) (by decide +kernel) (by decide) (ev_var rfl) (ev_var rfl) ⟨rfl, rfl⟩

end K27

namespace K27
open PySem PySem.Spec PyProof.Rows L2 Dw
variable [Tabs0]
theorem d_Case_names {P : Program} {w : World} {K : PySem.W.Frag} {mg : Str → Option Value} {base : Heap} (T : Txt K w mg) : FnOk P w K mg base CX0 1 T.f_Case_names T.e_Case_names ["self"] (toSp (spCNames T.C_Case)) := by
  refine fn_ok T.F_Case_names sc_Case_names (fun _ => rfl) fun cdv A outer s' H E hr => ?_
  refine ⟨_, (pss_one (ps_ret (fldA K (pv 0)))), fun x hx => ?_⟩
  obtain ⟨ls, ms, n⟩ := x
  exact ds_ret (Ev.dl (ev_fld T.cl_Case T.cno_names (ev_var rfl) (by rfl)) rfl)
end K27

namespace K27
open PySem PySem.Spec PyProof.Rows L2 Dw
variable [Tabs0]
theorem d_Case_marks {P : Program} {w : World} {K : PySem.W.Frag} {mg : Str → Option Value} {base : Heap} (T : Txt K w mg) : FnOk P w K mg base CX0 1 T.f_Case_marks T.e_Case_marks ["self"] (toSp (spCMarks T.C_Case)) := by
  refine fn_ok T.F_Case_marks sc_Case_marks (fun _ => rfl) fun cdv A outer s' H E hr => ?_
  refine ⟨_, (pss_one (ps_ret (fldA K (pv 0)))), fun x hx => ?_⟩
  obtain ⟨ls, ms, n⟩ := x
  exact ds_ret (Ev.dl (ev_fld T.cl_Case T.cno_marks (ev_var rfl) (by rfl)) rfl)
end K27

namespace K27
open PySem PySem.Spec PyProof.Rows L2 Dw
variable [Tabs0]
theorem d_row_against {P : Program} {w : World} {K : PySem.W.Frag} {mg : Str → Option Value} {base : Heap} (T : Txt K w mg) : FnOk P w K mg base CX0 3 T.f_row_against T.e_row_against ["case", "one", "other"] (toSp (spAgC T.C_Case)) := by
  refine fn_ok T.F_row_against sc_row_against (fun _ => rfl) fun cdv A outer s' H E hr => ?_
  refine ⟨_, (pss_one (ps_ret (pe_call (d_row_between T) (hr.mono (by decide)) (by rfl) T.m_row_between T.F_row_between.kp T.b_row_between .nil pass0 (pa_cons (pe_ix (ixA K) (pe_prop (pv 0) T.cl_Case T.p_Case_marks (d_Case_marks T) (hr.mono (by decide)) T.b_Case_marks .nil pass0 rfl) (pe_tm PySem.F.slot_tuple_index PySem.F.type_tuple_index (tidxA K) (pe_prop (pv 0) T.cl_Case T.p_Case_names (d_Case_names T) (hr.mono (by decide)) T.b_Case_names .nil pass0 rfl) (pa_cons (pv 1) pa_nil)) (fun _ _ => rfl)) (pa_cons (pe_ix (ixA K) (pe_prop (pv 0) T.cl_Case T.p_Case_marks (d_Case_marks T) (hr.mono (by decide)) T.b_Case_marks .nil pass0 rfl) (pe_tm PySem.F.slot_tuple_index PySem.F.type_tuple_index (tidxA K) (pe_prop (pv 0) T.cl_Case T.p_Case_names (d_Case_names T) (hr.mono (by decide)) T.b_Case_names .nil pass0 rfl) (pa_cons (pv 2) pa_nil)) (fun _ _ => rfl)) pa_nil))))), fun x hx => ?_⟩
  obtain ⟨⟨ls, ms, n⟩, i, k⟩ := x
  obtain ⟨hc, hi, hk⟩ := hx
  have hc : CaseOk ls ms n := hc
  have hi : i < ls.length := hi
  have hk : k < ls.length := hk
  have sm := hc.same
  have pw := hc.names.pw
  refine ds_ret (Ev.dl (ev_call (s := spBetween) (x := (rowAt ms i, rowAt ms k, n)) (eva_cons (ev_ixT (d := .tup (ordD (rowAt ms i))) (ds := msD ms) (ev_prop (s := spCMarks T.C_Case) (x := (ls, ms, n)) (ev_var rfl) rfl (np_caseO (r := []) rfl) trivial fun d h => h) (ev_cast (congrArg (fun j : Nat => D.int j) (idx_name pw hi)) (ev_tidxS (o := ls.map tx) (c := tx (rowAt ls i)) (ev_cast (congrArg D.tupN (nameD_map ls).symm) (ev_prop (s := spCNames T.C_Case) (x := (ls, ms, n)) (ev_var rfl) rfl (np_caseO (r := []) rfl) trivial fun d h => h)) (ev_var rfl) (List.mem_map_of_mem (rowAt_mem hi)))) (atI_nat (msD_at (by omega)))) (eva_cons (ev_ixT (d := .tup (ordD (rowAt ms k))) (ds := msD ms) (ev_prop (s := spCMarks T.C_Case) (x := (ls, ms, n)) (ev_var rfl) rfl (np_caseO (r := []) rfl) trivial fun d h => h) (ev_cast (congrArg (fun j : Nat => D.int j) (idx_name pw hk)) (ev_tidxS (o := ls.map tx) (c := tx (rowAt ls k)) (ev_cast (congrArg D.tupN (nameD_map ls).symm) (ev_prop (s := spCNames T.C_Case) (x := (ls, ms, n)) (ev_var rfl) rfl (np_caseO (r := []) rfl) trivial fun d h => h)) (ev_var rfl) (List.mem_map_of_mem (rowAt_mem hk)))) (atI_nat (msD_at (by omega)))) eva_nil)) (np_to (np_to (r := []) rfl)) ⟨hc.wide _ (rowAt_mem (by omega)), hc.wide _ (rowAt_mem (by omega)), hc.hi⟩ fun d h => h) rfl)
end K27

namespace K27
open PySem PySem.Spec PyProof.Rows L2 Dw
variable [Tabs0]
theorem d_rows_of {P : Program} {w : World} {K : PySem.W.Frag} {mg : Str → Option Value} {base : Heap} (T : Txt K w mg) : FnOk P w K mg base CX0 4 T.f_rows_of T.e_rows_of ["case", "one"] (toSp (spRowsOf T.C_Case)) := by
  refine fn_ok T.F_rows_of sc_rows_of (fun _ => rfl) fun cdv A outer s' H E hr => ?_
  refine ⟨_, (pss_one (ps_ret (pe_callTy (tupleA K) (by rfl) T.n_tuple (by decide +kernel) (pa_cons (pe_lc (own := [("other", 2)]) rfl sc_rows_of.nd (piR K (pe_prop (pv 0) T.cl_Case T.p_Case_names (d_Case_names T) (hr.mono (by decide)) T.b_Case_names .nil pass0 rfl)) (blkOk_by (own := [("other", 2)]) (N := N_rows_of) (sc := (defScope s_rows_of)) (by decide +kernel)) (fun _ _ _ _ _ => pg_name (i := 2) sc_rows_of.nd rfl (Or.inl rfl)) (fun _ _ _ _ _ => pts_one (pt_cmpR (neA K hr.units) (pv 2) (pv 1) (nomark _))) (fun _ _ _ _ _ => (pe_call (d_row_against T) (hr.mono (by decide)) (by rfl) T.m_row_against T.F_row_against.kp T.b_row_against .nil pass0 (pa_cons (pv 0) (pa_cons (pv 1) (pa_cons (pv 2) pa_nil)))))) pa_nil)))), fun x hx => ?_⟩
  obtain ⟨⟨ls, ms, n⟩, i⟩ := x
  obtain ⟨hc, hi⟩ := hx
  have hc : CaseOk ls ms n := hc
  have hi : i < ls.length := hi
  have sm := hc.same
  have pw := hc.names.pw
  have h8 := hc.names.hi
  refine ds_ret (Ev.dl (ev_cast (d' := .tup (nameD (rwM ms i))) (by unfold rwM idxM nameD; rw [List.map_map, sm]; rfl) (ev_tuple (EvN.b (evn_lc (xs := List.range ls.length) (c := fun k => .str (tx (rowAt ls k))) (p := fun k => !decide (k = i)) (f := fun k => .str (tx (agR (rowAt ms i) (rowAt ms k)))) ?ej (by rw [List.length_range]; omega) fun k hk => ⟨[2], _, dg_name, fun i hi => hi, evt_test (ev_op (ev_var rfl) (ev_var rfl) (ne_sb (congrArg not (decide_eq_decide.mpr ⟨fun e => rowAt_inj pw (List.mem_range.mp hk) hi (tx_eq.mp e), fun e => by rw [e]⟩)))), fun _ => ev_call (s := spAgC T.C_Case) (x := ((ls, ms, n), i, k)) (eva_cons (ev_var rfl) (eva_cons (ev_var rfl) (eva_cons (ev_var rfl) eva_nil))) (np_caseO (r := [_, _]) rfl) ⟨hc, hi, List.mem_range.mp hk⟩ fun d h => h⟩)))) rfl)
  rw [names_range]
  exact ej_tup (ev_dn (ev_prop (s := spCNames T.C_Case) (x := (ls, ms, n)) (ev_var rfl) rfl (np_caseO (r := []) rfl) trivial fun d h => h))
end K27

namespace K27
open PySem PySem.Spec PyProof.Rows L2 Dw
variable [Tabs0]
/-! the jar and what is drawn from it -/
def strs2 : List Str := ["a", "ann", "b", "bob", "cid", "cost", "near", "safe", "zzzzzzzz", "tell", "rows", "undo", "x", "none", "sure", "count", "m"]
def lab2 : List (List Nat) := strs2.map fun s => s.cps.toList
theorem lab2_D : nameD lab2 = strs2.map D.str := by
  unfold nameD lab2
  rw [List.map_map]
  exact List.map_congr_left fun s _ => congrArg D.str (of_tx s)
theorem lab2_ok : ∀ l ∈ lab2, NameOk l := by
  have h : lab2.all nameB = true := by decide +kernel
  exact fun l hl => nameB_ok (List.all_eq_true.mp h l hl)
theorem lab2_nd : lab2.Nodup := by decide +kernel
/-- names of their own, put in order -/
theorem names_ofN {lab : List (List Nat)} (hok : ∀ l ∈ lab, NameOk l) {zs : List Str} {acc : List (List Nat)} {n : Nat} (hn : acc.Nodup) (hp : ∀ l ∈ acc, l ∈ lab) (hz : zs.Perm (acc.map tx)) (hs : sortedS zs = true) (hl : acc.length = n) (h1 : 1 ≤ n) (h8 : n ≤ 8) :
    NamesOk (zs.map fun s => s.cps.toList) := by
  have ln : zs.length = n := by rw [hz.length_eq, List.length_map, hl]
  have nd : zs.Nodup := hz.nodup_iff.mpr (nodup_tx hn)
  refine ⟨by rw [List.length_map]; omega, by rw [List.length_map]; omega, fun l h => ?_, ?_⟩
  · obtain ⟨s, h1, rfl⟩ := List.mem_map.mp h
    obtain ⟨m, h2, rfl⟩ := List.mem_map.mp (hz.mem_iff.mp h1)
    show NameOk (tx m).cps.toList
    rw [tx_cps]
    exact hok m (hp m h2)
  · cases zs with
    | nil => exact fun p hp => by cases hp
    | cons x r => exact rising_inc x r hs nd
def stepAt (a s : Nat) (k : Nat) : Nat := (a + s * k) % 17
theorem step_lt (a s k : Nat) : stepAt a s k < 17 := Nat.mod_lt _ (by decide)
theorem steps_nd : ∀ a < 17, ∀ s < 17, 1 ≤ s → ((List.range 8).map (stepAt a s)).Nodup := by decide +kernel
theorem tags_nd {a s n : Nat} (ha : a < 17) (hs : s < 17) (h1 : 1 ≤ s) (h8 : n ≤ 8) : ((List.range n).map fun k => rowAt lab2 (stepAt a s k)).Nodup := by
  have h := steps_nd a ha s hs h1
  have e : List.range n = (List.range 8).take n := by rw [List.take_range]; congr 1; omega
  have h2 : ((List.range n).map (stepAt a s)).Nodup := by
    rw [e, List.map_take]
    exact h.sublist (List.take_sublist _ _)
  have h3 : (List.range n).map (fun k => rowAt lab2 (stepAt a s k)) = ((List.range n).map (stepAt a s)).map (rowAt lab2) := by rw [List.map_map]; rfl
  rw [h3]
  unfold List.Nodup at h2 ⊢
  rw [List.pairwise_map]
  refine h2.imp_of_mem fun {x y} hx hy hxy he => hxy ?_
  obtain ⟨i, _, rfl⟩ := List.mem_map.mp hx
  obtain ⟨j, _, rfl⟩ := List.mem_map.mp hy
  have l1 := step_lt a s i
  have l2 := step_lt a s j
  rw [rowAt_get (show _ < lab2.length from l1), rowAt_get (show _ < lab2.length from l2)] at he
  exact (List.getElem_inj lab2_nd).mp he
def spTags : Spc where
  ty := Nat
  args := fun n => [.purse, .int n]
  ok := fun n => 1 ≤ n ∧ n ≤ 8
  rel := fun n d => ∃ ls, d = .lst (nameD ls) ∧ NamesOk ls ∧ ls.length = n ∧ ∀ l ∈ ls, l ∈ lab2
def pairDm (p : List Nat × List Nat) : D := .tup [.str (tx p.1), .tup (ordD p.2)]
def folkD (ls ms : List (List Nat)) : List D := (ls.zip ms).map pairDm
def spFolk : Spc where
  ty := Nat × Nat × Nat
  args := fun x => [.purse, .int x.1, .int x.2.1, .int x.2.2]
  ok := fun x => 1 ≤ x.1 ∧ x.1 ≤ 8 ∧ 2 ≤ x.2.1 ∧ x.2.1 ≤ x.2.2 ∧ x.2.2 ≤ 8
  rel := fun x d => ∃ ls ms, d = .lst (folkD ls ms) ∧ CaseOk ls ms x.1 ∧ x.2.1 ≤ ls.length ∧ ls.length ≤ x.2.2 ∧ ∀ l ∈ ls, l ∈ lab2
def spPage : Spc where
  ty := List (List Nat) × List (List Nat) × Nat
  args := fun x => [.lst (folkD x.1 x.2.1)]
  ok := fun x => CaseOk x.1 x.2.1 x.2.2
  rel := fun x d => d = .str (tx (caseTx x.1 x.2.1))
def spCell (K : PySem.W.Frag) : Spc where
  ty := List Int × Nat
  args := fun x => [.scr K (x.1.map V.int), .int x.2]
  ok := fun x => x.1.length ≤ 63
  rel := fun _ d => ∃ z : Int, d = .int z
theorem at_step (a s k : Nat) : atI (nameD lab2) (((a : Int) + (s : Int) * (k : Int)) % 17) = some (.str (tx (rowAt lab2 (stepAt a s k)))) := by
  have e : ((a : Int) + (s : Int) * (k : Int)) % 17 = ((stepAt a s k : Nat) : Int) := by
    unfold stepAt
    rw [Int.natCast_emod, Int.natCast_add, Int.natCast_mul]; rfl
  rw [e]
  exact rowAt_at (show _ < lab2.length from step_lt a s k)
theorem dg_tup3J {K : PySem.W.Frag} {g1 g2 g3 : TG} {is js ks : List Nat} {x y z : D} {Γ Γ1 Γ2 Γ3 : Gam} (h1 : DG g1 is x Γ Γ1) (h2 : DG g2 js y Γ1 Γ2) (h3 : DG g3 ks z Γ2 Γ3) : DG (gTup K 3 (gCons g1 (gCons g2 (gCons g3 gNil)))) (is ++ (js ++ ks)) (.tup [x, y, z]) Γ Γ3 := fun F σ W v R g r k => by
  obtain ⟨a, vs, e, ha, nu, v1, _, rfl, r1, v2, _, rfl, r2, v3, _, rfl, r3, rfl⟩ := r
  refine ⟨a, [v1, v2, v3], e, ha.sq, rfl, v1, [v2, v3], rfl, h1 F σ W v1 _ g r1 fun σ1 g1 w1 => ⟨v2, [v3], rfl, h2 F σ1 W v2 _ g1 r2 fun σ2 g2 w2 => ⟨v3, [], rfl, h3 F σ2 W v3 _ g2 r3 fun σ3 g3 w3 => ⟨rfl, k σ3 g3 fun vs h => ?_⟩⟩⟩⟩
  rw [w3 vs fun i hi => h i (List.mem_append_right _ (List.mem_append_right _ hi)), w2 vs fun i hi => h i (List.mem_append_right _ (List.mem_append_left _ hi)), w1 vs fun i hi => h i (List.mem_append_left _ hi)]
theorem nameD_inj : ∀ {a b : List (List Nat)}, nameD a = nameD b → a = b
  | [], [], _ => rfl
  | [], _ :: _, h => nomatch h
  | _ :: _, [], h => nomatch h
  | x :: a, y :: b, h => by
    have h : D.str (tx x) :: nameD a = D.str (tx y) :: nameD b := h
    injection h with h1 h2
    injection h1 with h1
    rw [tx_eq.mp h1, nameD_inj h2]
end K27

namespace K27
open PySem PySem.Spec PyProof.Rows L2 Dw
variable [Tabs0]
theorem d__law_cell {P : Program} {w : World} {K : PySem.W.Frag} {mg : Str → Option Value} {base : Heap} (T : Txt K w mg) : FnOk P w K mg base CX0 1 T.f__law_cell T.e__law_cell ["_law_cells", "_law_k"] (toSp (spCell K)) := by
  refine fn_ok T.F__law_cell sc__law_cell (fun _ => rfl) fun cdv A outer s' H E hr => ?_
  refine ⟨_, (pss_cons (ps_if (pt_cmpR opLt (pv 1) (pe_callB (lenA K) (by rfl) T.n_len (by decide +kernel) (pa_cons (pv 0) pa_nil)) (nomark _)) (pss_one (ps_ret (pe_ix (ixA K) (pv 0) (pv 1) (fun _ _ => rfl)))) pss_nil) (pss_cons (ps_set (i := 2) sc__law_cell.nd rfl (Or.inl rfl) (pe_op (plusE K) pe_int (pe_op opTimes pe_int (pv 1)))) (pss_cons (ps_for PassesOwn.never rfl (piR K (pe_slice (slXA K) (pv 0) po_none (po_some pe_int))) (pg_name (i := 3) sc__law_cell.nd rfl (Or.inl rfl)) (pss_one (ps_set (i := 2) sc__law_cell.nd rfl (Or.inl rfl) (pe_op op_mod (pe_callTy call_int1 (by rfl) T.n_int (by decide +kernel) (pa_cons (pe_op (plusE K) (pe_op (plusE K) (pe_op opTimes (pv 2) pe_int) (pe_op opTimes (pv 3) pe_int)) (pv 1)) pa_nil)) pe_int)))) (pss_one (ps_ret (pv 2)))))), fun x hx => ?_⟩
  obtain ⟨ns, k⟩ := x
  have hn : ns.length ≤ 63 := hx
  have l0 : (ns.map V.int).length = ns.length := List.length_map ..
  refine ds_seq (ds_if (EvT.dl (b := decide ((k : Int) < ((ns.map V.int).length : Int))) (evt_test (ev_op (ev_var rfl) (ev_lenX (ev_var rfl)) lt_int')) ⟨fun h => ds_ret (Ev.dl (ev_ixX (z := ns.getD k 0) (ev_var rfl) (ev_var rfl) (scr_at ?_)) ⟨_, rfl⟩), fun _ => ds_next ?_⟩))
  · have := of_decide_eq_true h
    rw [l0] at this
    show k < ns.length
    omega
  refine ds_seq (ds_asg (Ev.dl (ev_op ev_int (ev_op ev_int (ev_var rfl) (times_int (.inl ⟨by decide, by decide⟩))) pl_int) ?_))
  refine ds_seq (ds_for (fun xs i Γ' => (∀ x ∈ xs, ∃ z : Int, x = .int z) ∧ ∃ (made : Int) (s3 : Sl), Γ' = [.val (.scr K (ns.map V.int)), .val (.int k), .val (.int made), s3])
      (dj_list (Ev.dl (EvN.ev (evn_sliceXY (hi := some 5) (ev_var rfl) eo_none (eo_some ev_int))) ⟨_, rfl, ⟨fun x hx => ?_, _, _, rfl⟩, fun i x Γ' hx' ⟨hx0, made, s3, e⟩ => ?_, fun Γ' ⟨hx0, made, s3, e⟩ => ?_⟩)))
  · obtain ⟨z, _, rfl⟩ := List.mem_map.mp hx
    exact ⟨z, rfl⟩
  · subst e
    obtain ⟨z, rfl⟩ := hx0 x (List.mem_of_getElem? hx')
    exact ⟨[3], _, dg_name, ds_asg (Ev.dl (ev_op (ev_int1 (ev_op (ev_op (ev_op (ev_var rfl) ev_int (times_int (.inr ⟨by decide, by decide⟩))) (ev_op (ev_var rfl) ev_int (times_int (.inr ⟨by decide, by decide⟩))) pl_int) (ev_var rfl) pl_int)) ev_int (dr2_mod (by decide))) ⟨hx0, _, _, rfl⟩)⟩
  · subst e
    exact ds_ret (Ev.dl (ev_var rfl) ⟨_, rfl⟩)
end K27

namespace K27
open PySem PySem.Spec PyProof.Rows L2 Dw
variable [Tabs0]
theorem d__law_well {P : Program} {w : World} {K : PySem.W.Frag} {mg : Str → Option Value} {base : Heap} (T : Txt K w mg) : FnOk P w K mg base CX0 1 T.f__law_well T.e__law_well ["_law_cell_here"] toWell := by
  refine T.F__law_well.ok sc__law_well (fun vs H Q E ⟨F, W, cell, _, _, r, _⟩ => by rw [← r.length]; rfl) fun cdv A outer s' H vs Q E hr h => ?_
  refine ⟨_, (pss_one (ps_ret (pe_lst (pa_cons (pe_ifExp (PW.pt (pw_or (pt_cmpR opLt (pv 0) pe_int (nomark _)) (pw_or1 (pt_cmpR opGe (pv 0) (pe_op op_pow pe_int pe_int) (nomark _))))) (pe_callB call_abs (by rfl) T.n_abs (by decide +kernel) (pa_cons (pv 0) pa_nil)) pe_int) (pa_cons (pe_op op_mod (pe_callTy call_int1 (by rfl) T.n_int (by decide +kernel) (pa_cons (pv 0) pa_nil)) pe_int) (pa_cons pe_int pa_nil)))))), ?_⟩
  obtain ⟨F, W, cell, rfl, ok, r, k⟩ := h
  have g0 : SR F (Gz0 1 [.int cell]) (L2.start N__law_well vs) W := sr_start (N := N__law_well) ok r
  have ep : (10 : Int) ^ (18 : Int).toNat = 1000000000000000000 := by decide +kernel
  refine evn_lst (ds := [.int (if (decide (cell < 0) || decide ((10 : Int) ^ (18 : Int).toNat ≤ cell)) = true then (if cell < 0 then -cell else cell) else 0), .int (cell % 2147483587), .int 0]) (eva_cons (ev_cast ?_ (ev_if (a := (decide (cell < 0) || decide ((10 : Int) ^ (18 : Int).toNat ≤ cell))) (evt_or (evt_test (ev_op (ev_var rfl) ev_int lt_int')) fun _ => evt_test (ev_op (ev_var rfl) (ev_op ev_int ev_int (dr2_pow ?_)) dr2_ge)) (fun _ => ev_abs (ev_var rfl)) fun _ => ev_int)) (eva_cons (ev_op (ev_int1 (ev_var rfl)) ev_int (dr2_mod (by decide))) (eva_cons ev_int eva_nil))) (small (show 3 ≤ 100000 by decide)) F _ W _ g0 fun a vs H' sm hn ha rl => ?_
  · cases (decide (cell < 0) || decide ((10 : Int) ^ (18 : Int).toNat ≤ cell)) <;> rfl
  · exact ⟨by decide, by decide, by decide⟩
  · have ev := RepL.ints (ns := [_, _, _]) |>.mp rl
    rw [ev] at ha
    refine k a _ _ _ W H' (Stp.refl _) ok sm hn ha ?_ (Int.emod_nonneg _ (by decide)) (Int.lt_trans (Int.emod_lt_of_pos _ (by decide)) (by decide))
    by_cases hq : (decide (cell < 0) || decide ((10 : Int) ^ (18 : Int).toNat ≤ cell)) = true
    · rw [if_pos hq]
      by_cases h : cell < 0 <;> simp [h] <;> omega
    · rw [if_neg hq]; exact Int.le_refl _

end K27

namespace K27
open PySem PySem.Spec PyProof.Rows L2 Dw
variable [Tabs0]
theorem d__law_dip {P : Program} {w : World} {K : PySem.W.Frag} {mg : Str → Option Value} {base : Heap} (T : Txt K w mg) : FnOk P w K mg base CX0 1 T.f__law_dip T.e__law_dip ["_law_jar", "_law_many"] (toSp (spDraw)) := by
  refine fn_ok T.F__law_dip sc__law_dip (fun _ => rfl) fun cdv A outer s' H E hr => ?_
  refine ⟨_, (pss_cons (ps_asg (pe_op (plusE K) (pe_ix (ixA K) (pv 0) pe_int (fun _ _ => rfl)) pe_int) (pg_sub (pv 0) pe_int set_list)) (pss_cons (ps_set (i := 2) sc__law_dip.nd rfl (Or.inl rfl) (pe_op op_mod (pe_callTy call_int1 (by rfl) T.n_int (by decide +kernel) (pa_cons (pe_op (plusE K) (pe_ix (ixA K) (pv 0) pe_int (fun _ _ => rfl)) (pe_op opTimes pe_int (pe_ix (ixA K) (pv 0) pe_int (fun _ _ => rfl)))) pa_nil)) pe_int)) (pss_cons (ps_asg (pe_op op_mod (pe_callTy call_int1 (by rfl) T.n_int (by decide +kernel) (pa_cons (pe_op (plusE K) (pe_op (plusE K) (pe_op op_mulX (pv 2) (pv 2)) (pe_op opTimes pe_int (pv 2))) pe_int) pa_nil)) pe_int) (pg_sub (pv 0) pe_int set_list)) (pss_cons (ps_if (pt_cmpR (eqA K hr.units) (pe_ix (ixA K) (pv 0) pe_int (fun _ _ => rfl)) pe_int (nomark _)) (pss_one (ps_ret (pe_op op_mod (pe_callTy call_int1 (by rfl) T.n_int (by decide +kernel) (pa_cons (pe_op op_fdiv (pe_ix (ixA K) (pv 0) pe_int (fun _ _ => rfl)) pe_int) pa_nil)) (pv 1)))) pss_nil) (pss_cons (ps_asg (pe_callB call_divmod (by rfl) T.n_divmod (by decide +kernel) (pa_cons (pe_ix (ixA K) (pv 0) pe_int (fun _ _ => rfl)) (pa_cons (pv 1) pa_nil))) (tupA K 2 rfl (pgs_cons (pg_name (i := 3) sc__law_dip.nd rfl (Or.inl rfl)) (pgs_cons (pg_name (i := 4) sc__law_dip.nd rfl (Or.inl rfl)) pgs_nil)))) (pss_cons (ps_asg (pv 3) (pg_sub (pv 0) pe_int set_list)) (pss_one (ps_ret (pv 4))))))))), fun x hx => ?_⟩
  obtain ⟨x, rfl⟩ : ∃ n : Nat, n = x := ⟨x, rfl⟩
  obtain ⟨hn0, hn1⟩ := hx
  have hn0 : 0 < x := hn0
  have hn1 : x < 100000 := hn1
  refine fun F σ W Dr g l => ?_
  obtain ⟨v0, e0, a, ev, hp, nn, tbl⟩ := g.val 0 .purse rfl
  obtain ⟨v1, e1, r1⟩ := g.val 1 (.int x) rfl
  subst ev
  rw [show v1 = V.int x from r1] at e1
  have l2 : 2 < σ.length := by rw [← g.len]; exact (show 2 < 5 by decide)
  have l3 : 3 < σ.length := by rw [← g.len]; exact (show 3 < 5 by decide)
  have l4 : 4 < σ.length := by rw [← g.len]; exact (show 4 < 5 by decide)
  obtain ⟨⟨p, c⟩, q, hp0, hq0, hq1, hH⟩ := (g.ok.pu a hp).2.2.purse nn
  have hp0 : 0 ≤ p := hp0
  have hH : W.H a = some (.lst [.int p, .int q, .int c]) := hH
  have i0 : ∀ y c : Int, atI [V.int p, V.int y, V.int c] 0 = some (V.int p) := fun y c => atI_nat (j := 0) rfl
  have i1 : ∀ y c : Int, atI [V.int p, V.int y, V.int c] 1 = some (V.int y) := fun y c => atI_nat (j := 1) rfl
  have i2 : ∀ y c : Int, atI [V.int p, V.int y, V.int c] 2 = some (V.int c) := fun y c => atI_nat (j := 2) rfl
  have md : ∀ z : Int, ∃ r : Nat, r < x ∧ V.int (z % (x : Int)) = V.int r := fun z => ⟨(z % (x : Int)).toNat, by
    have h1 := Int.emod_nonneg z (show (x : Int) ≠ 0 by omega)
    have h2 := Int.emod_lt_of_pos z (show (0 : Int) < x by omega)
    omega, by
    have h1 := Int.emod_nonneg z (show (x : Int) ≠ 0 by omega)
    rw [Int.toNat_of_nonneg h1]⟩
  refine ⟨.ref a, e0, .inl ⟨a, _, 2, .int c, rfl, rfl, .of hH, i2 q c, .inl (.inl ⟨c, 1, rfl, rfl, ?_⟩)⟩⟩
  obtain ⟨st1, ok1⟩ := purse_step (x := p) (y := q) (c := c + 1) g.ok hp nn hp0 hq0 hq1
  refine ⟨.ref a, e0, a, _, 2, 2, rfl, rfl, hH, rfl, ?_⟩
  refine ⟨.ref a, e0, .inl ⟨a, [.int p, .int q, .int (c + 1)], 1, .int q, rfl, rfl, .of upd_same, i1 _ _, ?_⟩⟩
  refine ⟨.ref a, e0, .inl ⟨a, [.int p, .int q, .int (c + 1)], 2, .int (c + 1), rfl, rfl, .of upd_same, i2 _ _, .inl ⟨770551, c + 1, rfl, rfl, .inl ⟨by decide, by decide⟩, ?_⟩⟩⟩
  refine .inl (.inl ⟨_, _, rfl, rfl, .inl ⟨_, rfl, _, _, rfl, rfl, (show (0 : Int) < 2147483587 by decide), ?_⟩⟩)
  have b0 := Int.emod_nonneg (q + 770551 * (c + 1)) (show (2147483587 : Int) ≠ 0 by decide)
  have b1 := Int.emod_lt_of_pos (q + 770551 * (c + 1)) (show (0 : Int) < 2147483587 by decide)
  obtain ⟨m, hm⟩ : ∃ m : Int, (q + 770551 * (c + 1)) % 2147483587 = m := ⟨_, rfl⟩
  refine (show gName 2 (V.int ((q + 770551 * (c + 1)) % 2147483587)) σ _ _ from ?_)
  rw [hm] at b0 b1 ⊢
  have cm : CMulX m m := mulx_ok (a := 31) (b := 31) (by omega) (by omega) (by decide)
  have e0' : (σ.set 2 (some (V.int m)))[0]? = some (some (.ref a)) := (List.getElem?_set_ne (by decide)).trans e0
  have e1' : (σ.set 2 (some (V.int m)))[1]? = some (some (.int x)) := (List.getElem?_set_ne (by decide)).trans e1
  refine ⟨.int m, List.getElem?_set_self l2, .int m, List.getElem?_set_self l2, m, m, rfl, rfl, cm, ?_⟩
  refine ⟨.int m, List.getElem?_set_self l2, .inl ⟨2753159, m, rfl, rfl, .inl ⟨by decide, by decide⟩, ?_⟩⟩
  refine .inl (.inl ⟨_, _, rfl, rfl, .inl (.inl ⟨_, 519371, rfl, rfl, .inl ⟨_, rfl, _, _, rfl, rfl, (show (0 : Int) < 2147483587 by decide), ?_⟩⟩)⟩)
  have d0 := Int.emod_nonneg (m * m + 2753159 * m + 519371) (show (2147483587 : Int) ≠ 0 by decide)
  have d1 := Int.emod_lt_of_pos (m * m + 2753159 * m + 519371) (show (0 : Int) < 2147483587 by decide)
  obtain ⟨st2, ok2⟩ := purse_step (x := p) (y := (m * m + 2753159 * m + 519371) % 2147483587) (c := c + 1) ok1 hp nn hp0 d0 (Int.lt_trans d1 (by decide))
  refine ⟨.ref a, e0', a, _, 1, 1, rfl, rfl, upd_same, rfl, ?_⟩
  refine ⟨.ref a, e0', .inl ⟨a, [.int p, .int ((m * m + 2753159 * m + 519371) % 2147483587), .int (c + 1)], 0, .int p, rfl, rfl, .of upd_same, i0 _ _, .inl ⟨rfl, _, rfl, ?_⟩⟩⟩
  have ifB : ∀ {b : Bool} {A B : Prop}, (b = true → A) → (b = false → B) → (if b = true then A else B) := fun {b A B} h1 h2 => by
    cases b with
    | true => exact h1 rfl
    | false => exact h2 rfl
  refine ifB (fun hz => ?_) fun hz => ?_
  · have hz : p = 0 := by
      have := of_decide_eq_true hz
      injection this
    obtain ⟨r, hr1, hr2⟩ := md (((m * m + 2753159 * m + 519371) % 2147483587) / 103)
    refine ⟨.ref a, e0', .inl ⟨a, [.int p, .int ((m * m + 2753159 * m + 519371) % 2147483587), .int (c + 1)], 1, .int ((m * m + 2753159 * m + 519371) % 2147483587), rfl, rfl, .of upd_same, i1 _ _, _, 103, rfl, rfl, ⟨by decide, by decide⟩, .inl ⟨_, rfl, .int x, e1', _, _, rfl, rfl, (show (0 : Int) < x by omega), ?_⟩⟩⟩
    exact l.rt _ (Wd.at _ _) (.int r) (st1.trans st2) ok2 hr2 ⟨r, hr1, rfl⟩
  · have hz : ¬ p = 0 := fun h => by
      have := of_decide_eq_false hz
      exact this (congrArg V.int h)
    refine ⟨.ref a, e0', .inl ⟨a, [.int p, .int ((m * m + 2753159 * m + 519371) % 2147483587), .int (c + 1)], 0, .int p, rfl, rfl, .of upd_same, i0 _ _, .int x, e1', p, x, rfl, ⟨by omega, by omega⟩, fun t ht => ?_⟩⟩
    have na : a ≠ t := ne_of_none upd_same ht
    have s1 := same_upd (o := .tup [.int (p / x), .int (p % x)]) ht
    obtain ⟨st3, ok3⟩ := purse_step (x := p / x) (y := ((m * m + 2753159 * m + 519371) % 2147483587)) (c := c + 1) (ok2.same s1) hp nn (Int.ediv_nonneg hp0 (by omega)) d0 (Int.lt_trans d1 (by decide))
    obtain ⟨r, hr1, hr2⟩ := md p
    refine ⟨t, _, rfl, .of upd_same, rfl, .int (p / x), [.int (p % x)], rfl, .int (p % x), [], rfl, rfl, ?_⟩
    have e0'' : (((σ.set 2 (some (V.int m))).set 3 (some (V.int (p / x)))).set 4 (some (V.int (p % x))))[0]? = some (some (.ref a)) := (List.getElem?_set_ne (by decide)).trans ((List.getElem?_set_ne (by decide)).trans e0')
    have e3 : (((σ.set 2 (some (V.int m))).set 3 (some (V.int (p / x)))).set 4 (some (V.int (p % x))))[3]? = some (some (.int (p / x))) := (List.getElem?_set_ne (by decide)).trans (List.getElem?_set_self (by rw [List.length_set]; exact l3))
    have e4 : (((σ.set 2 (some (V.int m))).set 3 (some (V.int (p / x)))).set 4 (some (V.int (p % x))))[4]? = some (some (.int (p % x))) := List.getElem?_set_self (by rw [List.length_set, List.length_set]; exact l4)
    refine ⟨.int (p / x), e3, .ref a, e0'', a, _, 0, 0, rfl, rfl, (upd_ne na).trans upd_same, rfl, ?_⟩
    refine ⟨.int (p % x), e4, ?_⟩
    exact l.rt _ (Wd.at _ _) (.int r) ((st1.trans st2).trans ((Stp.of_same ok2 s1).trans st3)) ok3 hr2 ⟨r, hr1, rfl⟩
end K27

namespace K27
open PySem PySem.Spec PyProof.Rows L2 Dw
variable [Tabs0]
theorem d__law_pick {P : Program} {w : World} {K : PySem.W.Frag} {mg : Str → Option Value} {base : Heap} (T : Txt K w mg) : FnOk P w K mg base CX0 2 T.f__law_pick T.e__law_pick ["_law_jar", "_law_things"] (toSp (spAnyOf)) := by
  refine fn_ok T.F__law_pick sc__law_pick (fun _ => rfl) fun cdv A outer s' H E hr => ?_
  refine ⟨_, (pss_one (ps_ret (pe_ix (ixA K) (pv 1) (pe_call (d__law_dip T) (hr.mono (by decide)) (by rfl) T.m__law_dip T.F__law_dip.kp T.b__law_dip .nil pass0 (pa_cons (pv 0) (pa_cons (pe_callB (lenA K) (by rfl) T.n_len (by decide +kernel) (pa_cons (pv 1) pa_nil)) pa_nil))) (fun _ _ => rfl)))), fun x hx => ?_⟩
  obtain ⟨b, ds⟩ := x
  obtain ⟨h0, h1⟩ := hx
  have h0 : 0 < ds.length := h0
  have h1 : ds.length < 100000 := h1
  cases b with
  | true =>
    refine ds_ret (dl_op (Ev.dl (ev_var rfl) (dl_call (s := spDraw) (dla_cons (Ev.dl (ev_var rfl) (dla_cons (Ev.dl (ev_len (ds := ds) (ev_var rfl).b) (dla_nil ⟨ds.length, rfl, ⟨h0, h1⟩, fun d hd => ?_⟩))))))))
    obtain ⟨r, hr1, rfl⟩ := hd
    exact ⟨_, dr2_ixL (atI_nat (List.getElem?_eq_getElem hr1)), List.getElem_mem hr1⟩
  | false =>
    refine ds_ret (dl_op (Ev.dl (ev_var rfl) (dl_call (s := spDraw) (dla_cons (Ev.dl (ev_var rfl) (dla_cons (Ev.dl (ev_lenT (ds := ds) (ev_var rfl)) (dla_nil ⟨ds.length, rfl, ⟨h0, h1⟩, fun d hd => ?_⟩))))))))
    obtain ⟨r, hr1, rfl⟩ := hd
    exact ⟨_, dr2_ixT (atI_nat (List.getElem?_eq_getElem hr1)), List.getElem_mem hr1⟩
end K27

namespace K27
open PySem PySem.Spec PyProof.Rows L2 Dw
variable [Tabs0]
theorem d__law_tags {P : Program} {w : World} {K : PySem.W.Frag} {mg : Str → Option Value} {base : Heap} (T : Txt K w mg) : FnOk P w K mg base CX0 2 T.f__law_tags T.e__law_tags ["_law_jar", "_law_many"] (toSp (spTags)) := by
  refine fn_ok T.F__law_tags sc__law_tags (fun _ => rfl) fun cdv A outer s' H E hr => ?_
  refine ⟨_, (pss_cons (ps_set (i := 2) sc__law_tags.nd rfl (Or.inr rfl) (pe_lst (pa_cons pe_str (pa_cons pe_str (pa_cons pe_str (pa_cons pe_str (pa_cons pe_str (pa_cons pe_str (pa_cons pe_str (pa_cons pe_str (pa_cons pe_str (pa_cons pe_str (pa_cons pe_str (pa_cons pe_str (pa_cons pe_str pa_nil))))))))))))))) (pss_cons (ps_asg (pe_tup (pa_cons (pe_op (plusE K) (pv 2) (pe_lst (pa_cons pe_str (pa_cons pe_str (pa_cons pe_str (pa_cons pe_str pa_nil)))))) (pa_cons (pe_call (d__law_dip T) (hr.mono (by decide)) (by rfl) T.m__law_dip T.F__law_dip.kp T.b__law_dip .nil pass0 (pa_cons (pv 0) (pa_cons pe_int pa_nil))) (pa_cons (pe_op (plusE K) pe_int (pe_call (d__law_dip T) (hr.mono (by decide)) (by rfl) T.m__law_dip T.F__law_dip.kp T.b__law_dip .nil pass0 (pa_cons (pv 0) (pa_cons pe_int pa_nil)))) pa_nil)))) (tupA K 3 rfl (pgs_cons (pg_name (i := 2) sc__law_tags.nd rfl (Or.inr rfl)) (pgs_cons (pg_name (i := 3) sc__law_tags.nd rfl (Or.inr rfl)) (pgs_cons (pg_name (i := 4) sc__law_tags.nd rfl (Or.inr rfl)) pgs_nil))))) (pss_one (ps_ret (pe_callB (sortedA K) (by rfl) T.n_sorted (by decide +kernel) (pa_cons (pe_lc (own := [("_law_k", 5)]) rfl sc__law_tags.nd (pi_range1 (by rfl) T.n_range (pa_cons (pv 1) pa_nil)) (blkOk_by (own := [("_law_k", 5)]) (N := N__law_tags) (sc := (defScope s__law_tags)) (by decide +kernel)) (fun _ _ _ _ _ => pg_name (i := 5) sc__law_tags.nd rfl (Or.inl rfl)) (fun _ _ _ _ _ => pts_nil) (fun _ _ _ _ _ => (pe_ix (ixA K) (pv 2) (pe_op op_mod (pe_callTy call_int1 (by rfl) T.n_int (by decide +kernel) (pa_cons (pe_op (plusE K) (pv 3) (pe_op opTimes (pv 4) (pv 5))) pa_nil)) pe_int) (fun _ _ => rfl)))) pa_nil)))))), fun x hx => ?_⟩
  obtain ⟨n, rfl⟩ : ∃ l : Nat, l = x := ⟨x, rfl⟩
  obtain ⟨h1, h8⟩ := hx
  have h1 : 1 ≤ n := h1
  have h8 : n ≤ 8 := h8
  refine ds_seq (ds_asg (Ev.dl (EvN.ev (evn_lst (ds := (strs2.take 13).map D.str) (eva_cons ev_str (eva_cons ev_str (eva_cons ev_str (eva_cons ev_str (eva_cons ev_str (eva_cons ev_str (eva_cons ev_str (eva_cons ev_str (eva_cons ev_str (eva_cons ev_str (eva_cons ev_str (eva_cons ev_str (eva_cons ev_str eva_nil))))))))))))) (small (show 13 ≤ 100000 by decide)))) ?_))
  refine ds_seq (ds_asg_g (dl_tup (dla_cons (Ev.dl (ev_cast (d' := .lst (nameD lab2)) (congrArg D.lst lab2_D.symm) (EvN.ev (pl_evn (ds := (strs2.take 13).map D.str) (es := (strs2.drop 13).map D.str) (ev_var rfl).b (EvN.b (evn_lst (eva_cons ev_str (eva_cons ev_str (eva_cons ev_str (eva_cons ev_str eva_nil)))) (small (show 4 ≤ 100000 by decide)))) (small (show 13 + 4 ≤ 100000 by decide))))) (dla_cons (dl_call (s := spDraw) (dla_cons (Ev.dl (ev_var rfl) (dla_cons (Ev.dl ev_int (dla_nil ⟨(17 : Nat), rfl, ⟨by decide, by decide⟩, fun d hd => ?_⟩)))))))))))
  obtain ⟨a, ha, rfl⟩ := hd
  have ha : a < 17 := ha
  refine dla_cons (dl_op (Ev.dl ev_int (dl_call (s := spDraw) (dla_cons (Ev.dl (ev_var rfl) (dla_cons (Ev.dl ev_int (dla_nil ⟨(16 : Nat), rfl, ⟨by decide, by decide⟩, fun d hd => ?_⟩))))))))
  obtain ⟨q, hq, rfl⟩ := hd
  have hq : q < 16 := hq
  refine ⟨.int ((1 + q : Nat) : Int), ?pl, ?_⟩
  case pl =>
    have e := pl_int (K := K) (i := 1) (j := (q : Int))
    rw [show (1 : Int) + (q : Int) = ((1 + q : Nat) : Int) by omega] at e
    exact e
  generalize hs : 1 + q = st
  have s1 : 1 ≤ st := by omega
  have s17 : st < 17 := by omega
  refine dla_nil ⟨small (show 3 ≤ 100000 by decide), [2] ++ ([3] ++ [4]), _, dg_tup3J dg_name dg_name dg_name, ?_⟩
  have nd := tags_nd (n := n) ha s17 s1 h8
  refine ds_ret (dl_sortedS (Ev.dl (EvN.ev (evn_lc1 (xs := List.range n) (c := fun k : Nat => D.int k) (f := fun k => .str (tx (rowAt lab2 (stepAt a st k)))) (ei_range (n := n) (eva_cons (ev_var rfl) eva_nil) (by omega)) (by rw [List.length_range]; omega) fun k hk => ⟨[5], _, dg_name, fun i hi => hi, evt_yes, ev_ix (ds := nameD lab2) (ev_var rfl).b (ev_op (ev_int1 (ev_op (ev_var rfl) (ev_op (ev_var rfl) (ev_var rfl) (times_int (.inl ⟨by omega, by omega⟩))) pl_int)) ev_int (dr2_mod (by decide))) (at_step a st k)⟩)) ⟨((List.range n).map fun k => rowAt lab2 (stepAt a st k)).map tx, ?_, by rw [List.length_map, List.length_map, List.length_range]; omega, fun zs hz hs => ⟨zs.map fun s => s.cps.toList, ?_, names_ofN lab2_ok nd (fun l hl => ?_) hz hs (by rw [List.length_map, List.length_range]) h1 h8, ?_, fun l hl => ?_⟩⟩))
  · rw [List.map_map, List.map_map]; rfl
  · unfold nameD
    rw [List.map_map]
    exact congrArg D.lst (List.map_congr_left fun s _ => congrArg D.str (of_tx s)).symm
  · obtain ⟨k, _, rfl⟩ := List.mem_map.mp hl
    exact rowAt_mem (show _ < lab2.length from step_lt a st k)
  · rw [List.length_map, hz.length_eq, List.length_map, List.length_map, List.length_range]
  · obtain ⟨s, h1, rfl⟩ := List.mem_map.mp hl
    obtain ⟨m, h2, rfl⟩ := List.mem_map.mp (hz.mem_iff.mp h1)
    obtain ⟨k, _, rfl⟩ := List.mem_map.mp h2
    show (tx _).cps.toList ∈ lab2
    rw [tx_cps]
    exact rowAt_mem (show _ < lab2.length from step_lt a st k)
end K27

namespace K27
open PySem PySem.Spec PyProof.Rows L2 Dw
variable [Tabs0]
/-! winners, by the law's own look and by the rows -/
abbrev Pr := List Nat × List Nat
def mk (p : Pr) (k : Nat) : Nat := p.2.getD k 0
def winI (ms : List (List Nat)) (o : List Nat) : List Nat := (List.range ms.length).filter fun i => (rwM ms i).all fun r => holdsB r o
def winM (ls ms : List (List Nat)) (o : List Nat) : List (List Nat) := (winI ms o).map (rowAt ls)
theorem zip_rangeJ {ls ms : List (List Nat)} (h : ms.length = ls.length) : ls.zip ms = (List.range ls.length).map fun k => (rowAt ls k, rowAt ms k) := by
  refine List.ext_getElem (by simp [h]) fun k h1 h2 => ?_
  have hk : k < ls.length := by simpa using h2
  rw [List.getElem_map, List.getElem_range, List.getElem_zip, rowAt_get hk, rowAt_get (by omega)]
theorem folk_map {ls ms : List (List Nat)} (h : ms.length = ls.length) : folkD ls ms = (List.range ls.length).map fun k => pairDm (rowAt ls k, rowAt ms k) := by
  unfold folkD
  rw [zip_rangeJ h, List.map_map]; rfl
/-! the program's cases -/
def spCkRkJ : Spc where
  ty := List Nat × Nat
  args := fun x => [.tup (ordD x.1), .int x.2]
  ok := fun x => x.1.Perm (List.range x.2) ∧ x.2 ≤ 8
  rel := fun _ d => d = .non
def spAgP (C : Addr) : Spc where
  ty := CaseT × Nat × Nat
  args := fun x => [caseO C x.1.1 x.1.2.1, .str (tx (rowAt x.1.1 x.2.1)), .str (tx (rowAt x.1.1 x.2.2))]
  ok := fun x => CaseOk x.1.1 x.1.2.1 x.1.2.2 ∧ x.2.1 < x.1.1.length ∧ x.2.2 < x.1.1.length ∧ x.2.1 ≠ x.2.2
  rel := fun x d => d = .str (tx (agR (rowAt x.1.2.1 x.2.1) (rowAt x.1.2.1 x.2.2)))
def spWinn (C : Addr) : Spc where
  ty := CaseT × List Nat
  args := fun x => [caseO C x.1.1 x.1.2.1, .tup (ordD x.2)]
  ok := fun x => CaseOk x.1.1 x.1.2.1 x.1.2.2 ∧ x.2.Perm (List.range x.1.2.2)
  rel := fun x d => d = .tup (nameD (winM x.1.1 x.1.2.1 x.2))
def barI (ms : List (List Nat)) (n : Nat) : List Nat := (List.range ms.length).filter fun i => !decide (Still (rwM ms i) n = [])
def spBarred (C : Addr) : Spc where
  ty := CaseT
  args := fun x => [caseO C x.1 x.2.1]
  ok := fun x => CaseOk x.1 x.2.1 x.2.2
  rel := fun x d => d = .tup (nameD ((barI x.2.1 x.2.2).map (rowAt x.1)))
theorem rw_len {ms : List (List Nat)} {i : Nat} : (rwM ms i).length ≤ ms.length := by unfold rwM; rw [List.length_map]; exact idxM_len _ _
end K27

namespace K27
open PySem PySem.Spec PyProof.Rows L2 Dw
variable [Tabs0]
/-! folk that is drawn, and told again -/
theorem folkD_snoc {ls ms : List (List Nat)} {m : List Nat} {i : Nat} (h : ms.length = i) (hi : i < ls.length) : folkD (ls.take i) ms ++ [.tup [.str (tx (rowAt ls i)), .tup (ordD m)]] = folkD (ls.take (i + 1)) (ms ++ [m]) := by
  have e : ls.take (i + 1) = ls.take i ++ [rowAt ls i] := by rw [List.take_add_one, List.getElem?_eq_getElem hi, rowAt_get hi]; rfl
  unfold folkD
  rw [e, List.zip_append (by rw [List.length_take, h]; omega), List.map_append]; rfl
theorem folkD_len (ls ms : List (List Nat)) : (folkD ls ms).length = min ls.length ms.length := by unfold folkD; rw [List.length_map, List.length_zip]
theorem ok_folk {ls ms : List (List Nat)} (h : ∀ l ∈ ls, NameOk l) : dOk 3 (.lst (folkD ls ms)) = true := dOks_map fun p hp => by
  have hn := h p.1 (List.of_mem_zip hp).1
  have h1 : okS (tx p.1) := okS_tx fun c hc => by have := hn.all c hc; omega
  have h2 : dOk 1 (.tup (ordD p.2)) = true := ok_ordT1 p.2
  show (dOk 1 (.str (tx p.1)) && (dOk 1 (.tup (ordD p.2)) && true)) = true
  rw [show dOk 1 (.str (tx p.1)) = true from h1, h2]; rfl
theorem np_folk {ls ms : List (List Nat)} {r : List D} (h : noPs r = true := by rfl) : noPs (.lst (folkD ls ms) :: r) = true := by
  have one : ∀ p : List Nat × List Nat, noP (pairDm p) = true := fun p => by
    show (true && (noPs (ordD p.2) && true)) = true
    rw [np_ord]; rfl
  show (noPs (folkD ls ms) && noPs r) = true
  unfold folkD
  rw [noPs_map one, h]; rfl
def spRightJ : Spc where
  ty := Unit
  args := fun _ => [.purse]
  ok := fun _ => True
  rel := fun _ d => d = .bl true
end K27

namespace K27
open PySem PySem.Spec PyProof.Rows L2 Dw
variable [Tabs0]
theorem d__law_folk {P : Program} {w : World} {K : PySem.W.Frag} {mg : Str → Option Value} {base : Heap} (T : Txt K w mg) : FnOk P w K mg base CX0 3 T.f__law_folk T.e__law_folk ["_law_jar", "_law_many", "_law_least", "_law_most"] (toSp (spFolk)) := by
  refine fn_ok T.F__law_folk sc__law_folk (fun _ => rfl) fun cdv A outer s' H E hr => ?_
  refine ⟨_, (pss_cons (ps_asg (pe_tup (pa_cons (pe_ix (ixA K) (pe_lst (pa_cons pe_int (pa_cons pe_int (pa_cons pe_int pa_nil)))) (pe_call (d__law_dip T) (hr.mono (by decide)) (by rfl) T.m__law_dip T.F__law_dip.kp T.b__law_dip .nil pass0 (pa_cons (pv 0) (pa_cons pe_int pa_nil))) (fun _ _ => rfl)) (pa_cons (pe_lst pa_nil) pa_nil))) (tupA K 2 rfl (pgs_cons (pg_name (i := 4) sc__law_folk.nd rfl (Or.inr rfl)) (pgs_cons (pg_name (i := 5) sc__law_folk.nd rfl (Or.inl rfl)) pgs_nil)))) (pss_cons (ps_for PassesOwn.never rfl (piR K (pe_call (d__law_tags T) (hr.mono (by decide)) (by rfl) T.m__law_tags T.F__law_tags.kp T.b__law_tags .nil pass0 (pa_cons (pv 0) (pa_cons (pe_op (plusE K) (pv 2) (pe_call (d__law_dip T) (hr.mono (by decide)) (by rfl) T.m__law_dip T.F__law_dip.kp T.b__law_dip .nil pass0 (pa_cons (pv 0) (pa_cons (pe_op (plusE K) (pe_op op_sub (pv 3) (pv 2)) pe_int) pa_nil)))) pa_nil)))) (pg_name (i := 6) sc__law_folk.nd rfl (Or.inl rfl)) (pss_cons (ps_set (i := 7) sc__law_folk.nd rfl (Or.inl rfl) (pe_callTy (tupleA K) (by rfl) T.n_tuple (by decide +kernel) (pa_cons (pe_lc (own := [("_law_k", 8)]) rfl sc__law_folk.nd (pi_range1 (by rfl) T.n_range (pa_cons (pv 1) pa_nil)) (blkOk_by (own := [("_law_k", 8)]) (N := N__law_folk) (sc := (defScope s__law_folk)) (by decide +kernel)) (fun _ _ _ _ _ => pg_name (i := 8) sc__law_folk.nd rfl (Or.inl rfl)) (fun _ _ _ _ _ => pts_nil) (fun _ _ _ _ _ => (pe_call (d__law_dip T) (hr.mono (by decide)) (by rfl) T.m__law_dip T.F__law_dip.kp T.b__law_dip .nil pass0 (pa_cons (pv 0) (pa_cons (pv 4) pa_nil))))) pa_nil))) (pss_one (ps_expr (bmA K PySem.F.plainAttrs_list PySem.F.slot_list_append PySem.F.type_list_append mt_append (pv 5) (pa_cons (pe_tup (pa_cons (pv 6) (pa_cons (pe_ifExp (PW.pt (pw_and (pt_cmpR (neA K hr.units) (pv 5) (pe_lst pa_nil) (nomark _)) (pw_and1 (pt_cmpR (eqA K hr.units) (pe_call (d__law_dip T) (hr.mono (by decide)) (by rfl) T.m__law_dip T.F__law_dip.kp T.b__law_dip .nil pass0 (pa_cons (pv 0) (pa_cons pe_int pa_nil))) pe_int (nomark _))))) (pe_ix (ixA K) (pe_call (d__law_pick T) (hr.mono (by decide)) (by rfl) T.m__law_pick T.F__law_pick.kp T.b__law_pick .nil pass0 (pa_cons (pv 0) (pa_cons (pv 5) pa_nil))) pe_int (fun _ _ => rfl)) (pv 7)) pa_nil))) pa_nil)))))) (pss_one (ps_ret (pv 5))))), fun x hx => ?_⟩
  obtain ⟨n, lo, hi⟩ := x
  obtain ⟨n1, n8, h2, hlh, h8⟩ := hx
  have n1 : 1 ≤ n := n1
  have n8 : n ≤ 8 := n8
  have h2 : 2 ≤ lo := h2
  have hlh : lo ≤ hi := hlh
  have h8 : hi ≤ 8 := h8
  refine ds_seq (ds_asg_2o (dl_op (Ev.dl (EvN.ev (evn_lst (ds := [.int 2, .int 4, .int 100]) (eva_cons ev_int (eva_cons ev_int (eva_cons ev_int eva_nil))) (small (show 3 ≤ 100000 by decide)))) (dl_call (s := spDraw) (dla_cons (Ev.dl (ev_var rfl) (dla_cons (Ev.dl ev_int (dla_nil ⟨(3 : Nat), rfl, ⟨by decide, by decide⟩, fun d hd => ?_⟩)))))))))
  obtain ⟨r, hr, rfl⟩ := hd
  have hr : r < 3 := hr
  obtain ⟨tp, e, t1, t2⟩ : ∃ tp : Nat, [D.int 2, .int 4, .int 100][r]? = some (.int tp) ∧ 1 ≤ tp ∧ tp ≤ 100 := by
    match r, hr with
    | 0, _ => exact ⟨2, rfl, by decide, by decide⟩
    | 1, _ => exact ⟨4, rfl, by decide, by decide⟩
    | 2, _ => exact ⟨100, rfl, by decide, by decide⟩
  refine ⟨.int tp, dr2_ixL (atI_nat e), [], evn_lst eva_nil (Nat.zero_le _), ?_⟩
  refine ds_seq (ds_for (fun xs i Γ' => ∃ (ls ms : List (List Nat)) (s6 s7 : Sl), xs = nameD ls ∧ NamesOk ls ∧ lo ≤ ls.length ∧ ls.length ≤ hi ∧ Γ' = [.val .purse, .val (.int n), .val (.int lo), .val (.int hi), .val (.int tp), .own (folkD (ls.take i) ms), s6, s7, .unset] ∧ ms.length = i ∧ (∀ m ∈ ms, m.length = n) ∧ ∀ m ∈ ms, ∀ k ∈ m, k < 100) (dj_list (dl_call (s := spTags) (dla_cons (Ev.dl (ev_var rfl) (dla_cons (dl_op (Ev.dl (ev_var rfl) (dl_call (s := spDraw) (dla_cons (Ev.dl (ev_var rfl) (dla_cons (Ev.dl (ev_cast (congrArg D.int (by omega : (hi : Int) - (lo : Int) + 1 = ((hi - lo + 1 : Nat) : Int))) (ev_op (ev_op (ev_var rfl) (ev_var rfl) dr2_sub) ev_int pl_int)) (dla_nil ⟨hi - lo + 1, rfl, ⟨by omega, by omega⟩, fun d hd => ?_⟩))))))))))))))
  obtain ⟨q, hq, rfl⟩ := hd
  have hq : q < hi - lo + 1 := hq
  refine ⟨.int ((lo + q : Nat) : Int), ?pl, dla_nil ⟨lo + q, rfl, ⟨by omega, by omega⟩, fun d hd => ?_⟩⟩
  case pl =>
    have e := pl_int (K := K) (i := (lo : Int)) (j := (q : Int))
    rw [show (lo : Int) + (q : Int) = ((lo + q : Nat) : Int) by omega] at e
    exact e
  obtain ⟨ls0, rfl, hls0, hll0, hst⟩ := hd
  have hll0 : ls0.length = lo + q := hll0
  refine ⟨nameD ls0, rfl, ⟨ls0, [], _, _, rfl, hls0, by omega, by omega, rfl, rfl, fun k h => absurd h (by simp), fun k h => absurd h (by simp)⟩, fun i x Γ' hx' ⟨ls, ms, s6, s7, exs, hls, l1, l2, e, p1, p2, p3⟩ => ?_, fun Γ' ⟨ls, ms, s6, s7, exs, hls, l1, l2, e, p1, p2, p3⟩ => ?_⟩
  · subst e
    rw [exs] at hx'
    have hil : i < ls.length := by
      have := (List.getElem?_eq_some_iff.mp hx').1
      rw [nameD_len] at this; exact this
    obtain rfl : x = .str (tx (rowAt ls i)) := by
      rw [nameD_ix hil] at hx'
      exact (Option.some.inj hx').symm
    refine ⟨[6], _, dg_name, ds_seq (ds_asg (dl_tuple (dl_lc (di_range (dla_cons (Ev.dl (ev_var rfl) (dla_nil ⟨n, rfl, by omega, by rw [rng_length]; omega, fun j acc Γ' => Γ' = [.val .purse, .val (.int n), .val (.int lo), .val (.int hi), .val (.int tp), .own (folkD (ls.take i) ms), .val (.str (tx (rowAt ls i))), s7, .unset] ∧ ∃ l : List Nat, acc = ordD l ∧ l.length = j ∧ ∀ k ∈ l, k < 100, ⟨rfl, [], rfl, rfl, fun c h => absurd h (by simp)⟩, fun j x acc Γ' hx2 ⟨e, l, ea, hl, hk⟩ => ?_, fun acc Γ' ⟨e, l, ea, hl, hk⟩ => ?_⟩)))))))⟩
    · subst e
      refine ⟨[8], _, dg_name, fun i hi => hi, dlt_yes ⟨fun _ => dl_call (s := spDraw) (dla_cons (Ev.dl (ev_var rfl) (dla_cons (Ev.dl (ev_var rfl) (dla_nil ⟨tp, rfl, ⟨by omega, by omega⟩, fun d hd => ?_⟩))))), fun h => nomatch h⟩⟩
      obtain ⟨q, hq, rfl⟩ := hd
      have hq : q < tp := hq
      refine ⟨rfl, l ++ [q], ?_, by rw [List.length_append, hl]; rfl, fun k hk' => ?_⟩
      · rw [ea, ← ordD_snoc]
      · rcases List.mem_append.mp hk' with hk' | hk'
        · exact hk k hk'
        · rw [List.mem_singleton.mp hk']; omega
    · subst e
      rw [rng_length] at hl
      refine ⟨ordD l, congrArg D.lst ea, ?_⟩
      have okm : ∀ m : List Nat, m.length = n → (∀ k ∈ m, k < 100) → (ms ++ [m]).length = i + 1 ∧ (∀ q ∈ ms ++ [m], q.length = n) ∧ ∀ q ∈ ms ++ [m], ∀ k ∈ q, k < 100 := fun m a b => ⟨by rw [List.length_append, p1]; rfl, fun q hq => by
        rcases List.mem_append.mp hq with hq | hq
        · exact p2 q hq
        · rw [List.mem_singleton.mp hq]; exact a, fun q hq => by
        rcases List.mem_append.mp hq with hq | hq
        · exact p3 q hq
        · rw [List.mem_singleton.mp hq]; exact b⟩
      have okn : ∀ l ∈ ls.take i, NameOk l := fun l hl => hls.all l (List.mem_of_mem_take hl)
      have hfl : (folkD (ls.take i) ms).length = i := by rw [folkD_len, List.length_take]; omega
      have hlt : (folkD (ls.take i) ms).length < sizeLine := by rw [hfl]; exact Nat.lt_of_lt_of_le (by omega : i < 100) (by decide)
      have fin : ∀ m : List Nat, m.length = n → (∀ k ∈ m, k < 100) → ∃ (ls' ms' : List (List Nat)) (s6 s7 : Sl), nameD ls0 = nameD ls' ∧ NamesOk ls' ∧ lo ≤ ls'.length ∧ ls'.length ≤ hi ∧ [Sl.val .purse, .val (.int n), .val (.int lo), .val (.int hi), .val (.int tp), .own (folkD (ls.take i) ms ++ [.tup [.str (tx (rowAt ls i)), .tup (ordD m)]]), .val (.str (tx (rowAt ls i))), .val (.tup (ordD l)), .unset] = [.val .purse, .val (.int n), .val (.int lo), .val (.int hi), .val (.int tp), .own (folkD (ls'.take (i + 1)) ms'), s6, s7, .unset] ∧ ms'.length = i + 1 ∧ (∀ m ∈ ms', m.length = n) ∧ ∀ m ∈ ms', ∀ k ∈ m, k < 100 := fun m a b => by
        obtain ⟨x1, x2, x3⟩ := okm m a b
        exact ⟨ls, ms ++ [m], _, _, exs, hls, l1, l2, by rw [folkD_snoc p1 hil], x1, x2, x3⟩
      refine ds_drop (dl_append ⟨_, rfl⟩ (dla_cons (dl_tup (dla_cons (Ev.dl (ev_var rfl) (dla_cons (dl_lend 5 rfl ?one (dl_if (dlt_and (EvT.dl (evt_test (ev_op (ev_var (d := .lst (folkD (ls.take i) ms)) rfl) (evn_lst eva_nil (Nat.zero_le _)).ev (ne_nil (ok_folk okn) (by decide)))) ⟨fun hne => dlt_test (dl_op (dl_call (s := spDraw) (dla_cons (Ev.dl (ev_var rfl) (dla_cons (Ev.dl ev_int (dla_nil ⟨(8 : Nat), rfl, ⟨by decide, by decide⟩, fun d1 hd1 => ?_⟩))))))), fun h => ⟨fun z => (nomatch z), fun _ => Ev.dl (ev_var rfl) ?_⟩⟩))))))))))
      case one =>
        intro j es e
        rcases j with _ | _ | _ | _ | _ | _ | _ | _ | _ | j <;> first | rfl | cases e
      · obtain ⟨q, _, rfl⟩ := hd1
        refine Ev.dl ev_int ⟨_, eq_int', _, rfl, fun _ => dl_op (dl_call (s := spAnyOf) (dla_cons (Ev.dl (ev_var rfl) (dla_cons (Ev.dl (ev_var (d := .lst (folkD (ls.take i) ms)) rfl) (dla_nil ⟨(true, folkD (ls.take i) ms), rfl, ⟨?_, ?_⟩, fun d2 hd2 => ?_⟩)))))), fun _ => Ev.dl (ev_var rfl) ?_⟩
        · show 0 < (folkD (ls.take i) ms).length
          cases hm : folkD (ls.take i) ms with
          | nil => rw [hm] at hne; exact absurd hne (by decide)
          | cons _ _ => exact Nat.succ_pos _
        · show (folkD (ls.take i) ms).length < 100000
          omega
        · obtain ⟨p, hp, rfl⟩ := List.mem_map.mp hd2
          have hpm := (List.of_mem_zip hp).2
          exact Ev.dl ev_int ⟨.tup (ordD p.2), dr2_ixT (atI_nat (j := 1) rfl), rfl, ⟨p.2, rfl⟩, dla_nil ⟨small (show 2 ≤ 100000 by decide), dla_nil ⟨_, folkD (ls.take i) ms, rfl, rfl, hlt, fin p.2 (p2 _ hpm) (p3 _ hpm)⟩⟩⟩
        · exact ⟨rfl, ⟨l, rfl⟩, dla_nil ⟨small (show 2 ≤ 100000 by decide), dla_nil ⟨_, folkD (ls.take i) ms, rfl, rfl, hlt, fin l hl hk⟩⟩⟩
      · exact ⟨rfl, ⟨l, rfl⟩, dla_nil ⟨small (show 2 ≤ 100000 by decide), dla_nil ⟨_, folkD (ls.take i) ms, rfl, rfl, hlt, fin l hl hk⟩⟩⟩
  · subst e
    have hxl : (nameD ls0).length = ls.length := by rw [exs, nameD_len]
    rw [hxl, List.take_length]
    rw [hxl] at p1
    exact ds_freeze 5 rfl (ds_ret (Ev.dl (ev_var rfl) ⟨ls, ms, rfl, ⟨hls, (by omega), p1, p2, n1, n8, p3⟩, l1, l2, by rw [← nameD_inj exs]; exact hst⟩))

end K27

namespace K27
open PySem PySem.Spec PyProof.Rows L2 Dw
variable [Tabs0]
theorem d__law_case_page {P : Program} {w : World} {K : PySem.W.Frag} {mg : Str → Option Value} {base : Heap} (T : Txt K w mg) : FnOk P w K mg base CX0 1 T.f__law_case_page T.e__law_case_page ["_law_folk_here"] (toSp (spPage)) := by
  refine fn_ok T.F__law_case_page sc__law_case_page (fun _ => rfl) fun cdv A outer s' H E hr => ?_
  refine ⟨_, (pss_one (ps_ret (joinA K pe_str (pe_lc (own := [("_law_tag", 1), ("_law_marks", 2)]) rfl sc__law_case_page.nd (piR K (pv 0)) (blkOk_by (own := [("_law_tag", 1), ("_law_marks", 2)]) (N := N__law_case_page) (sc := (defScope s__law_case_page)) (by decide +kernel)) (fun _ _ _ _ _ => tupA K 2 rfl (pgs_cons (pg_name (i := 1) sc__law_case_page.nd rfl (Or.inl rfl)) (pgs_cons (pg_name (i := 2) sc__law_case_page.nd rfl (Or.inl rfl)) pgs_nil))) (fun _ _ _ _ _ => pts_nil) (fun _ _ _ _ _ => (joinA K pe_str (pe_op (plusE K) (pe_lst (pa_cons (pv 1) pa_nil)) (pe_lc (own := [("_law_mark", 3)]) rfl sc__law_case_page.nd (piR K (pv 2)) (blkOk_by (own := [("_law_mark", 3)]) (N := N__law_case_page) (sc := (relS { kind := .function, names := [(".0", .local), ("_law_tag", .local), ("_law_marks", .local)], isGenerator := false, isCoroutine := false, more := [] } (defScope s__law_case_page))) (by decide +kernel)) (fun _ _ _ _ _ => pg_name (i := 3) sc__law_case_page.nd rfl (Or.inl rfl)) (fun _ _ _ _ _ => pts_nil) (fun _ _ _ _ _ => (pe_callTy call_str_int (by rfl) T.n_str (by decide +kernel) (pa_cons (pv 3) pa_nil))))))))))), fun x hx => ?_⟩
  obtain ⟨ls, ms, n⟩ := x
  have hc : CaseOk ls ms n := hx
  have h8 := hc.names.hi
  have n8 := hc.hi
  have s1 := sum_tx (m := 81) ((ls.zip ms).map partT) fun q hq => (hc.part hq).1
  rw [List.length_map, hc.zl] at s1
  refine ds_ret (Ev.dl (ev_join (x := Str.ofString "; ") (ys := ((ls.zip ms).map partT).map tx) ev_str (EvN.b ?_) ?_) ?_)
  · have e1 : (((ls.zip ms).map partT).map tx).map D.str = (ls.zip ms).map fun p => D.str (tx (partT p)) := by
      rw [List.map_map, List.map_map]; rfl
    rw [e1]
    refine evn_lc1 (xs := ls.zip ms) (c := pairDm) (f := fun p => .str (tx (partT p))) (ej_list (ev_var (d := .lst (folkD ls ms)) rfl).b) (by rw [hc.zl]; omega) fun p hp => ?_
    have hz := hc.zip hp
    have s2 := sum_tx (m := 8) (wordsL p) (words_8 hz)
    have wl : (wordsL p).length = n + 1 := words_len hz
    have els : [D.str (tx p.1)] ++ (p.2.map fun k => D.str (tx (TL.numL k))) = ((wordsL p).map tx).map D.str := by
      unfold wordsL
      rw [List.map_cons, List.map_cons, List.map_map, List.map_map]; rfl
    refine ⟨[1] ++ [2], _, dg_tup2 dg_name dg_name, by decide, evt_yes, ev_cast (d := .str (Txt.join (Str.ofString " ") ((wordsL p).map tx))) ?ej (ev_join (x := Str.ofString " ") (ys := (wordsL p).map tx) ev_str (EvN.b (els ▸ pl_evn (ds := [D.str (tx p.1)]) (es := p.2.map fun k => D.str (tx (TL.numL k))) (EvN.b (evn_lst (eva_cons (ev_var rfl) eva_nil) (small (show 1 ≤ 100000 by decide)))) (EvN.b (evn_lc1 (xs := p.2) (c := fun k : Nat => D.int k) (f := fun k => .str (tx (TL.numL k))) (ej_tup (ev_var (d := .tup (ordD p.2)) rfl)) (by have := hz.2.1; omega) fun k hk => ⟨[3], _, dg_name, by decide, evt_yes, ev_cast (congrArg D.str (SX.num_S k)) (ev_strK (ev_var rfl) (show k.log2 < 1920 from Nat.lt_of_le_of_lt (Nat.log2_le_self k) (by have := hz.2.2 k hk; omega)))⟩)) ?hz1)) ?hz2)⟩
    case ej => rw [spaceS, join_tx]; rfl
    case hz1 => rw [List.length_map, hz.2.1]; exact small (show 1 + n ≤ 100000 by omega)
    case hz2 =>
      rw [List.length_map, wl, spaceS, tx_len]
      show _ + (n + 1) * 1 ≤ _
      have : 8 * (wordsL p).length ≤ 8 * 9 := Nat.mul_le_mul (Nat.le_refl _) (by omega)
      omega
  · rw [List.length_map, List.length_map, hc.zl, semiS, tx_len]
    show _ + ls.length * 2 ≤ _
    omega
  · show D.str _ = D.str _
    rw [semiS, join_tx]; rfl
end K27

namespace K27
open PySem PySem.Spec PyProof.Rows L2 Dw
variable [Tabs0]
/-! what is refused of cases -/
theorem kit_tyK {K : PySem.W.Frag} {C : Addr} {d : D} (h : hasTy d = true) (hd : PySem.W.hasDictIn K C = true) (ht : PySem.W.typeIn K (.ref C) = some (.type "type")) : PySem.W.kitOne K (tyD d) (.ref C) = some false := by
  obtain ⟨cd, hc, _⟩ := PySem.W.any_some hd
  have main : ∀ n : String, PySem.W.subIn K (.type n) (.ref C) = some false → PySem.W.kitOne K (.type n) (.ref C) = some false := fun n e => by
    unfold PySem.W.kitOne
    rw [if_neg (by intro z; cases beq_iff_eq.mp z)]
    show (if ((PySem.W.clsIn K C).isSome && PySem.W.typeIn K (.ref C) == some (.type "type")) = true then PySem.W.subIn K (.type n) (.ref C) else none) = some false
    rw [if_pos (by rw [hc, ht]; rfl)]
    exact e
  cases d <;> first | exact main _ rfl | exact absurd h Bool.false_ne_true
theorem kit_noK {K : PySem.W.Frag} {D C : Addr} (hd : PySem.W.hasDictIn K C = true) (ht : PySem.W.typeIn K (.ref C) = some (.type "type")) (hs : PySem.W.subIn K (.ref D) (.ref C) = some false) (ne : (D == C) = false) : PySem.W.kitOne K (.ref D) (.ref C) = some false := by
  obtain ⟨cd, hc, _⟩ := PySem.W.any_some hd
  unfold PySem.W.kitOne
  rw [if_neg]
  · show (if ((PySem.W.clsIn K C).isSome && PySem.W.typeIn K (.ref C) == some (.type "type")) = true then PySem.W.subIn K (.ref D) (.ref C) else none) = some false
    rw [if_pos (by rw [hc, ht]; rfl)]
    exact hs
  · intro z
    have e : D = C := Value.ref.inj (beq_iff_eq.mp z)
    rw [e, beq_self_eq_true] at ne
    cases ne
theorem np_cons {d : D} {r : List D} (h : noP d = true) (hr : noPs r = true) : noPs (d :: r) = true := by
  show (noP d && noPs r) = true
  rw [h, hr]; rfl
theorem np_bookD (B : Addr) (ls rs : List (List Nat)) : noP (bookD B ls rs) = true := by
  have h : (noP (bookD B ls rs) && true) = true := np_book B ls rs
  simpa using h
theorem np_caseO1 (C : Addr) (ls ms : List (List Nat)) : noP (caseO C ls ms) = true := by
  have h : (noP (caseO C ls ms) && true) = true := np_caseO (r := []) rfl
  simpa using h
/-- what is no case: data, or a book -/
def CsBad (B : Addr) (d : D) : Prop := (hasTy d = true ∧ noP d = true) ∨ ∃ ls rs, d = bookD B ls rs
theorem CsBad.np {B : Addr} {d : D} (h : CsBad B d) : noP d = true := by
  rcases h with h | ⟨ls, rs, rfl⟩
  · exact h.2
  · exact np_bookD _ _ _
/-- what is no name of a case: data, or a case -/
def NmBad (C : Addr) (ls : List (List Nat)) (d : D) : Prop := (hasTy d = true ∧ noP d = true ∧ isStrB d = false) ∨ (∃ l : List Nat, d = .str (tx l) ∧ l ∉ ls) ∨ ∃ ns ms, d = caseO C ns ms
theorem NmBad.np {C : Addr} {ls : List (List Nat)} {d : D} (h : NmBad C ls d) : noP d = true := by
  rcases h with h | ⟨l, rfl, _⟩ | ⟨ns, ms, rfl⟩
  · exact h.2.1
  · rfl
  · exact np_caseO1 _ _ _
def spCsX (B E : Addr) : SpcX where
  ty := D
  args := fun d => [d]
  ok := fun d => CsBad B d
  ex := fun d => ⟨E, [("given", d)]⟩
def spKnX (C E : Addr) : SpcX where
  ty := D × List (List Nat)
  args := fun x => [x.1, .tupN (nameD x.2)]
  ok := fun x => NmBad C x.2 x.1
  ex := fun x => ⟨E, [("given", x.1)]⟩
def spRkX (E : Addr) : SpcX where
  ty := D × Nat
  args := fun x => [x.1, .int x.2]
  ok := fun x => Pv x.1 ∧ x.2 ≤ 8 ∧ rkB x.1 x.2 = false
  ex := fun x => ⟨E, [("given", x.1)]⟩
/-- no case; no first name; no second name; the same name twice -/
abbrev AgT : Type := D × D × D ⊕ (CaseT × D × D ⊕ (CaseT × Nat × D ⊕ CaseT × Nat))
def agZA (C : Addr) : AgT → D | .inl p => p.1 | .inr (.inl y) => caseO C y.1.1 y.1.2.1 | .inr (.inr (.inl y)) => caseO C y.1.1 y.1.2.1 | .inr (.inr (.inr y)) => caseO C y.1.1 y.1.2.1
def agZB : AgT → D | .inl p => p.2.1 | .inr (.inl y) => y.2.1 | .inr (.inr (.inl y)) => .str (tx (rowAt y.1.1 y.2.1)) | .inr (.inr (.inr y)) => .str (tx (rowAt y.1.1 y.2))
def agZC : AgT → D | .inl p => p.2.2 | .inr (.inl y) => y.2.2 | .inr (.inr (.inl y)) => y.2.2 | .inr (.inr (.inr y)) => .str (tx (rowAt y.1.1 y.2))
def spAgX (B C E E2 : Addr) : SpcX where
  ty := AgT
  args := fun x => [agZA C x, agZB x, agZC x]
  ok := fun x => match x with
    | .inl p => CsBad B p.1
    | .inr (.inl y) => NmBad C y.1.1 y.2.1
    | .inr (.inr (.inl y)) => y.2.1 < y.1.1.length ∧ NmBad C y.1.1 y.2.2
    | .inr (.inr (.inr y)) => y.2 < y.1.1.length
  ex := fun x => match x with
    | .inl p => ⟨E, [("given", p.1)]⟩
    | .inr (.inl y) => ⟨E2, [("given", y.2.1)]⟩
    | .inr (.inr (.inl y)) => ⟨E2, [("given", y.2.2)]⟩
    | .inr (.inr (.inr y)) => ⟨E2, [("given", .str (tx (rowAt y.1.1 y.2)))]⟩
abbrev TwoT : Type := D × D ⊕ CaseT × D
def twA (C : Addr) : TwoT → D | .inl p => p.1 | .inr y => caseO C y.1.1 y.1.2.1
def twB : TwoT → D | .inl p => p.2 | .inr y => y.2
def spTwX (B C E E2 : Addr) (bad : CaseT → D → Prop) : SpcX where
  ty := TwoT
  args := fun x => [twA C x, twB x]
  ok := fun x => match x with
    | .inl p => CsBad B p.1
    | .inr y => bad y.1 y.2
  ex := fun x => match x with
    | .inl p => ⟨E, [("given", p.1)]⟩
    | .inr y => ⟨E2, [("given", y.2)]⟩
def BadN (C : Addr) (c : CaseT) (d : D) : Prop := NmBad C c.1 d
def BadO (c : CaseT) (d : D) : Prop := CaseOk c.1 c.2.1 c.2.2 ∧ Pv d ∧ rkB d c.2.2 = false
end K27

namespace K27
open PySem PySem.Spec PyProof.Rows L2 Dw
variable [Tabs0]
theorem d_NotACase___init__ {P : Program} {w : World} {K : PySem.W.Frag} {mg : Str → Option Value} {base : Heap} (T : Txt K w mg) : FnOk P w K mg base CX0 1 T.f_NotACase___init__ T.e_NotACase___init__ ["self", "given"] (spXI T.C_NotACase "given") :=
  fn_xinit T.F_NotACase___init__ sc_NotACase___init__ rfl T.xo_NotACase T.xn_NotACase_given rfl fun cdv A outer s' H E => (pss_one (ps_ost (pv 0) (pv 1)))

end K27

namespace K27
open PySem PySem.Spec PyProof.Rows L2 Dw
variable [Tabs0]
theorem d_UnknownName___init__ {P : Program} {w : World} {K : PySem.W.Frag} {mg : Str → Option Value} {base : Heap} (T : Txt K w mg) : FnOk P w K mg base CX0 1 T.f_UnknownName___init__ T.e_UnknownName___init__ ["self", "given"] (spXI T.C_UnknownName "given") :=
  fn_xinit T.F_UnknownName___init__ sc_UnknownName___init__ rfl T.xo_UnknownName T.xn_UnknownName_given rfl fun cdv A outer s' H E => (pss_one (ps_ost (pv 0) (pv 1)))

end K27

namespace K27
open PySem PySem.Spec PyProof.Rows L2 Dw
variable [Tabs0]
theorem d_InvalidRanking___init__ {P : Program} {w : World} {K : PySem.W.Frag} {mg : Str → Option Value} {base : Heap} (T : Txt K w mg) : FnOk P w K mg base CX0 1 T.f_InvalidRanking___init__ T.e_InvalidRanking___init__ ["self", "given"] (spXI T.C_InvalidRanking "given") :=
  fn_xinit T.F_InvalidRanking___init__ sc_InvalidRanking___init__ rfl T.xo_InvalidRanking T.xn_InvalidRanking_given rfl fun cdv A outer s' H E => (pss_one (ps_ost (pv 0) (pv 1)))

end K27

namespace K27
open PySem PySem.Spec PyProof.Rows L2 Dw
variable [Tabs0]
theorem d_Case___str__ {P : Program} {w : World} {K : PySem.W.Frag} {mg : Str → Option Value} {base : Heap} (T : Txt K w mg) : FnOk P w K mg base CX0 1 T.f_Case___str__ T.e_Case___str__ ["self"] (toSp (spCText T.C_Case)) := by
  refine fn_ok T.F_Case___str__ sc_Case___str__ (fun _ => rfl) fun cdv A outer s' H E hr => ?_
  refine ⟨_, (pss_one (ps_ret (pe_callTy SkE.call_str_str (by rfl) T.n_str (by decide +kernel) (pa_cons (fldA K (pv 0)) pa_nil)))), fun x hx => ?_⟩
  obtain ⟨ls, ms, n⟩ := x
  exact ds_ret (Ev.dl (ev_strS (ev_fld T.cl_Case T.cno_text (ev_var rfl) (by rfl))) rfl)
end K27

namespace K27
open PySem PySem.Spec PyProof.Rows L2 Dw
variable [Tabs0]
theorem d_check_case {P : Program} {w : World} {K : PySem.W.Frag} {mg : Str → Option Value} {base : Heap} (T : Txt K w mg) : FnOk P w K mg base (L2.CX P w) 3 T.f_check_case T.e_check_case ["case"] (spRX (spCkCase T.C_Case) (spCsX T.C_Book T.C_NotACase)) := by
  refine fn_okX T.F_check_case sc_check_case (fun _ => rfl) (fun _ => rfl) fun cdv A outer s' H E hr => ?_
  refine ⟨_, (pss_one (ps_if (pt_not (truA K (pe_callB (isiA K) (by rfl) T.n_isinstance (by decide +kernel) (pa_cons (pv 0) (pa_cons (pe_glob (v := .ref T.C_Case) (by rfl) T.m_Case rfl) pa_nil))))) (pss_one (ps_raise rfl (takes_of rfl rfl rfl rfl) (pmk_oex T.xo_NotACase T.xj_NotACase T.xy_NotACase (d_NotACase___init__ T) (hr.mono (by decide)) T.b_NotACase___init__ .nil pass0 (by rfl) T.m_NotACase (pa_cons (pv 0) pa_nil)))) pss_nil)), fun x hx => ?_, fun x hx => ?_⟩
  · obtain ⟨ls, ms, n⟩ := x
    exact ds_if (EvT.dl (b := false) (evt_not (a := true) (evt_tru_bl (ev_isi (ev_var rfl) ev_raw (.inr ⟨_, _, _, rfl, T.ins_Case⟩) (.own _) kit_self))) ⟨fun h => (nomatch h), fun _ => ds_next rfl⟩)
  · obtain ⟨d, rfl⟩ : ∃ l : D, l = x := ⟨x, rfl⟩
    have hx : CsBad T.C_Book d := hx
    rcases hx with hx | ⟨ls, rs, rfl⟩
    · exact ers_ifT (evt_not (a := false) (evt_tru_bl (ev_isi (ev_var rfl) ev_raw (.inl hx.1) (.own _) (kit_tyK hx.1 T.cl_Case.hd T.ct_Case)))) (ers_raiseF rfl (eva_cons (ev_var rfl) eva_nil))
    · exact ers_ifT (evt_not (a := false) (evt_tru_bl (ev_isi (ev_var rfl) ev_raw (.inr ⟨_, _, _, rfl, T.ins_Book⟩) (.own _) (kit_noK T.cl_Case.hd T.ct_Case T.sub_BC T.ne_BC)))) (ers_raiseF rfl (eva_cons (ev_var rfl) eva_nil))
end K27

namespace K27
open PySem PySem.Spec PyProof.Rows L2 Dw
variable [Tabs0]
theorem d_check_known {P : Program} {w : World} {K : PySem.W.Frag} {mg : Str → Option Value} {base : Heap} (T : Txt K w mg) : FnOk P w K mg base (L2.CX P w) 3 T.f_check_known T.e_check_known ["name", "names"] (spRX (spKnown) (spKnX T.C_Case T.C_UnknownName)) := by
  refine fn_okX T.F_check_known sc_check_known (fun _ => rfl) (fun _ => rfl) fun cdv A outer s' H E hr => ?_
  refine ⟨_, (pss_one (ps_if (PW.pt (pw_or (pt_not (truA K (pe_callB (isiA K) (by rfl) T.n_isinstance (by decide +kernel) (pa_cons (pv 0) (pa_cons (pe_bltn (v := .ty "str") (by rfl) T.n_str (by decide +kernel) rfl) pa_nil))))) (pw_or1 (pt_cmpR (ninA K) (pv 0) (pv 1) (by rfl))))) (pss_one (ps_raise rfl (takes_of rfl rfl rfl rfl) (pmk_oex T.xo_UnknownName T.xj_UnknownName T.xy_UnknownName (d_UnknownName___init__ T) (hr.mono (by decide)) T.b_UnknownName___init__ .nil pass0 (by rfl) T.m_UnknownName (pa_cons (pv 0) pa_nil)))) pss_nil)), fun x hx => ?_, fun x hx => ?_⟩
  · obtain ⟨ls, i⟩ := x
    have hi : i < ls.length := hx
    have ein : inV (.str (tx (rowAt ls i))) ((nameD ls).map scV) = true := by rw [inV_name]; exact decide_eq_true (rowAt_mem hi)
    exact ds_if (EvT.dl (b := false) (evt_or (a := false) (b := false) (evt_not (a := true) (evt_tru_bl (ev_isi (ev_var rfl) ev_raw (.inl rfl) (.ty "str") rfl))) fun _ => evt_test (ev_cast (congrArg D.bl (congrArg not ein)) (ev_inT (K := K) (neg := true) (d := .str (tx (rowAt ls i))) (ds := nameD ls) (ev_var rfl) (ev_dn (ev_var rfl)) rfl (sc_names ls)))) ⟨fun h => (nomatch h), fun _ => ds_next rfl⟩)
  · obtain ⟨d, ls⟩ := x
    have hx : NmBad T.C_Case ls d := hx
    rcases hx with ⟨h1, h2, h3⟩ | ⟨l, rfl, hl⟩ | ⟨ns, ms, rfl⟩
    · exact ers_ifT (evt_or (a := true) (b := true) (evt_not (a := false) (evt_tru_bl (ev_isi (ev_var rfl) ev_raw (.inl h1) (.ty "str") (by rw [kit_str h1, h3])))) fun h => nomatch h) (ers_raiseF rfl (eva_cons (ev_var rfl) eva_nil))
    · have ein : inV (.str (tx l)) ((nameD ls).map scV) = false := by rw [inV_name]; exact decide_eq_false hl
      exact ers_ifT (evt_or (a := false) (b := true) (evt_not (a := true) (evt_tru_bl (ev_isi (ev_var rfl) ev_raw (.inl rfl) (.ty "str") rfl))) fun _ => evt_test (ev_cast (congrArg D.bl (congrArg not ein)) (ev_inT (K := K) (neg := true) (d := .str (tx l)) (ds := nameD ls) (ev_var rfl) (ev_dn (ev_var rfl)) rfl (sc_names ls)))) (ers_raiseF rfl (eva_cons (ev_var rfl) eva_nil))
    · exact ers_ifT (evt_or (a := true) (b := true) (evt_not (a := false) (evt_tru_bl (ev_isi (ev_var rfl) ev_raw (.inr ⟨_, _, _, rfl, T.ins_Case⟩) (.ty "str") T.kt_Cs))) fun h => nomatch h) (ers_raiseF rfl (eva_cons (ev_var rfl) eva_nil))
end K27

namespace K27
open PySem PySem.Spec PyProof.Rows L2 Dw
variable [Tabs0]
theorem d_check_ranking {P : Program} {w : World} {K : PySem.W.Frag} {mg : Str → Option Value} {base : Heap} (T : Txt K w mg) : FnOk P w K mg base (L2.CX P w) 3 T.f_check_ranking T.e_check_ranking ["ranking", "many"] (spRX (spCkRkJ) (spRkX T.C_InvalidRanking)) := by
  refine fn_okX T.F_check_ranking sc_check_ranking (fun _ => rfl) (fun _ => rfl) fun cdv A outer s' H E hr => ?_
  refine ⟨_, (pss_one (ps_if (pt_not (truA K (pe_call (d_is_ranking T) (hr.mono (by decide)) (by rfl) T.m_is_ranking T.F_is_ranking.kp T.b_is_ranking .nil pass0 (pa_cons (pv 0) (pa_cons (pv 1) pa_nil))))) (pss_one (ps_raise rfl (takes_of rfl rfl rfl rfl) (pmk_oex T.xo_InvalidRanking T.xj_InvalidRanking T.xy_InvalidRanking (d_InvalidRanking___init__ T) (hr.mono (by decide)) T.b_InvalidRanking___init__ .nil pass0 (by rfl) T.m_InvalidRanking (pa_cons (pv 0) pa_nil)))) pss_nil)), fun x hx => ?_, fun x hx => ?_⟩
  · obtain ⟨o, n⟩ := x
    obtain ⟨ho, h8⟩ := hx
    have ho : o.Perm (List.range n) := ho
    have h8 : n ≤ 8 := h8
    have pv : Pv (.tup (ordD o)) := plW_pv (z := 60) (k := 1) (plW_ord (by rw [ho.length_eq, List.length_range]; omega)) (by decide) (by decide)
    exact ds_if (EvT.dl (b := false) (evt_not (a := true) (evt_tru_bl (ev_call (s := spIsRkG) (d := .bl true) (x := (.tup (ordD o), n)) (eva_cons (ev_var rfl) (eva_cons (ev_var rfl) eva_nil)) (np_to rfl) ⟨pv, h8⟩ fun d h => h.trans (congrArg D.bl (rkB_iff.mpr ⟨o, rfl, ho⟩))))) ⟨fun h => (nomatch h), fun _ => ds_next rfl⟩)
  · obtain ⟨d, n⟩ := x
    obtain ⟨hp, h8, hr'⟩ := hx
    have hp : Pv d := hp
    exact ers_ifT (evt_not (a := false) (evt_tru_bl (ev_call (s := spIsRkG) (d := .bl false) (x := (d, n)) (eva_cons (ev_var rfl) (eva_cons (ev_var rfl) eva_nil)) (np_cons hp.np rfl) ⟨hp, h8⟩ fun e h => by rw [h]; exact congrArg D.bl hr'))) (ers_raiseF rfl (eva_cons (ev_var rfl) eva_nil))
end K27

namespace K27
open PySem PySem.Spec PyProof.Rows L2 Dw
variable [Tabs0]
theorem npk27 (ls : List (List Nat)) (j : Nat) : noPs [.str (tx (rowAt ls j)), .tupN (nameD ls)] = true := by
  show (true && (noPs (nameD ls) && true)) = true
  rw [np_name]; rfl
end K27

namespace K27
open PySem PySem.Spec PyProof.Rows L2 Dw
variable [Tabs0]
theorem d_against {P : Program} {w : World} {K : PySem.W.Frag} {mg : Str → Option Value} {base : Heap} (T : Txt K w mg) : FnOk P w K mg base (L2.CX P w) 4 T.f_against T.e_against ["case", "one", "other"] (spRX (spAgP T.C_Case) (spAgX T.C_Book T.C_Case T.C_NotACase T.C_UnknownName)) := by
  refine fn_okX T.F_against sc_against (fun _ => rfl) (fun _ => rfl) fun cdv A outer s' H E hr => ?_
  refine ⟨_, (pss_cons (ps_expr (pe_call (E := E) (d_check_case T) (hr.mono (by decide)) (by rfl) T.m_check_case T.F_check_case.kp T.b_check_case .nil (passes_call (takes_of rfl rfl rfl rfl) fun _ _ _ _ h => h) (pa_cons (pv 0) pa_nil))) (pss_cons (ps_expr (pe_call (E := E) (d_check_known T) (hr.mono (by decide)) (by rfl) T.m_check_known T.F_check_known.kp T.b_check_known .nil (passes_call (takes_of rfl rfl rfl rfl) fun _ _ _ _ h => h) (pa_cons (pv 1) (pa_cons (pe_prop (pv 0) T.cl_Case T.p_Case_names (d_Case_names T) (hr.mono (by decide)) T.b_Case_names .nil pass0 rfl) pa_nil)))) (pss_cons (ps_expr (pe_call (E := E) (d_check_known T) (hr.mono (by decide)) (by rfl) T.m_check_known T.F_check_known.kp T.b_check_known .nil (passes_call (takes_of rfl rfl rfl rfl) fun _ _ _ _ h => h) (pa_cons (pv 2) (pa_cons (pe_prop (pv 0) T.cl_Case T.p_Case_names (d_Case_names T) (hr.mono (by decide)) T.b_Case_names .nil pass0 rfl) pa_nil)))) (pss_cons (ps_if (pt_cmpR (eqA K hr.units) (pv 1) (pv 2) (nomark _)) (pss_one (ps_raise rfl (takes_of rfl rfl rfl rfl) (pmk_oex T.xo_UnknownName T.xj_UnknownName T.xy_UnknownName (d_UnknownName___init__ T) (hr.mono (by decide)) T.b_UnknownName___init__ .nil pass0 (by rfl) T.m_UnknownName (pa_cons (pv 2) pa_nil)))) pss_nil) (pss_one (ps_ret (pe_call (d_row_against T) (hr.mono (by decide)) (by rfl) T.m_row_against T.F_row_against.kp T.b_row_against .nil pass0 (pa_cons (pv 0) (pa_cons (pv 1) (pa_cons (pv 2) pa_nil)))))))))), fun x hx => ?_, fun x hx => ?_⟩
  · obtain ⟨⟨ls, ms, n⟩, i, k⟩ := x
    obtain ⟨hc, hi, hk, hik⟩ := hx
    have hc : CaseOk ls ms n := hc
    have hi : i < ls.length := hi
    have hk : k < ls.length := hk
    have hik : i ≠ k := hik
    have npk : ∀ j, noPs [.str (tx (rowAt ls j)), .tupN (nameD ls)] = true := fun j => by
      show (true && (noPs (nameD ls) && true)) = true
      rw [np_name]; rfl
    refine ds_seq (ds_drop (Ev.dl (ev_call_or (s := spCkCase T.C_Case) (x := (ls, ms, n)) (eva_cons (ev_var rfl) eva_nil) (np_caseO (r := []) rfl) trivial fun d h => h) ?_))
    refine ds_seq (ds_drop (Ev.dl (ev_call_or (s := spKnown) (x := (ls, i)) (eva_cons (ev_var rfl) (eva_cons (ev_prop (s := spCNames T.C_Case) (x := (ls, ms, n)) (ev_var rfl) rfl (np_caseO (r := []) rfl) trivial fun d h => h) eva_nil)) (npk i) hi fun d h => h) ?_))
    refine ds_seq (ds_drop (Ev.dl (ev_call_or (s := spKnown) (x := (ls, k)) (eva_cons (ev_var rfl) (eva_cons (ev_prop (s := spCNames T.C_Case) (x := (ls, ms, n)) (ev_var rfl) rfl (np_caseO (r := []) rfl) trivial fun d h => h) eva_nil)) (npk k) hk fun d h => h) ?_))
    have ne : decide (tx (rowAt ls i) = tx (rowAt ls k)) = false := decide_eq_false fun h => hik (rowAt_inj hc.names.pw hi hk (tx_eq.mp h))
    refine ds_seq (ds_if (EvT.dl (b := false) (evt_test (ev_cast (congrArg D.bl ne) (ev_op (ev_var rfl) (ev_var rfl) eq_str'))) ⟨fun h => (nomatch h), fun _ => ds_next ?_⟩))
    exact ds_ret (Ev.dl (ev_call (s := spAgC T.C_Case) (x := ((ls, ms, n), i, k)) (eva_cons (ev_var rfl) (eva_cons (ev_var rfl) (eva_cons (ev_var rfl) eva_nil))) (np_caseO (r := [_, _]) rfl) ⟨hc, hi, hk⟩ fun d h => h) rfl)
  · rcases x with ⟨d, d1, d2⟩ | ⟨⟨ls, ms, n⟩, d, d2⟩ | ⟨⟨ls, ms, n⟩, i, d⟩ | ⟨⟨ls, ms, n⟩, i⟩
    · exact (ers_first (ers_drop (ert_call (sx := spCsX T.C_Book T.C_NotACase) (x := d) (eva_cons (ev_var rfl) eva_nil) hx fun ed H' h => h)))
    · exact ers_seq (pus_drop (ev_call_or (s := spCkCase T.C_Case) (x := (ls, ms, n)) (eva_cons (ev_var rfl) eva_nil) (np_caseO (r := []) rfl) trivial fun d h => h)) (ers_first (ers_drop (ert_call (sx := spKnX T.C_Case T.C_UnknownName) (x := (d, ls)) (eva_cons (ev_var rfl) (eva_cons (ev_prop (s := spCNames T.C_Case) (x := (ls, ms, n)) (ev_var rfl) rfl (np_caseO (r := []) rfl) trivial fun d h => h) eva_nil)) hx fun ed H' h => h)))
    · obtain ⟨hi, hd⟩ := hx
      have hi : i < ls.length := hi
      exact ers_seq (pus_drop (ev_call_or (s := spCkCase T.C_Case) (x := (ls, ms, n)) (eva_cons (ev_var rfl) eva_nil) (np_caseO (r := []) rfl) trivial fun d h => h)) (ers_seq (pus_drop (ev_call_or (s := spKnown) (x := (ls, i)) (eva_cons (ev_var rfl) (eva_cons (ev_prop (s := spCNames T.C_Case) (x := (ls, ms, n)) (ev_var rfl) rfl (np_caseO (r := []) rfl) trivial fun d h => h) eva_nil)) (npk27 ls i) hi fun d h => h)) (ers_first (ers_drop (ert_call (sx := spKnX T.C_Case T.C_UnknownName) (x := (d, ls)) (eva_cons (ev_var rfl) (eva_cons (ev_prop (s := spCNames T.C_Case) (x := (ls, ms, n)) (ev_var rfl) rfl (np_caseO (r := []) rfl) trivial fun d h => h) eva_nil)) hd fun ed H' h => h))))
    · have hi : i < ls.length := hx
      refine ers_seq (pus_drop (ev_call_or (s := spCkCase T.C_Case) (x := (ls, ms, n)) (eva_cons (ev_var rfl) eva_nil) (np_caseO (r := []) rfl) trivial fun d h => h)) (ers_seq (pus_drop (ev_call_or (s := spKnown) (x := (ls, i)) (eva_cons (ev_var rfl) (eva_cons (ev_prop (s := spCNames T.C_Case) (x := (ls, ms, n)) (ev_var rfl) rfl (np_caseO (r := []) rfl) trivial fun d h => h) eva_nil)) (npk27 ls i) hi fun d h => h)) (ers_seq (pus_drop (ev_call_or (s := spKnown) (x := (ls, i)) (eva_cons (ev_var rfl) (eva_cons (ev_prop (s := spCNames T.C_Case) (x := (ls, ms, n)) (ev_var rfl) rfl (np_caseO (r := []) rfl) trivial fun d h => h) eva_nil)) (npk27 ls i) hi fun d h => h)) (ers_first (ers_ifT (evt_test (ev_cast (congrArg D.bl (decide_eq_true rfl)) (ev_op (ev_var rfl) (ev_var rfl) eq_str'))) (ers_raiseF rfl (eva_cons (ev_var rfl) eva_nil))))))
end K27

namespace K27
open PySem PySem.Spec PyProof.Rows L2 Dw
variable [Tabs0]
theorem d_told_by {P : Program} {w : World} {K : PySem.W.Frag} {mg : Str → Option Value} {base : Heap} (T : Txt K w mg) : FnOk P w K mg base (L2.CX P w) 5 T.f_told_by T.e_told_by ["case", "one"] (spRX (spRowsOf T.C_Case) (spTwX T.C_Book T.C_Case T.C_NotACase T.C_UnknownName (BadN T.C_Case))) := by
  refine fn_okX T.F_told_by sc_told_by (fun _ => rfl) (fun _ => rfl) fun cdv A outer s' H E hr => ?_
  refine ⟨_, (pss_cons (ps_expr (pe_call (E := E) (d_check_case T) (hr.mono (by decide)) (by rfl) T.m_check_case T.F_check_case.kp T.b_check_case .nil (passes_call (takes_of rfl rfl rfl rfl) fun _ _ _ _ h => h) (pa_cons (pv 0) pa_nil))) (pss_cons (ps_expr (pe_call (E := E) (d_check_known T) (hr.mono (by decide)) (by rfl) T.m_check_known T.F_check_known.kp T.b_check_known .nil (passes_call (takes_of rfl rfl rfl rfl) fun _ _ _ _ h => h) (pa_cons (pv 1) (pa_cons (pe_prop (pv 0) T.cl_Case T.p_Case_names (d_Case_names T) (hr.mono (by decide)) T.b_Case_names .nil pass0 rfl) pa_nil)))) (pss_one (ps_ret (pe_call (d_rows_of T) (hr.mono (by decide)) (by rfl) T.m_rows_of T.F_rows_of.kp T.b_rows_of .nil pass0 (pa_cons (pv 0) (pa_cons (pv 1) pa_nil))))))), fun x hx => ?_, fun x hx => ?_⟩
  · obtain ⟨⟨ls, ms, n⟩, i⟩ := x
    obtain ⟨hc, hi⟩ := hx
    have hc : CaseOk ls ms n := hc
    have hi : i < ls.length := hi
    refine ds_seq (ds_drop (Ev.dl (ev_call_or (s := spCkCase T.C_Case) (x := (ls, ms, n)) (eva_cons (ev_var rfl) eva_nil) (np_caseO (r := []) rfl) trivial fun d h => h) ?_))
    refine ds_seq (ds_drop (Ev.dl (ev_call_or (s := spKnown) (x := (ls, i)) (eva_cons (ev_var rfl) (eva_cons (ev_prop (s := spCNames T.C_Case) (x := (ls, ms, n)) (ev_var rfl) rfl (np_caseO (r := []) rfl) trivial fun d h => h) eva_nil)) ?npk hi fun d h => h) ?_))
    case npk =>
      show (true && (noPs (nameD ls) && true)) = true
      rw [np_name]; rfl
    exact ds_ret (Ev.dl (ev_call (s := spRowsOf T.C_Case) (x := ((ls, ms, n), i)) (eva_cons (ev_var rfl) (eva_cons (ev_var rfl) eva_nil)) (np_caseO (r := [_]) rfl) ⟨hc, hi⟩ fun d h => h) rfl)
  · rcases x with ⟨d, d1⟩ | ⟨⟨ls, ms, n⟩, d⟩
    · exact (ers_first (ers_drop (ert_call (sx := spCsX T.C_Book T.C_NotACase) (x := d) (eva_cons (ev_var rfl) eva_nil) hx fun ed H' h => h)))
    · exact ers_seq (pus_drop (ev_call_or (s := spCkCase T.C_Case) (x := (ls, ms, n)) (eva_cons (ev_var rfl) eva_nil) (np_caseO (r := []) rfl) trivial fun d h => h)) (ers_first (ers_drop (ert_call (sx := spKnX T.C_Case T.C_UnknownName) (x := (d, ls)) (eva_cons (ev_var rfl) (eva_cons (ev_prop (s := spCNames T.C_Case) (x := (ls, ms, n)) (ev_var rfl) rfl (np_caseO (r := []) rfl) trivial fun d h => h) eva_nil)) hx fun ed H' h => h)))
end K27

namespace K27
open PySem PySem.Spec PyProof.Rows L2 Dw
variable [Tabs0]
theorem d_winners {P : Program} {w : World} {K : PySem.W.Frag} {mg : Str → Option Value} {base : Heap} (T : Txt K w mg) : FnOk P w K mg base (L2.CX P w) 5 T.f_winners T.e_winners ["case", "ranking"] (spRX (spWinn T.C_Case) (spTwX T.C_Book T.C_Case T.C_NotACase T.C_InvalidRanking BadO)) := by
  refine fn_okX T.F_winners sc_winners (fun _ => rfl) (fun _ => rfl) fun cdv A outer s' H E hr => ?_
  refine ⟨_, (pss_cons (ps_expr (pe_call (E := E) (d_check_case T) (hr.mono (by decide)) (by rfl) T.m_check_case T.F_check_case.kp T.b_check_case .nil (passes_call (takes_of rfl rfl rfl rfl) fun _ _ _ _ h => h) (pa_cons (pv 0) pa_nil))) (pss_cons (ps_expr (pe_call (E := E) (d_check_ranking T) (hr.mono (by decide)) (by rfl) T.m_check_ranking T.F_check_ranking.kp T.b_check_ranking .nil (passes_call (takes_of rfl rfl rfl rfl) fun _ _ _ _ h => h) (pa_cons (pv 1) (pa_cons (pe_callB (lenA K) (by rfl) T.n_len (by decide +kernel) (pa_cons (pe_ix (ixA K) (pe_prop (pv 0) T.cl_Case T.p_Case_marks (d_Case_marks T) (hr.mono (by decide)) T.b_Case_marks .nil pass0 rfl) pe_int (fun _ _ => rfl)) pa_nil)) pa_nil)))) (pss_one (ps_ret (pe_callTy (tupleA K) (by rfl) T.n_tuple (by decide +kernel) (pa_cons (pe_lc (own := [("name", 2)]) rfl sc_winners.nd (piR K (pe_prop (pv 0) T.cl_Case T.p_Case_names (d_Case_names T) (hr.mono (by decide)) T.b_Case_names .nil pass0 rfl)) (blkOk_by (own := [("name", 2)]) (N := N_winners) (sc := (defScope s_winners)) (by decide +kernel)) (fun _ _ _ _ _ => pg_name (i := 2) sc_winners.nd rfl (Or.inl rfl)) (fun _ _ _ _ _ => pts_one (truA K (pe_call (d_all_hold T) (hr.mono (by decide)) (by rfl) T.m_all_hold T.F_all_hold.kp T.b_all_hold .nil pass0 (pa_cons (pe_call (d_rows_of T) (hr.mono (by decide)) (by rfl) T.m_rows_of T.F_rows_of.kp T.b_rows_of .nil pass0 (pa_cons (pv 0) (pa_cons (pv 2) pa_nil))) (pa_cons (pv 1) pa_nil))))) (fun _ _ _ _ _ => (pv 2))) pa_nil)))))), fun x hx => ?_, fun x hx => ?_⟩
  · obtain ⟨⟨ls, ms, n⟩, o⟩ := x
    obtain ⟨hc, ho⟩ := hx
    have hc : CaseOk ls ms n := hc
    have ho : o.Perm (List.range n) := ho
    have h8 := hc.names.hi
    have n8 := hc.hi
    have sm := hc.same
    have h2 := hc.two
    have hm0 : (rowAt ms 0).length = n := hc.wide _ (rowAt_mem (by omega))
    refine ds_seq (ds_drop (Ev.dl (ev_call_or (s := spCkCase T.C_Case) (x := (ls, ms, n)) (eva_cons (ev_var rfl) eva_nil) (np_caseO (r := []) rfl) trivial fun d h => h) ?_))
    refine ds_seq (ds_drop (Ev.dl (ev_call_or (s := spCkRkJ) (x := (o, n)) (eva_cons (ev_var rfl) (eva_cons (ev_cast (congrArg (fun n : Nat => D.int n) ((ordD_len (rowAt ms 0)).trans hm0)) (ev_lenT (ds := ordD (rowAt ms 0)) (ev_ixT (d := .tup (ordD (rowAt ms 0))) (ds := msD ms) (ev_prop (s := spCMarks T.C_Case) (x := (ls, ms, n)) (ev_var rfl) rfl (np_caseO (r := []) rfl) trivial fun d h => h) ev_int (atI_nat (j := 0) (msD_at (show 0 < ms.length by omega)))))) eva_nil)) (np_to (r := [_]) rfl) ⟨ho, n8⟩ fun d h => h) ?_))
    refine ds_ret (Ev.dl (ev_cast (d' := .tup (nameD (winM ls ms o))) (by unfold winM winI nameD; rw [List.map_map, sm]; rfl) (ev_tuple (EvN.b (evn_lc (xs := List.range ls.length) (c := fun k => .str (tx (rowAt ls k))) (p := fun i => (rwM ms i).all fun r => holdsB r o) (f := fun k => .str (tx (rowAt ls k))) ?ej (by rw [List.length_range]; omega) fun i hi => ⟨[2], _, dg_name, fun i hi => hi, evt_tru_bl (ev_call (s := spAllHoldG) (d := .bl ((rwM ms i).all fun r => holdsB r o)) (x := (rwM ms i, o, false)) (eva_cons (ev_call (s := spRowsOf T.C_Case) (d := .tup (nameD (rwM ms i))) (x := ((ls, ms, n), i)) (eva_cons (ev_var rfl) (eva_cons (ev_var rfl) eva_nil)) (np_caseO (r := [_]) rfl) ⟨hc, List.mem_range.mp hi⟩ fun d h => h) (eva_cons (ev_var rfl) eva_nil)) (np_tn (np_to (r := []) rfl)) ⟨n, rwM_ok hc (List.mem_range.mp hi), n8, (by show (rwM ms i).length ≤ 1000; have := rw_len (ms := ms) (i := i); omega), fun k hk => List.mem_range.mp (ho.subset hk)⟩ fun d h => h), fun _ => ev_var rfl⟩)))) rfl)
    rw [names_range]
    exact ej_tup (ev_dn (ev_prop (s := spCNames T.C_Case) (x := (ls, ms, n)) (ev_var rfl) rfl (np_caseO (r := []) rfl) trivial fun d h => h))
  · rcases x with ⟨d, d1⟩ | ⟨⟨ls, ms, n⟩, d⟩
    · exact (ers_first (ers_drop (ert_call (sx := spCsX T.C_Book T.C_NotACase) (x := d) (eva_cons (ev_var rfl) eva_nil) hx fun ed H' h => h)))
    · obtain ⟨hc, hp, hb⟩ := hx
      have hc : CaseOk ls ms n := hc
      have h2 := hc.two
      have sm := hc.same
      have hm0 : (rowAt ms 0).length = n := hc.wide _ (rowAt_mem (by omega))
      exact ers_seq (pus_drop (ev_call_or (s := spCkCase T.C_Case) (x := (ls, ms, n)) (eva_cons (ev_var rfl) eva_nil) (np_caseO (r := []) rfl) trivial fun d h => h)) (ers_first (ers_drop (ert_call (sx := spRkX T.C_InvalidRanking) (x := (d, n)) (eva_cons (ev_var rfl) (eva_cons (ev_cast (congrArg (fun n : Nat => D.int n) ((ordD_len (rowAt ms 0)).trans hm0)) (ev_lenT (ds := ordD (rowAt ms 0)) (ev_ixT (d := .tup (ordD (rowAt ms 0))) (ds := msD ms) (ev_prop (s := spCMarks T.C_Case) (x := (ls, ms, n)) (ev_var rfl) rfl (np_caseO (r := []) rfl) trivial fun d h => h) ev_int (atI_nat (j := 0) (msD_at (show 0 < ms.length by omega)))))) eva_nil)) ⟨hp, hc.hi, hb⟩ fun ed H' h => h)))
end K27

namespace K27
open PySem PySem.Spec PyProof.Rows L2 Dw
variable [Tabs0]
theorem d_barred {P : Program} {w : World} {K : PySem.W.Frag} {mg : Str → Option Value} {base : Heap} (T : Txt K w mg) : FnOk P w K mg base (L2.CX P w) 5 T.f_barred T.e_barred ["case"] (spRX (spBarred T.C_Case) (spCsX T.C_Book T.C_NotACase)) := by
  refine fn_okX T.F_barred sc_barred (fun _ => rfl) (fun _ => rfl) fun cdv A outer s' H E hr => ?_
  refine ⟨_, (pss_cons (ps_expr (pe_call (E := E) (d_check_case T) (hr.mono (by decide)) (by rfl) T.m_check_case T.F_check_case.kp T.b_check_case .nil (passes_call (takes_of rfl rfl rfl rfl) fun _ _ _ _ h => h) (pa_cons (pv 0) pa_nil))) (pss_cons (ps_set (i := 1) sc_barred.nd rfl (Or.inr rfl) (pe_callB (lenA K) (by rfl) T.n_len (by decide +kernel) (pa_cons (pe_ix (ixA K) (pe_prop (pv 0) T.cl_Case T.p_Case_marks (d_Case_marks T) (hr.mono (by decide)) T.b_Case_marks .nil pass0 rfl) pe_int (fun _ _ => rfl)) pa_nil))) (pss_one (ps_ret (pe_callTy (tupleA K) (by rfl) T.n_tuple (by decide +kernel) (pa_cons (pe_lc (own := [("name", 2)]) rfl sc_barred.nd (piR K (pe_prop (pv 0) T.cl_Case T.p_Case_names (d_Case_names T) (hr.mono (by decide)) T.b_Case_names .nil pass0 rfl)) (blkOk_by (own := [("name", 2)]) (N := N_barred) (sc := (defScope s_barred)) (by decide +kernel)) (fun _ _ _ _ _ => pg_name (i := 2) sc_barred.nd rfl (Or.inl rfl)) (fun _ _ _ _ _ => pts_one (pt_not (truA K (pe_call (d_some_fits T) (hr.mono (by decide)) (by rfl) T.m_some_fits T.F_some_fits.kp T.b_some_fits .nil pass0 (pa_cons (pe_call (d_rows_of T) (hr.mono (by decide)) (by rfl) T.m_rows_of T.F_rows_of.kp T.b_rows_of .nil pass0 (pa_cons (pv 0) (pa_cons (pv 2) pa_nil))) (pa_cons (pv 1) pa_nil)))))) (fun _ _ _ _ _ => (pv 2))) pa_nil)))))), fun x hx => ?_, fun x hx => ?_⟩
  · obtain ⟨ls, ms, n⟩ := x
    have hc : CaseOk ls ms n := hx
    have h8 := hc.names.hi
    have n8 := hc.hi
    have sm := hc.same
    have h2 := hc.two
    have hm0 : (rowAt ms 0).length = n := hc.wide _ (rowAt_mem (by omega))
    refine ds_seq (ds_drop (Ev.dl (ev_call_or (s := spCkCase T.C_Case) (x := (ls, ms, n)) (eva_cons (ev_var rfl) eva_nil) (np_caseO (r := []) rfl) trivial fun d h => h) ?_))
    refine ds_seq (ds_asg (Ev.dl (ev_cast (congrArg (fun n : Nat => D.int n) ((ordD_len (rowAt ms 0)).trans hm0)) (ev_lenT (ds := ordD (rowAt ms 0)) (ev_ixT (d := .tup (ordD (rowAt ms 0))) (ds := msD ms) (ev_prop (s := spCMarks T.C_Case) (x := (ls, ms, n)) (ev_var rfl) rfl (np_caseO (r := []) rfl) trivial fun d h => h) ev_int (atI_nat (j := 0) (msD_at (show 0 < ms.length by omega)))))) ?_))
    refine ds_ret (Ev.dl (ev_cast (d' := .tup (nameD ((barI ms n).map (rowAt ls)))) (by unfold barI nameD; rw [List.map_map, sm]; rfl) (ev_tuple (EvN.b (evn_lc (xs := List.range ls.length) (c := fun k => .str (tx (rowAt ls k))) (p := fun i => !decide (Still (rwM ms i) n = [])) (f := fun k => .str (tx (rowAt ls k))) ?ej (by rw [List.length_range]; omega) fun i hi => ⟨[2], _, dg_name, fun i hi => hi, evt_not (evt_tru_bl (ev_call (s := spSome) (d := .bl (decide (Still (rwM ms i) n = []))) (x := (rwM ms i, n, false)) (eva_cons (ev_call (s := spRowsOf T.C_Case) (d := .tup (nameD (rwM ms i))) (x := ((ls, ms, n), i)) (eva_cons (ev_var rfl) (eva_cons (ev_var rfl) eva_nil)) (np_caseO (r := [_]) rfl) ⟨hc, List.mem_range.mp hi⟩ fun d h => h) (eva_cons (ev_var rfl) eva_nil)) (np_rd (b := false) (r := [_]) rfl) ⟨rwM_ok hc (List.mem_range.mp hi), n8, (by show (rwM ms i).length ≤ 1000; have := rw_len (ms := ms) (i := i); omega)⟩ fun d h => h)), fun _ => ev_var rfl⟩)))) rfl)
    rw [names_range]
    exact ej_tup (ev_dn (ev_prop (s := spCNames T.C_Case) (x := (ls, ms, n)) (ev_var rfl) rfl (np_caseO (r := []) rfl) trivial fun d h => h))

  · obtain ⟨d, rfl⟩ : ∃ l : D, l = x := ⟨x, rfl⟩
    exact (ers_first (ers_drop (ert_call (sx := spCsX T.C_Book T.C_NotACase) (x := d) (eva_cons (ev_var rfl) eva_nil) hx fun ed H' h => h)))
end K27

namespace K27
open PySem PySem.Spec PyProof.Rows L2 Dw
variable [Tabs0]
/-! repr of a book and of a case, as their classes tell it -/
def reprB (n : Nat) : Str := Str.empty ++ Str.ofString "Book with " ++ Str.ofString (toString (n : Int)) ++ Str.ofString " rules"
def spBRepr (C : Addr) : Spc where
  ty := List (List Nat) × List (List Nat)
  args := fun x => [bookD C x.1 x.2]
  ok := fun x => x.1.length ≤ 8
  rel := fun x d => d = .str (reprB x.1.length)
theorem repr_lenB : ∀ n : Nat, n < 9 → (Str.empty ++ Str.ofString "Book with ").length ≤ 100 ∧ (Str.empty ++ Str.ofString "Book with " ++ Str.ofString (toString (n : Int))).length ≤ 100 ∧ (reprB n).length ≤ 100 := by decide +kernel
def reprC (n : Nat) : Str := Str.empty ++ Str.ofString "Case of " ++ Str.ofString (toString (n : Int)) ++ Str.ofString " candidates"
def spCRepr (C : Addr) : Spc where
  ty := CaseT
  args := fun x => [caseO C x.1 x.2.1]
  ok := fun x => x.1.length ≤ 8
  rel := fun x d => d = .str (reprC x.1.length)
theorem repr_lenC : ∀ n : Nat, n < 9 → (Str.empty ++ Str.ofString "Case of ").length ≤ 100 ∧ (Str.empty ++ Str.ofString "Case of " ++ Str.ofString (toString (n : Int))).length ≤ 100 ∧ (reprC n).length ≤ 100 := by decide +kernel
end K27

namespace K27
open PySem PySem.Spec PyProof.Rows L2 Dw
variable [Tabs0]
theorem d_Book___repr__ {P : Program} {w : World} {K : PySem.W.Frag} {mg : Str → Option Value} {base : Heap} (T : Txt K w mg) : FnOk P w K mg base CX0 1 T.f_Book___repr__ T.e_Book___repr__ ["self"] (toSp (spBRepr T.C_Book)) := by
  refine fn_ok T.F_Book___repr__ sc_Book___repr__ (fun _ => rfl) fun cdv A outer s' H E hr => ?_
  refine ⟨_, (pss_one (ps_ret (pe_joined (.cons pe_str (.cons (pe_fmt (pe_callB (lenA K) (by rfl) T.n_len (by decide +kernel) (pa_cons (fldA K (pv 0)) pa_nil))) (.cons pe_str .nil)))))), fun x hx => ?_⟩
  obtain ⟨ls, rs⟩ := x
  have h8 : ls.length ≤ 8 := hx
  obtain ⟨z1, z2, z3⟩ := repr_lenB ls.length (by omega)
  have hz : ((ls.length : Nat) : Int).natAbs.log2 < 1920 := by
    rw [Int.natAbs_natCast]
    exact Nat.lt_of_le_of_lt (Nat.log2_le_self _) (by omega)
  exact ds_ret (Ev.dl (ev_fstrI (ev_cast (d' := .int (ls.length : Nat)) (congrArg (fun k : Nat => D.int k) (nameD_len ls)) (ev_lenT (ds := nameD ls) (ev_fld T.cl_Book T.no_names (ev_var rfl) (by rfl)))) hz (small (by omega)) (small (by omega)) (small (show (reprB ls.length).length ≤ 100000 by omega))) rfl)
theorem d_Book___repr___H {P : Program} {w : World} {K : PySem.W.Frag} {mg : Str → Option Value} {base : Heap} (T : Txt K w mg) : FnT P w K mg base 1 T.f_Book___repr__ T.e_Book___repr__ ["self"] (toSp (spBRepr T.C_Book)) := by
  refine fnT_ok T.F_Book___repr__ sc_Book___repr__ (fun _ => rfl) fun cdv A outer s' H E p hr => ?_
  refine ⟨_, (pss_one (ps_ret (pe_joined (.cons pe_str (.cons (pe_fmt (pe_callB (lenA K) (by rfl) T.n_len (by decide +kernel) (pa_cons (fldA K (pv 0)) pa_nil))) (.cons pe_str .nil)))))), fun x hx => ?_⟩
  obtain ⟨ls, rs⟩ := x
  have h8 : ls.length ≤ 8 := hx
  obtain ⟨z1, z2, z3⟩ := repr_lenB ls.length (by omega)
  have hz : ((ls.length : Nat) : Int).natAbs.log2 < 1920 := by
    rw [Int.natAbs_natCast]
    exact Nat.lt_of_le_of_lt (Nat.log2_le_self _) (by omega)
  exact ds_ret (Ev.dl (ev_fstrI (ev_cast (d' := .int (ls.length : Nat)) (congrArg (fun k : Nat => D.int k) (nameD_len ls)) (ev_lenT (ds := nameD ls) (ev_fld T.cl_Book T.no_names (ev_var rfl) (by rfl)))) hz (small (by omega)) (small (by omega)) (small (show (reprB ls.length).length ≤ 100000 by omega))) rfl)

end K27

namespace K27
open PySem PySem.Spec PyProof.Rows L2 Dw
variable [Tabs0]
theorem d_Case___repr__ {P : Program} {w : World} {K : PySem.W.Frag} {mg : Str → Option Value} {base : Heap} (T : Txt K w mg) : FnOk P w K mg base CX0 1 T.f_Case___repr__ T.e_Case___repr__ ["self"] (toSp (spCRepr T.C_Case)) := by
  refine fn_ok T.F_Case___repr__ sc_Case___repr__ (fun _ => rfl) fun cdv A outer s' H E hr => ?_
  refine ⟨_, (pss_one (ps_ret (pe_joined (.cons pe_str (.cons (pe_fmt (pe_callB (lenA K) (by rfl) T.n_len (by decide +kernel) (pa_cons (fldA K (pv 0)) pa_nil))) (.cons pe_str .nil)))))), fun x hx => ?_⟩
  obtain ⟨ls, ms, n⟩ := x
  have h8 : ls.length ≤ 8 := hx
  obtain ⟨z1, z2, z3⟩ := repr_lenC ls.length (by omega)
  have hz : ((ls.length : Nat) : Int).natAbs.log2 < 1920 := by
    rw [Int.natAbs_natCast]
    exact Nat.lt_of_le_of_lt (Nat.log2_le_self _) (by omega)
  exact ds_ret (Ev.dl (ev_fstrI (ev_cast (d' := .int (ls.length : Nat)) (congrArg (fun k : Nat => D.int k) (nameD_len ls)) (ev_lenT (ds := nameD ls) (ev_dn (ev_fld T.cl_Case T.cno_names (ev_var rfl) (by rfl))))) hz (small (by omega)) (small (by omega)) (small (show (reprC ls.length).length ≤ 100000 by omega))) rfl)
theorem d_Case___repr___H {P : Program} {w : World} {K : PySem.W.Frag} {mg : Str → Option Value} {base : Heap} (T : Txt K w mg) : FnT P w K mg base 1 T.f_Case___repr__ T.e_Case___repr__ ["self"] (toSp (spCRepr T.C_Case)) := by
  refine fnT_ok T.F_Case___repr__ sc_Case___repr__ (fun _ => rfl) fun cdv A outer s' H E p hr => ?_
  refine ⟨_, (pss_one (ps_ret (pe_joined (.cons pe_str (.cons (pe_fmt (pe_callB (lenA K) (by rfl) T.n_len (by decide +kernel) (pa_cons (fldA K (pv 0)) pa_nil))) (.cons pe_str .nil)))))), fun x hx => ?_⟩
  obtain ⟨ls, ms, n⟩ := x
  have h8 : ls.length ≤ 8 := hx
  obtain ⟨z1, z2, z3⟩ := repr_lenC ls.length (by omega)
  have hz : ((ls.length : Nat) : Int).natAbs.log2 < 1920 := by
    rw [Int.natAbs_natCast]
    exact Nat.lt_of_le_of_lt (Nat.log2_le_self _) (by omega)
  exact ds_ret (Ev.dl (ev_fstrI (ev_cast (d' := .int (ls.length : Nat)) (congrArg (fun k : Nat => D.int k) (nameD_len ls)) (ev_lenT (ds := nameD ls) (ev_dn (ev_fld T.cl_Case T.cno_names (ev_var rfl) (by rfl))))) hz (small (by omega)) (small (by omega)) (small (show (reprC ls.length).length ≤ 100000 by omega))) rfl)

end K27

namespace K27
open PySem PySem.Spec PyProof.Rows L2 Dw
variable [Tabs0]
/-! calls that are heard -/
/-- what repr tells here: data, a book, a case -/
def RX (K : PySem.W.Frag) (B C : Addr) : List V → Hp → VK → Prop := fun xs H Q => rReprY K xs H Q ∨ (rRep1 K B (toSp (spBRepr B)) xs H Q ∨ rRep1 K C (toSp (spCRepr C)) xs H Q)
structure Act (P : Program) (w : World) (K : PySem.W.Frag) (mg : Str → Option Value) (base : Heap) where
  l : LamP P w K mg base 14
  ds : List D
inductive HeardIs {P : Program} {w : World} {K : PySem.W.Frag} {mg : Str → Option Value} {base : Heap} (B C E1 E2 E3 : Addr) (a : Act P w K mg base) : List Str → Prop
  | told (d : D) (h : ∀ E, Ev (a.l.t E) (a.ds.map Sl.val) d) : HeardIs B C E1 E2 E3 a ["told"]
  | err (C0 : Addr) (w0 : Str) (hc : (C0, w0) ∈ ([(E1, "case"), (E2, "name"), (E3, "order")] : List (Addr × Str))) (d : D) (z : Str) (h : ∀ E : XK, ErT (a.l.t E) (a.ds.map Sl.val) ⟨C0, [("given", d)]⟩ fun ed H' => E (.ref C0) ed H') (hz : RpR (RX K B C) d z) (hs : PyData.strOk z = true) : HeardIs B C E1 E2 E3 a [w0, z]
def spHeard (P : Program) (w : World) (K : PySem.W.Frag) (mg : Str → Option Value) (base : Heap) (B C E1 E2 E3 : Addr) : Spc where
  ty := Act P w K mg base × List Str
  args := fun x => [.clo x.1.l.L x.1.l.ns x.1.ds]
  ok := fun x => okCs x.1.ds = true ∧ HeardIs B C E1 E2 E3 x.1 x.2
  rel := fun x d => d = .lst (x.2.map D.str)
def spAllH (P : Program) (w : World) (K : PySem.W.Frag) (mg : Str → Option Value) (base : Heap) (B C E1 E2 E3 : Addr) : Spc where
  ty := List (Act P w K mg base) × List Str
  args := fun x => [.lst (x.1.map fun a => .clo a.l.L a.l.ns a.ds), .lst (x.2.map D.str)]
  ok := fun x => x.1.length ≤ 100 ∧ (∀ a ∈ x.1, okCs a.ds = true ∧ noPs a.ds = true ∧ HeardIs B C E1 E2 E3 a x.2) ∧ ∀ z ∈ x.2, PyData.strOk z = true
  rel := fun _ d => d = .bl true
section
variable {K : PySem.W.Frag} {n i : Nat} {x : Exn} {d : D} {c : Value} {ts : Addr → Value → Option Addr → TS} {r : List (Value × Bool × (Addr → Value → Option Addr → TS))}
theorem takes_here (h1 : PySem.W.exmOne K (.ref x.C) c = some true) (h : SuitX ts n i x d) : Takes1 K n i x d ((c, true, ts) :: r) := .inl ⟨h1, by rw [if_pos rfl]; exact h⟩
theorem takes_next {b : Bool} (h1 : PySem.W.exmOne K (.ref x.C) c = some false) (h : Takes1 K n i x d r) : Takes1 K n i x d ((c, b, ts) :: r) := .inr ⟨h1, h⟩
end
theorem held_sr {F : Addr → Prop} {W : Wd} {σ : L2.St} {a : Addr} (ok : WOk F W) (hl : σ.length = 2) : SR F ((List.replicate 2 Sl.unset).set 1 (.val (.raw (.ref a)))) (σ.set 1 (some (.ref a))) W := by
  have g := (sr_unset ok σ).set (i := 1) (d := .raw (.ref a)) (v := .ref a) rfl
  rw [hl] at g
  exact g
theorem dOks_rep {k : Nat} {d : D} (h : dOk k d = true) : ∀ n : Nat, dOks k (List.replicate n d) = true
  | 0 => by cases k <;> rfl
  | n + 1 => by
    have := dOks_rep h n
    show dOks k (d :: List.replicate n d) = true
    have e : dOks k (d :: List.replicate n d) = (dOk k d && dOks k (List.replicate n d)) := by cases k <;> rfl
    rw [e, h, this]; rfl
theorem dOks_strs {k : Nat} : ∀ {zs : List Str}, (∀ z ∈ zs, PyData.strOk z = true) → dOks k (zs.map D.str) = true
  | [], _ => by cases k <;> rfl
  | z :: r, h => by
    have e : dOks k ((z :: r).map D.str) = (dOk k (.str z) && dOks k (r.map D.str)) := by cases k <;> rfl
    have e1 : dOk k (.str z) = PyData.strOk z := by cases k <;> rfl
    rw [e, e1, h z List.mem_cons_self, dOks_strs fun z hz => h z (List.mem_cons_of_mem _ hz)]; rfl
end K27

namespace K27
open PySem PySem.Spec PyProof.Rows L2 Dw
variable [Tabs0]
theorem d__law_heard {P : Program} {w : World} {K : PySem.W.Frag} {mg : Str → Option Value} {base : Heap} (T : Txt K w mg) : FnG P w K mg base 16 T.f__law_heard T.e__law_heard ["_law_act"] (spHeard P w K mg base T.C_Book T.C_Case T.C_NotACase T.C_UnknownName T.C_InvalidRanking) := by
  refine fnG_ok T.F__law_heard sc__law_heard (fun _ => rfl) fun cdv A outer s' H E hr hG => ?_
  refine ⟨_, (pss_cons (ps_try_manyN (n := "e") (i := 1) rfl rfl sc__law_heard.nd (fun Wx pn xe tk po => (pss_one (ps_expr (pe_actCA (P := P) (w := w) (K := K) (mg := mg) (base := base) (k := 14) (i := 0) (E := fun cls d H1 => ∀ σ1, σ1.length = 2 → Wx cls d σ1 H1) (takes_len tk) (fun _ _ _ _ h hl => h _ hl) (hr.mono (by decide)) rfl (Or.inl rfl))))) (HdsN.named rfl rfl ⟨by rfl, by decide, Or.inl T.m_NotABook⟩ (fun a oe cls d pn hz hf => (pss_cls (PC := fun C => XfC K C ∧ PySem.W.findIn K (.ref C) "given" = some none) fun C hC hp => (pss_one (ps_ret (pe_lst (pa_cons pe_str (pa_cons (pe_callB (L2.CallR.or (reprHY K (roomHS hr) hG) (L2.CallR.or (rep1HA K (p := (a, oe)) (k := 0) (d_Book___repr___H T) (L2H.RoomH.mono (roomHS hr) (by decide)) hG List.mem_cons_self T.or_Book T.ir_Book T.b_Book___repr__) (rep1HA K (p := (a, oe)) (k := 0) (d_Case___repr___H T) (L2H.RoomH.mono (roomHS hr) (by decide)) hG List.mem_cons_self T.or_Case T.ir_Case T.b_Case___repr__))) (by rfl) T.n_repr (by decide +kernel) (pa_cons (pe_xfP (a := a) (oe := oe) (ed := d) List.mem_cons_self hp.1 hp.2 (show Zc (.ref C) d oe from hC ▸ hz) hf (pv 1)) pa_nil)) pa_nil))))))) (HdsN.named rfl rfl ⟨by rfl, by decide, Or.inl T.m_NotACase⟩ (fun a oe cls d pn hz hf => (pss_cls (PC := fun C => XfC K C ∧ PySem.W.findIn K (.ref C) "given" = some none) fun C hC hp => (pss_one (ps_ret (pe_lst (pa_cons pe_str (pa_cons (pe_callB (L2.CallR.or (reprHY K (roomHS hr) hG) (L2.CallR.or (rep1HA K (p := (a, oe)) (k := 0) (d_Book___repr___H T) (L2H.RoomH.mono (roomHS hr) (by decide)) hG List.mem_cons_self T.or_Book T.ir_Book T.b_Book___repr__) (rep1HA K (p := (a, oe)) (k := 0) (d_Case___repr___H T) (L2H.RoomH.mono (roomHS hr) (by decide)) hG List.mem_cons_self T.or_Case T.ir_Case T.b_Case___repr__))) (by rfl) T.n_repr (by decide +kernel) (pa_cons (pe_xfP (a := a) (oe := oe) (ed := d) List.mem_cons_self hp.1 hp.2 (show Zc (.ref C) d oe from hC ▸ hz) hf (pv 1)) pa_nil)) pa_nil))))))) (HdsN.named rfl rfl ⟨by rfl, by decide, Or.inl T.m_UnknownName⟩ (fun a oe cls d pn hz hf => (pss_cls (PC := fun C => XfC K C ∧ PySem.W.findIn K (.ref C) "given" = some none) fun C hC hp => (pss_one (ps_ret (pe_lst (pa_cons pe_str (pa_cons (pe_callB (L2.CallR.or (reprHY K (roomHS hr) hG) (L2.CallR.or (rep1HA K (p := (a, oe)) (k := 0) (d_Book___repr___H T) (L2H.RoomH.mono (roomHS hr) (by decide)) hG List.mem_cons_self T.or_Book T.ir_Book T.b_Book___repr__) (rep1HA K (p := (a, oe)) (k := 0) (d_Case___repr___H T) (L2H.RoomH.mono (roomHS hr) (by decide)) hG List.mem_cons_self T.or_Case T.ir_Case T.b_Case___repr__))) (by rfl) T.n_repr (by decide +kernel) (pa_cons (pe_xfP (a := a) (oe := oe) (ed := d) List.mem_cons_self hp.1 hp.2 (show Zc (.ref C) d oe from hC ▸ hz) hf (pv 1)) pa_nil)) pa_nil))))))) (HdsN.named rfl rfl ⟨by rfl, by decide, Or.inl T.m_InvalidRanking⟩ (fun a oe cls d pn hz hf => (pss_cls (PC := fun C => XfC K C ∧ PySem.W.findIn K (.ref C) "given" = some none) fun C hC hp => (pss_one (ps_ret (pe_lst (pa_cons pe_str (pa_cons (pe_callB (L2.CallR.or (reprHY K (roomHS hr) hG) (L2.CallR.or (rep1HA K (p := (a, oe)) (k := 0) (d_Book___repr___H T) (L2H.RoomH.mono (roomHS hr) (by decide)) hG List.mem_cons_self T.or_Book T.ir_Book T.b_Book___repr__) (rep1HA K (p := (a, oe)) (k := 0) (d_Case___repr___H T) (L2H.RoomH.mono (roomHS hr) (by decide)) hG List.mem_cons_self T.or_Case T.ir_Case T.b_Case___repr__))) (by rfl) T.n_repr (by decide +kernel) (pa_cons (pe_xfP (a := a) (oe := oe) (ed := d) List.mem_cons_self hp.1 hp.2 (show Zc (.ref C) d oe from hC ▸ hz) hf (pv 1)) pa_nil)) pa_nil))))))) (HdsN.named rfl rfl ⟨by rfl, by decide, Or.inl T.m_InvalidRow⟩ (fun a oe cls d pn hz hf => (pss_cls (PC := fun C => XfC K C ∧ PySem.W.findIn K (.ref C) "given" = some none) fun C hC hp => (pss_one (ps_ret (pe_lst (pa_cons pe_str (pa_cons (pe_callB (L2.CallR.or (reprHY K (roomHS hr) hG) (L2.CallR.or (rep1HA K (p := (a, oe)) (k := 0) (d_Book___repr___H T) (L2H.RoomH.mono (roomHS hr) (by decide)) hG List.mem_cons_self T.or_Book T.ir_Book T.b_Book___repr__) (rep1HA K (p := (a, oe)) (k := 0) (d_Case___repr___H T) (L2H.RoomH.mono (roomHS hr) (by decide)) hG List.mem_cons_self T.or_Case T.ir_Case T.b_Case___repr__))) (by rfl) T.n_repr (by decide +kernel) (pa_cons (pe_xfP (a := a) (oe := oe) (ed := d) List.mem_cons_self hp.1 hp.2 (show Zc (.ref C) d oe from hC ▸ hz) hf (pv 1)) pa_nil)) pa_nil))))))) (HdsN.named rfl rfl ⟨by rfl, by decide, Or.inl T.m_InvalidNumber⟩ (fun a oe cls d pn hz hf => (pss_cls (PC := fun C => XfC K C ∧ PySem.W.findIn K (.ref C) "given" = some none) fun C hC hp => (pss_one (ps_ret (pe_lst (pa_cons pe_str (pa_cons (pe_callB (L2.CallR.or (reprHY K (roomHS hr) hG) (L2.CallR.or (rep1HA K (p := (a, oe)) (k := 0) (d_Book___repr___H T) (L2H.RoomH.mono (roomHS hr) (by decide)) hG List.mem_cons_self T.or_Book T.ir_Book T.b_Book___repr__) (rep1HA K (p := (a, oe)) (k := 0) (d_Case___repr___H T) (L2H.RoomH.mono (roomHS hr) (by decide)) hG List.mem_cons_self T.or_Case T.ir_Case T.b_Case___repr__))) (by rfl) T.n_repr (by decide +kernel) (pa_cons (pe_xfP (a := a) (oe := oe) (ed := d) List.mem_cons_self hp.1 hp.2 (show Zc (.ref C) d oe from hC ▸ hz) hf (pv 1)) pa_nil)) pa_nil))))))) (HdsN.named rfl rfl ⟨by rfl, by decide, Or.inl T.m_InvalidCases⟩ (fun a oe cls d pn hz hf => (pss_cls (PC := fun C => XfC K C ∧ PySem.W.findIn K (.ref C) "index" = some none) fun C hC hp => (pss_one (ps_ret (pe_lst (pa_cons pe_str (pa_cons (pe_callB (L2.CallR.or (reprHY K (roomHS hr) hG) (L2.CallR.or (rep1HA K (p := (a, oe)) (k := 0) (d_Book___repr___H T) (L2H.RoomH.mono (roomHS hr) (by decide)) hG List.mem_cons_self T.or_Book T.ir_Book T.b_Book___repr__) (rep1HA K (p := (a, oe)) (k := 0) (d_Case___repr___H T) (L2H.RoomH.mono (roomHS hr) (by decide)) hG List.mem_cons_self T.or_Case T.ir_Case T.b_Case___repr__))) (by rfl) T.n_repr (by decide +kernel) (pa_cons (pe_xfP (a := a) (oe := oe) (ed := d) List.mem_cons_self hp.1 hp.2 (show Zc (.ref C) d oe from hC ▸ hz) hf (pv 1)) pa_nil)) pa_nil))))))) (HdsN.named rfl rfl ⟨by rfl, by decide, Or.inl T.m_InvalidOffers⟩ (fun a oe cls d pn hz hf => (pss_cls (PC := fun C => XfC K C ∧ PySem.W.findIn K (.ref C) "index" = some none) fun C hC hp => (pss_one (ps_ret (pe_lst (pa_cons pe_str (pa_cons (pe_callB (L2.CallR.or (reprHY K (roomHS hr) hG) (L2.CallR.or (rep1HA K (p := (a, oe)) (k := 0) (d_Book___repr___H T) (L2H.RoomH.mono (roomHS hr) (by decide)) hG List.mem_cons_self T.or_Book T.ir_Book T.b_Book___repr__) (rep1HA K (p := (a, oe)) (k := 0) (d_Case___repr___H T) (L2H.RoomH.mono (roomHS hr) (by decide)) hG List.mem_cons_self T.or_Case T.ir_Case T.b_Case___repr__))) (by rfl) T.n_repr (by decide +kernel) (pa_cons (pe_xfP (a := a) (oe := oe) (ed := d) List.mem_cons_self hp.1 hp.2 (show Zc (.ref C) d oe from hC ▸ hz) hf (pv 1)) pa_nil)) pa_nil))))))) (HdsN.named rfl rfl ⟨by rfl, by decide, Or.inl T.m_TooMany⟩ (fun a oe cls d pn hz hf => (pss_cls (PC := fun C => XfC K C ∧ PySem.W.findIn K (.ref C) "number" = some none) fun C hC hp => (pss_one (ps_ret (pe_lst (pa_cons pe_str (pa_cons (pe_callB (L2.CallR.or (reprHY K (roomHS hr) hG) (L2.CallR.or (rep1HA K (p := (a, oe)) (k := 0) (d_Book___repr___H T) (L2H.RoomH.mono (roomHS hr) (by decide)) hG List.mem_cons_self T.or_Book T.ir_Book T.b_Book___repr__) (rep1HA K (p := (a, oe)) (k := 0) (d_Case___repr___H T) (L2H.RoomH.mono (roomHS hr) (by decide)) hG List.mem_cons_self T.or_Case T.ir_Case T.b_Case___repr__))) (by rfl) T.n_repr (by decide +kernel) (pa_cons (pe_xfP (a := a) (oe := oe) (ed := d) List.mem_cons_self hp.1 hp.2 (show Zc (.ref C) d oe from hC ▸ hz) hf (pv 1)) pa_nil)) pa_nil))))))) (HdsN.cons ⟨by rfl, by decide, Or.inl T.m_NoRanking⟩ (fun a oe cls d pn hz hf => (pss_one (ps_ret (pe_lst (pa_cons pe_str pa_nil))))) HdsN.nil))))))))))) (pss_one (ps_ret (pe_lst (pa_cons pe_str pa_nil))))), fun x hx => ?_⟩
  obtain ⟨a, out⟩ := x
  obtain ⟨hok, hh⟩ := hx
  have hok : okCs a.ds = true := hok
  have hh : HeardIs T.C_Book T.C_Case T.C_NotACase T.C_UnknownName T.C_InvalidRanking a out := hh
  cases hh with
  | told d h => exact ds_seq (ds_try_manyR (tb := fun Wx => tDrop (tActC (P := P) (w := w) (K := K) (mg := mg) (base := base) (k := 14) 0 fun cls d H1 => ∀ σ1 : L2.St, σ1.length = 2 → Wx cls d σ1 H1)) fun Wx => ds_drop (Ev.dl (ev_actC a.l rfl hok h) (ds_ret (Ev.dl (EvN.ev (evn_lst (eva_cons ev_str eva_nil) (small (by simp)))) rfl))))
  | err C0 w0 hc d z h hz hs =>
    have suit : ∀ {E : Addr} {wd : Str}, XfC K E → PySem.W.findIn K (.ref E) "given" = some none → SuitX (fun a cls ed => fun D σ H => ∃ C, cls = .ref C ∧ (XfC K C ∧ PySem.W.findIn K (.ref C) "given" = some none) ∧ tRet (tLst (tCons (tC (.str wd)) (tCons (tCB (RX K T.C_Book T.C_Case) (tCons (tXf a (.ref C) ed C "given" (tVar 1)) tNil)) tNil))) D σ H) 2 1 ⟨E, [("given", d)]⟩ (.lst [.str wd, .str z]) := fun h1 h2 => fun F W σ a Dr ed ok hl na hx k => ⟨_, rfl, ⟨h1, h2⟩, rts_ret (evh_lst (evha_cons (Ev.held ev_str) (evha_cons (evh_reprR (evh_xf (ev_var rfl) rfl) hz) evha_nil)) (small (by simp))) F _ W Dr (held_sr ok hl) hx k⟩
    rcases List.mem_cons.mp hc with e | hc
    · cases e
      exact ds_seq (ds_try_manyX (tb := fun Wx => tDrop (tActC (P := P) (w := w) (K := K) (mg := mg) (base := base) (k := 14) 0 fun cls d H1 => ∀ σ1 : L2.St, σ1.length = 2 → Wx cls d σ1 H1)) (x := ⟨T.C_NotACase, [("given", d)]⟩) (d := .lst [.str "case", .str z]) (n := 2) (fun Wx => ers_drop (ert_actC a.l rfl hok h fun ed H' q => q)) (takes_next T.xh_NotACase_NotABook (takes_here T.xh_NotACase_NotACase (suit T.xf_NotACase T.xn_NotACase_given))) rfl)
    rcases List.mem_cons.mp hc with e | hc
    · cases e
      exact ds_seq (ds_try_manyX (tb := fun Wx => tDrop (tActC (P := P) (w := w) (K := K) (mg := mg) (base := base) (k := 14) 0 fun cls d H1 => ∀ σ1 : L2.St, σ1.length = 2 → Wx cls d σ1 H1)) (x := ⟨T.C_UnknownName, [("given", d)]⟩) (d := .lst [.str "name", .str z]) (n := 2) (fun Wx => ers_drop (ert_actC a.l rfl hok h fun ed H' q => q)) (takes_next T.xh_UnknownName_NotABook (takes_next T.xh_UnknownName_NotACase (takes_here T.xh_UnknownName_UnknownName (suit T.xf_UnknownName T.xn_UnknownName_given)))) rfl)
    · have e := List.mem_singleton.mp hc
      cases e
      exact ds_seq (ds_try_manyX (tb := fun Wx => tDrop (tActC (P := P) (w := w) (K := K) (mg := mg) (base := base) (k := 14) 0 fun cls d H1 => ∀ σ1 : L2.St, σ1.length = 2 → Wx cls d σ1 H1)) (x := ⟨T.C_InvalidRanking, [("given", d)]⟩) (d := .lst [.str "order", .str z]) (n := 2) (fun Wx => ers_drop (ert_actC a.l rfl hok h fun ed H' q => q)) (takes_next T.xh_InvalidRanking_NotABook (takes_next T.xh_InvalidRanking_NotACase (takes_next T.xh_InvalidRanking_UnknownName (takes_here T.xh_InvalidRanking_InvalidRanking (suit T.xf_InvalidRanking T.xn_InvalidRanking_given))))) rfl)
end K27

namespace K27
open PySem PySem.Spec PyProof.Rows L2 Dw
variable [Tabs0]
theorem d__law_all_heard {P : Program} {w : World} {K : PySem.W.Frag} {mg : Str → Option Value} {base : Heap} (T : Txt K w mg) : FnG P w K mg base 17 T.f__law_all_heard T.e__law_all_heard ["_law_acts", "_law_due"] (spAllH P w K mg base T.C_Book T.C_Case T.C_NotACase T.C_UnknownName T.C_InvalidRanking) := by
  refine fnG_ok T.F__law_all_heard sc__law_all_heard (fun _ => rfl) fun cdv A outer s' H E hr hG => ?_
  refine ⟨_, (pss_one (ps_ret (pe_cmpR (eqA K hr.units) (pe_lc (own := [("_law_act", 2)]) rfl sc__law_all_heard.nd (piR K (pv 0)) (blkOk_by (own := [("_law_act", 2)]) (N := N__law_all_heard) (sc := (defScope s__law_all_heard)) (by decide +kernel)) (fun _ _ _ _ _ => pg_name (i := 2) sc__law_all_heard.nd rfl (Or.inl rfl)) (fun _ _ _ _ _ => pts_nil) (fun _ _ _ _ _ => (pe_callG (E := E0) (d__law_heard T) (hr.mono (by decide)) hG (by rfl) T.m__law_heard T.F__law_heard.kp T.b__law_heard (pa_cons (pv 2) pa_nil)))) (pe_op opTimes (pe_lst (pa_cons (pv 1) pa_nil)) (pe_callB (lenA K) (by rfl) T.n_len (by decide +kernel) (pa_cons (pv 0) pa_nil))) (nomark _)))), fun x hx => ?_⟩
  obtain ⟨acts, out⟩ := x
  obtain ⟨h1, h2, h3⟩ := hx
  have h1 : acts.length ≤ 100 := h1
  have h3 : ∀ z ∈ out, PyData.strOk z = true := h3
  have e1 : (acts.map fun _ => D.lst (out.map D.str)) = List.replicate acts.length (D.lst (out.map D.str)) := List.map_const' ..
  have e2 : (List.replicate acts.length [D.lst (out.map D.str)]).flatten = List.replicate acts.length (D.lst (out.map D.str)) := List.flatten_replicate_singleton
  have dk : dOk 2 (.lst (List.replicate acts.length (D.lst (out.map D.str)))) = true := by
    show dOks 1 _ = true
    exact dOks_rep (by show dOks 0 _ = true; exact dOks_strs h3) _
  refine ds_ret (Ev.dl (ev_op (EvN.ev (evn_lc1 (xs := acts) (c := fun a => .clo a.l.L a.l.ns a.ds) (f := fun _ => .lst (out.map D.str)) (ej_list (ev_var (d := .lst (acts.map fun a => .clo a.l.L a.l.ns a.ds)) rfl).b) (by omega) fun a ha => ⟨[2], _, dg_name, fun i hi => hi, evt_yes, ev_call (s := spHeard P w K mg base T.C_Book T.C_Case T.C_NotACase T.C_UnknownName T.C_InvalidRanking) (x := (a, out)) (eva_cons (ev_var rfl) eva_nil) (np_cons (h2 a ha).2.1 rfl) ⟨(h2 a ha).1, (h2 a ha).2.2⟩ fun d h => h⟩)) (EvN.ev (evn_rep (n := acts.length) (EvN.b (evn_lst (eva_cons (ev_var (d := .lst (out.map D.str)) rfl) eva_nil) (small (by simp)))) (ev_cast (congrArg (fun n : Nat => D.int n) (List.length_map ..)) (ev_len (ev_var (d := .lst (acts.map fun a => .clo a.l.L a.l.ns a.ds)) rfl).b)) (by show 1 * acts.length ≤ sizeLine; exact small (by omega)) (by omega))) (d := .bl true) ?_) rfl)
  rw [e1, e2]
  exact eq_self dk (by decide)
end K27

namespace K27
open PySem PySem.Spec PyProof.Rows L2 Dw
variable [Tabs0]
/-! data that repr tells -/
structure PgOk (l : List Nat) (m : Nat) : Prop where
  len : l.length ≤ m
  all : ∀ c ∈ l, c < 128
instance okSDec (x : Str) : Decidable (okS x) := inferInstanceAs (Decidable (PyData.strOk x = true))
theorem okS_app {x y : Str} (hx : okS x) (hy : okS y) : okS (x ++ y) := by
  rw [of_tx x, of_tx y, tx_append]
  rw [of_tx x] at hx
  rw [of_tx y] at hy
  refine okS_tx fun c hc => ?_
  rcases List.mem_append.mp hc with h | h
  · exact okS_codes hx c h
  · exact okS_codes hy c h
theorem rc_lt : ∀ q ∈ [34, 39], ∀ c < 128, ∀ d ∈ Builtin.Str.reprChar q c, d < 1114112 := by decide +kernel
theorem rf_lt {q : Nat} (hq : q ∈ [34, 39]) : ∀ (l : List Nat) (acc : Array Nat), (∀ d ∈ acc.toList, d < 1114112) → (∀ c ∈ l, c < 128) → ∀ d ∈ (l.foldl (fun out c => out ++ (Builtin.Str.reprChar q c).toArray) acc).toList, d < 1114112
  | [], acc, h, _ => h
  | c :: l, acc, h, hl => by
    refine rf_lt hq l _ (fun d hd => ?_) fun c' hc' => hl c' (List.mem_cons_of_mem _ hc')
    rw [Array.toList_append] at hd
    rcases List.mem_append.mp hd with hd | hd
    · exact h d hd
    · exact rc_lt q hq c (hl c List.mem_cons_self) d hd
theorem okS_rt {l : List Nat} (h : ∀ c ∈ l, c < 128) : okS (reprText (tx l)) := by
  have hq : reprQuote (tx l) ∈ [34, 39] := by
    unfold reprQuote
    split <;> simp
  rw [of_tx (reprText (tx l))]
  refine okS_tx fun c hc => ?_
  unfold reprText at hc
  have hc : c ∈ (((tx l).cps.foldl (fun out c => out ++ (Builtin.Str.reprChar (reprQuote (tx l)) c).toArray) #[reprQuote (tx l)]).push (reprQuote (tx l))).toList := hc
  rw [Array.toList_push, ← Array.foldl_toList, tx_cps] at hc
  have q1 : reprQuote (tx l) < 1114112 := by
    simp only [List.mem_cons, List.not_mem_nil, or_false] at hq
    omega
  rcases List.mem_append.mp hc with hc | hc
  · refine rf_lt hq l _ (fun d hd => ?_) h c hc
    rw [List.mem_singleton.mp hd]; exact q1
  · rw [List.mem_singleton.mp hc]; exact q1
theorem okS_from : ∀ (ts : List Str) (k : Nat) (acc : Str), okS acc → (∀ t ∈ ts, okS t) → okS (textFrom k acc ts)
  | [], _, _, h, _ => h
  | t :: ts, k, acc, h, ht => by
    refine okS_from ts (k + 1) _ (okS_app (okS_app h ?_) (ht t List.mem_cons_self)) fun u hu => ht u (List.mem_cons_of_mem _ hu)
    by_cases hk : k > 0
    · rw [if_pos hk]; decide +kernel
    · rw [if_neg hk]; decide +kernel
theorem okS_list {ts : List Str} (h : ∀ t ∈ ts, okS t) : okS (listText ts) := okS_app (okS_from ts 0 "[" (by decide +kernel) h) (by decide +kernel)
theorem okS_join : ∀ ts : List Str, (∀ t ∈ ts, okS t) → okS (Str.join ", " ts)
  | [], _ => by decide +kernel
  | [x], h => h x List.mem_cons_self
  | x :: y :: r, h => okS_app (okS_app (h x List.mem_cons_self) (by decide +kernel)) (okS_join (y :: r) fun t ht => h t (List.mem_cons_of_mem _ ht))
theorem okS_tup {ts : List Str} (h : ∀ t ∈ ts, okS t) : okS (tupleText ts) := by
  unfold tupleText
  refine okS_app (okS_app (by decide +kernel) (okS_join ts h)) ?_
  split <;> decide +kernel
theorem rk_no {ds : List D} {n : Nat} (h : ds.length ≠ n ∨ ∃ d ∈ ds, idxB d n = false) : rkB (.tup ds) n = false := by
  cases q : rkB (.tup ds) n with
  | false => rfl
  | true =>
    obtain ⟨o, e, hp⟩ := rkB_iff.mp q
    injection e with e
    subst e
    rcases h with h | ⟨d, hd, hi⟩
    · exact absurd (show (ordD o).length = n by unfold ordD; rw [List.length_map, hp.length_eq, List.length_range]) h
    · obtain ⟨j, hj, rfl⟩ := List.mem_map.mp hd
      have : j < n := List.mem_range.mp (hp.mem_iff.mp hj)
      have hi : (decide ((0 : Int) ≤ (j : Nat)) && decide (((j : Nat) : Int) < (n : Nat))) = false := hi
      rw [decide_eq_true (by omega), decide_eq_true (by omega)] at hi
      cases hi
mutual
theorem dOk_ok : ∀ (k : Nat) (d : D), dOk k d = true → okC d = true ∧ noP d = true
  | _, .non, _ => ⟨rfl, rfl⟩
  | _, .bl _, _ => ⟨rfl, rfl⟩
  | _, .int _, _ => ⟨rfl, rfl⟩
  | _, .str _, _ => ⟨rfl, rfl⟩
  | k + 1, .tup ds, h => dOks_ok k ds h
  | k + 1, .lst ds, h => dOks_ok k ds h
  | k + 1, .tupN ds, h => dOks_ok k ds h
  | k, .obj _ _ _, h => by cases k <;> exact nomatch h
  | k, .raw _, h => by cases k <;> exact nomatch h
  | k, .purse, h => by cases k <;> exact nomatch h
  | k, .rng _ _, h => by cases k <;> exact nomatch h
  | k, .dct _ _, h => by cases k <;> exact nomatch h
  | k, .scr _ _, h => by cases k <;> exact nomatch h
  | k, .tag _, h => by cases k <;> exact nomatch h
  | k, .fnv _ _, h => by cases k <;> exact nomatch h
  | k, .clo _ _ _, h => by cases k <;> exact nomatch h
  | 0, .tup _, h => nomatch h
  | 0, .lst _, h => nomatch h
  | 0, .tupN _, h => nomatch h
theorem dOks_ok : ∀ (k : Nat) (ds : List D), dOks k ds = true → okCs ds = true ∧ noPs ds = true
  | _, [], _ => ⟨rfl, rfl⟩
  | k, d :: ds, h => by
    have e : (dOk k d && dOks k ds) = true := by cases k <;> exact h
    rw [Bool.and_eq_true] at e
    obtain ⟨a1, a2⟩ := dOk_ok k d e.1
    obtain ⟨b1, b2⟩ := dOks_ok k ds e.2
    exact ⟨by show (okC d && okCs ds) = true; rw [a1, b1]; rfl, by show (noP d && noPs ds) = true; rw [a2, b2]; rfl⟩
end
structure Elt (k m : Nat) (d : D) : Prop where
  ok : dOk k d = true
  sh : shOk d = true
  few : shB d ≤ m
  txt : okS (PyData.shown (py d))
theorem elts {k m : Nat} {ds : List D} (h : ∀ d ∈ ds, Elt k m d) : dOks k ds = true ∧ shOks ds = true ∧ shBs ds ≤ (m + 2) * ds.length ∧ (∀ t ∈ PyData.shownAll (pys ds), okS t) := by
  induction ds with
  | nil => exact ⟨by cases k <;> rfl, rfl, Nat.zero_le _, (fun t ht => by cases ht)⟩
  | cons d r ih =>
    obtain ⟨i1, i2, i3, i4⟩ := ih fun e he => h e (List.mem_cons_of_mem _ he)
    have hd := h d List.mem_cons_self
    refine ⟨?_, ?_, ?_, fun t ht => ?_⟩
    · have e : dOks k (d :: r) = (dOk k d && dOks k r) := by cases k <;> rfl
      rw [e, hd.ok, i1]; rfl
    · show (shOk d && shOks r) = true
      rw [hd.sh, i2]; rfl
    · show shB d + 2 + shBs r ≤ (m + 2) * (r.length + 1)
      have := hd.few
      rw [Nat.mul_succ]
      omega
    · rcases List.mem_cons.mp ht with rfl | ht
      · exact hd.txt
      · exact i4 t ht
theorem elt_tup {k m n : Nat} {ds : List D} (h : ∀ d ∈ ds, Elt k m d) (hn : (m + 2) * ds.length + 4 ≤ n) : Elt (k + 1) n (.tup ds) := by
  obtain ⟨i1, i2, i3, i4⟩ := elts h
  exact ⟨i1, i2, by show shBs ds + 4 ≤ n; omega, okS_tup i4⟩
theorem elt_lst {k m n : Nat} {ds : List D} (h : ∀ d ∈ ds, Elt k m d) (hn : (m + 2) * ds.length + 4 ≤ n) : Elt (k + 1) n (.lst ds) := by
  obtain ⟨i1, i2, i3, i4⟩ := elts h
  exact ⟨i1, i2, by show shBs ds + 4 ≤ n; omega, okS_list i4⟩
theorem elt_str {k m n : Nat} {l : List Nat} (h : PgOk l m) (hn : 10 * m + 2 ≤ n) : Elt k n (.str (tx l)) := by
  have o : PyData.strOk (tx l) = true := okS_tx fun c hc => by have := h.all c hc; omega
  refine ⟨by cases k <;> exact o, rfl, ?_, ?_⟩
  · show 10 * (tx l).length + 2 ≤ n
    rw [tx_len]; have := h.len; omega
  · show okS (PyData.shown (.str (tx l)))
    rw [PyData.shown_str]
    exact okS_rt h.all
theorem elt_c {k n : Nat} {s : Str} (h1 : s.cps.toList.length ≤ 20) (h2 : ∀ c ∈ s.cps.toList, c < 128) (hn : 202 ≤ n) : Elt k n (.str s) := by
  rw [of_tx s]
  exact elt_str (m := 20) ⟨h1, h2⟩ (by omega)
theorem elt_nat {k m n : Nat} (h : n < 100) (hm : 10 ≤ m) : Elt k m (.int (n : Nat)) := by
  have a : ∀ n < 100, shOk (.int (n : Nat)) = true ∧ shB (.int (n : Nat)) ≤ 10 ∧ okS (PyData.shown (py (.int (n : Nat)))) := by decide +kernel
  obtain ⟨h1, h2, h3⟩ := a n h
  exact ⟨by cases k <;> rfl, h1, by omega, h3⟩
theorem elt_m1 {k m : Nat} (hm : 10 ≤ m) : Elt k m (.int (-1)) := by
  have a : shOk (.int (-1)) = true ∧ shB (.int (-1)) ≤ 10 ∧ okS (PyData.shown (py (.int (-1)))) := by decide +kernel
  exact ⟨by cases k <;> rfl, a.1, by have := a.2.1; omega, a.2.2⟩
theorem elt_non {k m : Nat} (hm : 10 ≤ m) : Elt k m .non := ⟨by cases k <;> rfl, rfl, by show 5 ≤ m; omega, by decide +kernel⟩
theorem elt_bl {k m : Nat} (b : Bool) (hm : 10 ≤ m) : Elt k m (.bl b) := ⟨by cases k <;> rfl, rfl, by show 5 ≤ m; omega, by cases b <;> decide +kernel⟩
theorem Elt.mono {k m n : Nat} {d : D} (h : Elt k m d) (hn : m ≤ n) : Elt k n d := ⟨h.ok, h.sh, Nat.le_trans h.few hn, h.txt⟩
structure Thg (K : PySem.W.Frag) (B C : Addr) (d : D) (z : Str) : Prop where
  rp : RpR (RX K B C) d z
  ok : PyData.strOk z = true
  oc : okC d = true
  np : noP d = true
section
variable {K : PySem.W.Frag} {B C : Addr}
theorem thg_elt {k m : Nat} {d : D} (h : Elt k m d) (hk : k ≤ 64) (hm : m ≤ 100000) : Thg K B C d (PyData.shown (py d)) :=
  ⟨RpR.inl (RpR.y (.inl ⟨k, hk, h.ok, h.sh, Nat.le_trans (Nat.le_trans h.few hm) (by decide), rfl⟩)), h.txt, (dOk_ok k d h.ok).1, (dOk_ok k d h.ok).2⟩
theorem thg_dct : Thg K B C (.dct [] []) "{}" := ⟨RpR.inl (RpR.y (.inr ⟨rfl, rfl⟩)), by decide +kernel, rfl, rfl⟩
theorem okCs_map {α : Type} {f : α → D} (h : ∀ x, okC (f x) = true) : ∀ l : List α, okCs (l.map f) = true
  | [] => rfl
  | x :: l => by
    show (okC (f x) && okCs (l.map f)) = true
    rw [h x, okCs_map h l]; rfl
theorem okC_case (C : Addr) (ls ms : List (List Nat)) : okC (caseO C ls ms) = true := by
  have a : okCs (nameD ls) = true := okCs_map (fun _ => rfl) ls
  have b : okCs (msD ms) = true := okCs_map (f := fun m => D.tup (ordD m)) (fun m => okCs_map (fun _ => rfl) m) ms
  show (true && (okCs (nameD ls) && (okCs (msD ms) && true))) = true
  rw [a, b]; rfl
theorem okC_book (B : Addr) (ls rs : List (List Nat)) : okC (bookD B ls rs) = true := by
  have a : okCs (nameD ls) = true := okCs_map (fun _ => rfl) ls
  have b : okCs (nameD rs) = true := okCs_map (fun _ => rfl) rs
  show (true && (okCs (nameD ls) && (okCs (nameD rs) && true))) = true
  rw [a, b]; rfl
theorem reprB_ok : ∀ n < 9, (reprB n).length ≤ 1000 ∧ okS (reprB n) := by decide +kernel
theorem reprC_ok : ∀ n < 9, (reprC n).length ≤ 1000 ∧ okS (reprC n) ∧ okS (tupleText [reprC n]) := by decide +kernel
theorem thg_book {ls rs : List (List Nat)} (h8 : ls.length ≤ 8) : Thg K B C (bookD B ls rs) (reprB ls.length) :=
  ⟨RpR.inr (RpR.inl (RpR.o ⟨(ls, rs), _, _, _, rfl, np_book B ls rs, h8, fun d h => h, (reprB_ok ls.length (by omega)).1, .inr (.inr ⟨rfl, rfl⟩)⟩)), (reprB_ok ls.length (by omega)).2, okC_book _ _ _, np_bookD _ _ _⟩
theorem thg_case {ls ms : List (List Nat)} (h8 : ls.length ≤ 8) : Thg K B C (caseO C ls ms) (reprC ls.length) :=
  ⟨RpR.inr (RpR.inr (RpR.o ⟨(ls, ms, 0), _, _, _, rfl, np_caseO (r := []) rfl, h8, fun d h => h, (reprC_ok ls.length (by omega)).1, .inr (.inr ⟨rfl, rfl⟩)⟩)), (reprC_ok ls.length (by omega)).2.1, okC_case _ _ _, np_caseO1 _ _ _⟩
theorem thg_tcase {ls ms : List (List Nat)} (h8 : ls.length ≤ 8) : Thg K B C (.tup [caseO C ls ms]) (tupleText [reprC ls.length]) :=
  ⟨RpR.inr (RpR.inr (RpR.o ⟨(ls, ms, 0), _, _, _, rfl, np_caseO (r := []) rfl, h8, fun d h => h, (reprC_ok ls.length (by omega)).1, .inr (.inl ⟨rfl, rfl⟩)⟩)), (reprC_ok ls.length (by omega)).2.2, by show (okC (caseO C ls ms) && true) = true; rw [okC_case]; rfl, np_caseO (r := []) rfl⟩
end
end K27

namespace K27
open PySem PySem.Spec PyProof.Rows L2 Dw
variable [Tabs0]
/-! things that are no rankings -/
def badO (n : Nat) : List D :=
  [.non, .str "", .lst (rng n), .tup (Dw.cutD (rng n) (some 1) none), .tup (rng n ++ [.int (n : Nat)]), .tup (List.replicate (n + 1) [D.int 0]).flatten, .dct [] [], .bl true, .tup (List.replicate n [D.str "0"]).flatten, .tup (List.replicate n [D.non]).flatten]
  ++ [.tup ([.int (-1)] ++ Dw.cutD (rng n) (some 1) none), .tup (Dw.cutD (rng n) none (some (-1)) ++ [.int (n : Nat)]), .tup ([.bl false] ++ Dw.cutD (rng n) (some 1) none)]
  ++ (if decide ((n : Int) > 1) = true then [.tup (List.replicate n [D.int 0]).flatten] else [])
def spBadO : Spc where
  ty := Nat
  args := fun n => [.int n]
  ok := fun n => 1 ≤ n ∧ n ≤ 8
  rel := fun n d => d = .lst (badO n)
def spPageB : Spc where
  ty := Bk
  args := fun x => [.lst (nameD x.1), .lst (nameD x.2)]
  ok := fun x => BookOk x.1 x.2
  rel := fun x d => d = .str (tx (bookTx x.1 x.2))
theorem cut_sub {ds : List D} {a b : Option Int} : ∀ d ∈ Dw.cutD ds a b, d ∈ ds := fun d hd => List.mem_of_mem_drop (List.mem_of_mem_take hd)
theorem cut_len {ds : List D} {a b : Option Int} : (Dw.cutD ds a b).length ≤ ds.length := by
  unfold Dw.cutD
  rw [List.length_take, List.length_drop]
  omega
theorem joinL_cons' (s a : List Nat) : ∀ rs : List (List Nat), TL.joinL s (a :: rs) = a ++ (rs.map (s ++ ·)).flatten
  | [] => by simp [TL.joinL]
  | q :: r => by
    show a ++ (s ++ TL.joinL s (q :: r)) = a ++ ((s ++ q) ++ (r.map (s ++ ·)).flatten)
    rw [joinL_cons' s q r, List.append_assoc]
theorem rep_flat {d : D} (n : Nat) : (List.replicate n [d]).flatten = List.replicate n d := List.flatten_replicate_singleton
end K27

namespace K27
open PySem PySem.Spec PyProof.Rows L2 Dw
variable [Tabs0]
theorem d__law_bad_orders {P : Program} {w : World} {K : PySem.W.Frag} {mg : Str → Option Value} {base : Heap} (T : Txt K w mg) : FnOk P w K mg base CX0 1 T.f__law_bad_orders T.e__law_bad_orders ["_law_many"] (toSp (spBadO)) := by
  refine fn_ok T.F__law_bad_orders sc__law_bad_orders (fun _ => rfl) fun cdv A outer s' H E hr => ?_
  refine ⟨_, (pss_cons (ps_set (i := 1) sc__law_bad_orders.nd rfl (Or.inl rfl) (pe_tupRg rfl (by rfl) T.n_tuple (prg_1 (by rfl) T.n_range (pv 0)))) (pss_cons (ps_set (i := 2) sc__law_bad_orders.nd rfl (Or.inl rfl) (pe_lst (pa_cons pe_non (pa_cons pe_str (pa_cons (pe_callTy (listA K) (by rfl) T.n_list (by decide +kernel) (pa_cons (pv 1) pa_nil)) (pa_cons (pe_slice (slXA K) (pv 1) (po_some pe_int) po_none) (pa_cons (pe_op (plusE K) (pv 1) (pe_tup (pa_cons (pv 0) pa_nil))) (pa_cons (pe_op (timesTA K) (pe_tup (pa_cons pe_int pa_nil)) (pe_op (plusE K) (pv 0) pe_int)) (pa_cons pe_dnewK (pa_cons pe_bl (pa_cons (pe_op (timesTA K) (pe_tup (pa_cons pe_str pa_nil)) (pv 0)) (pa_cons (pe_op (timesTA K) (pe_tup (pa_cons pe_non pa_nil)) (pv 0)) pa_nil)))))))))))) (pss_one (ps_ret (pe_op (plusE K) (pe_op (plusE K) (pv 2) (pe_lst (pa_cons (pe_op (plusE K) (pe_tup (pa_cons (pe_un un_neg pe_int) pa_nil)) (pe_slice (slXA K) (pv 1) (po_some pe_int) po_none)) (pa_cons (pe_op (plusE K) (pe_slice (slXA K) (pv 1) po_none (po_some (pe_un un_neg pe_int))) (pe_tup (pa_cons (pv 0) pa_nil))) (pa_cons (pe_op (plusE K) (pe_tup (pa_cons pe_bl pa_nil)) (pe_slice (slXA K) (pv 1) (po_some pe_int) po_none)) pa_nil))))) (pe_ifExp (pt_cmpR opGt (pv 0) pe_int (nomark _)) (pe_lst (pa_cons (pe_op (timesTA K) (pe_tup (pa_cons pe_int pa_nil)) (pv 0)) pa_nil)) (pe_lst pa_nil))))))), fun x hx => ?_⟩
  obtain ⟨n, rfl⟩ : ∃ l : Nat, l = x := ⟨x, rfl⟩
  obtain ⟨h1, h8⟩ := hx
  have h1 : 1 ≤ n := h1
  have h8 : n ≤ 8 := h8
  have ln := rng_length n
  have lc : (Dw.cutD (rng n) (some 1) none).length ≤ n := by have := cut_len (ds := rng n) (a := some 1) (b := none); omega
  have ld : (Dw.cutD (rng n) none (some (-1))).length ≤ n := by have := cut_len (ds := rng n) (a := none) (b := some (-1)); omega
  have t1 : ∀ d : D, (1 : Nat) ≤ sizeLine := fun _ => small (by decide)
  refine ds_seq (ds_asg (Ev.dl (d := .tup (rng n)) (ev_tupRg (n := n) (ev_var rfl) (by omega)) ?_))
  refine ds_seq (ds_asg (Ev.dl (EvN.ev (evn_lst (eva_cons ev_non (eva_cons ev_str (eva_cons (EvN.ev (evn_listT (ev_var rfl))) (eva_cons (ev_sliceTY (K := K) (ds := rng n) (ev_var rfl) (eo_some ev_int) eo_none) (eva_cons (ev_op (ev_var rfl) (ev_tup (eva_cons (ev_var rfl) eva_nil) (small (show 1 ≤ 100000 by decide))) (pl_tup ?z1)) (eva_cons (ev_repT (n := n + 1) (ev_tup (eva_cons ev_int eva_nil) (small (show 1 ≤ 100000 by decide))) (ev_cast (d' := .int ((n + 1 : Nat) : Int)) rfl (ev_op (ev_var rfl) ev_int pl_int)) (by simp) (by omega) (by omega) (by simp)) (eva_cons ev_dnew (eva_cons ev_bl (eva_cons (ev_repT (n := n) (ev_tup (eva_cons ev_str eva_nil) (small (show 1 ≤ 100000 by decide))) (ev_var rfl) (by simp) (by omega) (by omega) (by simp)) (eva_cons (ev_repT (n := n) (ev_tup (eva_cons ev_non eva_nil) (small (show 1 ≤ 100000 by decide))) (ev_var rfl) (by simp) (by omega) (by omega) (by simp)) eva_nil)))))))))) (small (show 10 ≤ 100000 by decide)))) ?_))
  case z1 => rw [ln]; exact small (show n + 1 ≤ 100000 by omega)
  refine ds_ret (Ev.dl (d := .lst (badO n)) (EvN.ev (pl_evn (EvN.b (pl_evn (Ev.b (ev_var rfl)) (EvN.b (evn_lst (eva_cons (ev_op (ev_tup (eva_cons (ev_neg ev_int) eva_nil) (small (show 1 ≤ 100000 by decide))) (ev_sliceTY (K := K) (ds := rng n) (ev_var rfl) (eo_some ev_int) eo_none) (pl_tup ?z2)) (eva_cons (ev_op (ev_sliceTY (K := K) (ds := rng n) (ev_var rfl) eo_none (eo_some (ev_neg ev_int))) (ev_tup (eva_cons (ev_var rfl) eva_nil) (small (show 1 ≤ 100000 by decide))) (pl_tup ?z3)) (eva_cons (ev_op (ev_tup (eva_cons ev_bl eva_nil) (small (show 1 ≤ 100000 by decide))) (ev_sliceTY (K := K) (ds := rng n) (ev_var rfl) (eo_some ev_int) eo_none) (pl_tup ?z4)) eva_nil))) (small (show 3 ≤ 100000 by decide)))) (small (show 10 + 3 ≤ 100000 by decide)))) (Ev.b (ev_cast ?ej (ev_if (evt_test (ev_op (ev_var rfl) ev_int dr2_gt)) (fun _ => EvN.ev (evn_lst (eva_cons (ev_repT (n := n) (ev_tup (eva_cons ev_int eva_nil) (small (show 1 ≤ 100000 by decide))) (ev_var rfl) (by simp) (by omega) (by omega) (by simp)) eva_nil) (small (show 1 ≤ 100000 by decide)))) fun _ => EvN.ev (evn_lst eva_nil (Nat.zero_le _))))) ?z5)) rfl)
  case z2 => exact small (show 1 + _ ≤ 100000 by omega)
  case z3 => exact small (show _ + 1 ≤ 100000 by omega)
  case z4 => exact small (show 1 + _ ≤ 100000 by omega)
  case ej => split <;> rfl
  case z5 =>
    refine small ?_
    split
    · exact (by decide : 10 + 3 + 1 ≤ 100000)
    · exact (by decide : 10 + 3 + 0 ≤ 100000)
end K27

namespace K27
open PySem PySem.Spec PyProof.Rows L2 Dw
variable [Tabs0]
theorem d__law_book_page {P : Program} {w : World} {K : PySem.W.Frag} {mg : Str → Option Value} {base : Heap} (T : Txt K w mg) : FnOk P w K mg base CX0 1 T.f__law_book_page T.e__law_book_page ["_law_tags_here", "_law_rows"] (toSp (spPageB)) := by
  refine fn_ok T.F__law_book_page sc__law_book_page (fun _ => rfl) fun cdv A outer s' H E hr => ?_
  refine ⟨_, (pss_one (ps_ret (pe_op (plusE K) (pe_op (plusE K) (joinA K pe_str (pe_callTy (listA K) (by rfl) T.n_list (by decide +kernel) (pa_cons (pv 0) pa_nil))) pe_str) (joinA K pe_str (pe_lc (own := [("_law_row", 2)]) rfl sc__law_book_page.nd (piR K (pv 1)) (blkOk_by (own := [("_law_row", 2)]) (N := N__law_book_page) (sc := (defScope s__law_book_page)) (by decide +kernel)) (fun _ _ _ _ _ => pg_name (i := 2) sc__law_book_page.nd rfl (Or.inl rfl)) (fun _ _ _ _ _ => pts_nil) (fun _ _ _ _ _ => (pe_op (plusE K) pe_str (pv 2)))))))), fun x hx => ?_⟩
  obtain ⟨ls, rs⟩ := x
  have hb : BookOk ls rs := hx
  have h8 := hb.names.hi
  have h20 := hb.few
  have hl := hb.hl
  have s1 := sum_tx (m := 8) ls fun p hp => (hb.names.all p hp).hi
  have s2 := sum_tx (m := 9) (rs.map ([32] ++ ·)) fun p hp => by
    obtain ⟨r, hr, rfl⟩ := List.mem_map.mp hp
    have := (hb.rows r hr).len
    rw [List.length_append, this]
    show 1 + ls.length ≤ 9
    omega
  rw [List.length_map] at s2
  have fl : ((rs.map ([32] ++ ·)).flatten).length ≤ 180 := by
    have := joinL_len (m := 9) (rs.map ([32] ++ ·)) fun p hp => by
      obtain ⟨r, hr, rfl⟩ := List.mem_map.mp hp
      have := (hb.rows r hr).len
      rw [List.length_append, this]
      show 1 + ls.length ≤ 9
      omega
    have e : ∀ l : List (List Nat), l.flatten.length ≤ (TL.joinL [32] l).length := fun l => by
      cases l with
      | nil => exact Nat.le_refl _
      | cons a l =>
        rw [joinL_cons', List.flatten_cons, List.length_append, List.length_append]
        have : ∀ l : List (List Nat), l.flatten.length ≤ ((l.map ([32] ++ ·)).flatten).length := fun l => by
          induction l with
          | nil => exact Nat.le_refl _
          | cons b l ih =>
            rw [List.map_cons, List.flatten_cons, List.flatten_cons, List.length_append, List.length_append, List.length_append]
            omega
        have := this l
        omega
    have e2 := e (rs.map ([32] ++ ·))
    have e3 : ((rs.map ([32] ++ ·)).flatten).length ≤ rs.length * 9 := by
      clear e e2 this
      have key : ∀ l : List (List Nat), (∀ p ∈ l, p.length ≤ 9) → l.flatten.length ≤ l.length * 9 := fun l => by
        induction l with
        | nil => exact fun _ => Nat.le_refl _
        | cons a l ih =>
          intro h
          rw [List.flatten_cons, List.length_append, List.length_cons, Nat.succ_mul]
          have := h a List.mem_cons_self
          have := ih fun p hp => h p (List.mem_cons_of_mem _ hp)
          omega
      have := key (rs.map ([32] ++ ·)) fun p hp => by
        obtain ⟨r, hr, rfl⟩ := List.mem_map.mp hp
        have := (hb.rows r hr).len
        rw [List.length_append, this]
        show 1 + ls.length ≤ 9
        omega
      rwa [List.length_map] at this
    omega
  refine ds_ret (Ev.dl (ev_cast (d := .str ((tx (TL.joinL [32] ls) ++ Str.ofString ":") ++ tx ((rs.map ([32] ++ ·)).flatten))) ?c (ev_op (ev_op (ev_cast (d' := .str (tx (TL.joinL [32] ls))) (congrArg D.str (join_sp ls)) (ev_join (x := Str.ofString " ") (ys := ls.map tx) ev_str ?b ?z1)) ev_str (dr2_l (plus_str ?z2))) (ev_cast (d' := .str (tx ((rs.map ([32] ++ ·)).flatten))) ?a2 (ev_join (x := Str.ofString "") (ys := (rs.map ([32] ++ ·)).map tx) ev_str ?b2 ?z3)) (dr2_l (plus_str ?z4)))) rfl)
  case c =>
    rw [colonS, tx_append, tx_append]
    unfold bookTx
    rw [joinL_cons']
  case b =>
    rw [nameD_map]
    exact EvN.b (evn_list (ev_var (d := .lst (nameD ls)) rfl).b)
  case z1 =>
    rw [List.length_map, spaceS, tx_len]
    show _ + ls.length * 1 ≤ _
    omega
  case z2 =>
    rw [tx_len, colonS, tx_len]
    show _ + 1 ≤ _
    exact small (by omega)
  case a2 =>
    rw [show Str.ofString "" = tx [] from by decide +kernel, join_tx, joinL_nil]
  case b2 =>
    have e : ((rs.map ([32] ++ ·)).map tx).map D.str = rs.map fun r => D.str (tx ([32] ++ r)) := by rw [List.map_map, List.map_map]; rfl
    rw [e]
    exact EvN.b (evn_lc1 (xs := rs) (c := fun r => D.str (tx r)) (f := fun r => D.str (tx ([32] ++ r))) (ej_list (ev_var (d := .lst (nameD rs)) rfl).b) (by omega) fun r hr => ⟨[2], _, dg_name, fun i hi => hi, evt_yes, ev_cast (congrArg D.str (by rw [spaceS, tx_append])) (ev_op ev_str (ev_var rfl) (dr2_l (plus_str (by
      have := (hb.rows r hr).len
      rw [spaceS, tx_len, tx_len, this]
      show 1 + ls.length ≤ _
      exact small (by omega)))))⟩)
  case z3 =>
    rw [List.length_map, List.length_map, show (Str.ofString "").length = 0 from rfl]
    omega
  case z4 =>
    rw [colonS, tx_append, tx_len, tx_len, List.length_append]
    show (TL.joinL [32] ls).length + 1 + _ ≤ _
    exact small (by omega)
end K27

namespace K27
open PySem PySem.Spec PyProof.Rows L2 Dw
variable [Tabs0]
/-! calls of closures, all heard -/
section
variable {P : Program} {w : World} {K : PySem.W.Frag} {mg : Str → Option Value} {base : Heap} {B C E1 E2 E3 : Addr}
def FnAll (X : Cx) : List D → List (Act P w K mg base) → Prop
  | [], [] => True
  | f :: fs, a :: as => f = .fnv a.l.L (a.l.ns.map fun y => (y, adX X y)) ∧ FnAll X fs as
  | _, _ => False
theorem fnAll_eq {X : Cx} : ∀ {fs : List D} {as : List (Act P w K mg base)}, FnAll X fs as → fs = (as.map fun a => (a.l.L, a.l.ns, a.ds)).map (fnvD X)
  | [], [], _ => rfl
  | f :: fs, a :: as, h => by
    rw [h.1, fnAll_eq h.2]; rfl
  | [], _ :: _, h => (show False from h).elim
  | _ :: _, [], h => (show False from h).elim
theorem fnv_eq {X : Cx} {a : Act P w K mg base} {cl : List (Str × Addr)} {ns : List Str} (h : cl = ns.map fun y => (y, adX X y)) (hn : a.l.ns = ns) : D.fnv a.l.L cl = .fnv a.l.L (a.l.ns.map fun y => (y, adX X y)) := by rw [hn, h]
structure ActOk (B C E1 E2 E3 : Addr) (cd : List (Nat × Str × D)) (out : List Str) (a : Act P w K mg base) : Prop where
  nd : a.l.ns.Nodup
  cap : CapL cd a.l.ns a.ds
  ok : okCs a.ds = true
  np : noPs a.ds = true
  heard : HeardIs B C E1 E2 E3 a out
theorem act_ok {cd : List (Nat × Str × D)} {out : List Str} {a : Act P w K mg base} {ns : List Str} (hn : a.l.ns = ns) (nd : ns.Nodup) (cap : CapL cd ns a.ds) (ok : okCs a.ds = true) (np : noPs a.ds = true) (h : HeardIs B C E1 E2 E3 a out) : ActOk B C E1 E2 E3 cd out a := ⟨by rw [hn]; exact nd, by rw [hn]; exact cap, ok, np, h⟩
theorem heard_err {a : Act P w K mg base} {t' : XK → TE} (e : ∀ E, a.l.t E = t' E) {C0 : Addr} {w0 : Str} (hc : (C0, w0) ∈ ([(E1, "case"), (E2, "name"), (E3, "order")] : List (Addr × Str))) {d : D} {z : Str} (t : Thg K B C d z) (h : ∀ E : XK, ErT (t' E) (a.ds.map Sl.val) ⟨C0, [("given", d)]⟩ fun ed H' => E (.ref C0) ed H') : HeardIs B C E1 E2 E3 a [w0, z] :=
  .err C0 w0 hc d z (fun E => by rw [e E]; exact h E) t.rp t.ok
theorem heard_told {a : Act P w K mg base} {t' : XK → TE} (e : ∀ E, a.l.t E = t' E) {d : D} (h : ∀ E : XK, Ev (t' E) (a.ds.map Sl.val) d) : HeardIs B C E1 E2 E3 a ["told"] :=
  .told d (fun E => by rw [e E]; exact h E)
theorem dl_all {X : Cx} {Γ : Gam} {E : XK} {t : TA} {Q : D → Gam → Prop} (h : DlA t Γ fun ds Γ1 => ∃ (cd : List (Nat × Str × D)) (fs : List D) (acts : List (Act P w K mg base)) (out : List Str), ds = [.lst fs, .lst (out.map D.str)] ∧ FnAll X fs acts ∧ CapD X Γ1 cd ∧ (∀ a ∈ acts, ActOk B C E1 E2 E3 cd out a) ∧ acts.length ≤ 100 ∧ (∀ z ∈ out, PyData.strOk z = true) ∧ Q (.bl true) Γ1) : Dl (tCallC X (toSp (spAllH P w K mg base B C E1 E2 E3)) E t) Γ Q :=
  dl_callC (s := spAllH P w K mg base B C E1 E2 E3) fun F σ W R g k => h F σ W R g fun vs W1 ds Γ1 st g1 r ⟨cd, fs, acts, out, e, hf, hcd, ha, hl, ho, q⟩ => k vs W1 ds Γ1 st g1 r ⟨cd, acts.map fun a => (a.l.L, a.l.ns, a.ds), .lst (out.map D.str), (acts, out), true, by rw [e, fnAll_eq hf], hcd, fun q hq => by
    obtain ⟨a, ham, rfl⟩ := List.mem_map.mp hq
    exact ⟨(ha a ham).nd, (ha a ham).cap⟩, by
      show [D.lst (acts.map fun a => D.clo a.l.L a.l.ns a.ds), D.lst (out.map D.str)] = _
      rw [List.map_map]; rfl, by
      have a1 : noPs (acts.map fun a => D.clo a.l.L a.l.ns a.ds) = true := by
        have : ∀ l : List (Act P w K mg base), (∀ a ∈ l, noPs a.ds = true) → noPs (l.map fun a => D.clo a.l.L a.l.ns a.ds) = true := fun l => by
          induction l with
          | nil => exact fun _ => rfl
          | cons a l ih =>
            intro h
            show (noPs a.ds && noPs (l.map fun a => D.clo a.l.L a.l.ns a.ds)) = true
            rw [h a List.mem_cons_self, ih fun b hb => h b (List.mem_cons_of_mem _ hb)]; rfl
        exact this acts fun a ha' => (ha a ha').np
      have a2 : noPs (out.map D.str) = true := noPs_map (f := fun z => D.str z) (fun _ => rfl) out
      show (noPs (acts.map fun a => D.clo a.l.L a.l.ns a.ds) && (noPs (out.map D.str) && true)) = true
      rw [a1, a2]; rfl, ⟨hl, fun a ham => ⟨(ha a ham).ok, (ha a ham).np, (ha a ham).heard⟩, ho⟩, fun d' h => h, q⟩
end
theorem kg1 {a : D} : ∀ (W : Wd) (vs zs : List V), RepL W [] vs → RepL W [a] zs → RepL W [a] ((fun us ws => match us, ws with | [], [k0] => [k0] | _, _ => [] : List V → List V → List V) vs zs) := fun W vs zs e ⟨x, _, ez, rx, eb⟩ => by
  rw [show vs = [] from e, ez, show _ = [] from eb]
  exact ⟨x, _, rfl, rx, rfl⟩
theorem kg2 {a b : D} : ∀ (W : Wd) (vs zs : List V), RepL W [] vs → RepL W [a, b] zs → RepL W [b, a] ((fun us ws => match us, ws with | [], [k0, k1] => [k1, k0] | _, _ => [] : List V → List V → List V) vs zs) := fun W vs zs e ⟨x, _, ez, rx, y, _, ey, ry, eb⟩ => by
  rw [show vs = [] from e, ez, ey, show _ = [] from eb]
  exact ⟨y, _, rfl, ry, x, _, rfl, rx, rfl⟩
theorem kg3 {a b c : D} : ∀ (W : Wd) (vs zs : List V), RepL W [] vs → RepL W [a, b, c] zs → RepL W [c, b, a] ((fun us ws => match us, ws with | [], [k0, k1, k2] => [k2, k1, k0] | _, _ => [] : List V → List V → List V) vs zs) := fun W vs zs e ⟨x, _, ez, rx, y, _, ey, ry, u, _, eu, ru, eb⟩ => by
  rw [show vs = [] from e, ez, ey, eu, show _ = [] from eb]
  exact ⟨u, _, rfl, ru, y, _, rfl, ry, x, _, rfl, rx, rfl⟩
/-! ### names -/
theorem ev_upper {Γ : Gam} {to : TE} {a : Str} (h : Ev to Γ (.str a)) (hz : a.length ≤ 5592405) : Ev (tM0 (fun x xs H Q => ∃ a, x = .str a ∧ xs = [] ∧ a.length ≤ 5592405 ∧ Q (.str (Txt.upper a)) H) to) Γ (.str (Txt.upper a)) := fun F σ W Q g k => h F σ W _ g fun v H s r => by
  rw [show v = V.str a from r]
  exact ⟨⟨a, rfl⟩, a, rfl, rfl, hz, k _ H s rfl⟩
def NmS (s : Str) : Prop := s.cps.toList ∉ lab2 ∧ s.cps.toList.length ≤ 20 ∧ ∀ c ∈ s.cps.toList, c < 128
instance nmSDec (s : Str) : Decidable (NmS s) := inferInstanceAs (Decidable (_ ∧ _ ∧ _))
theorem nm_up : ∀ l ∈ lab2, NmS (Txt.upper (tx l)) := by decide +kernel
theorem nm_sp : ∀ l ∈ lab2, NmS (tx l ++ Str.ofString " ") := by decide +kernel
theorem nm_e : NmS "" := by decide +kernel
theorem nm_n : NmS "nobodyis" := by decide +kernel
/-- what is no name of the case, and what repr tells of it -/
def ThN (K : PySem.W.Frag) (B C : Addr) (ls : List (List Nat)) (d : D) : Prop := NmBad C ls d ∧ ∃ z, Thg K B C d z
theorem thn_str {K : PySem.W.Frag} {B C : Addr} {ls : List (List Nat)} {s : Str} (h : NmS s) (hl : ∀ l ∈ ls, l ∈ lab2) : ThN K B C ls (.str s) := by
  refine ⟨.inr (.inl ⟨s.cps.toList, congrArg D.str (of_tx s), fun z => h.1 (hl _ z)⟩), _, thg_elt (k := 2) (m := 202) (elt_c h.2.1 h.2.2 (Nat.le_refl _)) (by decide) (by decide)⟩
theorem thn_dat {K : PySem.W.Frag} {B C : Addr} {ls : List (List Nat)} {k m : Nat} {d : D} (h : Elt k m d) (hk : k ≤ 64) (hm : m ≤ 100000) (h1 : hasTy d = true) (h2 : isStrB d = false) : ThN K B C ls d :=
  ⟨.inl ⟨h1, (dOk_ok k d h.ok).2, h2⟩, _, thg_elt h hk hm⟩
def nmThings (C : Addr) (ls ms : List (List Nat)) : List D := [.non, .str "", .str "nobodyis", .str (Txt.upper (tx (rowAt ls 0))), .int 0, .bl true, .tup [.str (tx (rowAt ls 0))], .lst [.str (tx (rowAt ls 0))], .dct [] [], caseO C ls ms, .str (tx (rowAt ls 0) ++ Str.ofString " ")]
theorem nm_things {K : PySem.W.Frag} {B C : Addr} {ls ms : List (List Nat)} {n : Nat} (hc : CaseOk ls ms n) (hl : ∀ l ∈ ls, l ∈ lab2) : ∀ d ∈ nmThings C ls ms, ThN K B C ls d := by
  have h2 := hc.two
  have m0 : rowAt ls 0 ∈ ls := rowAt_mem (by omega)
  have s0 := hl _ m0
  have n0 := hc.names.all _ m0
  have e0 : Elt 2 202 (.str (tx (rowAt ls 0))) := elt_str (m := 20) ⟨by have := n0.hi; omega, fun c hc => by have := n0.all c hc; omega⟩ (by decide)
  have a0 : ∀ d ∈ [D.str (tx (rowAt ls 0))], Elt 2 202 d := fun d hd => by rw [List.mem_singleton.mp hd]; exact e0
  intro d hd
  unfold nmThings at hd
  simp only [List.mem_cons, List.not_mem_nil, or_false] at hd
  rcases hd with rfl | rfl | rfl | rfl | rfl | rfl | rfl | rfl | rfl | rfl | rfl
  · exact thn_dat (elt_non (k := 2) (m := 10) (by decide)) (by decide) (by decide) rfl rfl
  · exact thn_str nm_e hl
  · exact thn_str nm_n hl
  · exact thn_str (nm_up _ s0) hl
  · exact thn_dat (elt_nat (k := 2) (m := 10) (n := 0) (by decide) (by decide)) (by decide) (by decide) rfl rfl
  · exact thn_dat (elt_bl (k := 2) (m := 10) true (by decide)) (by decide) (by decide) rfl rfl
  · exact thn_dat (elt_tup (n := 1000) a0 (show (202 + 2) * 1 + 4 ≤ 1000 by decide)) (by decide) (by decide) rfl rfl
  · exact thn_dat (elt_lst (n := 1000) a0 (show (202 + 2) * 1 + 4 ≤ 1000 by decide)) (by decide) (by decide) rfl rfl
  · exact ⟨.inl ⟨rfl, rfl, rfl⟩, _, thg_dct⟩
  · exact ⟨.inr (.inr ⟨_, _, rfl⟩), _, thg_case hc.names.hi⟩
  · exact thn_str (nm_sp _ s0) hl
/-! ### cases -/
def ThC (K : PySem.W.Frag) (B C : Addr) (d : D) : Prop := CsBad B d ∧ ∃ z, Thg K B C d z
theorem thc_dat {K : PySem.W.Frag} {B C : Addr} {k m : Nat} {d : D} (h : Elt k m d) (hk : k ≤ 64) (hm : m ≤ 100000) (h1 : hasTy d = true) : ThC K B C d :=
  ⟨.inl ⟨h1, (dOk_ok k d h.ok).2⟩, _, thg_elt h hk hm⟩
theorem join_mem {sep : List Nat} {c : Nat} : ∀ ws : List (List Nat), c ∈ TL.joinL sep ws → c ∈ sep ∨ ∃ w ∈ ws, c ∈ w
  | [], h => absurd h (by simp [TL.joinL])
  | [p], h => .inr ⟨p, List.mem_cons_self, h⟩
  | p :: q :: r, h => by
    have h : c ∈ p ++ (sep ++ TL.joinL sep (q :: r)) := h
    rcases List.mem_append.mp h with h | h
    · exact .inr ⟨p, List.mem_cons_self, h⟩
    · rcases List.mem_append.mp h with h | h
      · exact .inl h
      · rcases join_mem (q :: r) h with h | ⟨w, hw, h⟩
        · exact .inl h
        · exact .inr ⟨w, List.mem_cons_of_mem _ hw, h⟩
theorem case_pg {ls ms : List (List Nat)} {n : Nat} (h : CaseOk ls ms n) : PgOk (caseTx ls ms) 664 := by
  refine ⟨h.len, fun c hc => ?_⟩
  rcases join_mem _ hc with hc | ⟨w, hw, hc⟩
  · have : ∀ z ∈ ([59, 32] : List Nat), z < 128 := by decide
    exact this c hc
  · obtain ⟨p, hp, rfl⟩ := List.mem_map.mp hw
    have hz := h.zip hp
    rcases join_mem _ hc with hc | ⟨v, hv, hc⟩
    · rw [List.mem_singleton.mp hc]; decide
    · rcases List.mem_cons.mp hv with rfl | hv
      · have := hz.1.all c hc; omega
      · obtain ⟨k, hk, rfl⟩ := List.mem_map.mp hv
        have := (num_ok (hz.2.2 k hk)).dig c hc
        omega
def csThings (B C : Addr) (ls ms L : List (List Nat)) : List D := [.non, .str (tx (caseTx ls ms)), .lst (folkD ls ms), .tup [caseO C ls ms], .int 0, .dct [] [], .bl true, bookD B L [], .tup (nameD ls)]
theorem elt_names {ls : List (List Nat)} (h : ∀ l ∈ ls, NameOk l) : ∀ d ∈ nameD ls, Elt 1 202 d := fun d hd => by
  obtain ⟨l, hl, rfl⟩ := List.mem_map.mp hd
  have n0 := h l hl
  exact elt_str (m := 20) ⟨by have := n0.hi; omega, fun c hc => by have := n0.all c hc; omega⟩ (by decide)
theorem elt_ord {o : List Nat} (h : ∀ k ∈ o, k < 100) : ∀ d ∈ ordD o, Elt 1 202 d := fun d hd => by
  obtain ⟨k, hk, rfl⟩ := List.mem_map.mp hd
  exact elt_nat (h k hk) (by decide)
theorem cs_things {K : PySem.W.Frag} {B C : Addr} {ls ms L : List (List Nat)} {n : Nat} (hc : CaseOk ls ms n) (hL : L.length ≤ 8) : ∀ d ∈ csThings B C ls ms L, ThC K B C d := by
  have h8 := hc.names.hi
  have n8 := hc.hi
  have fk : ∀ d ∈ folkD ls ms, Elt 3 3400 d := fun d hd => by
    obtain ⟨p, hp, rfl⟩ := List.mem_map.mp hd
    have hz := hc.zip hp
    refine elt_tup (k := 2) (m := 1640) (fun d hd => ?_) (show (1640 + 2) * 2 + 4 ≤ 3400 by decide)
    rcases List.mem_cons.mp hd with rfl | hd
    · exact elt_str (m := 20) ⟨by have := hz.1.hi; omega, fun c hc => by have := hz.1.all c hc; omega⟩ (by decide)
    · rw [List.mem_singleton.mp hd]
      have ol : (ordD p.2).length = n := (ordD_len p.2).trans hz.2.1
      exact elt_tup (k := 1) (m := 202) (elt_ord hz.2.2) (by rw [ol]; omega)
  have fl : (folkD ls ms).length = ls.length := by
    unfold folkD
    rw [List.length_map, hc.zl]
  intro d hd
  unfold csThings at hd
  simp only [List.mem_cons, List.not_mem_nil, or_false] at hd
  rcases hd with rfl | rfl | rfl | rfl | rfl | rfl | rfl | rfl | rfl
  · exact thc_dat (elt_non (k := 2) (m := 10) (by decide)) (by decide) (by decide) rfl
  · exact thc_dat (elt_str (k := 2) (n := 7000) (case_pg hc) (by decide)) (by decide) (by decide) rfl
  · exact thc_dat (elt_lst (n := 30000) fk (by rw [fl]; omega)) (by decide) (by decide) rfl
  · exact ⟨.inl ⟨rfl, np_caseO (r := []) rfl⟩, _, thg_tcase h8⟩
  · exact thc_dat (elt_nat (k := 2) (m := 10) (n := 0) (by decide) (by decide)) (by decide) (by decide) rfl
  · exact ⟨.inl ⟨rfl, rfl⟩, _, thg_dct⟩
  · exact thc_dat (elt_bl (k := 2) (m := 10) true (by decide)) (by decide) (by decide) rfl
  · exact ⟨.inr ⟨_, _, rfl⟩, _, thg_book hL⟩
  · exact thc_dat (elt_tup (n := 3000) (elt_names hc.names.all) (by rw [nameD_len]; omega)) (by decide) (by decide) rfl
end K27

namespace K27
open PySem PySem.Spec PyProof.Rows L2 Dw
variable [Tabs0]
theorem folk_get {ls ms : List (List Nat)} {n i : Nat} (hc : CaseOk ls ms n) (hi : i < ls.length) : (folkD ls ms)[i]? = some (.tup [.str (tx (rowAt ls i)), .tup (ordD (rowAt ms i))]) := by
  rw [folk_map hc.same, List.getElem?_map, List.getElem?_range hi]; rfl
def ThO (K : PySem.W.Frag) (B C : Addr) (n : Nat) (d : D) : Prop := (Pv d ∧ rkB d n = false) ∧ ∃ z, Thg K B C d z
theorem pv_tupX {ds : List D} (h : ∀ d ∈ ds, plB 11 d = true) (hl : ds.length ≤ 60) : Pv (.tup ds) := by
  show (decide (ds.length ≤ 60) && plBs 11 ds) = true
  rw [decide_eq_true hl, Bool.true_and, plBs_iff]
  exact h
structure EO (d : D) : Prop where
  el : Elt 2 202 d
  pl : plB 11 d = true
theorem tho_tup {K : PySem.W.Frag} {B C : Addr} {n : Nat} {ds : List D} (h : ∀ d ∈ ds, EO d) (hl : ds.length ≤ 30) (hr : rkB (.tup ds) n = false) : ThO K B C n (.tup ds) :=
  ⟨⟨pv_tupX (fun d hd => (h d hd).pl) (by omega), hr⟩, _, thg_elt (elt_tup (n := 10000) (fun d hd => (h d hd).el) (by omega)) (by decide) (by decide)⟩
theorem eo_nat {k : Nat} (h : k < 100) : EO (.int (k : Nat)) := ⟨elt_nat h (by decide), rfl⟩
theorem eo_rng {n : Nat} (h8 : n ≤ 8) : ∀ d ∈ rng n, EO d := fun d hd => by
  obtain ⟨k, hk, rfl⟩ := List.mem_map.mp hd
  exact eo_nat (by have := List.mem_range.mp hk; omega)
theorem eo_rep {d : D} (h : EO d) (n : Nat) : ∀ e ∈ (List.replicate n [d]).flatten, EO e := fun e he => by
  rw [rep_flat] at he
  rw [List.eq_of_mem_replicate he]; exact h
theorem bo_things {K : PySem.W.Frag} {B C : Addr} {n : Nat} (h1 : 1 ≤ n) (h8 : n ≤ 8) : ∀ d ∈ badO n, ThO K B C n d := by
  have ln := rng_length n
  have cd : Dw.cutD (rng n) (some 1) none = (rng n).drop 1 := cut_drop _ 1
  have lc : (Dw.cutD (rng n) (some 1) none).length = n - 1 := by rw [cd, List.length_drop, ln]
  have ld : (Dw.cutD (rng n) none (some (-1))).length ≤ n := by have := cut_len (ds := rng n) (a := none) (b := some (-1)); omega
  have er := eo_rng h8
  have lr : ∀ (d : D) (m : Nat), (List.replicate m [d]).flatten.length = m := fun d m => by rw [rep_flat, List.length_replicate]
  have e0 : EO (.int 0) := eo_nat (k := 0) (by decide)
  have en : EO (.int (n : Nat)) := eo_nat (by omega)
  have app : ∀ {a b : List D}, (∀ d ∈ a, EO d) → (∀ d ∈ b, EO d) → ∀ d ∈ a ++ b, EO d := fun ha hb d hd => (List.mem_append.mp hd).elim (ha d) (hb d)
  have one : ∀ {a : D}, EO a → ∀ d ∈ [a], EO d := fun h d hd => by rw [List.mem_singleton.mp hd]; exact h
  have cs : ∀ (a b : Option Int), ∀ d ∈ Dw.cutD (rng n) a b, EO d := fun a b d hd => er d (cut_sub d hd)
  have big : idxB (.int (n : Nat)) n = false := by
    show (decide ((0 : Int) ≤ (n : Nat)) && decide (((n : Nat) : Int) < (n : Nat))) = false
    rw [decide_eq_false (Int.lt_irrefl _), Bool.and_false]
  have rm : ∀ d : D, d ∈ (List.replicate n [d]).flatten := fun d => by rw [rep_flat]; exact List.mem_replicate.mpr ⟨by omega, rfl⟩
  intro d hd
  unfold badO at hd
  rcases List.mem_append.mp hd with hd | hd
  · rcases List.mem_append.mp hd with hd | hd
    · simp only [List.mem_cons, List.not_mem_nil, or_false] at hd
      rcases hd with rfl | rfl | rfl | rfl | rfl | rfl | rfl | rfl | rfl | rfl
      · exact ⟨⟨rfl, rfl⟩, _, thg_elt (elt_non (k := 2) (m := 10) (by decide)) (by decide) (by decide)⟩
      · exact ⟨⟨(by show plB 12 _ = true; decide +kernel), rfl⟩, _, thg_elt (elt_c (k := 2) (n := 202) (s := "") (by decide +kernel) (by decide +kernel) (by decide)) (by decide) (by decide)⟩
      · refine ⟨⟨?_, rfl⟩, _, thg_elt (elt_lst (n := 10000) (fun d hd => (er d hd).el) (by rw [ln]; omega)) (by decide) (by decide)⟩
        show (decide ((rng n).length ≤ 60) && plBs 11 (rng n)) = true
        rw [decide_eq_true (by omega), Bool.true_and, plBs_iff]
        exact fun d hd => (er d hd).pl
      · exact tho_tup (cs _ _) (by omega) (rk_no (.inl (by omega)))
      · exact tho_tup (app er (one en)) (by rw [List.length_append, ln, List.length_singleton]; omega) (rk_no (.inl (by rw [List.length_append, ln, List.length_singleton]; omega)))
      · exact tho_tup (eo_rep e0 _) (by rw [lr]; omega) (rk_no (.inl (by rw [lr]; omega)))
      · exact ⟨⟨(by show plB 12 _ = true; decide +kernel), rfl⟩, _, thg_dct⟩
      · exact ⟨⟨rfl, rfl⟩, _, thg_elt (elt_bl (k := 2) (m := 10) true (by decide)) (by decide) (by decide)⟩
      · exact tho_tup (eo_rep ⟨elt_c (by decide +kernel) (by decide +kernel) (by decide), by decide +kernel⟩ _) (by rw [lr]; omega) (rk_no (.inr ⟨_, rm _, rfl⟩))
      · exact tho_tup (eo_rep ⟨elt_non (by decide), rfl⟩ _) (by rw [lr]; omega) (rk_no (.inr ⟨_, rm _, rfl⟩))
    · simp only [List.mem_cons, List.not_mem_nil, or_false] at hd
      rcases hd with rfl | rfl | rfl
      · exact tho_tup (app (one ⟨elt_m1 (by decide), rfl⟩) (cs _ _)) (by rw [List.length_append, lc, List.length_singleton]; omega) (rk_no (.inr ⟨_, List.mem_append_left _ List.mem_cons_self, rfl⟩))
      · exact tho_tup (app (cs _ _) (one en)) (by rw [List.length_append, List.length_singleton]; omega) (rk_no (.inr ⟨_, List.mem_append_right _ List.mem_cons_self, big⟩))
      · exact tho_tup (app (one ⟨elt_bl false (by decide), rfl⟩) (cs _ _)) (by rw [List.length_append, lc, List.length_singleton]; omega) (rk_no (.inr ⟨_, List.mem_append_left _ List.mem_cons_self, rfl⟩))
  · by_cases hn : decide ((n : Int) > 1) = true
    · rw [if_pos hn] at hd
      have hn : (n : Int) > 1 := of_decide_eq_true hn
      rw [List.mem_singleton.mp hd]
      refine tho_tup (eo_rep e0 _) (by rw [lr]; omega) ?_
      cases q : rkB (.tup (List.replicate n [D.int 0]).flatten) n with
      | false => rfl
      | true =>
        obtain ⟨o, e, hp⟩ := rkB_iff.mp q
        injection e with e
        have m1 : 1 ∈ o := hp.mem_iff.mpr (List.mem_range.mpr (by omega))
        have m2 : D.int (1 : Nat) ∈ ordD o := List.mem_map_of_mem m1
        rw [← e, rep_flat] at m2
        have := List.eq_of_mem_replicate m2
        injection this with this
        exact absurd this (by decide)
    · rw [if_neg hn] at hd
      exact absurd hd (by simp)
def spNmR (C : Addr) : Spc where
  ty := CaseT
  args := fun x => [caseO C x.1 x.2.1, .tag (.lst (folkD x.1 x.2.1))]
  ok := fun x => CaseOk x.1 x.2.1 x.2.2 ∧ ∀ l ∈ x.1, l ∈ lab2
  rel := fun _ d => d = .bl true
end K27

namespace K27
open PySem PySem.Spec PyProof.Rows L2 Dw
variable [Tabs0]
theorem d__law_names_right {P : Program} {w : World} {K : PySem.W.Frag} {mg : Str → Option Value} {base : Heap} (T : Txt K w mg) (TB__law_names_right : LamX.TabB base mg T.lc__law_names_right T.lt__law_names_right) : FnG P w K mg base 18 T.f__law_names_right T.e__law_names_right ["_law_mine", "_law_folk_here"] (spNmR T.C_Case) := by
  refine fnGC_ok T.FC__law_names_right sc__law_names_right (fun _ => rfl) fun A outer s' H E hr hG => ?_
  refine ⟨_, (pss_cons (ps_asg (pe_tup (pa_cons (pe_ix (ixA K) (pe_ix (ixA K) (pv 1) pe_int (fun _ _ => rfl)) pe_int (fun _ _ => rfl)) (pa_cons (pe_ix (ixA K) (pe_ix (ixA K) (pv 1) pe_int (fun _ _ => rfl)) pe_int (fun _ _ => rfl)) pa_nil))) (tupA K 2 rfl (pgs_cons (pg_name (i := 4) sc__law_names_right.nd rfl (Or.inr rfl)) (pgs_cons (pg_name (i := 3) sc__law_names_right.nd rfl (Or.inr rfl)) pgs_nil)))) (pss_cons (ps_for PassesOwn.never rfl (piR K (pe_lst (pa_cons pe_non (pa_cons pe_str (pa_cons pe_str (pa_cons (pe_upper (pv 4)) (pa_cons pe_int (pa_cons pe_bl (pa_cons (pe_tup (pa_cons (pv 4) pa_nil)) (pa_cons (pe_lst (pa_cons (pv 4) pa_nil)) (pa_cons pe_dnewK (pa_cons (pv 0) (pa_cons (pe_op (plusE K) (pv 4) pe_str) pa_nil))))))))))))) (pg_name (i := 5) sc__law_names_right.nd rfl (Or.inr rfl)) (pss_cons (ps_set (i := 2) sc__law_names_right.nd rfl (Or.inl rfl) (pe_lst (pa_cons (pe_lamP (X := (cxOf CX0 P w K mg base N__law_names_right "_law_names_right" (defScope s__law_names_right) T.f__law_names_right (.ref T.lc__law_names_right) A outer s' H E).nox) (P := P) (w := w) (K := K) (mg := mg) (base := base) (T := T.tts) (c := T.lc__law_names_right) (Pt := T.lt__law_names_right) (k := 14) (ns := ["_law_thing", "_law_mine"]) TB__law_names_right rfl T.hm__law_names_right (T.tabs.uniq T.hm__law_names_right) (show LamX.LamS (defScope s__law_names_right) _ from LamX.lamS_by (by decide +kernel)) rfl (cloS_by (by decide +kernel)) (fun _ _ _ _ _ => rfl) (fun cl A1 outer1 s1 H1 E f1 c1 hr => (pe_call (E := E) (d_against T) (hr.mono (by decide)) (by rfl) T.m_against T.F_against.kp T.b_against .nil (passes_call (takes_of rfl rfl rfl rfl) fun _ _ _ _ h => h) (pa_cons (pv 1) (pa_cons (pv 0) (pa_cons pe_non pa_nil)))))) pa_nil))) (pss_cons (ps_expr (bmA K PySem.F.plainAttrs_list PySem.F.slot_list_append PySem.F.type_list_append mt_append (pv 2) (pa_cons (pe_lamP (X := (cxOf CX0 P w K mg base N__law_names_right "_law_names_right" (defScope s__law_names_right) T.f__law_names_right (.ref T.lc__law_names_right) A outer s' H E).nox) (P := P) (w := w) (K := K) (mg := mg) (base := base) (T := T.tts) (c := T.lc__law_names_right) (Pt := T.lt__law_names_right) (k := 14) (ns := ["_law_thing", "_law_mine", "_law_mate"]) TB__law_names_right rfl T.hm__law_names_right (T.tabs.uniq T.hm__law_names_right) (show LamX.LamS (defScope s__law_names_right) _ from LamX.lamS_by (by decide +kernel)) rfl (cloS_by (by decide +kernel)) (fun _ _ _ _ _ => rfl) (fun cl A1 outer1 s1 H1 E f1 c1 hr => (pe_callK0 (E := E) (d_against T) (hr.mono (by decide)) (by rfl) T.m_against T.F_against.kp T.k_against_other_one_case (passes_call (takes_of rfl rfl rfl rfl) fun _ _ _ _ h => h) (pk_cons (pv 2) (pk_cons (pv 0) (pk_cons (pv 1) pk_nil)))))) pa_nil))) (pss_cons (ps_expr (bmA K PySem.F.plainAttrs_list PySem.F.slot_list_append PySem.F.type_list_append mt_append (pv 2) (pa_cons (pe_lamP (X := (cxOf CX0 P w K mg base N__law_names_right "_law_names_right" (defScope s__law_names_right) T.f__law_names_right (.ref T.lc__law_names_right) A outer s' H E).nox) (P := P) (w := w) (K := K) (mg := mg) (base := base) (T := T.tts) (c := T.lc__law_names_right) (Pt := T.lt__law_names_right) (k := 14) (ns := ["_law_thing", "_law_tag", "_law_mine"]) TB__law_names_right rfl T.hm__law_names_right (T.tabs.uniq T.hm__law_names_right) (show LamX.LamS (defScope s__law_names_right) _ from LamX.lamS_by (by decide +kernel)) rfl (cloS_by (by decide +kernel)) (fun _ _ _ _ _ => rfl) (fun cl A1 outer1 s1 H1 E f1 c1 hr => (pe_call (E := E) (d_against T) (hr.mono (by decide)) (by rfl) T.m_against T.F_against.kp T.b_against .nil (passes_call (takes_of rfl rfl rfl rfl) fun _ _ _ _ h => h) (pa_cons (pv 2) (pa_cons (pv 1) (pa_cons (pv 0) pa_nil)))))) pa_nil))) (pss_cons (ps_expr (bmA K PySem.F.plainAttrs_list PySem.F.slot_list_append PySem.F.type_list_append mt_append (pv 2) (pa_cons (pe_lamP (X := (cxOf CX0 P w K mg base N__law_names_right "_law_names_right" (defScope s__law_names_right) T.f__law_names_right (.ref T.lc__law_names_right) A outer s' H E).nox) (P := P) (w := w) (K := K) (mg := mg) (base := base) (T := T.tts) (c := T.lc__law_names_right) (Pt := T.lt__law_names_right) (k := 14) (ns := ["_law_thing", "_law_mine"]) TB__law_names_right rfl T.hm__law_names_right (T.tabs.uniq T.hm__law_names_right) (show LamX.LamS (defScope s__law_names_right) _ from LamX.lamS_by (by decide +kernel)) rfl (cloS_by (by decide +kernel)) (fun _ _ _ _ _ => rfl) (fun cl A1 outer1 s1 H1 E f1 c1 hr => (pe_callK0 (E := E) (d_told_by T) (hr.mono (by decide)) (by rfl) T.m_told_by T.F_told_by.kp T.k_told_by_one_case (passes_call (takes_of rfl rfl rfl rfl) fun _ _ _ _ h => h) (pk_cons (pv 0) (pk_cons (pv 1) pk_nil))))) pa_nil))) (pss_one (ps_if (pt_not (truA K (pe_callGC (E := E0) (d__law_all_heard T) (hr.mono (by decide)) hG (fun _ _ => rfl) (by rfl) T.m__law_all_heard T.F__law_all_heard.kp T.b__law_all_heard (pa_cons (pv 2) (pa_cons (pe_lst (pa_cons pe_str (pa_cons (pe_callB (L2.CallR.or (reprY K hr hG) (L2.CallR.or (rep1A K (d_Book___repr__ T) (hr.mono (by decide)) hG T.or_Book T.ir_Book T.b_Book___repr__) (rep1A K (d_Case___repr__ T) (hr.mono (by decide)) hG T.or_Case T.ir_Case T.b_Case___repr__))) (by rfl) T.n_repr (by decide +kernel) (pa_cons (pv 5) pa_nil)) pa_nil))) pa_nil))))) (pss_one (ps_ret pe_bl)) pss_nil))))))) (pss_cons (ps_set (i := 2) sc__law_names_right.nd rfl (Or.inl rfl) (pe_lst (pa_cons (pe_lamP (X := (cxOf CX0 P w K mg base N__law_names_right "_law_names_right" (defScope s__law_names_right) T.f__law_names_right (.ref T.lc__law_names_right) A outer s' H E).nox) (P := P) (w := w) (K := K) (mg := mg) (base := base) (T := T.tts) (c := T.lc__law_names_right) (Pt := T.lt__law_names_right) (k := 14) (ns := ["_law_tag", "_law_mine"]) TB__law_names_right rfl T.hm__law_names_right (T.tabs.uniq T.hm__law_names_right) (show LamX.LamS (defScope s__law_names_right) _ from LamX.lamS_by (by decide +kernel)) rfl (cloS_by (by decide +kernel)) (fun _ _ _ _ _ => rfl) (fun cl A1 outer1 s1 H1 E f1 c1 hr => (pe_call (E := E) (d_against T) (hr.mono (by decide)) (by rfl) T.m_against T.F_against.kp T.b_against .nil (passes_call (takes_of rfl rfl rfl rfl) fun _ _ _ _ h => h) (pa_cons (pv 1) (pa_cons (pv 0) (pa_cons (pv 0) pa_nil)))))) pa_nil))) (pss_cons (ps_expr (bmA K PySem.F.plainAttrs_list PySem.F.slot_list_append PySem.F.type_list_append mt_append (pv 2) (pa_cons (pe_lamP (X := (cxOf CX0 P w K mg base N__law_names_right "_law_names_right" (defScope s__law_names_right) T.f__law_names_right (.ref T.lc__law_names_right) A outer s' H E).nox) (P := P) (w := w) (K := K) (mg := mg) (base := base) (T := T.tts) (c := T.lc__law_names_right) (Pt := T.lt__law_names_right) (k := 14) (ns := ["_law_tag", "_law_mine"]) TB__law_names_right rfl T.hm__law_names_right (T.tabs.uniq T.hm__law_names_right) (show LamX.LamS (defScope s__law_names_right) _ from LamX.lamS_by (by decide +kernel)) rfl (cloS_by (by decide +kernel)) (fun _ _ _ _ _ => rfl) (fun cl A1 outer1 s1 H1 E f1 c1 hr => (pe_callK0 (E := E) (d_against T) (hr.mono (by decide)) (by rfl) T.m_against T.F_against.kp T.k_against_other_one_case (passes_call (takes_of rfl rfl rfl rfl) fun _ _ _ _ h => h) (pk_cons (pv 0) (pk_cons (pv 0) (pk_cons (pv 1) pk_nil)))))) pa_nil))) (pss_one (ps_ret (pe_callGC (E := E0) (d__law_all_heard T) (hr.mono (by decide)) hG (fun _ _ => rfl) (by rfl) T.m__law_all_heard T.F__law_all_heard.kp T.b__law_all_heard (pa_cons (pv 2) (pa_cons (pe_lst (pa_cons pe_str (pa_cons (pe_callB (L2.CallR.or (reprY K hr hG) (L2.CallR.or (rep1A K (d_Book___repr__ T) (hr.mono (by decide)) hG T.or_Book T.ir_Book T.b_Book___repr__) (rep1A K (d_Case___repr__ T) (hr.mono (by decide)) hG T.or_Case T.ir_Case T.b_Case___repr__))) (by rfl) T.n_repr (by decide +kernel) (pa_cons (pv 4) pa_nil)) pa_nil))) pa_nil))))))))), fun x hx => ?_⟩
  obtain ⟨ls, ms, n⟩ := x
  obtain ⟨hc, hst⟩ := hx
  have hc : CaseOk ls ms n := hc
  have hst : ∀ l ∈ ls, l ∈ lab2 := hst
  have h2 := hc.two
  have h8 := hc.names.hi
  have fl : (folkD ls ms).length = ls.length := by unfold folkD; rw [List.length_map, hc.zl]
  have n0 := hc.names.all _ (rowAt_mem (show 0 < ls.length by omega))
  have tz : (tx (rowAt ls 0)).length ≤ 8 := by rw [tx_len]; exact n0.hi
  refine ds_seq (ds_asg_g (dl_tup (dla_cons (Ev.dl (ev_ixT (d := .str (tx (rowAt ls 0))) (ds := [.str (tx (rowAt ls 0)), .tup (ordD (rowAt ms 0))]) (ev_ix (ds := folkD ls ms) (Ev.b (ev_untag (ev_var rfl))) ev_int (atI_nat (j := 0) (folk_get hc (by omega)))) ev_int rfl) (dla_cons (Ev.dl (ev_ixT (d := .str (tx (rowAt ls 1))) (ds := [.str (tx (rowAt ls 1)), .tup (ordD (rowAt ms 1))]) (ev_ix (ds := folkD ls ms) (Ev.b (ev_untag (ev_var rfl))) ev_int (atI_nat (j := 1) (folk_get hc (by omega)))) ev_int rfl) (dla_nil ⟨(small (show 2 ≤ 100000 by decide)), [4] ++ [3], _, dg_tup2 dg_name dg_name, ?_⟩)))))))
  show Ds _ [.val (caseO T.C_Case ls ms), .val (.tag (.lst (folkD ls ms))), .unset, .val (.str (tx (rowAt ls 1))), .val (.str (tx (rowAt ls 0))), .unset] _
  refine ds_seq (ds_for (fun xs i Γ' => xs = nmThings T.C_Case ls ms ∧ ∃ s2 s5 : Sl, Γ' = [.val (caseO T.C_Case ls ms), .val (.tag (.lst (folkD ls ms))), s2, .val (.str (tx (rowAt ls 1))), .val (.str (tx (rowAt ls 0))), s5]) (dj_list (Ev.dl (d := .lst (nmThings T.C_Case ls ms)) (EvN.ev (evn_lst (eva_cons ev_non (eva_cons ev_str (eva_cons ev_str (eva_cons (ev_upper (ev_var rfl) (by omega)) (eva_cons ev_int (eva_cons ev_bl (eva_cons (ev_tup (eva_cons (ev_var rfl) eva_nil) (small (show 1 ≤ 100000 by decide))) (eva_cons (EvN.ev (evn_lst (eva_cons (ev_var rfl) eva_nil) (small (show 1 ≤ 100000 by decide)))) (eva_cons ev_dnew (eva_cons (ev_var rfl) (eva_cons (ev_op (ev_var rfl) ev_str (pl_str ?zs)) eva_nil))))))))))) (small (show 11 ≤ 100000 by decide)))) ⟨_, rfl, ⟨rfl, _, _, rfl⟩, fun i x Γ' hx' ⟨exs, s2, s5, e⟩ => ?_, fun Γ' ⟨exs, s2, s5, e⟩ => ?_⟩)))
  case zs => exact small (show (tx (rowAt ls 0)).length + 1 ≤ 100000 by omega)
  · subst e
    rw [exs] at hx'
    obtain ⟨hbad, z, th⟩ := nm_things (K := K) (B := T.C_Book) hc hst x (List.mem_of_getElem? hx')
    refine ⟨[5], _, dg_name, ds_seq (ds_asg_ownL (dla_cons (dl_lamP (i := 1) T.tabs T.hm__law_names_right rfl TgS.tag fun l1 n1 t1 => dla_nil ⟨(small (show 1 ≤ 100000 by decide)), ?_⟩)))⟩
    refine ds_seq (ds_drop (dl_append ⟨_, rfl⟩ (dla_cons (dl_lamP (i := 1) T.tabs T.hm__law_names_right rfl TgS.tag fun l2 n2 t2 => dla_nil ⟨_, _, rfl, rfl, Nat.lt_of_lt_of_le (show 1 < 100000 by decide) (by decide), ?_⟩))))
    refine ds_seq (ds_drop (dl_append ⟨_, rfl⟩ (dla_cons (dl_lamP (i := 1) T.tabs T.hm__law_names_right rfl TgS.tag fun l3 n3 t3 => dla_nil ⟨_, _, rfl, rfl, Nat.lt_of_lt_of_le (show 2 < 100000 by decide) (by decide), ?_⟩))))
    refine ds_seq (ds_drop (dl_append ⟨_, rfl⟩ (dla_cons (dl_lamP (i := 1) T.tabs T.hm__law_names_right rfl TgS.tag fun l4 n4 t4 => dla_nil ⟨_, _, rfl, rfl, Nat.lt_of_lt_of_le (show 3 < 100000 by decide) (by decide), ?_⟩))))
    refine ds_freeze 2 rfl (ds_if (dlt_not (dlt_tru_bl (dl_all (B := T.C_Book) (C := T.C_Case) (dla_cons (Ev.dl (ev_var rfl) (dla_cons (Ev.dl (EvN.ev (evn_lst (eva_cons ev_str (eva_cons (ev_reprR (ev_var rfl) th.rp) eva_nil)) (small (show 2 ≤ 100000 by decide)))) (dla_nil ⟨[(5, "_law_thing", x), (0, "_law_mine", caseO T.C_Case ls ms), (3, "_law_mate", .str (tx (rowAt ls 1))), (4, "_law_tag", .str (tx (rowAt ls 0)))], _, [⟨l1, [x, caseO T.C_Case ls ms]⟩, ⟨l2, [x, caseO T.C_Case ls ms, .str (tx (rowAt ls 1))]⟩, ⟨l3, [x, .str (tx (rowAt ls 0)), caseO T.C_Case ls ms]⟩, ⟨l4, [x, caseO T.C_Case ls ms]⟩], ["name", z], rfl, ?fn, capD_cons rfl rfl rfl (capD_cons rfl rfl rfl (capD_cons rfl rfl rfl (capD_cons rfl rfl rfl capD_nil))), ?acts, by simp, ?zz, true, rfl, (fun h => nomatch h), fun _ => ds_next ⟨exs, _, _, rfl⟩⟩)))))))))
    case fn => exact ⟨(by refine fnv_eq (a := ⟨l1, _⟩) (ns := ["_law_thing", "_law_mine"]) ?_ n1; rfl), (by refine fnv_eq (a := ⟨l2, _⟩) (ns := ["_law_thing", "_law_mine", "_law_mate"]) ?_ n2; rfl), (by refine fnv_eq (a := ⟨l3, _⟩) (ns := ["_law_thing", "_law_tag", "_law_mine"]) ?_ n3; rfl), (by refine fnv_eq (a := ⟨l4, _⟩) (ns := ["_law_thing", "_law_mine"]) ?_ n4; rfl), trivial⟩
    case zz =>
      intro s hs
      rcases List.mem_cons.mp hs with rfl | hs
      · decide +kernel
      · rw [List.mem_singleton.mp hs]; exact th.ok
    case acts =>
      have c1 : okC (caseO T.C_Case ls ms) = true := okC_case _ _ _
      have c2 : noP (caseO T.C_Case ls ms) = true := np_caseO1 _ _ _
      have okd := th.oc
      have npd := th.np
      intro a ha
      simp only [List.mem_cons, List.not_mem_nil, or_false] at ha
      rcases ha with rfl | rfl | rfl | rfl
      · exact act_ok (ns := ["_law_thing", "_law_mine"]) n1 (by decide) (capL_cons List.mem_cons_self (capL_cons (List.mem_cons_of_mem _ List.mem_cons_self) capL_nil)) (by simp [okCs, okC, okd, c1]) (by simp [noPs, noP, npd, c2]) (heard_err t1 (w0 := "name") (by simp) th fun E => ert_call (sx := spAgX T.C_Book T.C_Case T.C_NotACase T.C_UnknownName) (x := .inr (.inl ((ls, ms, n), x, .non))) (eva_cons (ev_var rfl) (eva_cons (ev_var rfl) (eva_cons ev_non eva_nil))) hbad fun ed H' h => h)
      · exact act_ok (ns := ["_law_thing", "_law_mine", "_law_mate"]) n2 (by decide) (capL_cons List.mem_cons_self (capL_cons (List.mem_cons_of_mem _ List.mem_cons_self) (capL_cons (List.mem_cons_of_mem _ (List.mem_cons_of_mem _ List.mem_cons_self)) capL_nil))) (by simp [okCs, okC, okd, c1]) (by simp [noPs, noP, npd, c2]) (heard_err t2 (w0 := "name") (by simp) th fun E => ert_callK (sx := spAgX T.C_Book T.C_Case T.C_NotACase T.C_UnknownName) (x := .inr (.inl ((ls, ms, n), x, .str (tx (rowAt ls 1))))) eva_nil (eva_cons (ev_var rfl) (eva_cons (ev_var rfl) (eva_cons (ev_var rfl) eva_nil))) kg3 hbad fun ed H' h => h)
      · exact act_ok (ns := ["_law_thing", "_law_tag", "_law_mine"]) n3 (by decide) (capL_cons List.mem_cons_self (capL_cons (List.mem_cons_of_mem _ (List.mem_cons_of_mem _ (List.mem_cons_of_mem _ List.mem_cons_self))) (capL_cons (List.mem_cons_of_mem _ List.mem_cons_self) capL_nil))) (by simp [okCs, okC, okd, c1]) (by simp [noPs, noP, npd, c2]) (heard_err t3 (w0 := "name") (by simp) th fun E => ert_call (sx := spAgX T.C_Book T.C_Case T.C_NotACase T.C_UnknownName) (x := .inr (.inr (.inl ((ls, ms, n), 0, x)))) (eva_cons (ev_var rfl) (eva_cons (ev_var rfl) (eva_cons (ev_var rfl) eva_nil))) ⟨(by show 0 < ls.length; omega), hbad⟩ fun ed H' h => h)
      · exact act_ok (ns := ["_law_thing", "_law_mine"]) n4 (by decide) (capL_cons List.mem_cons_self (capL_cons (List.mem_cons_of_mem _ List.mem_cons_self) capL_nil)) (by simp [okCs, okC, okd, c1]) (by simp [noPs, noP, npd, c2]) (heard_err t4 (w0 := "name") (by simp) th fun E => ert_callK (sx := spTwX T.C_Book T.C_Case T.C_NotACase T.C_UnknownName (BadN T.C_Case)) (x := .inr ((ls, ms, n), x)) eva_nil (eva_cons (ev_var rfl) (eva_cons (ev_var rfl) eva_nil)) kg2 hbad fun ed H' h => h)
  · subst e
    have e0 : Elt 2 202 (.str (tx (rowAt ls 0))) := elt_str (m := 20) ⟨by have := n0.hi; omega, fun c hc => by have := n0.all c hc; omega⟩ (by decide)
    have th : Thg K T.C_Book T.C_Case (.str (tx (rowAt ls 0))) _ := thg_elt e0 (by decide) (by decide)
    refine ds_seq (ds_asg_ownL (dla_cons (dl_lamP (i := 1) T.tabs T.hm__law_names_right rfl TgS.tag fun l1 n1 t1 => dla_nil ⟨(small (show 1 ≤ 100000 by decide)), ?_⟩)))
    refine ds_seq (ds_drop (dl_append ⟨_, rfl⟩ (dla_cons (dl_lamP (i := 1) T.tabs T.hm__law_names_right rfl TgS.tag fun l2 n2 t2 => dla_nil ⟨_, _, rfl, rfl, Nat.lt_of_lt_of_le (show 1 < 100000 by decide) (by decide), ?_⟩))))
    refine ds_freeze 2 rfl (ds_ret (dl_all (B := T.C_Book) (C := T.C_Case) (dla_cons (Ev.dl (ev_var rfl) (dla_cons (Ev.dl (EvN.ev (evn_lst (eva_cons ev_str (eva_cons (ev_reprR (ev_var rfl) th.rp) eva_nil)) (small (show 2 ≤ 100000 by decide)))) (dla_nil ⟨[(4, "_law_tag", .str (tx (rowAt ls 0))), (0, "_law_mine", caseO T.C_Case ls ms)], _, [⟨l1, [.str (tx (rowAt ls 0)), caseO T.C_Case ls ms]⟩, ⟨l2, [.str (tx (rowAt ls 0)), caseO T.C_Case ls ms]⟩], ["name", _], rfl, ?fn2, capD_cons rfl rfl rfl (capD_cons rfl rfl rfl capD_nil), ?acts2, by simp, ?zz2, rfl⟩)))))))
    case fn2 => exact ⟨(by refine fnv_eq (a := ⟨l1, _⟩) (ns := ["_law_tag", "_law_mine"]) ?_ n1; rfl), (by refine fnv_eq (a := ⟨l2, _⟩) (ns := ["_law_tag", "_law_mine"]) ?_ n2; rfl), trivial⟩
    case zz2 =>
      intro s hs
      rcases List.mem_cons.mp hs with rfl | hs
      · decide +kernel
      · rw [List.mem_singleton.mp hs]; exact th.ok
    case acts2 =>
      have c1 : okC (caseO T.C_Case ls ms) = true := okC_case _ _ _
      have c2 : noP (caseO T.C_Case ls ms) = true := np_caseO1 _ _ _
      have hi : 0 < ls.length := by omega
      intro a ha
      simp only [List.mem_cons, List.not_mem_nil, or_false] at ha
      rcases ha with rfl | rfl
      · exact act_ok (ns := ["_law_tag", "_law_mine"]) n1 (by decide) (capL_cons List.mem_cons_self (capL_cons (List.mem_cons_of_mem _ List.mem_cons_self) capL_nil)) (by simp [okCs, okC, c1]) (by simp [noPs, noP, c2]) (heard_err t1 (w0 := "name") (by simp) th fun E => ert_call (sx := spAgX T.C_Book T.C_Case T.C_NotACase T.C_UnknownName) (x := .inr (.inr (.inr ((ls, ms, n), 0)))) (eva_cons (ev_var rfl) (eva_cons (ev_var rfl) (eva_cons (ev_var rfl) eva_nil))) hi fun ed H' h => h)
      · exact act_ok (ns := ["_law_tag", "_law_mine"]) n2 (by decide) (capL_cons List.mem_cons_self (capL_cons (List.mem_cons_of_mem _ List.mem_cons_self) capL_nil)) (by simp [okCs, okC, c1]) (by simp [noPs, noP, c2]) (heard_err t2 (w0 := "name") (by simp) th fun E => ert_callK (sx := spAgX T.C_Book T.C_Case T.C_NotACase T.C_UnknownName) (x := .inr (.inr (.inr ((ls, ms, n), 0)))) eva_nil (eva_cons (ev_var rfl) (eva_cons (ev_var rfl) (eva_cons (ev_var rfl) eva_nil))) kg3 hi fun ed H' h => h)
end K27

namespace K27
open PySem PySem.Spec PyProof.Rows L2 Dw
variable [Tabs0]
theorem d__law_right {P : Program} {w : World} {K : PySem.W.Frag} {mg : Str → Option Value} {base : Heap} (T : Txt K w mg) (TB__law_names_right : LamX.TabB base mg T.lc__law_names_right T.lt__law_names_right) (TB__law_right : LamX.TabB base mg T.lc__law_right T.lt__law_right) : FnG P w K mg base 19 T.f__law_right T.e__law_right ["_law_jar"] (spRightJ) := by
  refine fnGC_ok T.FC__law_right sc__law_right (fun _ => rfl) fun A outer s' H E hr hG => ?_
  refine ⟨_, (pss_cons (ps_set (i := 4) sc__law_right.nd rfl (Or.inr rfl) (pe_op (plusE K) pe_int (pe_call (d__law_dip T) (hr.mono (by decide)) (by rfl) T.m__law_dip T.F__law_dip.kp T.b__law_dip .nil pass0 (pa_cons (pv 0) (pa_cons pe_int pa_nil))))) (pss_cons (ps_set (i := 3) sc__law_right.nd rfl (Or.inr rfl) (pe_call (d__law_folk T) (hr.mono (by decide)) (by rfl) T.m__law_folk T.F__law_folk.kp T.b__law_folk .nil pass0 (pa_cons (pv 0) (pa_cons (pv 4) (pa_cons pe_int (pa_cons pe_int pa_nil)))))) (pss_cons (ps_asg (pe_tup (pa_cons (pe_make T.mk_Case (d_Case___init__ T) (hr.mono (by decide)) (by rfl) T.m_Case T.b_Case___init__ .nil pass0 (pa_cons (pe_call (d__law_case_page T) (hr.mono (by decide)) (by rfl) T.m__law_case_page T.F__law_case_page.kp T.b__law_case_page .nil pass0 (pa_cons (pv 3) pa_nil)) pa_nil)) (pa_cons (pe_make T.mk_Book (d_Book___init__ T) (hr.mono (by decide)) (by rfl) T.m_Book T.b_Book___init__ .nil pass0 (pa_cons (pe_call (d__law_book_page T) (hr.mono (by decide)) (by rfl) T.m__law_book_page T.F__law_book_page.kp T.b__law_book_page .nil pass0 (pa_cons (pe_call (d__law_tags T) (hr.mono (by decide)) (by rfl) T.m__law_tags T.F__law_tags.kp T.b__law_tags .nil pass0 (pa_cons (pv 0) (pa_cons (pv 4) pa_nil))) (pa_cons (pe_lst pa_nil) pa_nil))) pa_nil)) pa_nil))) (tupA K 2 rfl (pgs_cons (pg_name (i := 5) sc__law_right.nd rfl (Or.inr rfl)) (pgs_cons (pg_name (i := 1) sc__law_right.nd rfl (Or.inl rfl)) pgs_nil)))) (pss_cons (ps_for PassesOwn.never rfl (piR K (pe_lst (pa_cons pe_non (pa_cons (pe_callTy (cr_strOwn (d_Case___str__ T) (hr.mono (by decide)) T.os_Case T.is_Case T.b_Case___str__) (by rfl) T.n_str (by decide +kernel) (pa_cons (pv 5) pa_nil)) (pa_cons (pv 3) (pa_cons (pe_tup (pa_cons (pv 5) pa_nil)) (pa_cons pe_int (pa_cons pe_dnewK (pa_cons pe_bl (pa_cons (pv 1) (pa_cons (pe_prop (pv 5) T.cl_Case T.p_Case_names (d_Case_names T) (hr.mono (by decide)) T.b_Case_names .nil pass0 rfl) pa_nil))))))))))) (pg_name (i := 6) sc__law_right.nd rfl (Or.inr rfl)) (pss_cons (ps_set (i := 2) sc__law_right.nd rfl (Or.inl rfl) (pe_lst (pa_cons (pe_lamP (X := (cxOf CX0 P w K mg base N__law_right "_law_right" (defScope s__law_right) T.f__law_right (.ref T.lc__law_right) A outer s' H E).nox) (P := P) (w := w) (K := K) (mg := mg) (base := base) (T := T.tts) (c := T.lc__law_right) (Pt := T.lt__law_right) (k := 14) (ns := ["_law_thing"]) TB__law_right rfl T.hm__law_right (T.tabs.uniq T.hm__law_right) (show LamX.LamS (defScope s__law_right) _ from LamX.lamS_by (by decide +kernel)) rfl (cloS_by (by decide +kernel)) (fun _ _ _ _ _ => rfl) (fun cl A1 outer1 s1 H1 E f1 c1 hr => (pe_call (E := E) (d_against T) (hr.mono (by decide)) (by rfl) T.m_against T.F_against.kp T.b_against .nil (passes_call (takes_of rfl rfl rfl rfl) fun _ _ _ _ h => h) (pa_cons (pv 0) (pa_cons pe_non (pa_cons pe_non pa_nil)))))) pa_nil))) (pss_cons (ps_expr (bmA K PySem.F.plainAttrs_list PySem.F.slot_list_append PySem.F.type_list_append mt_append (pv 2) (pa_cons (pe_lamP (X := (cxOf CX0 P w K mg base N__law_right "_law_right" (defScope s__law_right) T.f__law_right (.ref T.lc__law_right) A outer s' H E).nox) (P := P) (w := w) (K := K) (mg := mg) (base := base) (T := T.tts) (c := T.lc__law_right) (Pt := T.lt__law_right) (k := 14) (ns := ["_law_thing"]) TB__law_right rfl T.hm__law_right (T.tabs.uniq T.hm__law_right) (show LamX.LamS (defScope s__law_right) _ from LamX.lamS_by (by decide +kernel)) rfl (cloS_by (by decide +kernel)) (fun _ _ _ _ _ => rfl) (fun cl A1 outer1 s1 H1 E f1 c1 hr => (pe_callK0 (E := E) (d_winners T) (hr.mono (by decide)) (by rfl) T.m_winners T.F_winners.kp T.k_winners_ranking_case (passes_call (takes_of rfl rfl rfl rfl) fun _ _ _ _ h => h) (pk_cons pe_non (pk_cons (pv 0) pk_nil))))) pa_nil))) (pss_cons (ps_expr (bmA K PySem.F.plainAttrs_list PySem.F.slot_list_append PySem.F.type_list_append mt_append (pv 2) (pa_cons (pe_lamP (X := (cxOf CX0 P w K mg base N__law_right "_law_right" (defScope s__law_right) T.f__law_right (.ref T.lc__law_right) A outer s' H E).nox) (P := P) (w := w) (K := K) (mg := mg) (base := base) (T := T.tts) (c := T.lc__law_right) (Pt := T.lt__law_right) (k := 14) (ns := ["_law_thing"]) TB__law_right rfl T.hm__law_right (T.tabs.uniq T.hm__law_right) (show LamX.LamS (defScope s__law_right) _ from LamX.lamS_by (by decide +kernel)) rfl (cloS_by (by decide +kernel)) (fun _ _ _ _ _ => rfl) (fun cl A1 outer1 s1 H1 E f1 c1 hr => (pe_call (E := E) (d_told_by T) (hr.mono (by decide)) (by rfl) T.m_told_by T.F_told_by.kp T.b_told_by .nil (passes_call (takes_of rfl rfl rfl rfl) fun _ _ _ _ h => h) (pa_cons (pv 0) (pa_cons pe_non pa_nil))))) pa_nil))) (pss_cons (ps_expr (bmA K PySem.F.plainAttrs_list PySem.F.slot_list_append PySem.F.type_list_append mt_append (pv 2) (pa_cons (pe_lamP (X := (cxOf CX0 P w K mg base N__law_right "_law_right" (defScope s__law_right) T.f__law_right (.ref T.lc__law_right) A outer s' H E).nox) (P := P) (w := w) (K := K) (mg := mg) (base := base) (T := T.tts) (c := T.lc__law_right) (Pt := T.lt__law_right) (k := 14) (ns := ["_law_thing"]) TB__law_right rfl T.hm__law_right (T.tabs.uniq T.hm__law_right) (show LamX.LamS (defScope s__law_right) _ from LamX.lamS_by (by decide +kernel)) rfl (cloS_by (by decide +kernel)) (fun _ _ _ _ _ => rfl) (fun cl A1 outer1 s1 H1 E f1 c1 hr => (pe_callK0 (E := E) (d_barred T) (hr.mono (by decide)) (by rfl) T.m_barred T.F_barred.kp T.k_barred_case (passes_call (takes_of rfl rfl rfl rfl) fun _ _ _ _ h => h) (pk_cons (pv 0) pk_nil)))) pa_nil))) (pss_one (ps_if (pt_not (truA K (pe_callGC (E := E0) (d__law_all_heard T) (hr.mono (by decide)) hG (fun _ _ => rfl) (by rfl) T.m__law_all_heard T.F__law_all_heard.kp T.b__law_all_heard (pa_cons (pv 2) (pa_cons (pe_lst (pa_cons pe_str (pa_cons (pe_callB (L2.CallR.or (reprY K hr hG) (L2.CallR.or (rep1A K (d_Book___repr__ T) (hr.mono (by decide)) hG T.or_Book T.ir_Book T.b_Book___repr__) (rep1A K (d_Case___repr__ T) (hr.mono (by decide)) hG T.or_Case T.ir_Case T.b_Case___repr__))) (by rfl) T.n_repr (by decide +kernel) (pa_cons (pv 6) pa_nil)) pa_nil))) pa_nil))))) (pss_one (ps_ret pe_bl)) pss_nil))))))) (pss_cons (ps_for PassesOwn.never rfl (piR K (pe_call (d__law_bad_orders T) (hr.mono (by decide)) (by rfl) T.m__law_bad_orders T.F__law_bad_orders.kp T.b__law_bad_orders .nil pass0 (pa_cons (pv 4) pa_nil))) (pg_name (i := 6) sc__law_right.nd rfl (Or.inr rfl)) (pss_cons (ps_set (i := 2) sc__law_right.nd rfl (Or.inl rfl) (pe_lst (pa_cons (pe_lamP (X := (cxOf CX0 P w K mg base N__law_right "_law_right" (defScope s__law_right) T.f__law_right (.ref T.lc__law_right) A outer s' H E).nox) (P := P) (w := w) (K := K) (mg := mg) (base := base) (T := T.tts) (c := T.lc__law_right) (Pt := T.lt__law_right) (k := 14) (ns := ["_law_thing", "_law_mine"]) TB__law_right rfl T.hm__law_right (T.tabs.uniq T.hm__law_right) (show LamX.LamS (defScope s__law_right) _ from LamX.lamS_by (by decide +kernel)) rfl (cloS_by (by decide +kernel)) (fun _ _ _ _ _ => rfl) (fun cl A1 outer1 s1 H1 E f1 c1 hr => (pe_call (E := E) (d_winners T) (hr.mono (by decide)) (by rfl) T.m_winners T.F_winners.kp T.b_winners .nil (passes_call (takes_of rfl rfl rfl rfl) fun _ _ _ _ h => h) (pa_cons (pv 1) (pa_cons (pv 0) pa_nil))))) pa_nil))) (pss_cons (ps_expr (bmA K PySem.F.plainAttrs_list PySem.F.slot_list_append PySem.F.type_list_append mt_append (pv 2) (pa_cons (pe_lamP (X := (cxOf CX0 P w K mg base N__law_right "_law_right" (defScope s__law_right) T.f__law_right (.ref T.lc__law_right) A outer s' H E).nox) (P := P) (w := w) (K := K) (mg := mg) (base := base) (T := T.tts) (c := T.lc__law_right) (Pt := T.lt__law_right) (k := 14) (ns := ["_law_thing", "_law_mine"]) TB__law_right rfl T.hm__law_right (T.tabs.uniq T.hm__law_right) (show LamX.LamS (defScope s__law_right) _ from LamX.lamS_by (by decide +kernel)) rfl (cloS_by (by decide +kernel)) (fun _ _ _ _ _ => rfl) (fun cl A1 outer1 s1 H1 E f1 c1 hr => (pe_callK0 (E := E) (d_winners T) (hr.mono (by decide)) (by rfl) T.m_winners T.F_winners.kp T.k_winners_ranking_case (passes_call (takes_of rfl rfl rfl rfl) fun _ _ _ _ h => h) (pk_cons (pv 0) (pk_cons (pv 1) pk_nil))))) pa_nil))) (pss_one (ps_if (pt_not (truA K (pe_callGC (E := E0) (d__law_all_heard T) (hr.mono (by decide)) hG (fun _ _ => rfl) (by rfl) T.m__law_all_heard T.F__law_all_heard.kp T.b__law_all_heard (pa_cons (pv 2) (pa_cons (pe_lst (pa_cons pe_str (pa_cons (pe_callB (L2.CallR.or (reprY K hr hG) (L2.CallR.or (rep1A K (d_Book___repr__ T) (hr.mono (by decide)) hG T.or_Book T.ir_Book T.b_Book___repr__) (rep1A K (d_Case___repr__ T) (hr.mono (by decide)) hG T.or_Case T.ir_Case T.b_Case___repr__))) (by rfl) T.n_repr (by decide +kernel) (pa_cons (pv 6) pa_nil)) pa_nil))) pa_nil))))) (pss_one (ps_ret pe_bl)) pss_nil))))) (pss_cons (ps_set (i := 2) sc__law_right.nd rfl (Or.inl rfl) (pe_lst (pa_cons (pe_lamP (X := (cxOf CX0 P w K mg base N__law_right "_law_right" (defScope s__law_right) T.f__law_right (.ref T.lc__law_right) A outer s' H E).nox) (P := P) (w := w) (K := K) (mg := mg) (base := base) (T := T.tts) (c := T.lc__law_right) (Pt := T.lt__law_right) (k := 14) (ns := ["_law_mine", "_law_many"]) TB__law_right rfl T.hm__law_right (T.tabs.uniq T.hm__law_right) (show LamX.LamS (defScope s__law_right) _ from LamX.lamS_by (by decide +kernel)) rfl (cloS_by (by decide +kernel)) (fun _ _ _ _ _ => rfl) (fun cl A1 outer1 s1 H1 E f1 c1 hr => (pe_call (E := E) (d_winners T) (hr.mono (by decide)) (by rfl) T.m_winners T.F_winners.kp T.b_winners .nil (passes_call (takes_of rfl rfl rfl rfl) fun _ _ _ _ h => h) (pa_cons (pv 0) (pa_cons (sliceRA K (pe_tupRg rfl (by rfl) T.n_tuple (prg_1 (by rfl) T.n_range (pv 1))) (pe_un un_neg pe_int)) pa_nil))))) pa_nil))) (pss_cons (ps_expr (bmA K PySem.F.plainAttrs_list PySem.F.slot_list_append PySem.F.type_list_append mt_append (pv 2) (pa_cons (pe_lamP (X := (cxOf CX0 P w K mg base N__law_right "_law_right" (defScope s__law_right) T.f__law_right (.ref T.lc__law_right) A outer s' H E).nox) (P := P) (w := w) (K := K) (mg := mg) (base := base) (T := T.tts) (c := T.lc__law_right) (Pt := T.lt__law_right) (k := 14) (ns := ["_law_mine", "_law_folk_here"]) TB__law_right rfl T.hm__law_right (T.tabs.uniq T.hm__law_right) (show LamX.LamS (defScope s__law_right) _ from LamX.lamS_by (by decide +kernel)) rfl (cloS_by (by decide +kernel)) (fun _ _ _ _ _ => rfl) (fun cl A1 outer1 s1 H1 E f1 c1 hr => (pe_call (E := E) (d_against T) (hr.mono (by decide)) (by rfl) T.m_against T.F_against.kp T.b_against .nil (passes_call (takes_of rfl rfl rfl rfl) fun _ _ _ _ h => h) (pa_cons (pv 0) (pa_cons (pe_ix (ixA K) (pe_ix (ixA K) (pv 1) pe_int (fun _ _ => rfl)) pe_int (fun _ _ => rfl)) (pa_cons (pe_ix (ixA K) (pe_ix (ixA K) (pv 1) pe_int (fun _ _ => rfl)) pe_int (fun _ _ => rfl)) pa_nil)))))) pa_nil))) (pss_cons (ps_expr (bmA K PySem.F.plainAttrs_list PySem.F.slot_list_append PySem.F.type_list_append mt_append (pv 2) (pa_cons (pe_lamP (X := (cxOf CX0 P w K mg base N__law_right "_law_right" (defScope s__law_right) T.f__law_right (.ref T.lc__law_right) A outer s' H E).nox) (P := P) (w := w) (K := K) (mg := mg) (base := base) (T := T.tts) (c := T.lc__law_right) (Pt := T.lt__law_right) (k := 14) (ns := ["_law_mine", "_law_folk_here"]) TB__law_right rfl T.hm__law_right (T.tabs.uniq T.hm__law_right) (show LamX.LamS (defScope s__law_right) _ from LamX.lamS_by (by decide +kernel)) rfl (cloS_by (by decide +kernel)) (fun _ _ _ _ _ => rfl) (fun cl A1 outer1 s1 H1 E f1 c1 hr => (pe_call (E := E) (d_told_by T) (hr.mono (by decide)) (by rfl) T.m_told_by T.F_told_by.kp T.b_told_by .nil (passes_call (takes_of rfl rfl rfl rfl) fun _ _ _ _ h => h) (pa_cons (pv 0) (pa_cons (pe_ix (ixA K) (pe_ix (ixA K) (pv 1) pe_int (fun _ _ => rfl)) pe_int (fun _ _ => rfl)) pa_nil))))) pa_nil))) (pss_one (ps_ret (pe_and (pe_callGC (E := E0) (d__law_all_heard T) (hr.mono (by decide)) hG (fun _ _ => rfl) (by rfl) T.m__law_all_heard T.F__law_all_heard.kp T.b__law_all_heard (pa_cons (pe_op (plusE K) (pv 2) (pe_lst (pa_cons (pe_lamP (X := (cxOf CX0 P w K mg base N__law_right "_law_right" (defScope s__law_right) T.f__law_right (.ref T.lc__law_right) A outer s' H E).nox) (P := P) (w := w) (K := K) (mg := mg) (base := base) (T := T.tts) (c := T.lc__law_right) (Pt := T.lt__law_right) (k := 14) (ns := ["_law_mine"]) TB__law_right rfl T.hm__law_right (T.tabs.uniq T.hm__law_right) (show LamX.LamS (defScope s__law_right) _ from LamX.lamS_by (by decide +kernel)) rfl (cloS_by (by decide +kernel)) (fun _ _ _ _ _ => rfl) (fun cl A1 outer1 s1 H1 E f1 c1 hr => (pe_call (E := E) (d_barred T) (hr.mono (by decide)) (by rfl) T.m_barred T.F_barred.kp T.b_barred .nil (passes_call (takes_of rfl rfl rfl rfl) fun _ _ _ _ h => h) (pa_cons (pv 0) pa_nil)))) pa_nil))) (pa_cons (pe_lst (pa_cons pe_str pa_nil)) pa_nil))) (pe_one (pe_callG (E := E0) (d__law_names_right T TB__law_names_right) (hr.mono (by decide)) hG (by rfl) T.m__law_names_right T.F__law_names_right.kp T.b__law_names_right (pa_cons (pv 5) (pa_cons (pv 3) pa_nil))))))))))))))), fun x hx => ?_⟩
  refine ds_seq (ds_asg (dl_op (Ev.dl ev_int (dl_call (s := spDraw) (dla_cons (Ev.dl (ev_var rfl) (dla_cons (Ev.dl ev_int (dla_nil ⟨(5 : Nat), rfl, ⟨by decide, by decide⟩, fun d hd => ?_⟩)))))))))
  obtain ⟨q, hq, rfl⟩ := hd
  have hq : q < 5 := hq
  refine ⟨.int ((1 + q : Nat) : Int), ?pl, ?_⟩
  case pl =>
    have e := pl_int (K := K) (i := 1) (j := (q : Int))
    rw [show (1 : Int) + (q : Int) = ((1 + q : Nat) : Int) by omega] at e
    exact e
  obtain ⟨n, en⟩ : ∃ n, n = 1 + q := ⟨_, rfl⟩
  rw [← en]
  have n1 : 1 ≤ n := by omega
  have n5 : n ≤ 5 := by omega
  refine ds_seq (ds_asg (dl_call (s := spFolk) (dla_cons (Ev.dl (ev_var rfl) (dla_cons (Ev.dl (ev_var rfl) (dla_cons (Ev.dl (ev_int (z := ((2 : Nat) : Int))) (dla_cons (Ev.dl (ev_int (z := ((6 : Nat) : Int))) (dla_nil ⟨(n, 2, 6), rfl, ⟨n1, (by show n ≤ 8; omega), (by show 2 ≤ 2; decide), (by show 2 ≤ 6; decide), (by show 6 ≤ 8; decide)⟩, fun d hd => ?_⟩)))))))))))
  obtain ⟨ls, ms, rfl, hc, hl2, hl6, hst⟩ := hd
  have hc : CaseOk ls ms n := hc
  have h2 := hc.two
  have h8 := hc.names.hi
  have sm := hc.same
  have fl : (folkD ls ms).length = ls.length := by unfold folkD; rw [List.length_map, hc.zl]
  refine ds_seq (ds_asg_g (dl_tup (dla_cons (dl_make (s := spCInit) (dla_cons (Ev.dl (ev_call (s := spPage) (x := (ls, ms, n)) (eva_cons (ev_var (d := .lst (folkD ls ms)) rfl) eva_nil) np_folk hc fun d h => h) (dla_nil ⟨(ls, ms, n), rfl, hc, fun es hes => ?_⟩)))) )))
  cases hes
  refine dla_cons (dl_make (s := spInit) (dla_cons (dl_call (s := spPageB) (dla_cons (dl_call (s := spTags) (dla_cons (Ev.dl (ev_var rfl) (dla_cons (Ev.dl (ev_var rfl) (dla_nil ⟨n, rfl, ⟨n1, by omega⟩, fun d hd => ?_⟩))))) )))))
  obtain ⟨L, rfl, hL, lL, _⟩ := hd
  have lL : L.length = n := lL
  have hb : BookOk L [] := ⟨hL, Nat.zero_le _, fun r hr => absurd hr (by simp)⟩
  refine dla_cons (Ev.dl (EvN.ev (evn_lst eva_nil (Nat.zero_le _))) (dla_nil ⟨(L, []), rfl, hb, fun d hd => ?_⟩))
  cases hd
  refine dla_nil ⟨(L, []), rfl, hb, fun es hes => ?_⟩
  cases hes
  refine dla_nil ⟨(small (show 2 ≤ 100000 by decide)), [5] ++ [1], _, dg_tup2 dg_name dg_name, ?_⟩
  show Ds _ [.val .purse, .val (bookD T.C_Book L []), .unset, .val (.lst (folkD ls ms)), .val (.int (n : Nat)), .val (caseO T.C_Case ls ms), .unset] _
  have c1 : okC (caseO T.C_Case ls ms) = true := okC_case _ _ _
  have c2 : noP (caseO T.C_Case ls ms) = true := np_caseO1 _ _ _
  have c3 := dOk_ok 3 _ (ok_folk (ms := ms) hc.names.all)
  have c4 : okCs (folkD ls ms) = true := c3.1
  have c5 : noPs (folkD ls ms) = true := c3.2
  have zz : ∀ {w0 z : Str}, PyData.strOk w0 = true → PyData.strOk z = true → ∀ s ∈ [w0, z], PyData.strOk s = true := fun h1 h2 s hs => by
    rcases List.mem_cons.mp hs with rfl | hs
    · exact h1
    · rw [List.mem_singleton.mp hs]; exact h2
  refine ds_seq (ds_for (fun xs i Γ' => xs = csThings T.C_Book T.C_Case ls ms L ∧ ∃ s2 s6 : Sl, Γ' = [.val .purse, .val (bookD T.C_Book L []), s2, .val (.lst (folkD ls ms)), .val (.int (n : Nat)), .val (caseO T.C_Case ls ms), s6]) (dj_list (Ev.dl (d := .lst (csThings T.C_Book T.C_Case ls ms L)) (EvN.ev (evn_lst (eva_cons ev_non (eva_cons (ev_own1 (s := spCText T.C_Case) (x := (ls, ms, n)) (ev_var rfl) rfl (np_caseO (r := []) rfl) trivial fun d h => h) (eva_cons (ev_var rfl) (eva_cons (ev_tup (eva_cons (ev_var rfl) eva_nil) (small (show 1 ≤ 100000 by decide))) (eva_cons ev_int (eva_cons ev_dnew (eva_cons ev_bl (eva_cons (ev_var rfl) (eva_cons (ev_dn (ev_prop (s := spCNames T.C_Case) (x := (ls, ms, n)) (ev_var rfl) rfl (np_caseO (r := []) rfl) trivial fun d h => h)) eva_nil))))))))) (small (show 9 ≤ 100000 by decide)))) ⟨_, rfl, ⟨rfl, _, _, rfl⟩, fun i x Γ' hx' ⟨exs, s2, s6, e⟩ => ?_, fun Γ' ⟨exs, s2, s6, e⟩ => ?_⟩)))
  · subst e
    rw [exs] at hx'
    obtain ⟨hbad, z, th⟩ := cs_things (K := K) (B := T.C_Book) (C := T.C_Case) (L := L) hc (by omega) x (List.mem_of_getElem? hx')
    have okd := th.oc
    have npd := th.np
    refine ⟨[6], _, dg_name, ds_seq (ds_asg_ownL (dla_cons (dl_lamP (i := 0) T.tabs T.hm__law_right rfl TgS.purse fun l1 n1 t1 => dla_nil ⟨(small (show 1 ≤ 100000 by decide)), ?_⟩)))⟩
    refine ds_seq (ds_drop (dl_append ⟨_, rfl⟩ (dla_cons (dl_lamP (i := 0) T.tabs T.hm__law_right rfl TgS.purse fun l2 n2 t2 => dla_nil ⟨_, _, rfl, rfl, Nat.lt_of_lt_of_le (show 1 < 100000 by decide) (by decide), ?_⟩))))
    refine ds_seq (ds_drop (dl_append ⟨_, rfl⟩ (dla_cons (dl_lamP (i := 0) T.tabs T.hm__law_right rfl TgS.purse fun l3 n3 t3 => dla_nil ⟨_, _, rfl, rfl, Nat.lt_of_lt_of_le (show 2 < 100000 by decide) (by decide), ?_⟩))))
    refine ds_seq (ds_drop (dl_append ⟨_, rfl⟩ (dla_cons (dl_lamP (i := 0) T.tabs T.hm__law_right rfl TgS.purse fun l4 n4 t4 => dla_nil ⟨_, _, rfl, rfl, Nat.lt_of_lt_of_le (show 3 < 100000 by decide) (by decide), ?_⟩))))
    refine ds_freeze 2 rfl (ds_if (dlt_not (dlt_tru_bl (dl_all (B := T.C_Book) (C := T.C_Case) (dla_cons (Ev.dl (ev_var rfl) (dla_cons (Ev.dl (EvN.ev (evn_lst (eva_cons ev_str (eva_cons (ev_reprR (ev_var rfl) th.rp) eva_nil)) (small (show 2 ≤ 100000 by decide)))) (dla_nil ⟨[(6, "_law_thing", x), (5, "_law_mine", caseO T.C_Case ls ms)], _, [⟨l1, [x]⟩, ⟨l2, [x]⟩, ⟨l3, [x]⟩, ⟨l4, [x]⟩], ["case", z], rfl, ?fnA, capD_cons rfl rfl rfl (capD_cons rfl rfl rfl capD_nil), ?actsA, by simp, zz (by decide +kernel) th.ok, true, rfl, (fun h => nomatch h), fun _ => ds_next ⟨exs, _, _, rfl⟩⟩)))))))))
    case fnA => exact ⟨(by refine fnv_eq (a := ⟨l1, _⟩) (ns := ["_law_thing"]) ?_ n1; rfl), (by refine fnv_eq (a := ⟨l2, _⟩) (ns := ["_law_thing"]) ?_ n2; rfl), (by refine fnv_eq (a := ⟨l3, _⟩) (ns := ["_law_thing"]) ?_ n3; rfl), (by refine fnv_eq (a := ⟨l4, _⟩) (ns := ["_law_thing"]) ?_ n4; rfl), trivial⟩
    case actsA =>
      intro a ha
      simp only [List.mem_cons, List.not_mem_nil, or_false] at ha
      rcases ha with rfl | rfl | rfl | rfl
      · exact act_ok (ns := ["_law_thing"]) n1 (by decide) (capL_cons List.mem_cons_self capL_nil) (by simp [okCs, okC, okd, c1]) (by simp [noPs, noP, npd, c2]) (heard_err t1 (w0 := "case") (by simp) th fun E => ert_call (sx := spAgX T.C_Book T.C_Case T.C_NotACase T.C_UnknownName) (x := .inl (x, .non, .non)) (eva_cons (ev_var rfl) (eva_cons ev_non (eva_cons ev_non eva_nil))) hbad fun ed H' h => h)
      · exact act_ok (ns := ["_law_thing"]) n2 (by decide) (capL_cons List.mem_cons_self capL_nil) (by simp [okCs, okC, okd, c1]) (by simp [noPs, noP, npd, c2]) (heard_err t2 (w0 := "case") (by simp) th fun E => ert_callK (sx := spTwX T.C_Book T.C_Case T.C_NotACase T.C_InvalidRanking BadO) (x := .inl (x, .non)) eva_nil (eva_cons ev_non (eva_cons (ev_var rfl) eva_nil)) kg2 hbad fun ed H' h => h)
      · exact act_ok (ns := ["_law_thing"]) n3 (by decide) (capL_cons List.mem_cons_self capL_nil) (by simp [okCs, okC, okd, c1]) (by simp [noPs, noP, npd, c2]) (heard_err t3 (w0 := "case") (by simp) th fun E => ert_call (sx := spTwX T.C_Book T.C_Case T.C_NotACase T.C_UnknownName (BadN T.C_Case)) (x := .inl (x, .non)) (eva_cons (ev_var rfl) (eva_cons ev_non eva_nil)) hbad fun ed H' h => h)
      · exact act_ok (ns := ["_law_thing"]) n4 (by decide) (capL_cons List.mem_cons_self capL_nil) (by simp [okCs, okC, okd, c1]) (by simp [noPs, noP, npd, c2]) (heard_err t4 (w0 := "case") (by simp) th fun E => ert_callK (sx := spCsX T.C_Book T.C_NotACase) (x := x) eva_nil (eva_cons (ev_var rfl) eva_nil) kg1 hbad fun ed H' h => h)
  subst e
  refine ds_seq (ds_for (fun xs i Γ' => xs = badO n ∧ ∃ s2 s6 : Sl, Γ' = [.val .purse, .val (bookD T.C_Book L []), s2, .val (.lst (folkD ls ms)), .val (.int (n : Nat)), .val (caseO T.C_Case ls ms), s6]) (dj_list (Ev.dl (d := .lst (badO n)) (ev_call (s := spBadO) (d := .lst (badO n)) (x := n) (eva_cons (ev_var rfl) eva_nil) rfl ⟨n1, by omega⟩ fun d h => h) ⟨_, rfl, ⟨rfl, _, _, rfl⟩, fun i x Γ' hx' ⟨exs, s2, s6, e⟩ => ?_, fun Γ' ⟨exs, s2, s6, e⟩ => ?_⟩)))
  · subst e
    rw [exs] at hx'
    obtain ⟨hbad, z, th⟩ := bo_things (K := K) (B := T.C_Book) (C := T.C_Case) (n := n) n1 (by omega) x (List.mem_of_getElem? hx')
    have okd := th.oc
    have npd := th.np
    refine ⟨[6], _, dg_name, ds_seq (ds_asg_ownL (dla_cons (dl_lamP (i := 0) T.tabs T.hm__law_right rfl TgS.purse fun l1 n1 t1 => dla_nil ⟨(small (show 1 ≤ 100000 by decide)), ?_⟩)))⟩
    refine ds_seq (ds_drop (dl_append ⟨_, rfl⟩ (dla_cons (dl_lamP (i := 0) T.tabs T.hm__law_right rfl TgS.purse fun l2 n2 t2 => dla_nil ⟨_, _, rfl, rfl, Nat.lt_of_lt_of_le (show 1 < 100000 by decide) (by decide), ?_⟩))))
    refine ds_freeze 2 rfl (ds_if (dlt_not (dlt_tru_bl (dl_all (B := T.C_Book) (C := T.C_Case) (dla_cons (Ev.dl (ev_var rfl) (dla_cons (Ev.dl (EvN.ev (evn_lst (eva_cons ev_str (eva_cons (ev_reprR (ev_var rfl) th.rp) eva_nil)) (small (show 2 ≤ 100000 by decide)))) (dla_nil ⟨[(6, "_law_thing", x), (5, "_law_mine", caseO T.C_Case ls ms)], _, [⟨l1, [x, caseO T.C_Case ls ms]⟩, ⟨l2, [x, caseO T.C_Case ls ms]⟩], ["order", z], rfl, ?fnB, capD_cons rfl rfl rfl (capD_cons rfl rfl rfl capD_nil), ?actsB, by simp, zz (by decide +kernel) th.ok, true, rfl, (fun h => nomatch h), fun _ => ds_next ⟨exs, _, _, rfl⟩⟩)))))))))
    case fnB => exact ⟨(by refine fnv_eq (a := ⟨l1, _⟩) (ns := ["_law_thing", "_law_mine"]) ?_ n1; rfl), (by refine fnv_eq (a := ⟨l2, _⟩) (ns := ["_law_thing", "_law_mine"]) ?_ n2; rfl), trivial⟩
    case actsB =>
      intro a ha
      simp only [List.mem_cons, List.not_mem_nil, or_false] at ha
      rcases ha with rfl | rfl
      · exact act_ok (ns := ["_law_thing", "_law_mine"]) n1 (by decide) (capL_cons List.mem_cons_self (capL_cons (List.mem_cons_of_mem _ List.mem_cons_self) capL_nil)) (by simp [okCs, okC, okd, c1]) (by simp [noPs, noP, npd, c2]) (heard_err t1 (w0 := "order") (by simp) th fun E => ert_call (sx := spTwX T.C_Book T.C_Case T.C_NotACase T.C_InvalidRanking BadO) (x := .inr ((ls, ms, n), x)) (eva_cons (ev_var rfl) (eva_cons (ev_var rfl) eva_nil)) ⟨hc, hbad.1, hbad.2⟩ fun ed H' h => h)
      · exact act_ok (ns := ["_law_thing", "_law_mine"]) n2 (by decide) (capL_cons List.mem_cons_self (capL_cons (List.mem_cons_of_mem _ List.mem_cons_self) capL_nil)) (by simp [okCs, okC, okd, c1]) (by simp [noPs, noP, npd, c2]) (heard_err t2 (w0 := "order") (by simp) th fun E => ert_callK (sx := spTwX T.C_Book T.C_Case T.C_NotACase T.C_InvalidRanking BadO) (x := .inr ((ls, ms, n), x)) eva_nil (eva_cons (ev_var rfl) (eva_cons (ev_var rfl) eva_nil)) kg2 ⟨hc, hbad.1, hbad.2⟩ fun ed H' h => h)
  subst e
  have rv : (rng n).reverse = ordD ((List.range n).reverse) := by
    unfold rng ordD
    rw [List.map_reverse]
  refine ds_seq (ds_asg_ownL (dla_cons (dl_lamP (i := 0) T.tabs T.hm__law_right rfl TgS.purse fun l1 n1' t1 => dla_nil ⟨(small (show 1 ≤ 100000 by decide)), ?_⟩)))
  refine ds_seq (ds_drop (dl_append ⟨_, rfl⟩ (dla_cons (dl_lamP (i := 0) T.tabs T.hm__law_right rfl TgS.purse fun l2 n2 t2 => dla_nil ⟨_, _, rfl, rfl, Nat.lt_of_lt_of_le (show 1 < 100000 by decide) (by decide), ?_⟩))))
  refine ds_seq (ds_drop (dl_append ⟨_, rfl⟩ (dla_cons (dl_lamP (i := 0) T.tabs T.hm__law_right rfl TgS.purse fun l3 n3 t3 => dla_nil ⟨_, _, rfl, rfl, Nat.lt_of_lt_of_le (show 2 < 100000 by decide) (by decide), ?_⟩))))
  refine ds_freeze 2 rfl (ds_ret (dl_andV (dl_all (B := T.C_Book) (C := T.C_Case) (dla_cons (dl_op (Ev.dl (ev_var rfl) (dl_lst (dla_cons (dl_lamP (i := 0) T.tabs T.hm__law_right rfl TgS.purse fun l4 n4 t4 => dla_nil ⟨(small (show 1 ≤ 100000 by decide)), _, pl_lst (small (show 3 + 1 ≤ 100000 by decide)), dla_cons (Ev.dl (EvN.ev (evn_lst (eva_cons ev_str eva_nil) (small (show 1 ≤ 100000 by decide)))) (dla_nil ⟨[(3, "_law_folk_here", .lst (folkD ls ms)), (4, "_law_many", .int (n : Nat)), (5, "_law_mine", caseO T.C_Case ls ms)], _, [⟨l1, [caseO T.C_Case ls ms, .int (n : Nat)]⟩, ⟨l2, [caseO T.C_Case ls ms, .lst (folkD ls ms)]⟩, ⟨l3, [caseO T.C_Case ls ms, .lst (folkD ls ms)]⟩, ⟨l4, [caseO T.C_Case ls ms]⟩], ["told"], rfl, ?fnC, capD_cons rfl rfl rfl (capD_cons rfl rfl rfl (capD_cons rfl rfl rfl capD_nil)), ?actsC, by simp, ?zC, true, rfl, (fun _ => dl_call (s := spNmR T.C_Case) (dla_cons (Ev.dl (ev_var rfl) (dla_cons (Ev.dl (ev_tag (i := 0) rfl TgS.purse (ev_var rfl)) (dla_nil ⟨(ls, ms, n), rfl, ⟨hc, hst⟩, fun d h => h⟩)))))), fun h => nomatch h⟩))⟩)))))))))
  case fnC => exact ⟨(by refine fnv_eq (a := ⟨l1, _⟩) (ns := ["_law_mine", "_law_many"]) ?_ n1'; rfl), (by refine fnv_eq (a := ⟨l2, _⟩) (ns := ["_law_mine", "_law_folk_here"]) ?_ n2; rfl), (by refine fnv_eq (a := ⟨l3, _⟩) (ns := ["_law_mine", "_law_folk_here"]) ?_ n3; rfl), (by refine fnv_eq (a := ⟨l4, _⟩) (ns := ["_law_mine"]) ?_ n4; rfl), trivial⟩
  case zC =>
    intro s hs
    rw [List.mem_singleton.mp hs]; decide +kernel
  case actsC =>
    intro a ha
    simp only [List.mem_cons, List.not_mem_nil, or_false] at ha
    rcases ha with rfl | rfl | rfl | rfl
    · exact act_ok (ns := ["_law_mine", "_law_many"]) n1' (by decide) (capL_cons (List.mem_cons_of_mem _ (List.mem_cons_of_mem _ List.mem_cons_self)) (capL_cons (List.mem_cons_of_mem _ List.mem_cons_self) capL_nil)) (by simp [okCs, okC, c1, c4]) (by simp [noPs, noP, c2, c5]) (heard_told t1 fun E => ev_call_or (s := spWinn T.C_Case) (x := ((ls, ms, n), (List.range n).reverse)) (eva_cons (ev_var rfl) (eva_cons (ev_cast (congrArg D.tup rv) (ev_revT (ev_tupRg (n := n) (ev_var rfl) (by omega)) (ev_neg ev_int))) eva_nil)) (np_caseO (np_to (r := []) rfl)) ⟨hc, List.reverse_perm _⟩ fun d h => h)
    · exact act_ok (ns := ["_law_mine", "_law_folk_here"]) n2 (by decide) (capL_cons (List.mem_cons_of_mem _ (List.mem_cons_of_mem _ List.mem_cons_self)) (capL_cons List.mem_cons_self capL_nil)) (by simp [okCs, okC, c1, c4]) (by simp [noPs, noP, c2, c5]) (heard_told t2 fun E => ev_call_or (s := spAgP T.C_Case) (x := ((ls, ms, n), 1, 0)) (eva_cons (ev_var rfl) (eva_cons (ev_ixT (d := .str (tx (rowAt ls 1))) (ds := [.str (tx (rowAt ls 1)), .tup (ordD (rowAt ms 1))]) (ev_ix (ds := folkD ls ms) (Ev.b (ev_var rfl)) ev_int (atI_nat (j := 1) (folk_get hc (by omega)))) ev_int rfl) (eva_cons (ev_ixT (d := .str (tx (rowAt ls 0))) (ds := [.str (tx (rowAt ls 0)), .tup (ordD (rowAt ms 0))]) (ev_ix (ds := folkD ls ms) (Ev.b (ev_var rfl)) ev_int (atI_nat (j := 0) (folk_get hc (by omega)))) ev_int rfl) eva_nil))) (np_caseO (r := [_, _]) rfl) ⟨hc, (by show 1 < ls.length; omega), (by show 0 < ls.length; omega), (by show (1 : Nat) ≠ 0; decide)⟩ fun d h => h)
    · exact act_ok (ns := ["_law_mine", "_law_folk_here"]) n3 (by decide) (capL_cons (List.mem_cons_of_mem _ (List.mem_cons_of_mem _ List.mem_cons_self)) (capL_cons List.mem_cons_self capL_nil)) (by simp [okCs, okC, c1, c4]) (by simp [noPs, noP, c2, c5]) (heard_told t3 fun E => ev_call_or (s := spRowsOf T.C_Case) (x := ((ls, ms, n), 0)) (eva_cons (ev_var rfl) (eva_cons (ev_ixT (d := .str (tx (rowAt ls 0))) (ds := [.str (tx (rowAt ls 0)), .tup (ordD (rowAt ms 0))]) (ev_ix (ds := folkD ls ms) (Ev.b (ev_var rfl)) ev_int (atI_nat (j := 0) (folk_get hc (by omega)))) ev_int rfl) eva_nil)) (np_caseO (r := [_]) rfl) ⟨hc, (by show 0 < ls.length; omega)⟩ fun d h => h)
    · exact act_ok (ns := ["_law_mine"]) n4 (by decide) (capL_cons (List.mem_cons_of_mem _ (List.mem_cons_of_mem _ List.mem_cons_self)) capL_nil) (by simp [okCs, okC, c1, c4]) (by simp [noPs, noP, c2, c5]) (heard_told t4 fun E => ev_call_or (s := spBarred T.C_Case) (x := (ls, ms, n)) (eva_cons (ev_var rfl) eva_nil) (np_caseO (r := []) rfl) hc fun d h => h)

end K27

namespace K27
open PySem PySem.Spec PyProof.Rows L2 Dw
variable [Tabs0]
def spLaw (K : PySem.W.Frag) : Spc where
  ty := List Int
  args := fun ns => [.scr K (ns.map V.int)]
  ok := fun ns => ns.length ≤ 63 ∧ ∀ z ∈ ns, Builtin.Int.intBits z ≤ 1048576
  rel := fun _ d => d = .bl true
end K27

namespace K27
open PySem PySem.Spec PyProof.Rows L2 Dw
variable [Tabs0]
theorem d_law {P : Program} {w : World} {K : PySem.W.Frag} {mg : Str → Option Value} {base : Heap} (T : Txt K w mg) (TB__law_names_right : LamX.TabB base mg T.lc__law_names_right T.lt__law_names_right) (TB__law_right : LamX.TabB base mg T.lc__law_right T.lt__law_right) : FnG P w K mg base 20 T.f_law T.e_law ["_law_cells"] (spLaw K) := by
  refine fnG_ok T.F_law sc_law (fun _ => rfl) fun cdv A outer s' H E hr hG => ?_
  refine ⟨_, (pss_one (ps_ret (pe_cmpR (eqA K hr.units) (pe_lc (own := [("_law_k", 1)]) rfl sc_law.nd (pi_range1 (by rfl) T.n_range (pa_cons (pe_callB (call_max2 rfl) (by rfl) T.n_max (by decide +kernel) (pa_cons pe_int (pa_cons (pe_callB (call_min2 rfl) (by rfl) T.n_min (by decide +kernel) (pa_cons (pe_callB (lenA K) (by rfl) T.n_len (by decide +kernel) (pa_cons (pv 0) pa_nil)) (pa_cons pe_int pa_nil))) pa_nil))) pa_nil)) (blkOk_by (own := [("_law_k", 1)]) (N := N_law) (sc := (defScope s_law)) (by decide +kernel)) (fun _ _ _ _ _ => pg_name (i := 1) sc_law.nd rfl (Or.inl rfl)) (fun _ _ _ _ _ => pts_one (pt_not (truA K (pe_callG (E := E0) (d__law_right T TB__law_names_right TB__law_right) (hr.mono (by decide)) hG (by rfl) T.m__law_right T.F__law_right.kp T.b__law_right (pa_cons (pe_call (d__law_well T) (hr.mono (by decide)) (by rfl) T.m__law_well T.F__law_well.kp T.b__law_well .nil pass0 (pa_cons (pe_call (d__law_cell T) (hr.mono (by decide)) (by rfl) T.m__law_cell T.F__law_cell.kp T.b__law_cell .nil pass0 (pa_cons (pv 0) (pa_cons (pv 1) pa_nil))) pa_nil)) pa_nil))))) (fun _ _ _ _ _ => (pv 1))) (pe_lst pa_nil) (nomark _)))), fun x hx => ?_⟩
  obtain ⟨ns, rfl⟩ : ∃ l : List Int, l = x := ⟨x, rfl⟩
  obtain ⟨hn, hbit⟩ := hx
  have hn : ns.length ≤ 63 := hn
  have l0 : (ns.map V.int).length = ns.length := List.length_map ..
  have em : ∃ m : Nat, m ≤ 63 ∧ (if (if (4 : Int) < ((ns.map V.int).length : Int) then (4 : Int) else ((ns.map V.int).length : Int)) > 2 then (if (4 : Int) < ((ns.map V.int).length : Int) then (4 : Int) else ((ns.map V.int).length : Int)) else 2) = (m : Int) := by
    rw [l0]
    by_cases h : (4 : Int) < (ns.length : Int)
    · rw [if_pos h, if_pos (by decide)]; exact ⟨4, by decide, rfl⟩
    · rw [if_neg h]
      by_cases h2 : (ns.length : Int) > 2
      · rw [if_pos h2]; exact ⟨ns.length, by omega, rfl⟩
      · rw [if_neg h2]; exact ⟨2, by decide, rfl⟩
  obtain ⟨m, hm, em⟩ := em
  refine ds_ret (dl_op (dl_lc (di_range (dla_cons (Ev.dl (ev_max2 ev_int (ev_min2 (ev_lenX (ev_var rfl)) ev_int)) (dla_nil ⟨m, ?_, by omega, by rw [rng_length]; omega, fun i acc Γ' => Γ' = [.val (.scr K (ns.map V.int)), .unset] ∧ acc = [], ⟨rfl, rfl⟩, fun i x acc Γ' hx' ⟨e, ea⟩ => ?_, fun acc Γ' ⟨e, ea⟩ => ?_⟩))))))
  · rw [em]
  · subst e
    subst ea
    obtain ⟨hi, rfl⟩ := rng_get hx'
    exact ⟨[1], _, dg_name, fun i hi => hi, dlt_not (dlt_tru_bl (dl_wellT (K := K) (s := spRightJ) (x := ()) rfl trivial (fun d h => h) (dl_call (s := spCell K) (dla_cons (Ev.dl (ev_var rfl) (dla_cons (Ev.dl (ev_var rfl) (dla_nil ⟨(ns, i), rfl, hn, fun d hd => ⟨hd, ⟨0, _, rfl⟩, true, rfl, (fun h => nomatch h), fun _ => ⟨rfl, rfl⟩⟩⟩))))))))⟩
  · subst e
    subst ea
    exact Ev.dl (EvN.ev (evn_lst eva_nil (Nat.zero_le _))) ⟨.bl true, eq_nil (k := 1) rfl (by decide), rfl⟩

end K27

namespace K27
open PySem PySem.Spec PyProof.Rows L2 Dw
variable [Tabs0]
theorem kit_cs {K : PySem.W.Frag} {C : Addr} (h : PySem.W.subIn K (.ref C) (.type "str") = some false) : PySem.W.kitOne K (.ref C) (.type "str") = some false := by
  unfold PySem.W.kitOne
  rw [if_neg (by intro z; cases beq_iff_eq.mp z)]
  show (if PySem.W.kitMeta "str" = true then PySem.W.subIn K (.ref C) (.type "str") else none) = some false
  rw [if_pos (by decide +kernel)]
  exact h

end K27

namespace Dw
open PySem PySem.Spec PyProof.Rows L2
/-! the answers of isinstance and of an except clause, from what the written part says -/
theorem kit_cls_of {K : PySem.W.Frag} {D0 C : Addr} {b : Bool} (hd : PySem.W.hasDictIn K C = true) (ht : PySem.W.typeIn K (.ref C) = some (.type "type")) (hs : PySem.W.subIn K (.ref D0) (.ref C) = some b) : PySem.W.kitCls K (.ref D0) (.ref C) = some b := by
  obtain ⟨cd, hc, _⟩ := PySem.W.any_some hd
  show (if ((PySem.W.clsIn K C).isSome && PySem.W.typeIn K (.ref C) == some (.type "type")) = true then PySem.W.subIn K (.ref D0) (.ref C) else none) = some b
  rw [if_pos (by rw [hc, ht]; rfl)]
  exact hs
theorem exm_one1 {K : PySem.W.Frag} {D0 C : Addr} {b : Bool} (s1 : PySem.W.subIn K (.ref C) (.type "BaseException") = some true) (hd : PySem.W.hasDictIn K C = true) (ht : PySem.W.typeIn K (.ref C) = some (.type "type")) (h : PySem.W.subIn K (.ref D0) (.ref C) = some b) : PySem.W.exmOne K (.ref D0) (.ref C) = some b := by
  unfold PySem.W.exmOne
  rw [if_pos (by rw [s1]; rfl)]
  exact kit_cls_of hd ht h
end Dw

namespace K27
open PySem PySem.Spec PyProof.Rows L2 Dw
theorem kb_against_other_one_case {K : PySem.W.Frag} {f : Addr} {od an : Option Addr} {sl : Array (Option Value)} {oc kV dc pm cd ct : Value} (l : K.lookup f = some ⟨oc, od, .func (PySem.W.fnOf "against" "against" (defArgs s_against) (defBody s_against) (defScope s_against) .none kV dc pm an cd ct), sl⟩) (c : PySem.W.codeIn K cd "against" = true) (k : PySem.W.keepIn K (.ref f) = true) : KBinds K (PySem.W.fnOf "against" "against" (defArgs s_against) (defBody s_against) (defScope s_against) .none kV dc pm an cd ct) ["case", "one", "other"] ["other", "one", "case"] (fun us ws => match us, ws with | [], [k0, k1, k2] => [k2, k1, k0] | _, _ => []) (fun us ws => match us, ws with | [], [k0, k1, k2] => [k2, k1, k0] | _, _ => []) := by
  refine ⟨fun s us ws X hl => ?_, fun {vs us zs ws} r r' => ?_⟩
  · match us, ws, hl with
    | [], [k0, k1, k2], _ => exact .of_eq rfl
    | _ :: _, _, hl => exact absurd (show (0 : Nat) = 3 from hl) (by decide)
    | [], [], hl => exact absurd (show (0 : Nat) = 3 from hl) (by decide)
    | [], [_], hl => exact absurd (show (0 : Nat) = 3 from hl) (by decide)
    | [], [_, _], hl => exact absurd (show (0 : Nat) = 3 from hl) (by decide)
    | [], _ :: _ :: _ :: _ :: _, hl => exact absurd (show (0 : Nat) = 3 from hl) (by decide)
  · match vs, us, zs, ws, r, r' with
    | _, _, _, _, .nil, .cons q0 (.cons q1 (.cons q2 (.nil))) => exact .cons q2 (.cons q1 (.cons q0 (.nil)))
    | _, _, _, _, .cons p0 _, _ => exact .nil
    | _, _, _, _, .nil, .nil => exact .nil
    | _, _, _, _, .nil, .cons q0 (.nil) => exact .nil
    | _, _, _, _, .nil, .cons q0 (.cons q1 (.nil)) => exact .nil
    | _, _, _, _, .nil, .cons q0 (.cons q1 (.cons q2 (.cons q3 _))) => exact .nil
theorem kb_barred_case {K : PySem.W.Frag} {f : Addr} {od an : Option Addr} {sl : Array (Option Value)} {oc kV dc pm cd ct : Value} (l : K.lookup f = some ⟨oc, od, .func (PySem.W.fnOf "barred" "barred" (defArgs s_barred) (defBody s_barred) (defScope s_barred) .none kV dc pm an cd ct), sl⟩) (c : PySem.W.codeIn K cd "barred" = true) (k : PySem.W.keepIn K (.ref f) = true) : KBinds K (PySem.W.fnOf "barred" "barred" (defArgs s_barred) (defBody s_barred) (defScope s_barred) .none kV dc pm an cd ct) ["case"] ["case"] (fun us ws => match us, ws with | [], [k0] => [k0] | _, _ => []) (fun us ws => match us, ws with | [], [k0] => [k0] | _, _ => []) := by
  refine ⟨fun s us ws X hl => ?_, fun {vs us zs ws} r r' => ?_⟩
  · match us, ws, hl with
    | [], [k0], _ => exact .of_eq rfl
    | _ :: _, _, hl => exact absurd (show (0 : Nat) = 1 from hl) (by decide)
    | [], [], hl => exact absurd (show (0 : Nat) = 1 from hl) (by decide)
    | [], _ :: _ :: _, hl => exact absurd (show (0 : Nat) = 1 from hl) (by decide)
  · match vs, us, zs, ws, r, r' with
    | _, _, _, _, .nil, .cons q0 (.nil) => exact .cons q0 (.nil)
    | _, _, _, _, .cons p0 _, _ => exact .nil
    | _, _, _, _, .nil, .nil => exact .nil
    | _, _, _, _, .nil, .cons q0 (.cons q1 _) => exact .nil
theorem kb_told_by_one_case {K : PySem.W.Frag} {f : Addr} {od an : Option Addr} {sl : Array (Option Value)} {oc kV dc pm cd ct : Value} (l : K.lookup f = some ⟨oc, od, .func (PySem.W.fnOf "told_by" "told_by" (defArgs s_told_by) (defBody s_told_by) (defScope s_told_by) .none kV dc pm an cd ct), sl⟩) (c : PySem.W.codeIn K cd "told_by" = true) (k : PySem.W.keepIn K (.ref f) = true) : KBinds K (PySem.W.fnOf "told_by" "told_by" (defArgs s_told_by) (defBody s_told_by) (defScope s_told_by) .none kV dc pm an cd ct) ["case", "one"] ["one", "case"] (fun us ws => match us, ws with | [], [k0, k1] => [k1, k0] | _, _ => []) (fun us ws => match us, ws with | [], [k0, k1] => [k1, k0] | _, _ => []) := by
  refine ⟨fun s us ws X hl => ?_, fun {vs us zs ws} r r' => ?_⟩
  · match us, ws, hl with
    | [], [k0, k1], _ => exact .of_eq rfl
    | _ :: _, _, hl => exact absurd (show (0 : Nat) = 2 from hl) (by decide)
    | [], [], hl => exact absurd (show (0 : Nat) = 2 from hl) (by decide)
    | [], [_], hl => exact absurd (show (0 : Nat) = 2 from hl) (by decide)
    | [], _ :: _ :: _ :: _, hl => exact absurd (show (0 : Nat) = 2 from hl) (by decide)
  · match vs, us, zs, ws, r, r' with
    | _, _, _, _, .nil, .cons q0 (.cons q1 (.nil)) => exact .cons q1 (.cons q0 (.nil))
    | _, _, _, _, .cons p0 _, _ => exact .nil
    | _, _, _, _, .nil, .nil => exact .nil
    | _, _, _, _, .nil, .cons q0 (.nil) => exact .nil
    | _, _, _, _, .nil, .cons q0 (.cons q1 (.cons q2 _)) => exact .nil
theorem kb_winners_ranking_case {K : PySem.W.Frag} {f : Addr} {od an : Option Addr} {sl : Array (Option Value)} {oc kV dc pm cd ct : Value} (l : K.lookup f = some ⟨oc, od, .func (PySem.W.fnOf "winners" "winners" (defArgs s_winners) (defBody s_winners) (defScope s_winners) .none kV dc pm an cd ct), sl⟩) (c : PySem.W.codeIn K cd "winners" = true) (k : PySem.W.keepIn K (.ref f) = true) : KBinds K (PySem.W.fnOf "winners" "winners" (defArgs s_winners) (defBody s_winners) (defScope s_winners) .none kV dc pm an cd ct) ["case", "ranking"] ["ranking", "case"] (fun us ws => match us, ws with | [], [k0, k1] => [k1, k0] | _, _ => []) (fun us ws => match us, ws with | [], [k0, k1] => [k1, k0] | _, _ => []) := by
  refine ⟨fun s us ws X hl => ?_, fun {vs us zs ws} r r' => ?_⟩
  · match us, ws, hl with
    | [], [k0, k1], _ => exact .of_eq rfl
    | _ :: _, _, hl => exact absurd (show (0 : Nat) = 2 from hl) (by decide)
    | [], [], hl => exact absurd (show (0 : Nat) = 2 from hl) (by decide)
    | [], [_], hl => exact absurd (show (0 : Nat) = 2 from hl) (by decide)
    | [], _ :: _ :: _ :: _, hl => exact absurd (show (0 : Nat) = 2 from hl) (by decide)
  · match vs, us, zs, ws, r, r' with
    | _, _, _, _, .nil, .cons q0 (.cons q1 (.nil)) => exact .cons q1 (.cons q0 (.nil))
    | _, _, _, _, .cons p0 _, _ => exact .nil
    | _, _, _, _, .nil, .nil => exact .nil
    | _, _, _, _, .nil, .cons q0 (.nil) => exact .nil
    | _, _, _, _, .nil, .cons q0 (.cons q1 (.cons q2 _)) => exact .nil
abbrev qn__law_names_right (f c : Addr) : Str := (envOfC "_law_names_right" (defScope s__law_names_right) 0 f (.ref c)).qual ++ "<lambda>"
abbrev qn__law_right (f c : Addr) : Str := (envOfC "_law_right" (defScope s__law_right) 0 f (.ref c)).qual ++ "<lambda>"
theorem all_mk {l : PySem.W.OpenLaw} {q : Program} {w : World} {K : PySem.W.Frag} {h : Heap} {mg : Str → Option Value} {fa : Addr} (X : K.In h) (G : h.Ns mainGlobals mg) (hfa : mg "law" = some (.ref fa)) (tb : ∀ (y : Str) (f : Addr), ((recsOf q).any fun e => e.name == y) = true → mg y = some (.ref f) → TabOf K f h)
    {C_Book : Addr}
    {C_Case : Addr}
    {C_InvalidCases : Addr}
    {C_InvalidNumber : Addr}
    {C_InvalidOffers : Addr}
    {C_InvalidRanking : Addr}
    {C_InvalidRow : Addr}
    {C_NoRanking : Addr}
    {C_NotABook : Addr}
    {C_NotACase : Addr}
    {C_TooMany : Addr}
    {C_UnknownName : Addr}
    {xnm_InvalidRanking : Str} {xq_InvalidRanking : Str} {xN_InvalidRanking : Addr} {xbs_InvalidRanking xbm_InvalidRanking : List Value} {xw0_InvalidRanking : List Str} {xw1_InvalidRanking : List Value} {xw2_InvalidRanking : Bool} {xw3_InvalidRanking : Option Bool} {xw4_InvalidRanking : Option Addr} {xw5_InvalidRanking xw6_InvalidRanking xw7_InvalidRanking xw8_InvalidRanking xw9_InvalidRanking : Option Value}
    {xnm_NotACase : Str} {xq_NotACase : Str} {xN_NotACase : Addr} {xbs_NotACase xbm_NotACase : List Value} {xw0_NotACase : List Str} {xw1_NotACase : List Value} {xw2_NotACase : Bool} {xw3_NotACase : Option Bool} {xw4_NotACase : Option Addr} {xw5_NotACase xw6_NotACase xw7_NotACase xw8_NotACase xw9_NotACase : Option Value}
    {xnm_UnknownName : Str} {xq_UnknownName : Str} {xN_UnknownName : Addr} {xbs_UnknownName xbm_UnknownName : List Value} {xw0_UnknownName : List Str} {xw1_UnknownName : List Value} {xw2_UnknownName : Bool} {xw3_UnknownName : Option Bool} {xw4_UnknownName : Option Addr} {xw5_UnknownName xw6_UnknownName xw7_UnknownName xw8_UnknownName xw9_UnknownName : Option Value}
    {f_is_name : Addr} {od_is_name an_is_name : Option Addr} {sl_is_name : Array (Option Value)} {oc_is_name kV_is_name dc_is_name pm_is_name cd_is_name ct_is_name : Value}
    {f_are_names : Addr} {od_are_names an_are_names : Option Addr} {sl_are_names : Array (Option Value)} {oc_are_names kV_are_names dc_are_names pm_are_names cd_are_names ct_are_names : Value}
    {f_is_number : Addr} {od_is_number an_is_number : Option Addr} {sl_is_number : Array (Option Value)} {oc_is_number kV_is_number dc_is_number pm_is_number cd_is_number ct_is_number : Value}
    {f_is_any_row : Addr} {od_is_any_row an_is_any_row : Option Addr} {sl_is_any_row : Array (Option Value)} {oc_is_any_row kV_is_any_row dc_is_any_row pm_is_any_row cd_is_any_row ct_is_any_row : Value}
    {f_is_row : Addr} {od_is_row an_is_row : Option Addr} {sl_is_row : Array (Option Value)} {oc_is_row kV_is_row dc_is_row pm_is_row cd_is_row ct_is_row : Value}
    {f_is_whole : Addr} {od_is_whole an_is_whole : Option Addr} {sl_is_whole : Array (Option Value)} {oc_is_whole kV_is_whole dc_is_whole pm_is_whole cd_is_whole ct_is_whole : Value}
    {f_is_ranking : Addr} {od_is_ranking an_is_ranking : Option Addr} {sl_is_ranking : Array (Option Value)} {oc_is_ranking kV_is_ranking dc_is_ranking pm_is_ranking cd_is_ranking ct_is_ranking : Value}
    {f_InvalidRanking___init__ : Addr} {od_InvalidRanking___init__ an_InvalidRanking___init__ : Option Addr} {sl_InvalidRanking___init__ : Array (Option Value)} {oc_InvalidRanking___init__ kV_InvalidRanking___init__ dc_InvalidRanking___init__ pm_InvalidRanking___init__ cd_InvalidRanking___init__ ct_InvalidRanking___init__ : Value}
    {f_check_ranking : Addr} {od_check_ranking an_check_ranking : Option Addr} {sl_check_ranking : Array (Option Value)} {oc_check_ranking kV_check_ranking dc_check_ranking pm_check_ranking cd_check_ranking ct_check_ranking : Value}
    {f_UnknownName___init__ : Addr} {od_UnknownName___init__ an_UnknownName___init__ : Option Addr} {sl_UnknownName___init__ : Array (Option Value)} {oc_UnknownName___init__ kV_UnknownName___init__ dc_UnknownName___init__ pm_UnknownName___init__ cd_UnknownName___init__ ct_UnknownName___init__ : Value}
    {f_check_known : Addr} {od_check_known an_check_known : Option Addr} {sl_check_known : Array (Option Value)} {oc_check_known kV_check_known dc_check_known pm_check_known cd_check_known ct_check_known : Value}
    {f_read_book : Addr} {od_read_book an_read_book : Option Addr} {sl_read_book : Array (Option Value)} {oc_read_book kV_read_book dc_read_book pm_read_book cd_read_book ct_read_book : Value}
    {f_read_mark : Addr} {od_read_mark an_read_mark : Option Addr} {sl_read_mark : Array (Option Value)} {oc_read_mark kV_read_mark dc_read_mark pm_read_mark cd_read_mark ct_read_mark : Value}
    {f_read_candidates : Addr} {od_read_candidates an_read_candidates : Option Addr} {sl_read_candidates : Array (Option Value)} {oc_read_candidates kV_read_candidates dc_read_candidates pm_read_candidates cd_read_candidates ct_read_candidates : Value}
    {f_read_case : Addr} {od_read_case an_read_case : Option Addr} {sl_read_case : Array (Option Value)} {oc_read_case kV_read_case dc_read_case pm_read_case cd_read_case ct_read_case : Value}
    {f_row_holds : Addr} {od_row_holds an_row_holds : Option Addr} {sl_row_holds : Array (Option Value)} {oc_row_holds kV_row_holds dc_row_holds pm_row_holds cd_row_holds ct_row_holds : Value}
    {f_all_hold : Addr} {od_all_hold an_all_hold : Option Addr} {sl_all_hold : Array (Option Value)} {oc_all_hold kV_all_hold dc_all_hold pm_all_hold cd_all_hold ct_all_hold : Value}
    {f_sign_of : Addr} {od_sign_of an_sign_of : Option Addr} {sl_sign_of : Array (Option Value)} {oc_sign_of kV_sign_of dc_sign_of pm_sign_of cd_sign_of ct_sign_of : Value}
    {f_row_between : Addr} {od_row_between an_row_between : Option Addr} {sl_row_between : Array (Option Value)} {oc_row_between kV_row_between dc_row_between pm_row_between cd_row_between ct_row_between : Value}
    {f_has_sign : Addr} {od_has_sign an_has_sign : Option Addr} {sl_has_sign : Array (Option Value)} {oc_has_sign kV_has_sign dc_has_sign pm_has_sign cd_has_sign ct_has_sign : Value}
    {f_split : Addr} {od_split an_split : Option Addr} {sl_split : Array (Option Value)} {oc_split kV_split dc_split pm_split cd_split ct_split : Value}
    {f_some_fits : Addr} {od_some_fits an_some_fits : Option Addr} {sl_some_fits : Array (Option Value)} {oc_some_fits kV_some_fits dc_some_fits pm_some_fits cd_some_fits ct_some_fits : Value}
    {f_NotACase___init__ : Addr} {od_NotACase___init__ an_NotACase___init__ : Option Addr} {sl_NotACase___init__ : Array (Option Value)} {oc_NotACase___init__ kV_NotACase___init__ dc_NotACase___init__ pm_NotACase___init__ cd_NotACase___init__ ct_NotACase___init__ : Value}
    {f_check_case : Addr} {od_check_case an_check_case : Option Addr} {sl_check_case : Array (Option Value)} {oc_check_case kV_check_case dc_check_case pm_check_case cd_check_case ct_check_case : Value}
    {f_Case_marks : Addr} {od_Case_marks an_Case_marks : Option Addr} {sl_Case_marks : Array (Option Value)} {oc_Case_marks kV_Case_marks dc_Case_marks pm_Case_marks cd_Case_marks ct_Case_marks : Value}
    {q_Case_marks : Addr} {rest_Case_marks : List Value}
    {f_Case_names : Addr} {od_Case_names an_Case_names : Option Addr} {sl_Case_names : Array (Option Value)} {oc_Case_names kV_Case_names dc_Case_names pm_Case_names cd_Case_names ct_Case_names : Value}
    {q_Case_names : Addr} {rest_Case_names : List Value}
    {f_row_against : Addr} {od_row_against an_row_against : Option Addr} {sl_row_against : Array (Option Value)} {oc_row_against kV_row_against dc_row_against pm_row_against cd_row_against ct_row_against : Value}
    {f_rows_of : Addr} {od_rows_of an_rows_of : Option Addr} {sl_rows_of : Array (Option Value)} {oc_rows_of kV_rows_of dc_rows_of pm_rows_of cd_rows_of ct_rows_of : Value}
    {f_against : Addr} {od_against an_against : Option Addr} {sl_against : Array (Option Value)} {oc_against kV_against dc_against pm_against cd_against ct_against : Value}
    {f_winners : Addr} {od_winners an_winners : Option Addr} {sl_winners : Array (Option Value)} {oc_winners kV_winners dc_winners pm_winners cd_winners ct_winners : Value}
    {f_told_by : Addr} {od_told_by an_told_by : Option Addr} {sl_told_by : Array (Option Value)} {oc_told_by kV_told_by dc_told_by pm_told_by cd_told_by ct_told_by : Value}
    {f_barred : Addr} {od_barred an_barred : Option Addr} {sl_barred : Array (Option Value)} {oc_barred kV_barred dc_barred pm_barred cd_barred ct_barred : Value}
    {f__law_cell : Addr} {od__law_cell an__law_cell : Option Addr} {sl__law_cell : Array (Option Value)} {oc__law_cell kV__law_cell dc__law_cell pm__law_cell cd__law_cell ct__law_cell : Value}
    {f__law_well : Addr} {od__law_well an__law_well : Option Addr} {sl__law_well : Array (Option Value)} {oc__law_well kV__law_well dc__law_well pm__law_well cd__law_well ct__law_well : Value}
    {f__law_dip : Addr} {od__law_dip an__law_dip : Option Addr} {sl__law_dip : Array (Option Value)} {oc__law_dip kV__law_dip dc__law_dip pm__law_dip cd__law_dip ct__law_dip : Value}
    {f__law_pick : Addr} {od__law_pick an__law_pick : Option Addr} {sl__law_pick : Array (Option Value)} {oc__law_pick kV__law_pick dc__law_pick pm__law_pick cd__law_pick ct__law_pick : Value}
    {f__law_tags : Addr} {od__law_tags an__law_tags : Option Addr} {sl__law_tags : Array (Option Value)} {oc__law_tags kV__law_tags dc__law_tags pm__law_tags cd__law_tags ct__law_tags : Value}
    {f__law_book_page : Addr} {od__law_book_page an__law_book_page : Option Addr} {sl__law_book_page : Array (Option Value)} {oc__law_book_page kV__law_book_page dc__law_book_page pm__law_book_page cd__law_book_page ct__law_book_page : Value}
    {f__law_folk : Addr} {od__law_folk an__law_folk : Option Addr} {sl__law_folk : Array (Option Value)} {oc__law_folk kV__law_folk dc__law_folk pm__law_folk cd__law_folk ct__law_folk : Value}
    {f__law_case_page : Addr} {od__law_case_page an__law_case_page : Option Addr} {sl__law_case_page : Array (Option Value)} {oc__law_case_page kV__law_case_page dc__law_case_page pm__law_case_page cd__law_case_page ct__law_case_page : Value}
    {f_Book___repr__ : Addr} {od_Book___repr__ an_Book___repr__ : Option Addr} {sl_Book___repr__ : Array (Option Value)} {oc_Book___repr__ kV_Book___repr__ dc_Book___repr__ pm_Book___repr__ cd_Book___repr__ ct_Book___repr__ : Value}
    {f_Case___repr__ : Addr} {od_Case___repr__ an_Case___repr__ : Option Addr} {sl_Case___repr__ : Array (Option Value)} {oc_Case___repr__ kV_Case___repr__ dc_Case___repr__ pm_Case___repr__ cd_Case___repr__ ct_Case___repr__ : Value}
    {f__law_heard : Addr} {od__law_heard an__law_heard : Option Addr} {sl__law_heard : Array (Option Value)} {oc__law_heard kV__law_heard dc__law_heard pm__law_heard cd__law_heard ct__law_heard : Value}
    {f__law_all_heard : Addr} {od__law_all_heard an__law_all_heard : Option Addr} {sl__law_all_heard : Array (Option Value)} {oc__law_all_heard kV__law_all_heard dc__law_all_heard pm__law_all_heard cd__law_all_heard ct__law_all_heard : Value}
    {f__law_bad_orders : Addr} {od__law_bad_orders an__law_bad_orders : Option Addr} {sl__law_bad_orders : Array (Option Value)} {oc__law_bad_orders kV__law_bad_orders dc__law_bad_orders pm__law_bad_orders cd__law_bad_orders ct__law_bad_orders : Value}
    {f__law_names_right : Addr} {od__law_names_right an__law_names_right : Option Addr} {sl__law_names_right : Array (Option Value)} {oc__law_names_right kV__law_names_right dc__law_names_right pm__law_names_right ct__law_names_right : Value}
    {lc__law_names_right lt__law_names_right : Addr} {lo__law_names_right : Value} {ld__law_names_right : Option Addr} {lv__law_names_right : Array Value} {ls__law_names_right : Array (Option Value)}
    {f_Case___init__ : Addr} {od_Case___init__ an_Case___init__ : Option Addr} {sl_Case___init__ : Array (Option Value)} {oc_Case___init__ kV_Case___init__ dc_Case___init__ pm_Case___init__ cd_Case___init__ ct_Case___init__ : Value}
    {f_Book___init__ : Addr} {od_Book___init__ an_Book___init__ : Option Addr} {sl_Book___init__ : Array (Option Value)} {oc_Book___init__ kV_Book___init__ dc_Book___init__ pm_Book___init__ cd_Book___init__ ct_Book___init__ : Value}
    {f_Case___str__ : Addr} {od_Case___str__ an_Case___str__ : Option Addr} {sl_Case___str__ : Array (Option Value)} {oc_Case___str__ kV_Case___str__ dc_Case___str__ pm_Case___str__ cd_Case___str__ ct_Case___str__ : Value}
    {f__law_right : Addr} {od__law_right an__law_right : Option Addr} {sl__law_right : Array (Option Value)} {oc__law_right kV__law_right dc__law_right pm__law_right ct__law_right : Value}
    {lc__law_right lt__law_right : Addr} {lo__law_right : Value} {ld__law_right : Option Addr} {lv__law_right : Array Value} {ls__law_right : Array (Option Value)}
    {f_law : Addr} {od_law an_law : Option Addr} {sl_law : Array (Option Value)} {oc_law kV_law dc_law pm_law cd_law ct_law : Value}
    {t_DIGITS : Tok}
    {t_LEAST_CANDIDATES : Tok}
    {t_LETTERS : Tok}
    {t_MOST_CANDIDATES : Tok}
    {t_MOST_LETTERS : Tok}
    {t_MOST_MARKS : Tok}
    {t_MOST_ROWS : Tok}
    {t_MOST_RULES : Tok}
    {t_SIGNS : Tok}
    (cm_Book : PySem.W.nsIn K mainGlobals "Book" = some (some (.ref C_Book)))
    (cpg_Book : PySem.W.plainGet K C_Book Str.empty = true)
    (chd_Book : PySem.W.hasDictIn K C_Book = true)
    (cpo_Book : PySem.W.plainOver K C_Book = true)
    (csa_Book : PySem.W.findIn K (.ref C_Book) "__setattr__" = some (some (.builtin "object.__setattr__")))
    (cmk_Book : PySem.W.makesIn K C_Book = true)
    (ckc_Book : PySem.W.keepIn K (.ref C_Book) = true)
    (cia_Book : PySem.W.findIn K (.ref C_Book) "__class__" = some (some (.builtin "object.__class__")))
    (cim_Book : PySem.W.mroIn K C_Book (.type "object") = some true)
    (cm_Case : PySem.W.nsIn K mainGlobals "Case" = some (some (.ref C_Case)))
    (cpg_Case : PySem.W.plainGet K C_Case Str.empty = true)
    (chd_Case : PySem.W.hasDictIn K C_Case = true)
    (cpo_Case : PySem.W.plainOver K C_Case = true)
    (csa_Case : PySem.W.findIn K (.ref C_Case) "__setattr__" = some (some (.builtin "object.__setattr__")))
    (cmk_Case : PySem.W.makesIn K C_Case = true)
    (ckc_Case : PySem.W.keepIn K (.ref C_Case) = true)
    (cia_Case : PySem.W.findIn K (.ref C_Case) "__class__" = some (some (.builtin "object.__class__")))
    (cim_Case : PySem.W.mroIn K C_Case (.type "object") = some true)
    (cm_InvalidCases : PySem.W.nsIn K mainGlobals "InvalidCases" = some (some (.ref C_InvalidCases)))
    (cm_InvalidNumber : PySem.W.nsIn K mainGlobals "InvalidNumber" = some (some (.ref C_InvalidNumber)))
    (cm_InvalidOffers : PySem.W.nsIn K mainGlobals "InvalidOffers" = some (some (.ref C_InvalidOffers)))
    (cm_InvalidRanking : PySem.W.nsIn K mainGlobals "InvalidRanking" = some (some (.ref C_InvalidRanking)))
    (cm_InvalidRow : PySem.W.nsIn K mainGlobals "InvalidRow" = some (some (.ref C_InvalidRow)))
    (cm_NoRanking : PySem.W.nsIn K mainGlobals "NoRanking" = some (some (.ref C_NoRanking)))
    (cm_NotABook : PySem.W.nsIn K mainGlobals "NotABook" = some (some (.ref C_NotABook)))
    (cm_NotACase : PySem.W.nsIn K mainGlobals "NotACase" = some (some (.ref C_NotACase)))
    (cm_TooMany : PySem.W.nsIn K mainGlobals "TooMany" = some (some (.ref C_TooMany)))
    (cm_UnknownName : PySem.W.nsIn K mainGlobals "UnknownName" = some (some (.ref C_UnknownName)))
    (xh_InvalidCases : PySem.W.hasDictIn K C_InvalidCases = true)
    (xt_InvalidCases : PySem.W.typeIn K (.ref C_InvalidCases) = some (.type "type"))
    (xh_InvalidNumber : PySem.W.hasDictIn K C_InvalidNumber = true)
    (xt_InvalidNumber : PySem.W.typeIn K (.ref C_InvalidNumber) = some (.type "type"))
    (xh_InvalidOffers : PySem.W.hasDictIn K C_InvalidOffers = true)
    (xt_InvalidOffers : PySem.W.typeIn K (.ref C_InvalidOffers) = some (.type "type"))
    (xh_InvalidRanking : PySem.W.hasDictIn K C_InvalidRanking = true)
    (xt_InvalidRanking : PySem.W.typeIn K (.ref C_InvalidRanking) = some (.type "type"))
    (xh_InvalidRow : PySem.W.hasDictIn K C_InvalidRow = true)
    (xt_InvalidRow : PySem.W.typeIn K (.ref C_InvalidRow) = some (.type "type"))
    (xh_NoRanking : PySem.W.hasDictIn K C_NoRanking = true)
    (xt_NoRanking : PySem.W.typeIn K (.ref C_NoRanking) = some (.type "type"))
    (xh_NotABook : PySem.W.hasDictIn K C_NotABook = true)
    (xt_NotABook : PySem.W.typeIn K (.ref C_NotABook) = some (.type "type"))
    (xh_NotACase : PySem.W.hasDictIn K C_NotACase = true)
    (xt_NotACase : PySem.W.typeIn K (.ref C_NotACase) = some (.type "type"))
    (xh_TooMany : PySem.W.hasDictIn K C_TooMany = true)
    (xt_TooMany : PySem.W.typeIn K (.ref C_TooMany) = some (.type "type"))
    (xh_UnknownName : PySem.W.hasDictIn K C_UnknownName = true)
    (xt_UnknownName : PySem.W.typeIn K (.ref C_UnknownName) = some (.type "type"))
    (xs_InvalidCases : PySem.W.subIn K (.ref C_InvalidCases) (.type "BaseException") = some true)
    (xs_InvalidNumber : PySem.W.subIn K (.ref C_InvalidNumber) (.type "BaseException") = some true)
    (xs_InvalidOffers : PySem.W.subIn K (.ref C_InvalidOffers) (.type "BaseException") = some true)
    (xs_InvalidRanking : PySem.W.subIn K (.ref C_InvalidRanking) (.type "BaseException") = some true)
    (xs_InvalidRow : PySem.W.subIn K (.ref C_InvalidRow) (.type "BaseException") = some true)
    (xs_NoRanking : PySem.W.subIn K (.ref C_NoRanking) (.type "BaseException") = some true)
    (xs_NotABook : PySem.W.subIn K (.ref C_NotABook) (.type "BaseException") = some true)
    (xs_NotACase : PySem.W.subIn K (.ref C_NotACase) (.type "BaseException") = some true)
    (xs_TooMany : PySem.W.subIn K (.ref C_TooMany) (.type "BaseException") = some true)
    (xs_UnknownName : PySem.W.subIn K (.ref C_UnknownName) (.type "BaseException") = some true)
    (xga_InvalidRanking : PySem.W.findIn K (.ref C_InvalidRanking) "__getattribute__" = some (some (.builtin "BaseException.__getattribute__")))
    (xgt_InvalidRanking : PySem.W.findIn K (.ref C_InvalidRanking) "__getattr__" = some (none))
    (xcl_InvalidRanking : PySem.W.findIn K (.ref C_InvalidRanking) "__class__" = some (some (.builtin "object.__class__")))
    (xo_InvalidRanking : PySem.W.mroIn K C_InvalidRanking (.type "object") = some true)
    (xp_InvalidRanking : PySem.W.keepIn K (.ref C_InvalidRanking) = true)
    (xu_InvalidRanking_InvalidRanking : PySem.W.subIn K (.ref C_InvalidRanking) (.ref C_InvalidRanking) = some true)
    (xu_InvalidRanking_NotABook : PySem.W.subIn K (.ref C_InvalidRanking) (.ref C_NotABook) = some false)
    (xu_InvalidRanking_NotACase : PySem.W.subIn K (.ref C_InvalidRanking) (.ref C_NotACase) = some false)
    (xu_InvalidRanking_UnknownName : PySem.W.subIn K (.ref C_InvalidRanking) (.ref C_UnknownName) = some false)
    (xL_InvalidRanking : K.lookup C_InvalidRanking = some (PySem.excClassObj xnm_InvalidRanking xq_InvalidRanking C_InvalidRanking xN_InvalidRanking xbs_InvalidRanking xbm_InvalidRanking true xw0_InvalidRanking xw1_InvalidRanking xw2_InvalidRanking xw3_InvalidRanking xw4_InvalidRanking xw5_InvalidRanking xw6_InvalidRanking xw7_InvalidRanking xw8_InvalidRanking xw9_InvalidRanking "ValueError.__new__"))
    (xR_InvalidRanking : HandSPX.refsVE xbm_InvalidRanking = true)
    (xa_InvalidRanking : PySem.W.findIn K (.ref C_InvalidRanking) "__setattr__" = some (some (.builtin "object.__setattr__")))
    (xn_InvalidRanking_given : PySem.W.findIn K (.ref C_InvalidRanking) "given" = some none)
    (xn_InvalidRanking_index : PySem.W.findIn K (.ref C_InvalidRanking) "index" = some none)
    (xn_InvalidRanking_number : PySem.W.findIn K (.ref C_InvalidRanking) "number" = some none)
    (xn_InvalidRanking_told : PySem.W.findIn K (.ref C_InvalidRanking) "told" = some none)
    (xga_NotACase : PySem.W.findIn K (.ref C_NotACase) "__getattribute__" = some (some (.builtin "BaseException.__getattribute__")))
    (xgt_NotACase : PySem.W.findIn K (.ref C_NotACase) "__getattr__" = some (none))
    (xcl_NotACase : PySem.W.findIn K (.ref C_NotACase) "__class__" = some (some (.builtin "object.__class__")))
    (xo_NotACase : PySem.W.mroIn K C_NotACase (.type "object") = some true)
    (xp_NotACase : PySem.W.keepIn K (.ref C_NotACase) = true)
    (xu_NotACase_NotACase : PySem.W.subIn K (.ref C_NotACase) (.ref C_NotACase) = some true)
    (xu_NotACase_NotABook : PySem.W.subIn K (.ref C_NotACase) (.ref C_NotABook) = some false)
    (xL_NotACase : K.lookup C_NotACase = some (PySem.excClassObj xnm_NotACase xq_NotACase C_NotACase xN_NotACase xbs_NotACase xbm_NotACase true xw0_NotACase xw1_NotACase xw2_NotACase xw3_NotACase xw4_NotACase xw5_NotACase xw6_NotACase xw7_NotACase xw8_NotACase xw9_NotACase "ValueError.__new__"))
    (xR_NotACase : HandSPX.refsVE xbm_NotACase = true)
    (xa_NotACase : PySem.W.findIn K (.ref C_NotACase) "__setattr__" = some (some (.builtin "object.__setattr__")))
    (xn_NotACase_given : PySem.W.findIn K (.ref C_NotACase) "given" = some none)
    (xn_NotACase_index : PySem.W.findIn K (.ref C_NotACase) "index" = some none)
    (xn_NotACase_number : PySem.W.findIn K (.ref C_NotACase) "number" = some none)
    (xn_NotACase_told : PySem.W.findIn K (.ref C_NotACase) "told" = some none)
    (xga_UnknownName : PySem.W.findIn K (.ref C_UnknownName) "__getattribute__" = some (some (.builtin "BaseException.__getattribute__")))
    (xgt_UnknownName : PySem.W.findIn K (.ref C_UnknownName) "__getattr__" = some (none))
    (xcl_UnknownName : PySem.W.findIn K (.ref C_UnknownName) "__class__" = some (some (.builtin "object.__class__")))
    (xo_UnknownName : PySem.W.mroIn K C_UnknownName (.type "object") = some true)
    (xp_UnknownName : PySem.W.keepIn K (.ref C_UnknownName) = true)
    (xu_UnknownName_UnknownName : PySem.W.subIn K (.ref C_UnknownName) (.ref C_UnknownName) = some true)
    (xu_UnknownName_NotABook : PySem.W.subIn K (.ref C_UnknownName) (.ref C_NotABook) = some false)
    (xu_UnknownName_NotACase : PySem.W.subIn K (.ref C_UnknownName) (.ref C_NotACase) = some false)
    (xL_UnknownName : K.lookup C_UnknownName = some (PySem.excClassObj xnm_UnknownName xq_UnknownName C_UnknownName xN_UnknownName xbs_UnknownName xbm_UnknownName true xw0_UnknownName xw1_UnknownName xw2_UnknownName xw3_UnknownName xw4_UnknownName xw5_UnknownName xw6_UnknownName xw7_UnknownName xw8_UnknownName xw9_UnknownName "ValueError.__new__"))
    (xR_UnknownName : HandSPX.refsVE xbm_UnknownName = true)
    (xa_UnknownName : PySem.W.findIn K (.ref C_UnknownName) "__setattr__" = some (some (.builtin "object.__setattr__")))
    (xn_UnknownName_given : PySem.W.findIn K (.ref C_UnknownName) "given" = some none)
    (xn_UnknownName_index : PySem.W.findIn K (.ref C_UnknownName) "index" = some none)
    (xn_UnknownName_number : PySem.W.findIn K (.ref C_UnknownName) "number" = some none)
    (xn_UnknownName_told : PySem.W.findIn K (.ref C_UnknownName) "told" = some none)
    (ihn : PySem.W.specialIn K (.builtin "object.__class__") "__get__" = some (some (.builtin "getset_descriptor.__get__")))
    (iht : PySem.W.takesIn K (.builtin "object.__class__") = some true)
    (a_is_name : PySem.W.nsIn K mainGlobals "is_name" = some (some (.ref f_is_name)))
    (l_is_name : K.lookup f_is_name = some ⟨oc_is_name, od_is_name, .func (PySem.W.fnOf "is_name" "is_name" (defArgs s_is_name) (defBody s_is_name) (defScope s_is_name) .none kV_is_name dc_is_name pm_is_name an_is_name cd_is_name ct_is_name), sl_is_name⟩)
    (c_is_name : PySem.W.codeIn K cd_is_name "is_name" = true)
    (k_is_name : PySem.W.keepIn K (.ref f_is_name) = true)
    (a_are_names : PySem.W.nsIn K mainGlobals "are_names" = some (some (.ref f_are_names)))
    (l_are_names : K.lookup f_are_names = some ⟨oc_are_names, od_are_names, .func (PySem.W.fnOf "are_names" "are_names" (defArgs s_are_names) (defBody s_are_names) (defScope s_are_names) .none kV_are_names dc_are_names pm_are_names an_are_names cd_are_names ct_are_names), sl_are_names⟩)
    (c_are_names : PySem.W.codeIn K cd_are_names "are_names" = true)
    (k_are_names : PySem.W.keepIn K (.ref f_are_names) = true)
    (a_is_number : PySem.W.nsIn K mainGlobals "is_number" = some (some (.ref f_is_number)))
    (l_is_number : K.lookup f_is_number = some ⟨oc_is_number, od_is_number, .func (PySem.W.fnOf "is_number" "is_number" (defArgs s_is_number) (defBody s_is_number) (defScope s_is_number) .none kV_is_number dc_is_number pm_is_number an_is_number cd_is_number ct_is_number), sl_is_number⟩)
    (c_is_number : PySem.W.codeIn K cd_is_number "is_number" = true)
    (k_is_number : PySem.W.keepIn K (.ref f_is_number) = true)
    (a_is_any_row : PySem.W.nsIn K mainGlobals "is_any_row" = some (some (.ref f_is_any_row)))
    (l_is_any_row : K.lookup f_is_any_row = some ⟨oc_is_any_row, od_is_any_row, .func (PySem.W.fnOf "is_any_row" "is_any_row" (defArgs s_is_any_row) (defBody s_is_any_row) (defScope s_is_any_row) .none kV_is_any_row dc_is_any_row pm_is_any_row an_is_any_row cd_is_any_row ct_is_any_row), sl_is_any_row⟩)
    (c_is_any_row : PySem.W.codeIn K cd_is_any_row "is_any_row" = true)
    (k_is_any_row : PySem.W.keepIn K (.ref f_is_any_row) = true)
    (a_is_row : PySem.W.nsIn K mainGlobals "is_row" = some (some (.ref f_is_row)))
    (l_is_row : K.lookup f_is_row = some ⟨oc_is_row, od_is_row, .func (PySem.W.fnOf "is_row" "is_row" (defArgs s_is_row) (defBody s_is_row) (defScope s_is_row) .none kV_is_row dc_is_row pm_is_row an_is_row cd_is_row ct_is_row), sl_is_row⟩)
    (c_is_row : PySem.W.codeIn K cd_is_row "is_row" = true)
    (k_is_row : PySem.W.keepIn K (.ref f_is_row) = true)
    (a_is_whole : PySem.W.nsIn K mainGlobals "is_whole" = some (some (.ref f_is_whole)))
    (l_is_whole : K.lookup f_is_whole = some ⟨oc_is_whole, od_is_whole, .func (PySem.W.fnOf "is_whole" "is_whole" (defArgs s_is_whole) (defBody s_is_whole) (defScope s_is_whole) .none kV_is_whole dc_is_whole pm_is_whole an_is_whole cd_is_whole ct_is_whole), sl_is_whole⟩)
    (c_is_whole : PySem.W.codeIn K cd_is_whole "is_whole" = true)
    (k_is_whole : PySem.W.keepIn K (.ref f_is_whole) = true)
    (a_is_ranking : PySem.W.nsIn K mainGlobals "is_ranking" = some (some (.ref f_is_ranking)))
    (l_is_ranking : K.lookup f_is_ranking = some ⟨oc_is_ranking, od_is_ranking, .func (PySem.W.fnOf "is_ranking" "is_ranking" (defArgs s_is_ranking) (defBody s_is_ranking) (defScope s_is_ranking) .none kV_is_ranking dc_is_ranking pm_is_ranking an_is_ranking cd_is_ranking ct_is_ranking), sl_is_ranking⟩)
    (c_is_ranking : PySem.W.codeIn K cd_is_ranking "is_ranking" = true)
    (k_is_ranking : PySem.W.keepIn K (.ref f_is_ranking) = true)
    (a_InvalidRanking___init__ : PySem.W.findIn K (.ref C_InvalidRanking) "__init__" = some (some (.ref f_InvalidRanking___init__)))
    (i_InvalidRanking___init__ : PySem.W.isFn K (.ref f_InvalidRanking___init__) = true)
    (xy_InvalidRanking : PySem.W.typeIn K (.ref f_InvalidRanking___init__) = some (.type "function"))
    (l_InvalidRanking___init__ : K.lookup f_InvalidRanking___init__ = some ⟨oc_InvalidRanking___init__, od_InvalidRanking___init__, .func (PySem.W.fnOf "__init__" "InvalidRanking.__init__" (defArgs s_InvalidRanking___init__) (defBody s_InvalidRanking___init__) (defScope s_InvalidRanking___init__) .none kV_InvalidRanking___init__ dc_InvalidRanking___init__ pm_InvalidRanking___init__ an_InvalidRanking___init__ cd_InvalidRanking___init__ ct_InvalidRanking___init__), sl_InvalidRanking___init__⟩)
    (c_InvalidRanking___init__ : PySem.W.codeIn K cd_InvalidRanking___init__ "InvalidRanking.__init__" = true)
    (k_InvalidRanking___init__ : PySem.W.keepIn K (.ref f_InvalidRanking___init__) = true)
    (a_check_ranking : PySem.W.nsIn K mainGlobals "check_ranking" = some (some (.ref f_check_ranking)))
    (l_check_ranking : K.lookup f_check_ranking = some ⟨oc_check_ranking, od_check_ranking, .func (PySem.W.fnOf "check_ranking" "check_ranking" (defArgs s_check_ranking) (defBody s_check_ranking) (defScope s_check_ranking) .none kV_check_ranking dc_check_ranking pm_check_ranking an_check_ranking cd_check_ranking ct_check_ranking), sl_check_ranking⟩)
    (c_check_ranking : PySem.W.codeIn K cd_check_ranking "check_ranking" = true)
    (k_check_ranking : PySem.W.keepIn K (.ref f_check_ranking) = true)
    (a_UnknownName___init__ : PySem.W.findIn K (.ref C_UnknownName) "__init__" = some (some (.ref f_UnknownName___init__)))
    (i_UnknownName___init__ : PySem.W.isFn K (.ref f_UnknownName___init__) = true)
    (xy_UnknownName : PySem.W.typeIn K (.ref f_UnknownName___init__) = some (.type "function"))
    (l_UnknownName___init__ : K.lookup f_UnknownName___init__ = some ⟨oc_UnknownName___init__, od_UnknownName___init__, .func (PySem.W.fnOf "__init__" "UnknownName.__init__" (defArgs s_UnknownName___init__) (defBody s_UnknownName___init__) (defScope s_UnknownName___init__) .none kV_UnknownName___init__ dc_UnknownName___init__ pm_UnknownName___init__ an_UnknownName___init__ cd_UnknownName___init__ ct_UnknownName___init__), sl_UnknownName___init__⟩)
    (c_UnknownName___init__ : PySem.W.codeIn K cd_UnknownName___init__ "UnknownName.__init__" = true)
    (k_UnknownName___init__ : PySem.W.keepIn K (.ref f_UnknownName___init__) = true)
    (a_check_known : PySem.W.nsIn K mainGlobals "check_known" = some (some (.ref f_check_known)))
    (l_check_known : K.lookup f_check_known = some ⟨oc_check_known, od_check_known, .func (PySem.W.fnOf "check_known" "check_known" (defArgs s_check_known) (defBody s_check_known) (defScope s_check_known) .none kV_check_known dc_check_known pm_check_known an_check_known cd_check_known ct_check_known), sl_check_known⟩)
    (c_check_known : PySem.W.codeIn K cd_check_known "check_known" = true)
    (k_check_known : PySem.W.keepIn K (.ref f_check_known) = true)
    (a_read_book : PySem.W.nsIn K mainGlobals "read_book" = some (some (.ref f_read_book)))
    (l_read_book : K.lookup f_read_book = some ⟨oc_read_book, od_read_book, .func (PySem.W.fnOf "read_book" "read_book" (defArgs s_read_book) (defBody s_read_book) (defScope s_read_book) .none kV_read_book dc_read_book pm_read_book an_read_book cd_read_book ct_read_book), sl_read_book⟩)
    (c_read_book : PySem.W.codeIn K cd_read_book "read_book" = true)
    (k_read_book : PySem.W.keepIn K (.ref f_read_book) = true)
    (a_read_mark : PySem.W.nsIn K mainGlobals "read_mark" = some (some (.ref f_read_mark)))
    (l_read_mark : K.lookup f_read_mark = some ⟨oc_read_mark, od_read_mark, .func (PySem.W.fnOf "read_mark" "read_mark" (defArgs s_read_mark) (defBody s_read_mark) (defScope s_read_mark) .none kV_read_mark dc_read_mark pm_read_mark an_read_mark cd_read_mark ct_read_mark), sl_read_mark⟩)
    (c_read_mark : PySem.W.codeIn K cd_read_mark "read_mark" = true)
    (k_read_mark : PySem.W.keepIn K (.ref f_read_mark) = true)
    (a_read_candidates : PySem.W.nsIn K mainGlobals "read_candidates" = some (some (.ref f_read_candidates)))
    (l_read_candidates : K.lookup f_read_candidates = some ⟨oc_read_candidates, od_read_candidates, .func (PySem.W.fnOf "read_candidates" "read_candidates" (defArgs s_read_candidates) (defBody s_read_candidates) (defScope s_read_candidates) .none kV_read_candidates dc_read_candidates pm_read_candidates an_read_candidates cd_read_candidates ct_read_candidates), sl_read_candidates⟩)
    (c_read_candidates : PySem.W.codeIn K cd_read_candidates "read_candidates" = true)
    (k_read_candidates : PySem.W.keepIn K (.ref f_read_candidates) = true)
    (a_read_case : PySem.W.nsIn K mainGlobals "read_case" = some (some (.ref f_read_case)))
    (l_read_case : K.lookup f_read_case = some ⟨oc_read_case, od_read_case, .func (PySem.W.fnOf "read_case" "read_case" (defArgs s_read_case) (defBody s_read_case) (defScope s_read_case) .none kV_read_case dc_read_case pm_read_case an_read_case cd_read_case ct_read_case), sl_read_case⟩)
    (c_read_case : PySem.W.codeIn K cd_read_case "read_case" = true)
    (k_read_case : PySem.W.keepIn K (.ref f_read_case) = true)
    (a_row_holds : PySem.W.nsIn K mainGlobals "row_holds" = some (some (.ref f_row_holds)))
    (l_row_holds : K.lookup f_row_holds = some ⟨oc_row_holds, od_row_holds, .func (PySem.W.fnOf "row_holds" "row_holds" (defArgs s_row_holds) (defBody s_row_holds) (defScope s_row_holds) .none kV_row_holds dc_row_holds pm_row_holds an_row_holds cd_row_holds ct_row_holds), sl_row_holds⟩)
    (c_row_holds : PySem.W.codeIn K cd_row_holds "row_holds" = true)
    (k_row_holds : PySem.W.keepIn K (.ref f_row_holds) = true)
    (a_all_hold : PySem.W.nsIn K mainGlobals "all_hold" = some (some (.ref f_all_hold)))
    (l_all_hold : K.lookup f_all_hold = some ⟨oc_all_hold, od_all_hold, .func (PySem.W.fnOf "all_hold" "all_hold" (defArgs s_all_hold) (defBody s_all_hold) (defScope s_all_hold) .none kV_all_hold dc_all_hold pm_all_hold an_all_hold cd_all_hold ct_all_hold), sl_all_hold⟩)
    (c_all_hold : PySem.W.codeIn K cd_all_hold "all_hold" = true)
    (k_all_hold : PySem.W.keepIn K (.ref f_all_hold) = true)
    (a_sign_of : PySem.W.nsIn K mainGlobals "sign_of" = some (some (.ref f_sign_of)))
    (l_sign_of : K.lookup f_sign_of = some ⟨oc_sign_of, od_sign_of, .func (PySem.W.fnOf "sign_of" "sign_of" (defArgs s_sign_of) (defBody s_sign_of) (defScope s_sign_of) .none kV_sign_of dc_sign_of pm_sign_of an_sign_of cd_sign_of ct_sign_of), sl_sign_of⟩)
    (c_sign_of : PySem.W.codeIn K cd_sign_of "sign_of" = true)
    (k_sign_of : PySem.W.keepIn K (.ref f_sign_of) = true)
    (a_row_between : PySem.W.nsIn K mainGlobals "row_between" = some (some (.ref f_row_between)))
    (l_row_between : K.lookup f_row_between = some ⟨oc_row_between, od_row_between, .func (PySem.W.fnOf "row_between" "row_between" (defArgs s_row_between) (defBody s_row_between) (defScope s_row_between) .none kV_row_between dc_row_between pm_row_between an_row_between cd_row_between ct_row_between), sl_row_between⟩)
    (c_row_between : PySem.W.codeIn K cd_row_between "row_between" = true)
    (k_row_between : PySem.W.keepIn K (.ref f_row_between) = true)
    (a_has_sign : PySem.W.nsIn K mainGlobals "has_sign" = some (some (.ref f_has_sign)))
    (l_has_sign : K.lookup f_has_sign = some ⟨oc_has_sign, od_has_sign, .func (PySem.W.fnOf "has_sign" "has_sign" (defArgs s_has_sign) (defBody s_has_sign) (defScope s_has_sign) .none kV_has_sign dc_has_sign pm_has_sign an_has_sign cd_has_sign ct_has_sign), sl_has_sign⟩)
    (c_has_sign : PySem.W.codeIn K cd_has_sign "has_sign" = true)
    (k_has_sign : PySem.W.keepIn K (.ref f_has_sign) = true)
    (a_split : PySem.W.nsIn K mainGlobals "split" = some (some (.ref f_split)))
    (l_split : K.lookup f_split = some ⟨oc_split, od_split, .func (PySem.W.fnOf "split" "split" (defArgs s_split) (defBody s_split) (defScope s_split) .none kV_split dc_split pm_split an_split cd_split ct_split), sl_split⟩)
    (c_split : PySem.W.codeIn K cd_split "split" = true)
    (k_split : PySem.W.keepIn K (.ref f_split) = true)
    (a_some_fits : PySem.W.nsIn K mainGlobals "some_fits" = some (some (.ref f_some_fits)))
    (l_some_fits : K.lookup f_some_fits = some ⟨oc_some_fits, od_some_fits, .func (PySem.W.fnOf "some_fits" "some_fits" (defArgs s_some_fits) (defBody s_some_fits) (defScope s_some_fits) .none kV_some_fits dc_some_fits pm_some_fits an_some_fits cd_some_fits ct_some_fits), sl_some_fits⟩)
    (c_some_fits : PySem.W.codeIn K cd_some_fits "some_fits" = true)
    (k_some_fits : PySem.W.keepIn K (.ref f_some_fits) = true)
    (a_NotACase___init__ : PySem.W.findIn K (.ref C_NotACase) "__init__" = some (some (.ref f_NotACase___init__)))
    (i_NotACase___init__ : PySem.W.isFn K (.ref f_NotACase___init__) = true)
    (xy_NotACase : PySem.W.typeIn K (.ref f_NotACase___init__) = some (.type "function"))
    (l_NotACase___init__ : K.lookup f_NotACase___init__ = some ⟨oc_NotACase___init__, od_NotACase___init__, .func (PySem.W.fnOf "__init__" "NotACase.__init__" (defArgs s_NotACase___init__) (defBody s_NotACase___init__) (defScope s_NotACase___init__) .none kV_NotACase___init__ dc_NotACase___init__ pm_NotACase___init__ an_NotACase___init__ cd_NotACase___init__ ct_NotACase___init__), sl_NotACase___init__⟩)
    (c_NotACase___init__ : PySem.W.codeIn K cd_NotACase___init__ "NotACase.__init__" = true)
    (k_NotACase___init__ : PySem.W.keepIn K (.ref f_NotACase___init__) = true)
    (a_check_case : PySem.W.nsIn K mainGlobals "check_case" = some (some (.ref f_check_case)))
    (l_check_case : K.lookup f_check_case = some ⟨oc_check_case, od_check_case, .func (PySem.W.fnOf "check_case" "check_case" (defArgs s_check_case) (defBody s_check_case) (defScope s_check_case) .none kV_check_case dc_check_case pm_check_case an_check_case cd_check_case ct_check_case), sl_check_case⟩)
    (c_check_case : PySem.W.codeIn K cd_check_case "check_case" = true)
    (k_check_case : PySem.W.keepIn K (.ref f_check_case) = true)
    (a_Case_marks : PySem.W.findIn K (.ref C_Case) "marks" = some (some (.ref q_Case_marks)))
    (g_Case_marks : PySem.W.specialIn K (.ref q_Case_marks) "__get__" = some (some (.builtin "property.__get__")))
    (t_Case_marks : PySem.W.takesIn K (.ref q_Case_marks) = some true)
    (r_Case_marks : PySem.W.recIn K q_Case_marks "property" = some (.ref f_Case_marks :: rest_Case_marks))
    (l_Case_marks : K.lookup f_Case_marks = some ⟨oc_Case_marks, od_Case_marks, .func (PySem.W.fnOf "marks" "Case.marks" (defArgs s_Case_marks) (defBody s_Case_marks) (defScope s_Case_marks) .none kV_Case_marks dc_Case_marks pm_Case_marks an_Case_marks cd_Case_marks ct_Case_marks), sl_Case_marks⟩)
    (c_Case_marks : PySem.W.codeIn K cd_Case_marks "Case.marks" = true)
    (k_Case_marks : PySem.W.keepIn K (.ref f_Case_marks) = true)
    (a_Case_names : PySem.W.findIn K (.ref C_Case) "names" = some (some (.ref q_Case_names)))
    (g_Case_names : PySem.W.specialIn K (.ref q_Case_names) "__get__" = some (some (.builtin "property.__get__")))
    (t_Case_names : PySem.W.takesIn K (.ref q_Case_names) = some true)
    (r_Case_names : PySem.W.recIn K q_Case_names "property" = some (.ref f_Case_names :: rest_Case_names))
    (l_Case_names : K.lookup f_Case_names = some ⟨oc_Case_names, od_Case_names, .func (PySem.W.fnOf "names" "Case.names" (defArgs s_Case_names) (defBody s_Case_names) (defScope s_Case_names) .none kV_Case_names dc_Case_names pm_Case_names an_Case_names cd_Case_names ct_Case_names), sl_Case_names⟩)
    (c_Case_names : PySem.W.codeIn K cd_Case_names "Case.names" = true)
    (k_Case_names : PySem.W.keepIn K (.ref f_Case_names) = true)
    (a_row_against : PySem.W.nsIn K mainGlobals "row_against" = some (some (.ref f_row_against)))
    (l_row_against : K.lookup f_row_against = some ⟨oc_row_against, od_row_against, .func (PySem.W.fnOf "row_against" "row_against" (defArgs s_row_against) (defBody s_row_against) (defScope s_row_against) .none kV_row_against dc_row_against pm_row_against an_row_against cd_row_against ct_row_against), sl_row_against⟩)
    (c_row_against : PySem.W.codeIn K cd_row_against "row_against" = true)
    (k_row_against : PySem.W.keepIn K (.ref f_row_against) = true)
    (a_rows_of : PySem.W.nsIn K mainGlobals "rows_of" = some (some (.ref f_rows_of)))
    (l_rows_of : K.lookup f_rows_of = some ⟨oc_rows_of, od_rows_of, .func (PySem.W.fnOf "rows_of" "rows_of" (defArgs s_rows_of) (defBody s_rows_of) (defScope s_rows_of) .none kV_rows_of dc_rows_of pm_rows_of an_rows_of cd_rows_of ct_rows_of), sl_rows_of⟩)
    (c_rows_of : PySem.W.codeIn K cd_rows_of "rows_of" = true)
    (k_rows_of : PySem.W.keepIn K (.ref f_rows_of) = true)
    (a_against : PySem.W.nsIn K mainGlobals "against" = some (some (.ref f_against)))
    (l_against : K.lookup f_against = some ⟨oc_against, od_against, .func (PySem.W.fnOf "against" "against" (defArgs s_against) (defBody s_against) (defScope s_against) .none kV_against dc_against pm_against an_against cd_against ct_against), sl_against⟩)
    (c_against : PySem.W.codeIn K cd_against "against" = true)
    (k_against : PySem.W.keepIn K (.ref f_against) = true)
    (a_winners : PySem.W.nsIn K mainGlobals "winners" = some (some (.ref f_winners)))
    (l_winners : K.lookup f_winners = some ⟨oc_winners, od_winners, .func (PySem.W.fnOf "winners" "winners" (defArgs s_winners) (defBody s_winners) (defScope s_winners) .none kV_winners dc_winners pm_winners an_winners cd_winners ct_winners), sl_winners⟩)
    (c_winners : PySem.W.codeIn K cd_winners "winners" = true)
    (k_winners : PySem.W.keepIn K (.ref f_winners) = true)
    (a_told_by : PySem.W.nsIn K mainGlobals "told_by" = some (some (.ref f_told_by)))
    (l_told_by : K.lookup f_told_by = some ⟨oc_told_by, od_told_by, .func (PySem.W.fnOf "told_by" "told_by" (defArgs s_told_by) (defBody s_told_by) (defScope s_told_by) .none kV_told_by dc_told_by pm_told_by an_told_by cd_told_by ct_told_by), sl_told_by⟩)
    (c_told_by : PySem.W.codeIn K cd_told_by "told_by" = true)
    (k_told_by : PySem.W.keepIn K (.ref f_told_by) = true)
    (a_barred : PySem.W.nsIn K mainGlobals "barred" = some (some (.ref f_barred)))
    (l_barred : K.lookup f_barred = some ⟨oc_barred, od_barred, .func (PySem.W.fnOf "barred" "barred" (defArgs s_barred) (defBody s_barred) (defScope s_barred) .none kV_barred dc_barred pm_barred an_barred cd_barred ct_barred), sl_barred⟩)
    (c_barred : PySem.W.codeIn K cd_barred "barred" = true)
    (k_barred : PySem.W.keepIn K (.ref f_barred) = true)
    (a__law_cell : PySem.W.nsIn K mainGlobals "_law_cell" = some (some (.ref f__law_cell)))
    (l__law_cell : K.lookup f__law_cell = some ⟨oc__law_cell, od__law_cell, .func (PySem.W.fnOf "_law_cell" "_law_cell" (defArgs s__law_cell) (defBody s__law_cell) (defScope s__law_cell) .none kV__law_cell dc__law_cell pm__law_cell an__law_cell cd__law_cell ct__law_cell), sl__law_cell⟩)
    (c__law_cell : PySem.W.codeIn K cd__law_cell "_law_cell" = true)
    (k__law_cell : PySem.W.keepIn K (.ref f__law_cell) = true)
    (a__law_well : PySem.W.nsIn K mainGlobals "_law_well" = some (some (.ref f__law_well)))
    (l__law_well : K.lookup f__law_well = some ⟨oc__law_well, od__law_well, .func (PySem.W.fnOf "_law_well" "_law_well" (defArgs s__law_well) (defBody s__law_well) (defScope s__law_well) .none kV__law_well dc__law_well pm__law_well an__law_well cd__law_well ct__law_well), sl__law_well⟩)
    (c__law_well : PySem.W.codeIn K cd__law_well "_law_well" = true)
    (k__law_well : PySem.W.keepIn K (.ref f__law_well) = true)
    (a__law_dip : PySem.W.nsIn K mainGlobals "_law_dip" = some (some (.ref f__law_dip)))
    (l__law_dip : K.lookup f__law_dip = some ⟨oc__law_dip, od__law_dip, .func (PySem.W.fnOf "_law_dip" "_law_dip" (defArgs s__law_dip) (defBody s__law_dip) (defScope s__law_dip) .none kV__law_dip dc__law_dip pm__law_dip an__law_dip cd__law_dip ct__law_dip), sl__law_dip⟩)
    (c__law_dip : PySem.W.codeIn K cd__law_dip "_law_dip" = true)
    (k__law_dip : PySem.W.keepIn K (.ref f__law_dip) = true)
    (a__law_pick : PySem.W.nsIn K mainGlobals "_law_pick" = some (some (.ref f__law_pick)))
    (l__law_pick : K.lookup f__law_pick = some ⟨oc__law_pick, od__law_pick, .func (PySem.W.fnOf "_law_pick" "_law_pick" (defArgs s__law_pick) (defBody s__law_pick) (defScope s__law_pick) .none kV__law_pick dc__law_pick pm__law_pick an__law_pick cd__law_pick ct__law_pick), sl__law_pick⟩)
    (c__law_pick : PySem.W.codeIn K cd__law_pick "_law_pick" = true)
    (k__law_pick : PySem.W.keepIn K (.ref f__law_pick) = true)
    (a__law_tags : PySem.W.nsIn K mainGlobals "_law_tags" = some (some (.ref f__law_tags)))
    (l__law_tags : K.lookup f__law_tags = some ⟨oc__law_tags, od__law_tags, .func (PySem.W.fnOf "_law_tags" "_law_tags" (defArgs s__law_tags) (defBody s__law_tags) (defScope s__law_tags) .none kV__law_tags dc__law_tags pm__law_tags an__law_tags cd__law_tags ct__law_tags), sl__law_tags⟩)
    (c__law_tags : PySem.W.codeIn K cd__law_tags "_law_tags" = true)
    (k__law_tags : PySem.W.keepIn K (.ref f__law_tags) = true)
    (a__law_book_page : PySem.W.nsIn K mainGlobals "_law_book_page" = some (some (.ref f__law_book_page)))
    (l__law_book_page : K.lookup f__law_book_page = some ⟨oc__law_book_page, od__law_book_page, .func (PySem.W.fnOf "_law_book_page" "_law_book_page" (defArgs s__law_book_page) (defBody s__law_book_page) (defScope s__law_book_page) .none kV__law_book_page dc__law_book_page pm__law_book_page an__law_book_page cd__law_book_page ct__law_book_page), sl__law_book_page⟩)
    (c__law_book_page : PySem.W.codeIn K cd__law_book_page "_law_book_page" = true)
    (k__law_book_page : PySem.W.keepIn K (.ref f__law_book_page) = true)
    (a__law_folk : PySem.W.nsIn K mainGlobals "_law_folk" = some (some (.ref f__law_folk)))
    (l__law_folk : K.lookup f__law_folk = some ⟨oc__law_folk, od__law_folk, .func (PySem.W.fnOf "_law_folk" "_law_folk" (defArgs s__law_folk) (defBody s__law_folk) (defScope s__law_folk) .none kV__law_folk dc__law_folk pm__law_folk an__law_folk cd__law_folk ct__law_folk), sl__law_folk⟩)
    (c__law_folk : PySem.W.codeIn K cd__law_folk "_law_folk" = true)
    (k__law_folk : PySem.W.keepIn K (.ref f__law_folk) = true)
    (a__law_case_page : PySem.W.nsIn K mainGlobals "_law_case_page" = some (some (.ref f__law_case_page)))
    (l__law_case_page : K.lookup f__law_case_page = some ⟨oc__law_case_page, od__law_case_page, .func (PySem.W.fnOf "_law_case_page" "_law_case_page" (defArgs s__law_case_page) (defBody s__law_case_page) (defScope s__law_case_page) .none kV__law_case_page dc__law_case_page pm__law_case_page an__law_case_page cd__law_case_page ct__law_case_page), sl__law_case_page⟩)
    (c__law_case_page : PySem.W.codeIn K cd__law_case_page "_law_case_page" = true)
    (k__law_case_page : PySem.W.keepIn K (.ref f__law_case_page) = true)
    (a_Book___repr__ : PySem.W.findIn K (.ref C_Book) "__repr__" = some (some (.ref f_Book___repr__)))
    (i_Book___repr__ : PySem.W.isFn K (.ref f_Book___repr__) = true)
    (l_Book___repr__ : K.lookup f_Book___repr__ = some ⟨oc_Book___repr__, od_Book___repr__, .func (PySem.W.fnOf "__repr__" "Book.__repr__" (defArgs s_Book___repr__) (defBody s_Book___repr__) (defScope s_Book___repr__) .none kV_Book___repr__ dc_Book___repr__ pm_Book___repr__ an_Book___repr__ cd_Book___repr__ ct_Book___repr__), sl_Book___repr__⟩)
    (c_Book___repr__ : PySem.W.codeIn K cd_Book___repr__ "Book.__repr__" = true)
    (k_Book___repr__ : PySem.W.keepIn K (.ref f_Book___repr__) = true)
    (a_Case___repr__ : PySem.W.findIn K (.ref C_Case) "__repr__" = some (some (.ref f_Case___repr__)))
    (i_Case___repr__ : PySem.W.isFn K (.ref f_Case___repr__) = true)
    (l_Case___repr__ : K.lookup f_Case___repr__ = some ⟨oc_Case___repr__, od_Case___repr__, .func (PySem.W.fnOf "__repr__" "Case.__repr__" (defArgs s_Case___repr__) (defBody s_Case___repr__) (defScope s_Case___repr__) .none kV_Case___repr__ dc_Case___repr__ pm_Case___repr__ an_Case___repr__ cd_Case___repr__ ct_Case___repr__), sl_Case___repr__⟩)
    (c_Case___repr__ : PySem.W.codeIn K cd_Case___repr__ "Case.__repr__" = true)
    (k_Case___repr__ : PySem.W.keepIn K (.ref f_Case___repr__) = true)
    (a__law_heard : PySem.W.nsIn K mainGlobals "_law_heard" = some (some (.ref f__law_heard)))
    (l__law_heard : K.lookup f__law_heard = some ⟨oc__law_heard, od__law_heard, .func (PySem.W.fnOf "_law_heard" "_law_heard" (defArgs s__law_heard) (defBody s__law_heard) (defScope s__law_heard) .none kV__law_heard dc__law_heard pm__law_heard an__law_heard cd__law_heard ct__law_heard), sl__law_heard⟩)
    (c__law_heard : PySem.W.codeIn K cd__law_heard "_law_heard" = true)
    (k__law_heard : PySem.W.keepIn K (.ref f__law_heard) = true)
    (a__law_all_heard : PySem.W.nsIn K mainGlobals "_law_all_heard" = some (some (.ref f__law_all_heard)))
    (l__law_all_heard : K.lookup f__law_all_heard = some ⟨oc__law_all_heard, od__law_all_heard, .func (PySem.W.fnOf "_law_all_heard" "_law_all_heard" (defArgs s__law_all_heard) (defBody s__law_all_heard) (defScope s__law_all_heard) .none kV__law_all_heard dc__law_all_heard pm__law_all_heard an__law_all_heard cd__law_all_heard ct__law_all_heard), sl__law_all_heard⟩)
    (c__law_all_heard : PySem.W.codeIn K cd__law_all_heard "_law_all_heard" = true)
    (k__law_all_heard : PySem.W.keepIn K (.ref f__law_all_heard) = true)
    (a__law_bad_orders : PySem.W.nsIn K mainGlobals "_law_bad_orders" = some (some (.ref f__law_bad_orders)))
    (l__law_bad_orders : K.lookup f__law_bad_orders = some ⟨oc__law_bad_orders, od__law_bad_orders, .func (PySem.W.fnOf "_law_bad_orders" "_law_bad_orders" (defArgs s__law_bad_orders) (defBody s__law_bad_orders) (defScope s__law_bad_orders) .none kV__law_bad_orders dc__law_bad_orders pm__law_bad_orders an__law_bad_orders cd__law_bad_orders ct__law_bad_orders), sl__law_bad_orders⟩)
    (c__law_bad_orders : PySem.W.codeIn K cd__law_bad_orders "_law_bad_orders" = true)
    (k__law_bad_orders : PySem.W.keepIn K (.ref f__law_bad_orders) = true)
    (a__law_names_right : PySem.W.nsIn K mainGlobals "_law_names_right" = some (some (.ref f__law_names_right)))
    (l__law_names_right : K.lookup f__law_names_right = some ⟨oc__law_names_right, od__law_names_right, .func (PySem.W.fnOf "_law_names_right" "_law_names_right" (defArgs s__law_names_right) (defBody s__law_names_right) (defScope s__law_names_right) .none kV__law_names_right dc__law_names_right pm__law_names_right an__law_names_right (.ref lc__law_names_right) ct__law_names_right), sl__law_names_right⟩)
    (c__law_names_right : PySem.W.codeIn K (.ref lc__law_names_right) "_law_names_right" = true)
    (k__law_names_right : PySem.W.keepIn K (.ref f__law_names_right) = true)
    (lk__law_names_right : K.lookup lc__law_names_right = some ⟨lo__law_names_right, ld__law_names_right, .fields lv__law_names_right, ls__law_names_right⟩)
    (lp__law_names_right : lv__law_names_right[11]? = some (.ref lt__law_names_right))
    (ln__law_names_right : K.lookup lt__law_names_right = none)
    (lr__law_names_right : ((recsOf q).any fun e => e.name == "_law_names_right") = true)
    (a_Case___init__ : PySem.W.findIn K (.ref C_Case) "__init__" = some (some (.ref f_Case___init__)))
    (i_Case___init__ : PySem.W.isFn K (.ref f_Case___init__) = true)
    (l_Case___init__ : K.lookup f_Case___init__ = some ⟨oc_Case___init__, od_Case___init__, .func (PySem.W.fnOf "__init__" "Case.__init__" (defArgs s_Case___init__) (defBody s_Case___init__) (defScope s_Case___init__) .none kV_Case___init__ dc_Case___init__ pm_Case___init__ an_Case___init__ cd_Case___init__ ct_Case___init__), sl_Case___init__⟩)
    (c_Case___init__ : PySem.W.codeIn K cd_Case___init__ "Case.__init__" = true)
    (k_Case___init__ : PySem.W.keepIn K (.ref f_Case___init__) = true)
    (a_Book___init__ : PySem.W.findIn K (.ref C_Book) "__init__" = some (some (.ref f_Book___init__)))
    (i_Book___init__ : PySem.W.isFn K (.ref f_Book___init__) = true)
    (l_Book___init__ : K.lookup f_Book___init__ = some ⟨oc_Book___init__, od_Book___init__, .func (PySem.W.fnOf "__init__" "Book.__init__" (defArgs s_Book___init__) (defBody s_Book___init__) (defScope s_Book___init__) .none kV_Book___init__ dc_Book___init__ pm_Book___init__ an_Book___init__ cd_Book___init__ ct_Book___init__), sl_Book___init__⟩)
    (c_Book___init__ : PySem.W.codeIn K cd_Book___init__ "Book.__init__" = true)
    (k_Book___init__ : PySem.W.keepIn K (.ref f_Book___init__) = true)
    (a_Case___str__ : PySem.W.findIn K (.ref C_Case) "__str__" = some (some (.ref f_Case___str__)))
    (i_Case___str__ : PySem.W.isFn K (.ref f_Case___str__) = true)
    (l_Case___str__ : K.lookup f_Case___str__ = some ⟨oc_Case___str__, od_Case___str__, .func (PySem.W.fnOf "__str__" "Case.__str__" (defArgs s_Case___str__) (defBody s_Case___str__) (defScope s_Case___str__) .none kV_Case___str__ dc_Case___str__ pm_Case___str__ an_Case___str__ cd_Case___str__ ct_Case___str__), sl_Case___str__⟩)
    (c_Case___str__ : PySem.W.codeIn K cd_Case___str__ "Case.__str__" = true)
    (k_Case___str__ : PySem.W.keepIn K (.ref f_Case___str__) = true)
    (a__law_right : PySem.W.nsIn K mainGlobals "_law_right" = some (some (.ref f__law_right)))
    (l__law_right : K.lookup f__law_right = some ⟨oc__law_right, od__law_right, .func (PySem.W.fnOf "_law_right" "_law_right" (defArgs s__law_right) (defBody s__law_right) (defScope s__law_right) .none kV__law_right dc__law_right pm__law_right an__law_right (.ref lc__law_right) ct__law_right), sl__law_right⟩)
    (c__law_right : PySem.W.codeIn K (.ref lc__law_right) "_law_right" = true)
    (k__law_right : PySem.W.keepIn K (.ref f__law_right) = true)
    (lk__law_right : K.lookup lc__law_right = some ⟨lo__law_right, ld__law_right, .fields lv__law_right, ls__law_right⟩)
    (lp__law_right : lv__law_right[11]? = some (.ref lt__law_right))
    (ln__law_right : K.lookup lt__law_right = none)
    (lr__law_right : ((recsOf q).any fun e => e.name == "_law_right") = true)
    (a_law : PySem.W.nsIn K mainGlobals "law" = some (some (.ref f_law)))
    (l_law : K.lookup f_law = some ⟨oc_law, od_law, .func (PySem.W.fnOf "law" "law" (defArgs s_law) (defBody s_law) (defScope s_law) .none kV_law dc_law pm_law an_law cd_law ct_law), sl_law⟩)
    (c_law : PySem.W.codeIn K cd_law "law" = true)
    (k_law : PySem.W.keepIn K (.ref f_law) = true)
    (z_abs : PySem.W.nsIn K mainGlobals "abs" = some none)
    (z_all : PySem.W.nsIn K mainGlobals "all" = some none)
    (z_bool : PySem.W.nsIn K mainGlobals "bool" = some none)
    (z_divmod : PySem.W.nsIn K mainGlobals "divmod" = some none)
    (z_enumerate : PySem.W.nsIn K mainGlobals "enumerate" = some none)
    (z_int : PySem.W.nsIn K mainGlobals "int" = some none)
    (z_isinstance : PySem.W.nsIn K mainGlobals "isinstance" = some none)
    (z_len : PySem.W.nsIn K mainGlobals "len" = some none)
    (z_list : PySem.W.nsIn K mainGlobals "list" = some none)
    (z_max : PySem.W.nsIn K mainGlobals "max" = some none)
    (z_min : PySem.W.nsIn K mainGlobals "min" = some none)
    (z_range : PySem.W.nsIn K mainGlobals "range" = some none)
    (z_repr : PySem.W.nsIn K mainGlobals "repr" = some none)
    (z_sorted : PySem.W.nsIn K mainGlobals "sorted" = some none)
    (z_str : PySem.W.nsIn K mainGlobals "str" = some none)
    (z_tuple : PySem.W.nsIn K mainGlobals "tuple" = some none)
    (z_zip : PySem.W.nsIn K mainGlobals "zip" = some none)
    (v_DIGITS : PySem.W.nsIn K mainGlobals "DIGITS" = some (some (.str "0123456789" t_DIGITS)))
    (v_LEAST_CANDIDATES : PySem.W.nsIn K mainGlobals "LEAST_CANDIDATES" = some (some (.int 2 t_LEAST_CANDIDATES)))
    (v_LETTERS : PySem.W.nsIn K mainGlobals "LETTERS" = some (some (.str "abcdefghijklmnopqrstuvwxyz" t_LETTERS)))
    (v_MOST_CANDIDATES : PySem.W.nsIn K mainGlobals "MOST_CANDIDATES" = some (some (.int 8 t_MOST_CANDIDATES)))
    (v_MOST_LETTERS : PySem.W.nsIn K mainGlobals "MOST_LETTERS" = some (some (.int 8 t_MOST_LETTERS)))
    (v_MOST_MARKS : PySem.W.nsIn K mainGlobals "MOST_MARKS" = some (some (.int 99 t_MOST_MARKS)))
    (v_MOST_ROWS : PySem.W.nsIn K mainGlobals "MOST_ROWS" = some (some (.int 20 t_MOST_ROWS)))
    (v_MOST_RULES : PySem.W.nsIn K mainGlobals "MOST_RULES" = some (some (.int 8 t_MOST_RULES)))
    (v_SIGNS : PySem.W.nsIn K mainGlobals "SIGNS" = some (some (.str "+-." t_SIGNS)))
    (no1 : PySem.W.findIn K (.ref C_Book) "_text" = some none)
    (no2 : PySem.W.findIn K (.ref C_Book) "_names" = some none)
    (no3 : PySem.W.findIn K (.ref C_Book) "_rows" = some none)
    (nq1 : PySem.W.findIn K (.ref C_Case) "_text" = some none)
    (nq2 : PySem.W.findIn K (.ref C_Case) "_names" = some none)
    (nq3 : PySem.W.findIn K (.ref C_Case) "_marks" = some none)
    (nq7 : PySem.W.typeIn K (.ref C_Case) = some (.type "type"))
    (nx1 : PySem.W.subIn K (.ref C_Book) (.ref C_Case) = some false)
    (nx3 : (C_Book == C_Case) = false)
    (nx5 : PySem.W.subIn K (.ref C_Case) (.type "str") = some false)
    (ltnd : [lt__law_names_right, lt__law_right].Nodup) :
    EndT l w K mg 20 fa "_law_cells" h (spLaw K) := by
  have e := hfa.symm.trans (PySem.W.mg_of X G a_law)
  cases e
  have o__law_names_right := tb "_law_names_right" f__law_names_right lr__law_names_right (PySem.W.mg_of X G a__law_names_right) lc__law_names_right lt__law_names_right _ _ _ _ _ _ l__law_names_right rfl rfl lk__law_names_right lp__law_names_right
  have o__law_right := tb "_law_right" f__law_right lr__law_right (PySem.W.mg_of X G a__law_right) lc__law_right lt__law_right _ _ _ _ _ _ l__law_right rfl rfl lk__law_right lp__law_right
  letI I : Tabs0 := ⟨fun a => List.lookup a [(lt__law_names_right, qn__law_names_right f__law_names_right lc__law_names_right), (lt__law_right, qn__law_right f__law_right lc__law_right)]⟩
  have ok : TabsOk [(lt__law_names_right, qn__law_names_right f__law_names_right lc__law_names_right), (lt__law_right, qn__law_right f__law_right lc__law_right)] := tabsOk_of ltnd
  let T : Txt K w mg := {
    C_Book := C_Book,
    m_Book := PySem.W.mg_of X G cm_Book,
    cl_Book := ⟨cpg_Book, chd_Book, cpo_Book, csa_Book⟩,
    C_Case := C_Case,
    m_Case := PySem.W.mg_of X G cm_Case,
    cl_Case := ⟨cpg_Case, chd_Case, cpo_Case, csa_Case⟩,
    C_InvalidCases := C_InvalidCases,
    m_InvalidCases := PySem.W.mg_of X G cm_InvalidCases,
    C_InvalidNumber := C_InvalidNumber,
    m_InvalidNumber := PySem.W.mg_of X G cm_InvalidNumber,
    C_InvalidOffers := C_InvalidOffers,
    m_InvalidOffers := PySem.W.mg_of X G cm_InvalidOffers,
    C_InvalidRanking := C_InvalidRanking,
    m_InvalidRanking := PySem.W.mg_of X G cm_InvalidRanking,
    C_InvalidRow := C_InvalidRow,
    m_InvalidRow := PySem.W.mg_of X G cm_InvalidRow,
    C_NoRanking := C_NoRanking,
    m_NoRanking := PySem.W.mg_of X G cm_NoRanking,
    C_NotABook := C_NotABook,
    m_NotABook := PySem.W.mg_of X G cm_NotABook,
    C_NotACase := C_NotACase,
    m_NotACase := PySem.W.mg_of X G cm_NotACase,
    C_TooMany := C_TooMany,
    m_TooMany := PySem.W.mg_of X G cm_TooMany,
    C_UnknownName := C_UnknownName,
    m_UnknownName := PySem.W.mg_of X G cm_UnknownName,
    xk_InvalidRanking := ⟨xga_InvalidRanking, xgt_InvalidRanking, xs_InvalidRanking, xh_InvalidRanking, xcl_InvalidRanking, ihn, iht, xo_InvalidRanking⟩,
    xh_InvalidRanking_NotABook := exm_one1 xs_NotABook xh_NotABook xt_NotABook xu_InvalidRanking_NotABook,
    xh_InvalidRanking_NotACase := exm_one1 xs_NotACase xh_NotACase xt_NotACase xu_InvalidRanking_NotACase,
    xh_InvalidRanking_UnknownName := exm_one1 xs_UnknownName xh_UnknownName xt_UnknownName xu_InvalidRanking_UnknownName,
    xh_InvalidRanking_InvalidRanking := exm_one1 xs_InvalidRanking xh_InvalidRanking xt_InvalidRanking xu_InvalidRanking_InvalidRanking,
    xe_InvalidRanking := exm_one1 xs_InvalidRanking xh_InvalidRanking xt_InvalidRanking xu_InvalidRanking_InvalidRanking,
    xo_InvalidRanking := ⟨⟨_, _, _, _, _, _, _, _, _, _, _, _, _, _, _, xL_InvalidRanking, xR_InvalidRanking⟩, xa_InvalidRanking, xs_InvalidRanking, xt_InvalidRanking, xp_InvalidRanking⟩,
    xf_InvalidRanking := ⟨xga_InvalidRanking, xgt_InvalidRanking, xs_InvalidRanking, xh_InvalidRanking⟩,
    xn_InvalidRanking_given := xn_InvalidRanking_given,
    xn_InvalidRanking_index := xn_InvalidRanking_index,
    xn_InvalidRanking_number := xn_InvalidRanking_number,
    xn_InvalidRanking_told := xn_InvalidRanking_told,
    xj_InvalidRanking := a_InvalidRanking___init__,
    xy_InvalidRanking := xy_InvalidRanking,
    xk_NotACase := ⟨xga_NotACase, xgt_NotACase, xs_NotACase, xh_NotACase, xcl_NotACase, ihn, iht, xo_NotACase⟩,
    xh_NotACase_NotABook := exm_one1 xs_NotABook xh_NotABook xt_NotABook xu_NotACase_NotABook,
    xh_NotACase_NotACase := exm_one1 xs_NotACase xh_NotACase xt_NotACase xu_NotACase_NotACase,
    xe_NotACase := exm_one1 xs_NotACase xh_NotACase xt_NotACase xu_NotACase_NotACase,
    xo_NotACase := ⟨⟨_, _, _, _, _, _, _, _, _, _, _, _, _, _, _, xL_NotACase, xR_NotACase⟩, xa_NotACase, xs_NotACase, xt_NotACase, xp_NotACase⟩,
    xf_NotACase := ⟨xga_NotACase, xgt_NotACase, xs_NotACase, xh_NotACase⟩,
    xn_NotACase_given := xn_NotACase_given,
    xn_NotACase_index := xn_NotACase_index,
    xn_NotACase_number := xn_NotACase_number,
    xn_NotACase_told := xn_NotACase_told,
    xj_NotACase := a_NotACase___init__,
    xy_NotACase := xy_NotACase,
    xk_UnknownName := ⟨xga_UnknownName, xgt_UnknownName, xs_UnknownName, xh_UnknownName, xcl_UnknownName, ihn, iht, xo_UnknownName⟩,
    xh_UnknownName_NotABook := exm_one1 xs_NotABook xh_NotABook xt_NotABook xu_UnknownName_NotABook,
    xh_UnknownName_NotACase := exm_one1 xs_NotACase xh_NotACase xt_NotACase xu_UnknownName_NotACase,
    xh_UnknownName_UnknownName := exm_one1 xs_UnknownName xh_UnknownName xt_UnknownName xu_UnknownName_UnknownName,
    xe_UnknownName := exm_one1 xs_UnknownName xh_UnknownName xt_UnknownName xu_UnknownName_UnknownName,
    xo_UnknownName := ⟨⟨_, _, _, _, _, _, _, _, _, _, _, _, _, _, _, xL_UnknownName, xR_UnknownName⟩, xa_UnknownName, xs_UnknownName, xt_UnknownName, xp_UnknownName⟩,
    xf_UnknownName := ⟨xga_UnknownName, xgt_UnknownName, xs_UnknownName, xh_UnknownName⟩,
    xn_UnknownName_given := xn_UnknownName_given,
    xn_UnknownName_index := xn_UnknownName_index,
    xn_UnknownName_number := xn_UnknownName_number,
    xn_UnknownName_told := xn_UnknownName_told,
    xj_UnknownName := a_UnknownName___init__,
    xy_UnknownName := xy_UnknownName,
    f_is_name := f_is_name,
    e_is_name := PySem.W.fnOf "is_name" "is_name" (defArgs s_is_name) (defBody s_is_name) (defScope s_is_name) .none kV_is_name dc_is_name pm_is_name an_is_name cd_is_name ct_is_name,
    F_is_name := fun_mk (st := s_is_name) l_is_name c_is_name k_is_name,
    b_is_name := Fun.binds (ps := ["value"]) (fun_mk (st := s_is_name) l_is_name c_is_name k_is_name) fun _ _ _ _ _ _ us hl => match us, hl with | [_], _ => rfl,
    m_is_name := PySem.W.mg_of X G a_is_name,
    f_are_names := f_are_names,
    e_are_names := PySem.W.fnOf "are_names" "are_names" (defArgs s_are_names) (defBody s_are_names) (defScope s_are_names) .none kV_are_names dc_are_names pm_are_names an_are_names cd_are_names ct_are_names,
    F_are_names := fun_mk (st := s_are_names) l_are_names c_are_names k_are_names,
    b_are_names := Fun.binds (ps := ["values"]) (fun_mk (st := s_are_names) l_are_names c_are_names k_are_names) fun _ _ _ _ _ _ us hl => match us, hl with | [_], _ => rfl,
    m_are_names := PySem.W.mg_of X G a_are_names,
    f_is_number := f_is_number,
    e_is_number := PySem.W.fnOf "is_number" "is_number" (defArgs s_is_number) (defBody s_is_number) (defScope s_is_number) .none kV_is_number dc_is_number pm_is_number an_is_number cd_is_number ct_is_number,
    F_is_number := fun_mk (st := s_is_number) l_is_number c_is_number k_is_number,
    b_is_number := Fun.binds (ps := ["word"]) (fun_mk (st := s_is_number) l_is_number c_is_number k_is_number) fun _ _ _ _ _ _ us hl => match us, hl with | [_], _ => rfl,
    m_is_number := PySem.W.mg_of X G a_is_number,
    f_is_any_row := f_is_any_row,
    e_is_any_row := PySem.W.fnOf "is_any_row" "is_any_row" (defArgs s_is_any_row) (defBody s_is_any_row) (defScope s_is_any_row) .none kV_is_any_row dc_is_any_row pm_is_any_row an_is_any_row cd_is_any_row ct_is_any_row,
    F_is_any_row := fun_mk (st := s_is_any_row) l_is_any_row c_is_any_row k_is_any_row,
    b_is_any_row := Fun.binds (ps := ["value"]) (fun_mk (st := s_is_any_row) l_is_any_row c_is_any_row k_is_any_row) fun _ _ _ _ _ _ us hl => match us, hl with | [_], _ => rfl,
    m_is_any_row := PySem.W.mg_of X G a_is_any_row,
    f_is_row := f_is_row,
    e_is_row := PySem.W.fnOf "is_row" "is_row" (defArgs s_is_row) (defBody s_is_row) (defScope s_is_row) .none kV_is_row dc_is_row pm_is_row an_is_row cd_is_row ct_is_row,
    F_is_row := fun_mk (st := s_is_row) l_is_row c_is_row k_is_row,
    b_is_row := Fun.binds (ps := ["value", "many"]) (fun_mk (st := s_is_row) l_is_row c_is_row k_is_row) fun _ _ _ _ _ _ us hl => match us, hl with | [_, _], _ => rfl,
    m_is_row := PySem.W.mg_of X G a_is_row,
    f_is_whole := f_is_whole,
    e_is_whole := PySem.W.fnOf "is_whole" "is_whole" (defArgs s_is_whole) (defBody s_is_whole) (defScope s_is_whole) .none kV_is_whole dc_is_whole pm_is_whole an_is_whole cd_is_whole ct_is_whole,
    F_is_whole := fun_mk (st := s_is_whole) l_is_whole c_is_whole k_is_whole,
    b_is_whole := Fun.binds (ps := ["value"]) (fun_mk (st := s_is_whole) l_is_whole c_is_whole k_is_whole) fun _ _ _ _ _ _ us hl => match us, hl with | [_], _ => rfl,
    m_is_whole := PySem.W.mg_of X G a_is_whole,
    f_is_ranking := f_is_ranking,
    e_is_ranking := PySem.W.fnOf "is_ranking" "is_ranking" (defArgs s_is_ranking) (defBody s_is_ranking) (defScope s_is_ranking) .none kV_is_ranking dc_is_ranking pm_is_ranking an_is_ranking cd_is_ranking ct_is_ranking,
    F_is_ranking := fun_mk (st := s_is_ranking) l_is_ranking c_is_ranking k_is_ranking,
    b_is_ranking := Fun.binds (ps := ["value", "many"]) (fun_mk (st := s_is_ranking) l_is_ranking c_is_ranking k_is_ranking) fun _ _ _ _ _ _ us hl => match us, hl with | [_, _], _ => rfl,
    m_is_ranking := PySem.W.mg_of X G a_is_ranking,
    f_InvalidRanking___init__ := f_InvalidRanking___init__,
    e_InvalidRanking___init__ := PySem.W.fnOf "__init__" "InvalidRanking.__init__" (defArgs s_InvalidRanking___init__) (defBody s_InvalidRanking___init__) (defScope s_InvalidRanking___init__) .none kV_InvalidRanking___init__ dc_InvalidRanking___init__ pm_InvalidRanking___init__ an_InvalidRanking___init__ cd_InvalidRanking___init__ ct_InvalidRanking___init__,
    F_InvalidRanking___init__ := fun_mk (st := s_InvalidRanking___init__) l_InvalidRanking___init__ c_InvalidRanking___init__ k_InvalidRanking___init__,
    b_InvalidRanking___init__ := Fun.binds (ps := ["self", "given"]) (fun_mk (st := s_InvalidRanking___init__) l_InvalidRanking___init__ c_InvalidRanking___init__ k_InvalidRanking___init__) fun _ _ _ _ _ _ us hl => match us, hl with | [_, _], _ => rfl,
    f_check_ranking := f_check_ranking,
    e_check_ranking := PySem.W.fnOf "check_ranking" "check_ranking" (defArgs s_check_ranking) (defBody s_check_ranking) (defScope s_check_ranking) .none kV_check_ranking dc_check_ranking pm_check_ranking an_check_ranking cd_check_ranking ct_check_ranking,
    F_check_ranking := fun_mk (st := s_check_ranking) l_check_ranking c_check_ranking k_check_ranking,
    b_check_ranking := Fun.binds (ps := ["ranking", "many"]) (fun_mk (st := s_check_ranking) l_check_ranking c_check_ranking k_check_ranking) fun _ _ _ _ _ _ us hl => match us, hl with | [_, _], _ => rfl,
    m_check_ranking := PySem.W.mg_of X G a_check_ranking,
    f_UnknownName___init__ := f_UnknownName___init__,
    e_UnknownName___init__ := PySem.W.fnOf "__init__" "UnknownName.__init__" (defArgs s_UnknownName___init__) (defBody s_UnknownName___init__) (defScope s_UnknownName___init__) .none kV_UnknownName___init__ dc_UnknownName___init__ pm_UnknownName___init__ an_UnknownName___init__ cd_UnknownName___init__ ct_UnknownName___init__,
    F_UnknownName___init__ := fun_mk (st := s_UnknownName___init__) l_UnknownName___init__ c_UnknownName___init__ k_UnknownName___init__,
    b_UnknownName___init__ := Fun.binds (ps := ["self", "given"]) (fun_mk (st := s_UnknownName___init__) l_UnknownName___init__ c_UnknownName___init__ k_UnknownName___init__) fun _ _ _ _ _ _ us hl => match us, hl with | [_, _], _ => rfl,
    f_check_known := f_check_known,
    e_check_known := PySem.W.fnOf "check_known" "check_known" (defArgs s_check_known) (defBody s_check_known) (defScope s_check_known) .none kV_check_known dc_check_known pm_check_known an_check_known cd_check_known ct_check_known,
    F_check_known := fun_mk (st := s_check_known) l_check_known c_check_known k_check_known,
    b_check_known := Fun.binds (ps := ["name", "names"]) (fun_mk (st := s_check_known) l_check_known c_check_known k_check_known) fun _ _ _ _ _ _ us hl => match us, hl with | [_, _], _ => rfl,
    m_check_known := PySem.W.mg_of X G a_check_known,
    f_read_book := f_read_book,
    e_read_book := PySem.W.fnOf "read_book" "read_book" (defArgs s_read_book) (defBody s_read_book) (defScope s_read_book) .none kV_read_book dc_read_book pm_read_book an_read_book cd_read_book ct_read_book,
    F_read_book := fun_mk (st := s_read_book) l_read_book c_read_book k_read_book,
    b_read_book := Fun.binds (ps := ["text"]) (fun_mk (st := s_read_book) l_read_book c_read_book k_read_book) fun _ _ _ _ _ _ us hl => match us, hl with | [_], _ => rfl,
    m_read_book := PySem.W.mg_of X G a_read_book,
    f_read_mark := f_read_mark,
    e_read_mark := PySem.W.fnOf "read_mark" "read_mark" (defArgs s_read_mark) (defBody s_read_mark) (defScope s_read_mark) .none kV_read_mark dc_read_mark pm_read_mark an_read_mark cd_read_mark ct_read_mark,
    F_read_mark := fun_mk (st := s_read_mark) l_read_mark c_read_mark k_read_mark,
    b_read_mark := Fun.binds (ps := ["word"]) (fun_mk (st := s_read_mark) l_read_mark c_read_mark k_read_mark) fun _ _ _ _ _ _ us hl => match us, hl with | [_], _ => rfl,
    m_read_mark := PySem.W.mg_of X G a_read_mark,
    f_read_candidates := f_read_candidates,
    e_read_candidates := PySem.W.fnOf "read_candidates" "read_candidates" (defArgs s_read_candidates) (defBody s_read_candidates) (defScope s_read_candidates) .none kV_read_candidates dc_read_candidates pm_read_candidates an_read_candidates cd_read_candidates ct_read_candidates,
    F_read_candidates := fun_mk (st := s_read_candidates) l_read_candidates c_read_candidates k_read_candidates,
    b_read_candidates := Fun.binds (ps := ["text", "read_word"]) (fun_mk (st := s_read_candidates) l_read_candidates c_read_candidates k_read_candidates) fun _ _ _ _ _ _ us hl => match us, hl with | [_, _], _ => rfl,
    m_read_candidates := PySem.W.mg_of X G a_read_candidates,
    f_read_case := f_read_case,
    e_read_case := PySem.W.fnOf "read_case" "read_case" (defArgs s_read_case) (defBody s_read_case) (defScope s_read_case) .none kV_read_case dc_read_case pm_read_case an_read_case cd_read_case ct_read_case,
    F_read_case := fun_mk (st := s_read_case) l_read_case c_read_case k_read_case,
    b_read_case := Fun.binds (ps := ["text"]) (fun_mk (st := s_read_case) l_read_case c_read_case k_read_case) fun _ _ _ _ _ _ us hl => match us, hl with | [_], _ => rfl,
    m_read_case := PySem.W.mg_of X G a_read_case,
    f_row_holds := f_row_holds,
    e_row_holds := PySem.W.fnOf "row_holds" "row_holds" (defArgs s_row_holds) (defBody s_row_holds) (defScope s_row_holds) .none kV_row_holds dc_row_holds pm_row_holds an_row_holds cd_row_holds ct_row_holds,
    F_row_holds := fun_mk (st := s_row_holds) l_row_holds c_row_holds k_row_holds,
    b_row_holds := Fun.binds (ps := ["row", "ranking"]) (fun_mk (st := s_row_holds) l_row_holds c_row_holds k_row_holds) fun _ _ _ _ _ _ us hl => match us, hl with | [_, _], _ => rfl,
    m_row_holds := PySem.W.mg_of X G a_row_holds,
    f_all_hold := f_all_hold,
    e_all_hold := PySem.W.fnOf "all_hold" "all_hold" (defArgs s_all_hold) (defBody s_all_hold) (defScope s_all_hold) .none kV_all_hold dc_all_hold pm_all_hold an_all_hold cd_all_hold ct_all_hold,
    F_all_hold := fun_mk (st := s_all_hold) l_all_hold c_all_hold k_all_hold,
    b_all_hold := Fun.binds (ps := ["rows", "ranking"]) (fun_mk (st := s_all_hold) l_all_hold c_all_hold k_all_hold) fun _ _ _ _ _ _ us hl => match us, hl with | [_, _], _ => rfl,
    m_all_hold := PySem.W.mg_of X G a_all_hold,
    f_sign_of := f_sign_of,
    e_sign_of := PySem.W.fnOf "sign_of" "sign_of" (defArgs s_sign_of) (defBody s_sign_of) (defScope s_sign_of) .none kV_sign_of dc_sign_of pm_sign_of an_sign_of cd_sign_of ct_sign_of,
    F_sign_of := fun_mk (st := s_sign_of) l_sign_of c_sign_of k_sign_of,
    b_sign_of := Fun.binds (ps := ["mark", "rival"]) (fun_mk (st := s_sign_of) l_sign_of c_sign_of k_sign_of) fun _ _ _ _ _ _ us hl => match us, hl with | [_, _], _ => rfl,
    m_sign_of := PySem.W.mg_of X G a_sign_of,
    f_row_between := f_row_between,
    e_row_between := PySem.W.fnOf "row_between" "row_between" (defArgs s_row_between) (defBody s_row_between) (defScope s_row_between) .none kV_row_between dc_row_between pm_row_between an_row_between cd_row_between ct_row_between,
    F_row_between := fun_mk (st := s_row_between) l_row_between c_row_between k_row_between,
    b_row_between := Fun.binds (ps := ["mine", "theirs"]) (fun_mk (st := s_row_between) l_row_between c_row_between k_row_between) fun _ _ _ _ _ _ us hl => match us, hl with | [_, _], _ => rfl,
    m_row_between := PySem.W.mg_of X G a_row_between,
    f_has_sign := f_has_sign,
    e_has_sign := PySem.W.fnOf "has_sign" "has_sign" (defArgs s_has_sign) (defBody s_has_sign) (defScope s_has_sign) .none kV_has_sign dc_has_sign pm_has_sign an_has_sign cd_has_sign ct_has_sign,
    F_has_sign := fun_mk (st := s_has_sign) l_has_sign c_has_sign k_has_sign,
    b_has_sign := Fun.binds (ps := ["row", "rules", "sign"]) (fun_mk (st := s_has_sign) l_has_sign c_has_sign k_has_sign) fun _ _ _ _ _ _ us hl => match us, hl with | [_, _, _], _ => rfl,
    m_has_sign := PySem.W.mg_of X G a_has_sign,
    f_split := f_split,
    e_split := PySem.W.fnOf "split" "split" (defArgs s_split) (defBody s_split) (defScope s_split) .none kV_split dc_split pm_split an_split cd_split ct_split,
    F_split := fun_mk (st := s_split) l_split c_split k_split,
    b_split := Fun.binds (ps := ["rows", "many"]) (fun_mk (st := s_split) l_split c_split k_split) fun _ _ _ _ _ _ us hl => match us, hl with | [_, _], _ => rfl,
    m_split := PySem.W.mg_of X G a_split,
    f_some_fits := f_some_fits,
    e_some_fits := PySem.W.fnOf "some_fits" "some_fits" (defArgs s_some_fits) (defBody s_some_fits) (defScope s_some_fits) .none kV_some_fits dc_some_fits pm_some_fits an_some_fits cd_some_fits ct_some_fits,
    F_some_fits := fun_mk (st := s_some_fits) l_some_fits c_some_fits k_some_fits,
    b_some_fits := Fun.binds (ps := ["rows", "many"]) (fun_mk (st := s_some_fits) l_some_fits c_some_fits k_some_fits) fun _ _ _ _ _ _ us hl => match us, hl with | [_, _], _ => rfl,
    m_some_fits := PySem.W.mg_of X G a_some_fits,
    f_NotACase___init__ := f_NotACase___init__,
    e_NotACase___init__ := PySem.W.fnOf "__init__" "NotACase.__init__" (defArgs s_NotACase___init__) (defBody s_NotACase___init__) (defScope s_NotACase___init__) .none kV_NotACase___init__ dc_NotACase___init__ pm_NotACase___init__ an_NotACase___init__ cd_NotACase___init__ ct_NotACase___init__,
    F_NotACase___init__ := fun_mk (st := s_NotACase___init__) l_NotACase___init__ c_NotACase___init__ k_NotACase___init__,
    b_NotACase___init__ := Fun.binds (ps := ["self", "given"]) (fun_mk (st := s_NotACase___init__) l_NotACase___init__ c_NotACase___init__ k_NotACase___init__) fun _ _ _ _ _ _ us hl => match us, hl with | [_, _], _ => rfl,
    f_check_case := f_check_case,
    e_check_case := PySem.W.fnOf "check_case" "check_case" (defArgs s_check_case) (defBody s_check_case) (defScope s_check_case) .none kV_check_case dc_check_case pm_check_case an_check_case cd_check_case ct_check_case,
    F_check_case := fun_mk (st := s_check_case) l_check_case c_check_case k_check_case,
    b_check_case := Fun.binds (ps := ["case"]) (fun_mk (st := s_check_case) l_check_case c_check_case k_check_case) fun _ _ _ _ _ _ us hl => match us, hl with | [_], _ => rfl,
    m_check_case := PySem.W.mg_of X G a_check_case,
    f_Case_marks := f_Case_marks,
    e_Case_marks := PySem.W.fnOf "marks" "Case.marks" (defArgs s_Case_marks) (defBody s_Case_marks) (defScope s_Case_marks) .none kV_Case_marks dc_Case_marks pm_Case_marks an_Case_marks cd_Case_marks ct_Case_marks,
    F_Case_marks := fun_mk (st := s_Case_marks) l_Case_marks c_Case_marks k_Case_marks,
    b_Case_marks := Fun.binds (ps := ["self"]) (fun_mk (st := s_Case_marks) l_Case_marks c_Case_marks k_Case_marks) fun _ _ _ _ _ _ us hl => match us, hl with | [_], _ => rfl,
    q_Case_marks := q_Case_marks,
    p_Case_marks := ⟨a_Case_marks, g_Case_marks, t_Case_marks, ⟨_, r_Case_marks⟩⟩,
    f_Case_names := f_Case_names,
    e_Case_names := PySem.W.fnOf "names" "Case.names" (defArgs s_Case_names) (defBody s_Case_names) (defScope s_Case_names) .none kV_Case_names dc_Case_names pm_Case_names an_Case_names cd_Case_names ct_Case_names,
    F_Case_names := fun_mk (st := s_Case_names) l_Case_names c_Case_names k_Case_names,
    b_Case_names := Fun.binds (ps := ["self"]) (fun_mk (st := s_Case_names) l_Case_names c_Case_names k_Case_names) fun _ _ _ _ _ _ us hl => match us, hl with | [_], _ => rfl,
    q_Case_names := q_Case_names,
    p_Case_names := ⟨a_Case_names, g_Case_names, t_Case_names, ⟨_, r_Case_names⟩⟩,
    f_row_against := f_row_against,
    e_row_against := PySem.W.fnOf "row_against" "row_against" (defArgs s_row_against) (defBody s_row_against) (defScope s_row_against) .none kV_row_against dc_row_against pm_row_against an_row_against cd_row_against ct_row_against,
    F_row_against := fun_mk (st := s_row_against) l_row_against c_row_against k_row_against,
    b_row_against := Fun.binds (ps := ["case", "one", "other"]) (fun_mk (st := s_row_against) l_row_against c_row_against k_row_against) fun _ _ _ _ _ _ us hl => match us, hl with | [_, _, _], _ => rfl,
    m_row_against := PySem.W.mg_of X G a_row_against,
    f_rows_of := f_rows_of,
    e_rows_of := PySem.W.fnOf "rows_of" "rows_of" (defArgs s_rows_of) (defBody s_rows_of) (defScope s_rows_of) .none kV_rows_of dc_rows_of pm_rows_of an_rows_of cd_rows_of ct_rows_of,
    F_rows_of := fun_mk (st := s_rows_of) l_rows_of c_rows_of k_rows_of,
    b_rows_of := Fun.binds (ps := ["case", "one"]) (fun_mk (st := s_rows_of) l_rows_of c_rows_of k_rows_of) fun _ _ _ _ _ _ us hl => match us, hl with | [_, _], _ => rfl,
    m_rows_of := PySem.W.mg_of X G a_rows_of,
    f_against := f_against,
    e_against := PySem.W.fnOf "against" "against" (defArgs s_against) (defBody s_against) (defScope s_against) .none kV_against dc_against pm_against an_against cd_against ct_against,
    F_against := fun_mk (st := s_against) l_against c_against k_against,
    b_against := Fun.binds (ps := ["case", "one", "other"]) (fun_mk (st := s_against) l_against c_against k_against) fun _ _ _ _ _ _ us hl => match us, hl with | [_, _, _], _ => rfl,
    m_against := PySem.W.mg_of X G a_against,
    f_winners := f_winners,
    e_winners := PySem.W.fnOf "winners" "winners" (defArgs s_winners) (defBody s_winners) (defScope s_winners) .none kV_winners dc_winners pm_winners an_winners cd_winners ct_winners,
    F_winners := fun_mk (st := s_winners) l_winners c_winners k_winners,
    b_winners := Fun.binds (ps := ["case", "ranking"]) (fun_mk (st := s_winners) l_winners c_winners k_winners) fun _ _ _ _ _ _ us hl => match us, hl with | [_, _], _ => rfl,
    m_winners := PySem.W.mg_of X G a_winners,
    f_told_by := f_told_by,
    e_told_by := PySem.W.fnOf "told_by" "told_by" (defArgs s_told_by) (defBody s_told_by) (defScope s_told_by) .none kV_told_by dc_told_by pm_told_by an_told_by cd_told_by ct_told_by,
    F_told_by := fun_mk (st := s_told_by) l_told_by c_told_by k_told_by,
    b_told_by := Fun.binds (ps := ["case", "one"]) (fun_mk (st := s_told_by) l_told_by c_told_by k_told_by) fun _ _ _ _ _ _ us hl => match us, hl with | [_, _], _ => rfl,
    m_told_by := PySem.W.mg_of X G a_told_by,
    f_barred := f_barred,
    e_barred := PySem.W.fnOf "barred" "barred" (defArgs s_barred) (defBody s_barred) (defScope s_barred) .none kV_barred dc_barred pm_barred an_barred cd_barred ct_barred,
    F_barred := fun_mk (st := s_barred) l_barred c_barred k_barred,
    b_barred := Fun.binds (ps := ["case"]) (fun_mk (st := s_barred) l_barred c_barred k_barred) fun _ _ _ _ _ _ us hl => match us, hl with | [_], _ => rfl,
    m_barred := PySem.W.mg_of X G a_barred,
    f__law_cell := f__law_cell,
    e__law_cell := PySem.W.fnOf "_law_cell" "_law_cell" (defArgs s__law_cell) (defBody s__law_cell) (defScope s__law_cell) .none kV__law_cell dc__law_cell pm__law_cell an__law_cell cd__law_cell ct__law_cell,
    F__law_cell := fun_mk (st := s__law_cell) l__law_cell c__law_cell k__law_cell,
    b__law_cell := Fun.binds (ps := ["_law_cells", "_law_k"]) (fun_mk (st := s__law_cell) l__law_cell c__law_cell k__law_cell) fun _ _ _ _ _ _ us hl => match us, hl with | [_, _], _ => rfl,
    m__law_cell := PySem.W.mg_of X G a__law_cell,
    f__law_well := f__law_well,
    e__law_well := PySem.W.fnOf "_law_well" "_law_well" (defArgs s__law_well) (defBody s__law_well) (defScope s__law_well) .none kV__law_well dc__law_well pm__law_well an__law_well cd__law_well ct__law_well,
    F__law_well := fun_mk (st := s__law_well) l__law_well c__law_well k__law_well,
    b__law_well := Fun.binds (ps := ["_law_cell_here"]) (fun_mk (st := s__law_well) l__law_well c__law_well k__law_well) fun _ _ _ _ _ _ us hl => match us, hl with | [_], _ => rfl,
    m__law_well := PySem.W.mg_of X G a__law_well,
    f__law_dip := f__law_dip,
    e__law_dip := PySem.W.fnOf "_law_dip" "_law_dip" (defArgs s__law_dip) (defBody s__law_dip) (defScope s__law_dip) .none kV__law_dip dc__law_dip pm__law_dip an__law_dip cd__law_dip ct__law_dip,
    F__law_dip := fun_mk (st := s__law_dip) l__law_dip c__law_dip k__law_dip,
    b__law_dip := Fun.binds (ps := ["_law_jar", "_law_many"]) (fun_mk (st := s__law_dip) l__law_dip c__law_dip k__law_dip) fun _ _ _ _ _ _ us hl => match us, hl with | [_, _], _ => rfl,
    m__law_dip := PySem.W.mg_of X G a__law_dip,
    f__law_pick := f__law_pick,
    e__law_pick := PySem.W.fnOf "_law_pick" "_law_pick" (defArgs s__law_pick) (defBody s__law_pick) (defScope s__law_pick) .none kV__law_pick dc__law_pick pm__law_pick an__law_pick cd__law_pick ct__law_pick,
    F__law_pick := fun_mk (st := s__law_pick) l__law_pick c__law_pick k__law_pick,
    b__law_pick := Fun.binds (ps := ["_law_jar", "_law_things"]) (fun_mk (st := s__law_pick) l__law_pick c__law_pick k__law_pick) fun _ _ _ _ _ _ us hl => match us, hl with | [_, _], _ => rfl,
    m__law_pick := PySem.W.mg_of X G a__law_pick,
    f__law_tags := f__law_tags,
    e__law_tags := PySem.W.fnOf "_law_tags" "_law_tags" (defArgs s__law_tags) (defBody s__law_tags) (defScope s__law_tags) .none kV__law_tags dc__law_tags pm__law_tags an__law_tags cd__law_tags ct__law_tags,
    F__law_tags := fun_mk (st := s__law_tags) l__law_tags c__law_tags k__law_tags,
    b__law_tags := Fun.binds (ps := ["_law_jar", "_law_many"]) (fun_mk (st := s__law_tags) l__law_tags c__law_tags k__law_tags) fun _ _ _ _ _ _ us hl => match us, hl with | [_, _], _ => rfl,
    m__law_tags := PySem.W.mg_of X G a__law_tags,
    f__law_book_page := f__law_book_page,
    e__law_book_page := PySem.W.fnOf "_law_book_page" "_law_book_page" (defArgs s__law_book_page) (defBody s__law_book_page) (defScope s__law_book_page) .none kV__law_book_page dc__law_book_page pm__law_book_page an__law_book_page cd__law_book_page ct__law_book_page,
    F__law_book_page := fun_mk (st := s__law_book_page) l__law_book_page c__law_book_page k__law_book_page,
    b__law_book_page := Fun.binds (ps := ["_law_tags_here", "_law_rows"]) (fun_mk (st := s__law_book_page) l__law_book_page c__law_book_page k__law_book_page) fun _ _ _ _ _ _ us hl => match us, hl with | [_, _], _ => rfl,
    m__law_book_page := PySem.W.mg_of X G a__law_book_page,
    f__law_folk := f__law_folk,
    e__law_folk := PySem.W.fnOf "_law_folk" "_law_folk" (defArgs s__law_folk) (defBody s__law_folk) (defScope s__law_folk) .none kV__law_folk dc__law_folk pm__law_folk an__law_folk cd__law_folk ct__law_folk,
    F__law_folk := fun_mk (st := s__law_folk) l__law_folk c__law_folk k__law_folk,
    b__law_folk := Fun.binds (ps := ["_law_jar", "_law_many", "_law_least", "_law_most"]) (fun_mk (st := s__law_folk) l__law_folk c__law_folk k__law_folk) fun _ _ _ _ _ _ us hl => match us, hl with | [_, _, _, _], _ => rfl,
    m__law_folk := PySem.W.mg_of X G a__law_folk,
    f__law_case_page := f__law_case_page,
    e__law_case_page := PySem.W.fnOf "_law_case_page" "_law_case_page" (defArgs s__law_case_page) (defBody s__law_case_page) (defScope s__law_case_page) .none kV__law_case_page dc__law_case_page pm__law_case_page an__law_case_page cd__law_case_page ct__law_case_page,
    F__law_case_page := fun_mk (st := s__law_case_page) l__law_case_page c__law_case_page k__law_case_page,
    b__law_case_page := Fun.binds (ps := ["_law_folk_here"]) (fun_mk (st := s__law_case_page) l__law_case_page c__law_case_page k__law_case_page) fun _ _ _ _ _ _ us hl => match us, hl with | [_], _ => rfl,
    m__law_case_page := PySem.W.mg_of X G a__law_case_page,
    f_Book___repr__ := f_Book___repr__,
    e_Book___repr__ := PySem.W.fnOf "__repr__" "Book.__repr__" (defArgs s_Book___repr__) (defBody s_Book___repr__) (defScope s_Book___repr__) .none kV_Book___repr__ dc_Book___repr__ pm_Book___repr__ an_Book___repr__ cd_Book___repr__ ct_Book___repr__,
    F_Book___repr__ := fun_mk (st := s_Book___repr__) l_Book___repr__ c_Book___repr__ k_Book___repr__,
    b_Book___repr__ := Fun.binds (ps := ["self"]) (fun_mk (st := s_Book___repr__) l_Book___repr__ c_Book___repr__ k_Book___repr__) fun _ _ _ _ _ _ us hl => match us, hl with | [_], _ => rfl,
    h_Book___repr__ := ⟨a_Book___repr__, i_Book___repr__, k_Book___repr__⟩,
    f_Case___repr__ := f_Case___repr__,
    e_Case___repr__ := PySem.W.fnOf "__repr__" "Case.__repr__" (defArgs s_Case___repr__) (defBody s_Case___repr__) (defScope s_Case___repr__) .none kV_Case___repr__ dc_Case___repr__ pm_Case___repr__ an_Case___repr__ cd_Case___repr__ ct_Case___repr__,
    F_Case___repr__ := fun_mk (st := s_Case___repr__) l_Case___repr__ c_Case___repr__ k_Case___repr__,
    b_Case___repr__ := Fun.binds (ps := ["self"]) (fun_mk (st := s_Case___repr__) l_Case___repr__ c_Case___repr__ k_Case___repr__) fun _ _ _ _ _ _ us hl => match us, hl with | [_], _ => rfl,
    h_Case___repr__ := ⟨a_Case___repr__, i_Case___repr__, k_Case___repr__⟩,
    f__law_heard := f__law_heard,
    e__law_heard := PySem.W.fnOf "_law_heard" "_law_heard" (defArgs s__law_heard) (defBody s__law_heard) (defScope s__law_heard) .none kV__law_heard dc__law_heard pm__law_heard an__law_heard cd__law_heard ct__law_heard,
    F__law_heard := fun_mk (st := s__law_heard) l__law_heard c__law_heard k__law_heard,
    b__law_heard := Fun.binds (ps := ["_law_act"]) (fun_mk (st := s__law_heard) l__law_heard c__law_heard k__law_heard) fun _ _ _ _ _ _ us hl => match us, hl with | [_], _ => rfl,
    m__law_heard := PySem.W.mg_of X G a__law_heard,
    f__law_all_heard := f__law_all_heard,
    e__law_all_heard := PySem.W.fnOf "_law_all_heard" "_law_all_heard" (defArgs s__law_all_heard) (defBody s__law_all_heard) (defScope s__law_all_heard) .none kV__law_all_heard dc__law_all_heard pm__law_all_heard an__law_all_heard cd__law_all_heard ct__law_all_heard,
    F__law_all_heard := fun_mk (st := s__law_all_heard) l__law_all_heard c__law_all_heard k__law_all_heard,
    b__law_all_heard := Fun.binds (ps := ["_law_acts", "_law_due"]) (fun_mk (st := s__law_all_heard) l__law_all_heard c__law_all_heard k__law_all_heard) fun _ _ _ _ _ _ us hl => match us, hl with | [_, _], _ => rfl,
    m__law_all_heard := PySem.W.mg_of X G a__law_all_heard,
    f__law_bad_orders := f__law_bad_orders,
    e__law_bad_orders := PySem.W.fnOf "_law_bad_orders" "_law_bad_orders" (defArgs s__law_bad_orders) (defBody s__law_bad_orders) (defScope s__law_bad_orders) .none kV__law_bad_orders dc__law_bad_orders pm__law_bad_orders an__law_bad_orders cd__law_bad_orders ct__law_bad_orders,
    F__law_bad_orders := fun_mk (st := s__law_bad_orders) l__law_bad_orders c__law_bad_orders k__law_bad_orders,
    b__law_bad_orders := Fun.binds (ps := ["_law_many"]) (fun_mk (st := s__law_bad_orders) l__law_bad_orders c__law_bad_orders k__law_bad_orders) fun _ _ _ _ _ _ us hl => match us, hl with | [_], _ => rfl,
    m__law_bad_orders := PySem.W.mg_of X G a__law_bad_orders,
    f__law_names_right := f__law_names_right,
    e__law_names_right := PySem.W.fnOf "_law_names_right" "_law_names_right" (defArgs s__law_names_right) (defBody s__law_names_right) (defScope s__law_names_right) .none kV__law_names_right dc__law_names_right pm__law_names_right an__law_names_right (.ref lc__law_names_right) ct__law_names_right,
    F__law_names_right := fun_mk (st := s__law_names_right) l__law_names_right c__law_names_right k__law_names_right,
    b__law_names_right := Fun.binds (ps := ["_law_mine", "_law_folk_here"]) (fun_mk (st := s__law_names_right) l__law_names_right c__law_names_right k__law_names_right) fun _ _ _ _ _ _ us hl => match us, hl with | [_, _], _ => rfl,
    lc__law_names_right := lc__law_names_right,
    lt__law_names_right := lt__law_names_right,
    FC__law_names_right := ⟨_, _, _, _, _, _, _, _, rfl, l__law_names_right, c__law_names_right⟩,
    m__law_names_right := PySem.W.mg_of X G a__law_names_right,
    f_Case___init__ := f_Case___init__,
    e_Case___init__ := PySem.W.fnOf "__init__" "Case.__init__" (defArgs s_Case___init__) (defBody s_Case___init__) (defScope s_Case___init__) .none kV_Case___init__ dc_Case___init__ pm_Case___init__ an_Case___init__ cd_Case___init__ ct_Case___init__,
    F_Case___init__ := fun_mk (st := s_Case___init__) l_Case___init__ c_Case___init__ k_Case___init__,
    b_Case___init__ := Fun.binds (ps := ["self", "text"]) (fun_mk (st := s_Case___init__) l_Case___init__ c_Case___init__ k_Case___init__) fun _ _ _ _ _ _ us hl => match us, hl with | [_, _], _ => rfl,
    mk_Case := ⟨cmk_Case, a_Case___init__, i_Case___init__, ckc_Case⟩,
    f_Book___init__ := f_Book___init__,
    e_Book___init__ := PySem.W.fnOf "__init__" "Book.__init__" (defArgs s_Book___init__) (defBody s_Book___init__) (defScope s_Book___init__) .none kV_Book___init__ dc_Book___init__ pm_Book___init__ an_Book___init__ cd_Book___init__ ct_Book___init__,
    F_Book___init__ := fun_mk (st := s_Book___init__) l_Book___init__ c_Book___init__ k_Book___init__,
    b_Book___init__ := Fun.binds (ps := ["self", "text"]) (fun_mk (st := s_Book___init__) l_Book___init__ c_Book___init__ k_Book___init__) fun _ _ _ _ _ _ us hl => match us, hl with | [_, _], _ => rfl,
    mk_Book := ⟨cmk_Book, a_Book___init__, i_Book___init__, ckc_Book⟩,
    f_Case___str__ := f_Case___str__,
    e_Case___str__ := PySem.W.fnOf "__str__" "Case.__str__" (defArgs s_Case___str__) (defBody s_Case___str__) (defScope s_Case___str__) .none kV_Case___str__ dc_Case___str__ pm_Case___str__ an_Case___str__ cd_Case___str__ ct_Case___str__,
    F_Case___str__ := fun_mk (st := s_Case___str__) l_Case___str__ c_Case___str__ k_Case___str__,
    b_Case___str__ := Fun.binds (ps := ["self"]) (fun_mk (st := s_Case___str__) l_Case___str__ c_Case___str__ k_Case___str__) fun _ _ _ _ _ _ us hl => match us, hl with | [_], _ => rfl,
    h_Case___str__ := ⟨a_Case___str__, i_Case___str__, k_Case___str__⟩,
    f__law_right := f__law_right,
    e__law_right := PySem.W.fnOf "_law_right" "_law_right" (defArgs s__law_right) (defBody s__law_right) (defScope s__law_right) .none kV__law_right dc__law_right pm__law_right an__law_right (.ref lc__law_right) ct__law_right,
    F__law_right := fun_mk (st := s__law_right) l__law_right c__law_right k__law_right,
    b__law_right := Fun.binds (ps := ["_law_jar"]) (fun_mk (st := s__law_right) l__law_right c__law_right k__law_right) fun _ _ _ _ _ _ us hl => match us, hl with | [_], _ => rfl,
    lc__law_right := lc__law_right,
    lt__law_right := lt__law_right,
    FC__law_right := ⟨_, _, _, _, _, _, _, _, rfl, l__law_right, c__law_right⟩,
    m__law_right := PySem.W.mg_of X G a__law_right,
    f_law := fa,
    e_law := PySem.W.fnOf "law" "law" (defArgs s_law) (defBody s_law) (defScope s_law) .none kV_law dc_law pm_law an_law cd_law ct_law,
    F_law := fun_mk (st := s_law) l_law c_law k_law,
    b_law := Fun.binds (ps := ["_law_cells"]) (fun_mk (st := s_law) l_law c_law k_law) fun _ _ _ _ _ _ us hl => match us, hl with | [_], _ => rfl,
    m_law := PySem.W.mg_of X G a_law,
    n_abs := PySem.W.mg_none_of X G z_abs,
    n_all := PySem.W.mg_none_of X G z_all,
    n_bool := PySem.W.mg_none_of X G z_bool,
    n_divmod := PySem.W.mg_none_of X G z_divmod,
    n_enumerate := PySem.W.mg_none_of X G z_enumerate,
    n_int := PySem.W.mg_none_of X G z_int,
    n_isinstance := PySem.W.mg_none_of X G z_isinstance,
    n_len := PySem.W.mg_none_of X G z_len,
    n_list := PySem.W.mg_none_of X G z_list,
    n_max := PySem.W.mg_none_of X G z_max,
    n_min := PySem.W.mg_none_of X G z_min,
    n_range := PySem.W.mg_none_of X G z_range,
    n_repr := PySem.W.mg_none_of X G z_repr,
    n_sorted := PySem.W.mg_none_of X G z_sorted,
    n_str := PySem.W.mg_none_of X G z_str,
    n_tuple := PySem.W.mg_none_of X G z_tuple,
    n_zip := PySem.W.mg_none_of X G z_zip,
    t_DIGITS := t_DIGITS,
    c_DIGITS := PySem.W.mg_of X G v_DIGITS,
    t_LEAST_CANDIDATES := t_LEAST_CANDIDATES,
    c_LEAST_CANDIDATES := PySem.W.mg_of X G v_LEAST_CANDIDATES,
    t_LETTERS := t_LETTERS,
    c_LETTERS := PySem.W.mg_of X G v_LETTERS,
    t_MOST_CANDIDATES := t_MOST_CANDIDATES,
    c_MOST_CANDIDATES := PySem.W.mg_of X G v_MOST_CANDIDATES,
    t_MOST_LETTERS := t_MOST_LETTERS,
    c_MOST_LETTERS := PySem.W.mg_of X G v_MOST_LETTERS,
    t_MOST_MARKS := t_MOST_MARKS,
    c_MOST_MARKS := PySem.W.mg_of X G v_MOST_MARKS,
    t_MOST_ROWS := t_MOST_ROWS,
    c_MOST_ROWS := PySem.W.mg_of X G v_MOST_ROWS,
    t_MOST_RULES := t_MOST_RULES,
    c_MOST_RULES := PySem.W.mg_of X G v_MOST_RULES,
    t_SIGNS := t_SIGNS,
    c_SIGNS := PySem.W.mg_of X G v_SIGNS,
    k_against_other_one_case := kb_against_other_one_case l_against c_against k_against,
    k_told_by_one_case := kb_told_by_one_case l_told_by c_told_by k_told_by,
    k_winners_ranking_case := kb_winners_ranking_case l_winners c_winners k_winners,
    k_barred_case := kb_barred_case l_barred c_barred k_barred,
    no_text := no1,
    no_names := no2,
    no_rows := no3,
    ins_Book := ⟨⟨cpg_Book, chd_Book, cpo_Book, csa_Book⟩, cia_Book, ihn, iht, cim_Book⟩,
    cno_text := nq1,
    cno_names := nq2,
    cno_marks := nq3,
    ins_Case := ⟨⟨cpg_Case, chd_Case, cpo_Case, csa_Case⟩, cia_Case, ihn, iht, cim_Case⟩,
    or_Book := a_Book___repr__,
    ir_Book := i_Book___repr__,
    or_Case := a_Case___repr__,
    ir_Case := i_Case___repr__,
    os_Case := a_Case___str__,
    is_Case := i_Case___str__,
    ct_Case := nq7,
    sub_BC := nx1,
    ne_BC := nx3,
    kt_Cs := kit_cs nx5,
    tts := [(lt__law_names_right, qn__law_names_right f__law_names_right lc__law_names_right), (lt__law_right, qn__law_right f__law_right lc__law_right)], tabs := ok, hm__law_names_right := List.mem_cons_self, hm__law_right := (List.mem_cons_of_mem _ List.mem_cons_self) }
  exact ⟨T.e_law, I, [(lc__law_names_right, lt__law_names_right, qn__law_names_right f__law_names_right lc__law_names_right), (lc__law_right, lt__law_right, qn__law_right f__law_right lc__law_right)], fun s v => .of_eq rfl, ok, (f_cons o__law_names_right.1 (f_cons o__law_right.1 f_nil)), (f_cons ln__law_names_right (f_cons ln__law_right f_nil)), (f_cons o__law_names_right.2 (f_cons o__law_right.2 f_nil)), fun base hb => d_law T (hb _ List.mem_cons_self) (hb _ (List.mem_cons_of_mem _ List.mem_cons_self))⟩
end K27

open PySem PySem.W PyProof.Rows in
set_option maxRecDepth 100000 in
set_option maxHeartbeats 0 in
theorem PySem.Challenge.cw_rankedrules_k27_cases_refused_holds : PySem.Challenge.rw_rankedrules_k27_cases_refused.Holds := by
  w_on; o_law; k_head; (case hw => w_witness2)
  k_fill
  refine Dw.walk_GT (l := PySem.Challenge.rw_rankedrules_k27_cases_refused) (k := 20) (x := "_law_cells") (sp := K27.spLaw) rfl rfl ⟨rfl, by decide, by decide⟩ (fun w h Y => PySem.W.km_in_of Y) (fun K ns h hb => ⟨ns, rfl, ⟨h, hb⟩, fun d h => h⟩) ?F
  case F =>
    intro w mg fa h KX G hmg tb
    refine' K27.all_mk KX G hmg tb ?cm_Book ?cpg_Book ?chd_Book ?cpo_Book ?csa_Book ?cmk_Book ?ckc_Book ?cia_Book ?cim_Book ?cm_Case ?cpg_Case ?chd_Case ?cpo_Case ?csa_Case ?cmk_Case ?ckc_Case ?cia_Case ?cim_Case ?cm_InvalidCases ?cm_InvalidNumber ?cm_InvalidOffers ?cm_InvalidRanking ?cm_InvalidRow ?cm_NoRanking ?cm_NotABook ?cm_NotACase ?cm_TooMany ?cm_UnknownName ?xh_InvalidCases ?xt_InvalidCases ?xh_InvalidNumber ?xt_InvalidNumber ?xh_InvalidOffers ?xt_InvalidOffers ?xh_InvalidRanking ?xt_InvalidRanking ?xh_InvalidRow ?xt_InvalidRow ?xh_NoRanking ?xt_NoRanking ?xh_NotABook ?xt_NotABook ?xh_NotACase ?xt_NotACase ?xh_TooMany ?xt_TooMany ?xh_UnknownName ?xt_UnknownName ?xs_InvalidCases ?xs_InvalidNumber ?xs_InvalidOffers ?xs_InvalidRanking ?xs_InvalidRow ?xs_NoRanking ?xs_NotABook ?xs_NotACase ?xs_TooMany ?xs_UnknownName ?xga_InvalidRanking ?xgt_InvalidRanking ?xcl_InvalidRanking ?xo_InvalidRanking ?xp_InvalidRanking ?xu_InvalidRanking_InvalidRanking ?xu_InvalidRanking_NotABook ?xu_InvalidRanking_NotACase ?xu_InvalidRanking_UnknownName ?xL_InvalidRanking ?xR_InvalidRanking ?xa_InvalidRanking ?xn_InvalidRanking_given ?xn_InvalidRanking_index ?xn_InvalidRanking_number ?xn_InvalidRanking_told ?xga_NotACase ?xgt_NotACase ?xcl_NotACase ?xo_NotACase ?xp_NotACase ?xu_NotACase_NotACase ?xu_NotACase_NotABook ?xL_NotACase ?xR_NotACase ?xa_NotACase ?xn_NotACase_given ?xn_NotACase_index ?xn_NotACase_number ?xn_NotACase_told ?xga_UnknownName ?xgt_UnknownName ?xcl_UnknownName ?xo_UnknownName ?xp_UnknownName ?xu_UnknownName_UnknownName ?xu_UnknownName_NotABook ?xu_UnknownName_NotACase ?xL_UnknownName ?xR_UnknownName ?xa_UnknownName ?xn_UnknownName_given ?xn_UnknownName_index ?xn_UnknownName_number ?xn_UnknownName_told ?ihn ?iht ?a_is_name ?l_is_name ?c_is_name ?k_is_name ?a_are_names ?l_are_names ?c_are_names ?k_are_names ?a_is_number ?l_is_number ?c_is_number ?k_is_number ?a_is_any_row ?l_is_any_row ?c_is_any_row ?k_is_any_row ?a_is_row ?l_is_row ?c_is_row ?k_is_row ?a_is_whole ?l_is_whole ?c_is_whole ?k_is_whole ?a_is_ranking ?l_is_ranking ?c_is_ranking ?k_is_ranking ?a_InvalidRanking___init__ ?i_InvalidRanking___init__ ?xy_InvalidRanking ?l_InvalidRanking___init__ ?c_InvalidRanking___init__ ?k_InvalidRanking___init__ ?a_check_ranking ?l_check_ranking ?c_check_ranking ?k_check_ranking ?a_UnknownName___init__ ?i_UnknownName___init__ ?xy_UnknownName ?l_UnknownName___init__ ?c_UnknownName___init__ ?k_UnknownName___init__ ?a_check_known ?l_check_known ?c_check_known ?k_check_known ?a_read_book ?l_read_book ?c_read_book ?k_read_book ?a_read_mark ?l_read_mark ?c_read_mark ?k_read_mark ?a_read_candidates ?l_read_candidates ?c_read_candidates ?k_read_candidates ?a_read_case ?l_read_case ?c_read_case ?k_read_case ?a_row_holds ?l_row_holds ?c_row_holds ?k_row_holds ?a_all_hold ?l_all_hold ?c_all_hold ?k_all_hold ?a_sign_of ?l_sign_of ?c_sign_of ?k_sign_of ?a_row_between ?l_row_between ?c_row_between ?k_row_between ?a_has_sign ?l_has_sign ?c_has_sign ?k_has_sign ?a_split ?l_split ?c_split ?k_split ?a_some_fits ?l_some_fits ?c_some_fits ?k_some_fits ?a_NotACase___init__ ?i_NotACase___init__ ?xy_NotACase ?l_NotACase___init__ ?c_NotACase___init__ ?k_NotACase___init__ ?a_check_case ?l_check_case ?c_check_case ?k_check_case ?a_Case_marks ?g_Case_marks ?t_Case_marks ?r_Case_marks ?l_Case_marks ?c_Case_marks ?k_Case_marks ?a_Case_names ?g_Case_names ?t_Case_names ?r_Case_names ?l_Case_names ?c_Case_names ?k_Case_names ?a_row_against ?l_row_against ?c_row_against ?k_row_against ?a_rows_of ?l_rows_of ?c_rows_of ?k_rows_of ?a_against ?l_against ?c_against ?k_against ?a_winners ?l_winners ?c_winners ?k_winners ?a_told_by ?l_told_by ?c_told_by ?k_told_by ?a_barred ?l_barred ?c_barred ?k_barred ?a__law_cell ?l__law_cell ?c__law_cell ?k__law_cell ?a__law_well ?l__law_well ?c__law_well ?k__law_well ?a__law_dip ?l__law_dip ?c__law_dip ?k__law_dip ?a__law_pick ?l__law_pick ?c__law_pick ?k__law_pick ?a__law_tags ?l__law_tags ?c__law_tags ?k__law_tags ?a__law_book_page ?l__law_book_page ?c__law_book_page ?k__law_book_page ?a__law_folk ?l__law_folk ?c__law_folk ?k__law_folk ?a__law_case_page ?l__law_case_page ?c__law_case_page ?k__law_case_page ?a_Book___repr__ ?i_Book___repr__ ?l_Book___repr__ ?c_Book___repr__ ?k_Book___repr__ ?a_Case___repr__ ?i_Case___repr__ ?l_Case___repr__ ?c_Case___repr__ ?k_Case___repr__ ?a__law_heard ?l__law_heard ?c__law_heard ?k__law_heard ?a__law_all_heard ?l__law_all_heard ?c__law_all_heard ?k__law_all_heard ?a__law_bad_orders ?l__law_bad_orders ?c__law_bad_orders ?k__law_bad_orders ?a__law_names_right ?l__law_names_right ?c__law_names_right ?k__law_names_right ?lk__law_names_right ?lp__law_names_right ?ln__law_names_right ?lr__law_names_right ?a_Case___init__ ?i_Case___init__ ?l_Case___init__ ?c_Case___init__ ?k_Case___init__ ?a_Book___init__ ?i_Book___init__ ?l_Book___init__ ?c_Book___init__ ?k_Book___init__ ?a_Case___str__ ?i_Case___str__ ?l_Case___str__ ?c_Case___str__ ?k_Case___str__ ?a__law_right ?l__law_right ?c__law_right ?k__law_right ?lk__law_right ?lp__law_right ?ln__law_right ?lr__law_right ?a_law ?l_law ?c_law ?k_law ?z_abs ?z_all ?z_bool ?z_divmod ?z_enumerate ?z_int ?z_isinstance ?z_len ?z_list ?z_max ?z_min ?z_range ?z_repr ?z_sorted ?z_str ?z_tuple ?z_zip ?v_DIGITS ?v_LEAST_CANDIDATES ?v_LETTERS ?v_MOST_CANDIDATES ?v_MOST_LETTERS ?v_MOST_MARKS ?v_MOST_ROWS ?v_MOST_RULES ?v_SIGNS ?no1 ?no2 ?no3 ?nq1 ?nq2 ?nq3 ?nq7 ?nx1 ?nx3 ?nx5 ?ltnd
    (case cm_Book => k_is)
    (case cpg_Book => k_is)
    (case chd_Book => k_is)
    (case cpo_Book => k_is)
    (case csa_Book => k_is)
    (case cmk_Book => k_is)
    (case ckc_Book => k_is)
    (case cia_Book => k_is)
    (case cim_Book => k_is)
    (case cm_Case => k_is)
    (case cpg_Case => k_is)
    (case chd_Case => k_is)
    (case cpo_Case => k_is)
    (case csa_Case => k_is)
    (case cmk_Case => k_is)
    (case ckc_Case => k_is)
    (case cia_Case => k_is)
    (case cim_Case => k_is)
    (case cm_InvalidCases => k_is)
    (case cm_InvalidNumber => k_is)
    (case cm_InvalidOffers => k_is)
    (case cm_InvalidRanking => k_is)
    (case cm_InvalidRow => k_is)
    (case cm_NoRanking => k_is)
    (case cm_NotABook => k_is)
    (case cm_NotACase => k_is)
    (case cm_TooMany => k_is)
    (case cm_UnknownName => k_is)
    (case xh_InvalidCases => k_is)
    (case xt_InvalidCases => k_is)
    (case xh_InvalidNumber => k_is)
    (case xt_InvalidNumber => k_is)
    (case xh_InvalidOffers => k_is)
    (case xt_InvalidOffers => k_is)
    (case xh_InvalidRanking => k_is)
    (case xt_InvalidRanking => k_is)
    (case xh_InvalidRow => k_is)
    (case xt_InvalidRow => k_is)
    (case xh_NoRanking => k_is)
    (case xt_NoRanking => k_is)
    (case xh_NotABook => k_is)
    (case xt_NotABook => k_is)
    (case xh_NotACase => k_is)
    (case xt_NotACase => k_is)
    (case xh_TooMany => k_is)
    (case xt_TooMany => k_is)
    (case xh_UnknownName => k_is)
    (case xt_UnknownName => k_is)
    (case xs_InvalidCases => k_is)
    (case xs_InvalidNumber => k_is)
    (case xs_InvalidOffers => k_is)
    (case xs_InvalidRanking => k_is)
    (case xs_InvalidRow => k_is)
    (case xs_NoRanking => k_is)
    (case xs_NotABook => k_is)
    (case xs_NotACase => k_is)
    (case xs_TooMany => k_is)
    (case xs_UnknownName => k_is)
    (case xga_InvalidRanking => k_is)
    (case xgt_InvalidRanking => k_is)
    (case xcl_InvalidRanking => k_is)
    (case xo_InvalidRanking => k_is)
    (case xp_InvalidRanking => k_is)
    (case xu_InvalidRanking_InvalidRanking => k_is)
    (case xu_InvalidRanking_NotABook => k_is)
    (case xu_InvalidRanking_NotACase => k_is)
    (case xu_InvalidRanking_UnknownName => k_is)
    (case xL_InvalidRanking => k_is)
    (case xR_InvalidRanking => first | rfl | decide +kernel)
    (case xa_InvalidRanking => k_is)
    (case xn_InvalidRanking_given => k_is)
    (case xn_InvalidRanking_index => k_is)
    (case xn_InvalidRanking_number => k_is)
    (case xn_InvalidRanking_told => k_is)
    (case xga_NotACase => k_is)
    (case xgt_NotACase => k_is)
    (case xcl_NotACase => k_is)
    (case xo_NotACase => k_is)
    (case xp_NotACase => k_is)
    (case xu_NotACase_NotACase => k_is)
    (case xu_NotACase_NotABook => k_is)
    (case xL_NotACase => k_is)
    (case xR_NotACase => first | rfl | decide +kernel)
    (case xa_NotACase => k_is)
    (case xn_NotACase_given => k_is)
    (case xn_NotACase_index => k_is)
    (case xn_NotACase_number => k_is)
    (case xn_NotACase_told => k_is)
    (case xga_UnknownName => k_is)
    (case xgt_UnknownName => k_is)
    (case xcl_UnknownName => k_is)
    (case xo_UnknownName => k_is)
    (case xp_UnknownName => k_is)
    (case xu_UnknownName_UnknownName => k_is)
    (case xu_UnknownName_NotABook => k_is)
    (case xu_UnknownName_NotACase => k_is)
    (case xL_UnknownName => k_is)
    (case xR_UnknownName => first | rfl | decide +kernel)
    (case xa_UnknownName => k_is)
    (case xn_UnknownName_given => k_is)
    (case xn_UnknownName_index => k_is)
    (case xn_UnknownName_number => k_is)
    (case xn_UnknownName_told => k_is)
    (case ihn => k_is)
    (case iht => k_is)
    (case a_is_name => k_is)
    (case l_is_name => k_is)
    (case c_is_name => k_is)
    (case k_is_name => k_is)
    (case a_are_names => k_is)
    (case l_are_names => k_is)
    (case c_are_names => k_is)
    (case k_are_names => k_is)
    (case a_is_number => k_is)
    (case l_is_number => k_is)
    (case c_is_number => k_is)
    (case k_is_number => k_is)
    (case a_is_any_row => k_is)
    (case l_is_any_row => k_is)
    (case c_is_any_row => k_is)
    (case k_is_any_row => k_is)
    (case a_is_row => k_is)
    (case l_is_row => k_is)
    (case c_is_row => k_is)
    (case k_is_row => k_is)
    (case a_is_whole => k_is)
    (case l_is_whole => k_is)
    (case c_is_whole => k_is)
    (case k_is_whole => k_is)
    (case a_is_ranking => k_is)
    (case l_is_ranking => k_is)
    (case c_is_ranking => k_is)
    (case k_is_ranking => k_is)
    (case a_InvalidRanking___init__ => k_is)
    (case i_InvalidRanking___init__ => k_is)
    (case xy_InvalidRanking => k_is)
    (case l_InvalidRanking___init__ => k_is)
    (case c_InvalidRanking___init__ => k_is)
    (case k_InvalidRanking___init__ => k_is)
    (case a_check_ranking => k_is)
    (case l_check_ranking => k_is)
    (case c_check_ranking => k_is)
    (case k_check_ranking => k_is)
    (case a_UnknownName___init__ => k_is)
    (case i_UnknownName___init__ => k_is)
    (case xy_UnknownName => k_is)
    (case l_UnknownName___init__ => k_is)
    (case c_UnknownName___init__ => k_is)
    (case k_UnknownName___init__ => k_is)
    (case a_check_known => k_is)
    (case l_check_known => k_is)
    (case c_check_known => k_is)
    (case k_check_known => k_is)
    (case a_read_book => k_is)
    (case l_read_book => k_is)
    (case c_read_book => k_is)
    (case k_read_book => k_is)
    (case a_read_mark => k_is)
    (case l_read_mark => k_is)
    (case c_read_mark => k_is)
    (case k_read_mark => k_is)
    (case a_read_candidates => k_is)
    (case l_read_candidates => k_is)
    (case c_read_candidates => k_is)
    (case k_read_candidates => k_is)
    (case a_read_case => k_is)
    (case l_read_case => k_is)
    (case c_read_case => k_is)
    (case k_read_case => k_is)
    (case a_row_holds => k_is)
    (case l_row_holds => k_is)
    (case c_row_holds => k_is)
    (case k_row_holds => k_is)
    (case a_all_hold => k_is)
    (case l_all_hold => k_is)
    (case c_all_hold => k_is)
    (case k_all_hold => k_is)
    (case a_sign_of => k_is)
    (case l_sign_of => k_is)
    (case c_sign_of => k_is)
    (case k_sign_of => k_is)
    (case a_row_between => k_is)
    (case l_row_between => k_is)
    (case c_row_between => k_is)
    (case k_row_between => k_is)
    (case a_has_sign => k_is)
    (case l_has_sign => k_is)
    (case c_has_sign => k_is)
    (case k_has_sign => k_is)
    (case a_split => k_is)
    (case l_split => k_is)
    (case c_split => k_is)
    (case k_split => k_is)
    (case a_some_fits => k_is)
    (case l_some_fits => k_is)
    (case c_some_fits => k_is)
    (case k_some_fits => k_is)
    (case a_NotACase___init__ => k_is)
    (case i_NotACase___init__ => k_is)
    (case xy_NotACase => k_is)
    (case l_NotACase___init__ => k_is)
    (case c_NotACase___init__ => k_is)
    (case k_NotACase___init__ => k_is)
    (case a_check_case => k_is)
    (case l_check_case => k_is)
    (case c_check_case => k_is)
    (case k_check_case => k_is)
    (case a_Case_marks => k_is)
    (case g_Case_marks => k_is)
    (case t_Case_marks => k_is)
    (case r_Case_marks => k_is)
    (case l_Case_marks => k_is)
    (case c_Case_marks => k_is)
    (case k_Case_marks => k_is)
    (case a_Case_names => k_is)
    (case g_Case_names => k_is)
    (case t_Case_names => k_is)
    (case r_Case_names => k_is)
    (case l_Case_names => k_is)
    (case c_Case_names => k_is)
    (case k_Case_names => k_is)
    (case a_row_against => k_is)
    (case l_row_against => k_is)
    (case c_row_against => k_is)
    (case k_row_against => k_is)
    (case a_rows_of => k_is)
    (case l_rows_of => k_is)
    (case c_rows_of => k_is)
    (case k_rows_of => k_is)
    (case a_against => k_is)
    (case l_against => k_is)
    (case c_against => k_is)
    (case k_against => k_is)
    (case a_winners => k_is)
    (case l_winners => k_is)
    (case c_winners => k_is)
    (case k_winners => k_is)
    (case a_told_by => k_is)
    (case l_told_by => k_is)
    (case c_told_by => k_is)
    (case k_told_by => k_is)
    (case a_barred => k_is)
    (case l_barred => k_is)
    (case c_barred => k_is)
    (case k_barred => k_is)
    (case a__law_cell => k_is)
    (case l__law_cell => k_is)
    (case c__law_cell => k_is)
    (case k__law_cell => k_is)
    (case a__law_well => k_is)
    (case l__law_well => k_is)
    (case c__law_well => k_is)
    (case k__law_well => k_is)
    (case a__law_dip => k_is)
    (case l__law_dip => k_is)
    (case c__law_dip => k_is)
    (case k__law_dip => k_is)
    (case a__law_pick => k_is)
    (case l__law_pick => k_is)
    (case c__law_pick => k_is)
    (case k__law_pick => k_is)
    (case a__law_tags => k_is)
    (case l__law_tags => k_is)
    (case c__law_tags => k_is)
    (case k__law_tags => k_is)
    (case a__law_book_page => k_is)
    (case l__law_book_page => k_is)
    (case c__law_book_page => k_is)
    (case k__law_book_page => k_is)
    (case a__law_folk => k_is)
    (case l__law_folk => k_is)
    (case c__law_folk => k_is)
    (case k__law_folk => k_is)
    (case a__law_case_page => k_is)
    (case l__law_case_page => k_is)
    (case c__law_case_page => k_is)
    (case k__law_case_page => k_is)
    (case a_Book___repr__ => k_is)
    (case i_Book___repr__ => k_is)
    (case l_Book___repr__ => k_is)
    (case c_Book___repr__ => k_is)
    (case k_Book___repr__ => k_is)
    (case a_Case___repr__ => k_is)
    (case i_Case___repr__ => k_is)
    (case l_Case___repr__ => k_is)
    (case c_Case___repr__ => k_is)
    (case k_Case___repr__ => k_is)
    (case a__law_heard => k_is)
    (case l__law_heard => k_is)
    (case c__law_heard => k_is)
    (case k__law_heard => k_is)
    (case a__law_all_heard => k_is)
    (case l__law_all_heard => k_is)
    (case c__law_all_heard => k_is)
    (case k__law_all_heard => k_is)
    (case a__law_bad_orders => k_is)
    (case l__law_bad_orders => k_is)
    (case c__law_bad_orders => k_is)
    (case k__law_bad_orders => k_is)
    (case a__law_names_right => k_is)
    (case l__law_names_right => k_is)
    (case c__law_names_right => k_is)
    (case k__law_names_right => k_is)
    (case lk__law_names_right => k_is)
    (case lp__law_names_right => rfl)
    (case ln__law_names_right => first | rfl | kernel_rfl)
    (case lr__law_names_right => first | rfl | decide +kernel)
    (case a_Case___init__ => k_is)
    (case i_Case___init__ => k_is)
    (case l_Case___init__ => k_is)
    (case c_Case___init__ => k_is)
    (case k_Case___init__ => k_is)
    (case a_Book___init__ => k_is)
    (case i_Book___init__ => k_is)
    (case l_Book___init__ => k_is)
    (case c_Book___init__ => k_is)
    (case k_Book___init__ => k_is)
    (case a_Case___str__ => k_is)
    (case i_Case___str__ => k_is)
    (case l_Case___str__ => k_is)
    (case c_Case___str__ => k_is)
    (case k_Case___str__ => k_is)
    (case a__law_right => k_is)
    (case l__law_right => k_is)
    (case c__law_right => k_is)
    (case k__law_right => k_is)
    (case lk__law_right => k_is)
    (case lp__law_right => rfl)
    (case ln__law_right => first | rfl | kernel_rfl)
    (case lr__law_right => first | rfl | decide +kernel)
    (case a_law => k_is)
    (case l_law => k_is)
    (case c_law => k_is)
    (case k_law => k_is)
    (case z_abs => k_is)
    (case z_all => k_is)
    (case z_bool => k_is)
    (case z_divmod => k_is)
    (case z_enumerate => k_is)
    (case z_int => k_is)
    (case z_isinstance => k_is)
    (case z_len => k_is)
    (case z_list => k_is)
    (case z_max => k_is)
    (case z_min => k_is)
    (case z_range => k_is)
    (case z_repr => k_is)
    (case z_sorted => k_is)
    (case z_str => k_is)
    (case z_tuple => k_is)
    (case z_zip => k_is)
    (case v_DIGITS => k_is)
    (case v_LEAST_CANDIDATES => k_is)
    (case v_LETTERS => k_is)
    (case v_MOST_CANDIDATES => k_is)
    (case v_MOST_LETTERS => k_is)
    (case v_MOST_MARKS => k_is)
    (case v_MOST_ROWS => k_is)
    (case v_MOST_RULES => k_is)
    (case v_SIGNS => k_is)
    (case no1 => k_is)
    (case no2 => k_is)
    (case no3 => k_is)
    (case nq1 => k_is)
    (case nq2 => k_is)
    (case nq3 => k_is)
    (case nq7 => k_is)
    (case nx1 => k_is)
    (case nx3 => first | rfl | decide)
    (case nx5 => k_is)
    (case ltnd => first | decide | (simp; done))
#print axioms PySem.Challenge.cw_rankedrules_k27_cases_refused_holds



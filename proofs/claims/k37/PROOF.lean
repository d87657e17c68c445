import PyProof.Rows.All
import Wide.All
import OpenK.AllK
import Wide.FinOn
import HandS.Base
import HandS.Call
import HandS.List
import HandS.Comp
import HandS.Ends
import HandS.Iter
import HandS.Text
import HandS.Words
import HandS.Lambda
import HandS.IsInst
import HandS.Conv
import HandS.Zip
import HandS.Property
import HandS.Star
import HandS.Sort
import HandS.Dict
import HandS.Flow
import HandS.WrittenGet
import KE.KUnpackStar
import KE.GoesNew
import HandS.Codes
import PyProof.P3Eq
import HandS.SetFor
import HandS.Strs
import PyProof.ReprReads
import HandS.RevRange
import PyProof.EnumMake
import KE.GoesMore
import HandS.Style
import HandS.TupAny
import HandS.EndBits
import HandS.WideBits
import HandS.More
import PyProof.Rows.EqBoolInt
import HandS.TryOnly
import HandS.Deep
import HandS.Small
import KE.KDictDisplayH
import HandS.DictComp
import HandS.CallLocal
import HandS.ListItems
import PyProof.FString5
import PyProof.TupleOfStr
import HandS.Exc
import HandS.SuiteRaise
import KE.KTryMore
import HandS.ExcIs
import HandS.ExcField
import HandS.HotCalls
import HandS.ExcOwn
import PyProof.ExcBaseAll.ArithmeticError
import HandS.EndTab
import HandS.EndOwn
import KE.KExcIs
import HandS.ExcInit
import PyProof.CallFns
import KE.DatumIndex
import HandS.TupSets
import KE.SortData
import KE.SortKeyHeap
import KE.KLam
import HandS.OwnEq
import KE.KCallOwn
import KE.KFmtOwn
import PyProof.InstEq
import PyProof.InstNe
import HandS.FStr
import HandS.MakeKwOnly
import HandS.RaiseMore
import HandS.MakeKw
import HandS.Replace
import HandS.ReplaceLit
import PyProof.Rows.SortStr
import HandS.SetTxt0
import PyProof.ReprHeadsTuple
import PyProof.ListStr
import KE.KExcInit
import HandS.TryMany
import HandS.TupMul
import HandS.HeadHook3
import HandS.ForMost
import PySem.Challenge.RW_rankedrules_k37_doubts_refused
set_option Elab.async false
set_option linter.all false
set_option maxRecDepth 100000
set_option maxHeartbeats 4000000
set_option autoImplicit false
/-! A data layer over HandS's readings: what a slot holds is said as plain data (D), never as addresses. -/
namespace Dw
open PySem PySem.Spec PyProof.Rows L2

/-- a list of the written part -/
def SqK (K : PySem.W.Frag) (a : Addr) (xs : List V) : Prop :=
  ∃ (o : Obj) (its : Array Value) (n : Nat), K.lookup a = some o ∧ o.cls = .type "list" ∧ o.dict = none ∧ o.data = .seq its n ∧ its.size ≤ sizeLine ∧ Vals xs its.toList
/-- which addresses hold a table of code objects, and of what name these are -/
class Tabs0 where
  nm : Addr → Option Str
variable [Tabs0]
/-- a lambda's text -/
structure LamK where
  params : Arguments
  body : Expr
  scope : Scope
  qual : Str
/-- the function object at f, its cells cl, its code at c -/
def LamO (L : LamK) (cl : List (Str × Addr)) (f c : Addr) : HO := .ext fun h => ∃ pm ctv : Value, h.get? f = some (PySem.W.kla_obj "<lambda>" L.qual L.params L.body L.scope cl pm c ctv)
/-- a cell, as it is -/
def CellO (a : Addr) (o : Obj) : HO := .ext fun h => h.get? a = some o
/-- the cells cl hold vs, and stay so -/
def CellsO (H : Hp) (U : Addr → Prop) : List (Str × Addr) → List V → Prop
  | [], vs => vs = []
  | (_, a) :: r, vs => ∃ (v : V) (ws : List V) (o : Obj) (u : Value), vs = v :: ws ∧ o.data = .cell (some u) ∧ RelV v u ∧ H a = some (CellO a o) ∧ ¬ U a ∧ CellsO H U r ws
theorem CellsO.mono {H H' : Hp} {U U' : Addr → Prop} (k : ∀ a u, H a = some u → ¬ U a → H' a = some u ∧ ¬ U' a) : ∀ {cl : List (Str × Addr)} {vs : List V}, CellsO H U cl vs → CellsO H' U' cl vs
  | [], _, h => h
  | (_, a) :: r, _, ⟨v, ws, o, u, e, hd, hr, ha, nu, t⟩ => let ⟨h1, h2⟩ := k _ _ ha nu; ⟨v, ws, o, u, e, hd, hr, h1, h2, CellsO.mono k t⟩
/-- plain data -/
inductive D where
  | non | bl (b : Bool) | int (i : Int) | str (x : Str)
  | tup (ds : List D) | lst (ds : List D)
  | obj (C : Addr) (ns : List Str) (ds : List D)
  | raw (v : V)
  | purse
  | rng (lo hi : Int)
  | dct (ks : List Key) (ds : List D)
  | scr (K : PySem.W.Frag) (vs : List V)
  | tupN (ds : List D)
  | tag (d : D)
  | fnv (L : LamK) (cl : List (Str × Addr))
  | clo (L : LamK) (ns : List Str) (ds : List D)

/-- a world: the abstract heap, the addresses that may change (U), the purses among them (P) -/
structure Wd where
  H : Hp
  U : Addr → Prop
  P : Addr → Prop

/-- a tuple to be read, as it is -/
def TupAt (H : Hp) (a : Addr) (vs : List V) : Prop := Rd H a (.tup vs)
/-- .. one that is known to have no dict of its own -/
def TupN (H : Hp) (a : Addr) (vs : List V) : Prop := ∃ o : Obj, H a = some (.frz o (.tup vs)) ∧ o.cls = .type "tuple" ∧ o.dict = none
theorem TupAt.mk {H : Hp} {a : Addr} {vs : List V} (h : H a = some (.tup vs)) : TupAt H a vs := .inl h
theorem TupAt.sq {K : PySem.W.Frag} {H : Hp} {a : Addr} {vs : List V} (h : TupAt H a vs) : SqT K H a vs := .inl h
theorem TupN.at {H : Hp} {a : Addr} {vs : List V} (h : TupN H a vs) : TupAt H a vs := let ⟨o, e, _⟩ := h; .inr ⟨o, e⟩
theorem TupAt.imp {H H' : Hp} {a : Addr} {vs : List V} (s : ∀ u, H a = some u → H' a = some u) (h : TupAt H a vs) : TupAt H' a vs := h.elim (fun h => .inl (s _ h)) fun ⟨o, h⟩ => .inr ⟨o, s _ h⟩
theorem TupN.imp {H H' : Hp} {a : Addr} {vs : List V} (s : ∀ u, H a = some u → H' a = some u) (h : TupN H a vs) : TupN H' a vs := let ⟨o, e, c⟩ := h; ⟨o, s _ e, c⟩
theorem TupAt.same {H H' : Hp} {a : Addr} {vs : List V} (h : TupAt H a vs) (s : Same H H') : TupAt H' a vs := h.imp (s a)
theorem TupN.same {H H' : Hp} {a : Addr} {vs : List V} (h : TupN H a vs) (s : Same H H') : TupN H' a vs := h.imp (s a)
theorem TupAt.some {H : Hp} {a : Addr} {vs : List V} (h : TupAt H a vs) : ∃ u, H a = some u := h.elim (fun h => ⟨_, h⟩) fun ⟨_, h⟩ => ⟨_, h⟩
theorem TupAt.keep {H H' : Hp} {U U' : Addr → Prop} {a : Addr} {vs : List V} (h : TupAt H a vs) (n : ¬ U a) (k : ∀ u, H a = Option.some u → ¬ U a → H' a = Option.some u ∧ ¬ U' a) : TupAt H' a vs ∧ ¬ U' a := let ⟨u, e⟩ := h.some; ⟨h.imp fun u e => (k u e n).1, (k u e n).2⟩
mutual
def Rep (W : Wd) : D → V → Prop
  | .non, v => v = .non
  | .bl b, v => v = .bl b
  | .int i, v => v = .int i
  | .str x, v => v = .str x
  | .raw u, v => v = u
  | .tup ds, v => ∃ a vs, v = .ref a ∧ TupAt W.H a vs ∧ ¬ W.U a ∧ RepL W ds vs
  | .tupN ds, v => ∃ a vs, v = .ref a ∧ TupN W.H a vs ∧ ¬ W.U a ∧ RepL W ds vs
  | .lst ds, v => ∃ a vs, v = .ref a ∧ W.H a = some (.lst vs) ∧ ¬ W.U a ∧ RepL W ds vs
  | .obj C ns ds, v => ∃ a dx vs, v = .ref a ∧ W.H a = some (.ins C dx (ns.zip vs)) ∧ ¬ W.U a ∧ ns.length = vs.length ∧ RepL W ds vs
  | .purse, v => ∃ a, v = .ref a ∧ W.P a ∧ Tabs0.nm a = none ∧ ∀ p q, Tabs0.nm p = some q → W.P p
  | .rng lo hi, v => ∃ a, v = .ref a ∧ W.H a = some (.rng lo hi) ∧ ¬ W.U a
  | .dct ks ds, v => ∃ a vs, v = .ref a ∧ W.H a = some (.dK (ks.zip vs)) ∧ ¬ W.U a ∧ ks.length = vs.length ∧ RepL W ds vs
  | .scr K vs, v => ∃ a, v = .ref a ∧ ((∃ u, W.H a = some u ∧ ¬ W.U a ∧ (u = .lst vs ∨ ∃ o, u = .frz o (.lst vs))) ∨ SqK K a vs) ∧ ∀ p q, Tabs0.nm p = some q → W.P p
  | .tag d, v => Rep W d v ∧ ∀ p q, Tabs0.nm p = some q → W.P p
  | .fnv L cl, v => ∃ f c, v = .ref f ∧ W.H f = some (LamO L cl f c) ∧ ¬ W.U f ∧ W.H c = some (LamX.CodeO c L.qual) ∧ ¬ W.U c
  | .clo L ns ds, v => ∃ f c cl vs, v = .ref f ∧ W.H f = some (LamO L cl f c) ∧ ¬ W.U f ∧ W.H c = some (LamX.CodeO c L.qual) ∧ ¬ W.U c ∧ cl.map (·.1) = ns ∧ (cl.map (·.2)).Nodup ∧ f ∉ cl.map (·.2) ∧ c ∉ cl.map (·.2) ∧ CellsO W.H W.U cl vs ∧ RepL W ds vs
def RepL (W : Wd) : List D → List V → Prop
  | [], vs => vs = []
  | d :: ds, vs => ∃ v r, vs = v :: r ∧ Rep W d v ∧ RepL W ds r
end

def PurseAt (H : Hp) (a : Addr) : Prop := ∃ (x : Int × Int) (y : Int), 0 ≤ x.1 ∧ 0 ≤ y ∧ y < 2147483647 ∧ H a = some (.lst [.int x.1, .int y, .int x.2])

/-- what stands at an address that may change: a purse, or a table (of whose code objects none may change) -/
def OwnAt (H : Hp) (U : Addr → Prop) (a : Addr) : Prop := match Tabs0.nm a with | none => PurseAt H a | some q => LamX.TabS H a q ∧ ∀ (ps : Array Value) (pos : Pos) (c : Addr), H a = some (.tbl ps) → codeAmong pos ps.toList = some (.ref c) → ¬ U c
theorem OwnAt.purse {H : Hp} {U : Addr → Prop} {a : Addr} (h : OwnAt H U a) (n : Tabs0.nm a = none) : PurseAt H a := by
  unfold OwnAt at h
  rw [n] at h
  exact h
theorem OwnAt.of {H : Hp} {U : Addr → Prop} {a : Addr} (h : PurseAt H a) (n : Tabs0.nm a = none) : OwnAt H U a := by
  unfold OwnAt
  rw [n]
  exact h
theorem OwnAt.tab {H : Hp} {U : Addr → Prop} {a : Addr} {q : Str} (h : OwnAt H U a) (n : Tabs0.nm a = some q) : LamX.TabS H a q := by
  unfold OwnAt at h
  rw [n] at h
  exact h.1
theorem OwnAt.cod {H : Hp} {U : Addr → Prop} {a : Addr} {q : Str} (h : OwnAt H U a) (n : Tabs0.nm a = some q) : ∀ (ps : Array Value) (pos : Pos) (c : Addr), H a = some (.tbl ps) → codeAmong pos ps.toList = some (.ref c) → ¬ U c := by
  unfold OwnAt at h
  rw [n] at h
  exact h.2
theorem OwnAt.mk {H : Hp} {U : Addr → Prop} {a : Addr} {q : Str} (n : Tabs0.nm a = some q) (t : LamX.TabS H a q) (c : ∀ (ps : Array Value) (pos : Pos) (c : Addr), H a = some (.tbl ps) → codeAmong pos ps.toList = some (.ref c) → ¬ U c) : OwnAt H U a := by
  unfold OwnAt
  rw [n]
  exact ⟨t, c⟩
theorem OwnAt.sub {H : Hp} {U U' : Addr → Prop} {a : Addr} (k : ∀ b, U' b → U b) (h : OwnAt H U a) : OwnAt H U' a := by
  cases n : Tabs0.nm a with
  | none => exact .of (h.purse n) n
  | some q => exact .mk n (h.tab n) fun ps pos c e1 e2 z => h.cod n ps pos c e1 e2 (k c z)
theorem OwnAt.grow {H H' : Hp} {U : Addr → Prop} {a b : Addr} (s : Same H H') (nb : H b = none) (h : OwnAt H U a) : OwnAt H' (fun x => U x ∨ x = b) a := by
  cases n : Tabs0.nm a with
  | none =>
    obtain ⟨x, y, h1, h2, h3, e⟩ := h.purse n
    exact .of ⟨x, y, h1, h2, h3, s _ _ e⟩ n
  | some q =>
    have t := h.tab n
    obtain ⟨ps, e1, _, e3⟩ := id t
    refine .mk n (LamX.TabS.ext t s) fun ps' pos c q1 q2 z => ?_
    have q1' := (s _ _ e1).symm.trans q1
    cases q1'
    rcases z with z | z
    · exact h.cod n ps pos c e1 q2 z
    · obtain ⟨c', w1, w2⟩ := e3 pos _ q2
      cases w1
      rw [z, nb] at w2; cases w2
theorem OwnAt.back {H : Hp} {U : Addr → Prop} {a b : Addr} {vs : List V} (e : H b = some (.lst vs)) (h : OwnAt H U a) : OwnAt H (fun x => U x ∨ x = b) a := by
  cases n : Tabs0.nm a with
  | none => exact .of (h.purse n) n
  | some q =>
    have t := h.tab n
    obtain ⟨ps, e1, _, e3⟩ := id t
    refine .mk n t fun ps' pos c q1 q2 z => ?_
    rcases z with z | z
    · exact h.cod n ps' pos c q1 q2 z
    · have q1' := e1.symm.trans q1
      cases q1'
      obtain ⟨c', w1, w2⟩ := e3 pos _ q2
      cases w1
      rw [z, e] at w2; cases w2
theorem OwnAt.same {H H' : Hp} {U : Addr → Prop} {a : Addr} (s : Same H H') (h : OwnAt H U a) : OwnAt H' U a := by
  cases n : Tabs0.nm a with
  | none =>
    obtain ⟨x, y, h1, h2, h3, e⟩ := h.purse n
    exact .of ⟨x, y, h1, h2, h3, s _ _ e⟩ n
  | some q =>
    have t := h.tab n
    obtain ⟨ps, e1, _, e3⟩ := id t
    refine .mk n (LamX.TabS.ext t s) fun ps' pos c q1 q2 => ?_
    have q1' := (s _ _ e1).symm.trans q1
    cases q1'
    exact h.cod n ps pos c e1 q2
theorem OwnAt.upd {H : Hp} {U : Addr → Prop} {a b : Addr} {u : HO} (ha : ∀ h, H a ≠ some (.ext h)) (hb : b ≠ a) (h : OwnAt H U b) : OwnAt (L2.upd H a u) U b := by
  cases n : Tabs0.nm b with
  | none =>
    obtain ⟨x, y, h1, h2, h3, e⟩ := h.purse n
    exact .of ⟨x, y, h1, h2, h3, by rw [upd_ne hb]; exact e⟩ n
  | some q =>
    obtain ⟨ps, h1, h2, h3⟩ := h.tab n
    refine .mk n ⟨ps, by rw [upd_ne hb]; exact h1, h2, fun pos cv hc => ?_⟩ fun ps' pos c q1 q2 => ?_
    · obtain ⟨c, e1, e2⟩ := h3 pos cv hc
      refine ⟨c, e1, ?_⟩
      rw [upd_ne fun z : c = a => ?_]
      · exact e2
      · rw [z] at e2
        exact ha _ e2
    · rw [upd_ne hb] at q1
      exact h.cod n ps' pos c q1 q2
theorem no_ext {H : Hp} {a : Addr} {vs : List V} (h : H a = some (.lst vs)) : ∀ f, H a ≠ some (.ext f) := fun f z => by rw [h] at z; cases z
theorem no_extI {H : Hp} {a C dx : Addr} {fs : List (Str × V)} (h : H a = some (.ins C dx fs)) : ∀ f, H a ≠ some (.ext f) := fun f z => by rw [h] at z; cases z
theorem OwnAt.some {H : Hp} {U : Addr → Prop} {a : Addr} (h : OwnAt H U a) : H a ≠ none := by
  cases n : Tabs0.nm a with
  | none =>
    obtain ⟨x, y, h1, h2, h3, e⟩ := h.purse n
    rw [e]; exact fun z => nomatch z
  | some q =>
    obtain ⟨ps, h1, _⟩ := h.tab n
    rw [h1]; exact fun z => nomatch z
/-- F: what this def may not touch -/
structure WOk (F : Addr → Prop) (W : Wd) : Prop where
  dom : ∀ a, W.U a → W.H a ≠ none
  fu : ∀ a, F a → W.U a
  pu : ∀ a, W.P a → W.U a ∧ ¬ F a ∧ OwnAt W.H W.U a

structure Stp (F : Addr → Prop) (W W' : Wd) : Prop where
  keep : ∀ a u, W.H a = some u → ¬ W.U a → W'.H a = some u ∧ ¬ W'.U a
  pur : W'.P = W.P
  fr : ∀ a, F a → W'.H a = W.H a

theorem Stp.refl {F : Addr → Prop} (W : Wd) : Stp F W W := ⟨fun _ _ h n => ⟨h, n⟩, rfl, fun _ _ => rfl⟩
theorem Stp.trans {F : Addr → Prop} {W W1 W2 : Wd} (a : Stp F W W1) (b : Stp F W1 W2) : Stp F W W2 :=
  ⟨fun c u h n => let ⟨h1, n1⟩ := a.keep c u h n; b.keep c u h1 n1, b.pur.trans a.pur, fun c h => (b.fr c h).trans (a.fr c h)⟩

mutual
theorem Rep.mono {W W' : Wd} (k : ∀ a u, W.H a = some u → ¬ W.U a → W'.H a = some u ∧ ¬ W'.U a) (p : ∀ a, W.P a → W'.P a) : ∀ (d : D) (v : V), Rep W d v → Rep W' d v
  | .non, _, h => h
  | .bl _, _, h => h
  | .int _, _, h => h
  | .str _, _, h => h
  | .raw _, _, h => h
  | .tup ds, _, ⟨a, vs, e, h, n, r⟩ => let ⟨h', n'⟩ := h.keep n (k a); ⟨a, vs, e, h', n', RepL.mono k p ds vs r⟩
  | .tupN ds, _, ⟨a, vs, e, h, n, r⟩ => let ⟨_, n'⟩ := h.at.keep n (k a); ⟨a, vs, e, h.imp fun u e => (k a u e n).1, n', RepL.mono k p ds vs r⟩
  | .lst ds, _, ⟨a, vs, e, h, n, r⟩ => let ⟨h', n'⟩ := k _ _ h n; ⟨a, vs, e, h', n', RepL.mono k p ds vs r⟩
  | .obj C ns ds, _, ⟨a, dx, vs, e, h, n, l, r⟩ => let ⟨h', n'⟩ := k _ _ h n; ⟨a, dx, vs, e, h', n', l, RepL.mono k p ds vs r⟩
  | .purse, _, ⟨a, e, h, n, t⟩ => ⟨a, e, p a h, n, fun x q z => p x (t x q z)⟩
  | .rng lo hi, _, ⟨a, e, h, n⟩ => let ⟨h', n'⟩ := k _ _ h n; ⟨a, e, h', n'⟩
  | .dct ks ds, _, ⟨a, vs, e, h, n, l, r⟩ => let ⟨h', n'⟩ := k _ _ h n; ⟨a, vs, e, h', n', l, RepL.mono k p ds vs r⟩
  | .scr K vs, _, ⟨a, e, .inl ⟨u, h, n, q⟩, t⟩ => let ⟨h', n'⟩ := k _ _ h n; ⟨a, e, .inl ⟨u, h', n', q⟩, fun x q z => p x (t x q z)⟩
  | .scr K vs, _, ⟨a, e, .inr q, t⟩ => ⟨a, e, .inr q, fun x q z => p x (t x q z)⟩
  | .tag d, v, ⟨h, t⟩ => ⟨Rep.mono k p d v h, fun x q z => p x (t x q z)⟩
  | .fnv L cl, _, ⟨f, c, e, h1, n1, h2, n2⟩ => let ⟨h1', n1'⟩ := k _ _ h1 n1; let ⟨h2', n2'⟩ := k _ _ h2 n2; ⟨f, c, e, h1', n1', h2', n2'⟩
  | .clo L ns ds, _, ⟨f, c, cl, vs, e, h1, n1, h2, n2, a1, a2, a3, a4, q, r⟩ => let ⟨h1', n1'⟩ := k _ _ h1 n1; let ⟨h2', n2'⟩ := k _ _ h2 n2; ⟨f, c, cl, vs, e, h1', n1', h2', n2', a1, a2, a3, a4, q.mono k, RepL.mono k p ds vs r⟩
theorem RepL.mono {W W' : Wd} (k : ∀ a u, W.H a = some u → ¬ W.U a → W'.H a = some u ∧ ¬ W'.U a) (p : ∀ a, W.P a → W'.P a) : ∀ (ds : List D) (vs : List V), RepL W ds vs → RepL W' ds vs
  | [], _, h => h
  | d :: ds, _, ⟨v, r, e, h1, h2⟩ => ⟨v, r, e, Rep.mono k p d v h1, RepL.mono k p ds r h2⟩
end
theorem Rep.stp {F : Addr → Prop} {W W' : Wd} {d : D} {v : V} (s : Stp F W W') (h : Rep W d v) : Rep W' d v := Rep.mono s.keep (fun a h => by rw [s.pur]; exact h) d v h
theorem RepL.stp {F : Addr → Prop} {W W' : Wd} {d : List D} {v : List V} (s : Stp F W W') (h : RepL W d v) : RepL W' d v := RepL.mono s.keep (fun a h => by rw [s.pur]; exact h) d v h
/-- the world with another heap -/
abbrev Wd.at (W : Wd) (H : Hp) : Wd := ⟨H, W.U, W.P⟩
theorem Rep.same {W : Wd} {H : Hp} {d : D} {v : V} (s : Same W.H H) (h : Rep W d v) : Rep (W.at H) d v := Rep.mono (W' := W.at H) (fun a u e n => ⟨s a u e, n⟩) (fun _ h => h) d v h
theorem RepL.same {W : Wd} {H : Hp} {d : List D} {v : List V} (s : Same W.H H) (h : RepL W d v) : RepL (W.at H) d v := RepL.mono (W' := W.at H) (fun a u e n => ⟨s a u e, n⟩) (fun _ h => h) d v h
theorem Stp.of_same {F : Addr → Prop} {W : Wd} {H : Hp} (ok : WOk F W) (s : Same W.H H) : Stp F W (W.at H) :=
  ⟨fun a u e n => ⟨s a u e, n⟩, rfl, fun a h => by
    cases q : W.H a with
    | none => exact absurd q (ok.dom a (ok.fu a h))
    | some u => exact s a u q⟩
theorem WOk.same {F : Addr → Prop} {W : Wd} {H : Hp} (ok : WOk F W) (s : Same W.H H) : WOk F (W.at H) :=
  ⟨fun a h z => ok.dom a h (s.free z), ok.fu, fun a h => let ⟨u, f, o⟩ := ok.pu a h; ⟨u, f, o.same s⟩⟩
theorem WOk.new {F : Addr → Prop} {W : Wd} (ok : WOk F W) {a : Addr} (h : W.H a = none) : ¬ W.U a := fun u => ok.dom a u h

theorem RepL.length {W : Wd} : ∀ {ds : List D} {vs : List V}, RepL W ds vs → ds.length = vs.length
  | [], _, h => by rw [show _ = [] from h]; rfl
  | _ :: ds, _, ⟨_, r, e, _, h⟩ => by rw [e, List.length_cons, List.length_cons, RepL.length (ds := ds) h]
theorem RepL.get {W : Wd} : ∀ {ds : List D} {vs : List V} {i : Nat} {d : D}, RepL W ds vs → ds[i]? = some d → ∃ v, vs[i]? = some v ∧ Rep W d v
  | [], _, _, _, _, e => by simp at e
  | d :: ds, _, 0, d', ⟨v, r, e, h1, h2⟩, q => by
    have : d = d' := by simpa using q
    subst this
    exact ⟨v, by rw [e]; rfl, h1⟩
  | d :: ds, _, i + 1, d', ⟨v, r, e, h1, h2⟩, q => by
    obtain ⟨v', a, b⟩ := RepL.get (i := i) (d := d') h2 (by simpa using q)
    exact ⟨v', by rw [e]; simpa using a, b⟩
theorem RepL.append {W : Wd} : ∀ {ds es : List D} {vs us : List V}, RepL W ds vs → RepL W es us → RepL W (ds ++ es) (vs ++ us)
  | [], _, _, _, h, h' => by rw [show _ = [] from h]; exact h'
  | d :: ds, es, _, us, ⟨v, r, e, h1, h2⟩, h' => ⟨v, r ++ us, by rw [e]; rfl, h1, RepL.append h2 h'⟩
theorem RepL.take {W : Wd} : ∀ {ds : List D} {vs : List V} (n : Nat), RepL W ds vs → RepL W (ds.take n) (vs.take n)
  | _, _, 0, _ => by rw [List.take_zero, List.take_zero]; rfl
  | [], _, n + 1, h => by rw [show _ = [] from h]; rfl
  | d :: ds, _, n + 1, ⟨v, r, e, h1, h2⟩ => ⟨v, r.take n, by rw [e]; rfl, h1, RepL.take n h2⟩
theorem RepL.drop {W : Wd} : ∀ {ds : List D} {vs : List V} (n : Nat), RepL W ds vs → RepL W (ds.drop n) (vs.drop n)
  | _, _, 0, h => h
  | [], _, n + 1, h => by rw [show _ = [] from h]; rfl
  | d :: ds, _, n + 1, ⟨v, r, e, h1, h2⟩ => by rw [e]; exact RepL.drop n h2
theorem RepL.set {W : Wd} {d : D} {v : V} (h : Rep W d v) : ∀ {ds : List D} {vs : List V} (n : Nat), RepL W ds vs → RepL W (ds.set n d) (vs.set n v)
  | [], _, n, h' => by rw [show _ = [] from h']; rfl
  | _ :: ds, _, 0, ⟨u, r, e, h1, h2⟩ => by rw [e]; exact ⟨v, r, rfl, h, h2⟩
  | c :: ds, _, n + 1, ⟨u, r, e, h1, h2⟩ => by rw [e]; exact ⟨u, r.set n v, rfl, h1, RepL.set h n h2⟩
theorem RepL.one {W : Wd} {d : D} {v : V} (h : Rep W d v) : RepL W [d] [v] := ⟨v, [], rfl, h, rfl⟩
theorem RepL.ints {W : Wd} : ∀ {ns : List Int} {vs : List V}, RepL W (ns.map D.int) vs ↔ vs = ns.map V.int
  | [], vs => Iff.rfl
  | n :: ns, vs => by
    constructor
    · rintro ⟨v, r, e, h1, h2⟩
      rw [e, show v = .int n from h1, RepL.ints.mp h2]; rfl
    · intro e
      exact ⟨.int n, ns.map V.int, e, rfl, RepL.ints.mpr rfl⟩
theorem RepL.strs {W : Wd} : ∀ {ns : List Str} {vs : List V}, RepL W (ns.map D.str) vs ↔ vs = ns.map V.str
  | [], vs => Iff.rfl
  | n :: ns, vs => by
    constructor
    · rintro ⟨v, r, e, h1, h2⟩
      rw [e, show v = .str n from h1, RepL.strs.mp h2]; rfl
    · intro e
      exact ⟨.str n, ns.map V.str, e, rfl, RepL.strs.mpr rfl⟩
theorem RepL.bls {W : Wd} : ∀ {ns : List Bool} {vs : List V}, RepL W (ns.map D.bl) vs ↔ vs = ns.map V.bl
  | [], vs => Iff.rfl
  | n :: ns, vs => by
    constructor
    · rintro ⟨v, r, e, h1, h2⟩
      rw [e, show v = .bl n from h1, RepL.bls.mp h2]; rfl
    · intro e
      exact ⟨.bl n, ns.map V.bl, e, rfl, RepL.bls.mpr rfl⟩

mutual
/-- what is known less of -/
def weakD : D → D
  | .tupN ds => .tup (weakDs ds) | .tup ds => .tup (weakDs ds) | .lst ds => .lst (weakDs ds)
  | d => d
def weakDs : List D → List D
  | [] => []
  | d :: ds => weakD d :: weakDs ds
end
mutual
theorem Rep.weak {W : Wd} : ∀ (d : D) (v : V), Rep W d v → Rep W (weakD d) v
  | .tupN ds, _, ⟨a, vs, e, h, n, r⟩ => ⟨a, vs, e, h.at, n, RepL.weak ds vs r⟩
  | .tup ds, _, ⟨a, vs, e, h, n, r⟩ => ⟨a, vs, e, h, n, RepL.weak ds vs r⟩
  | .lst ds, _, ⟨a, vs, e, h, n, r⟩ => ⟨a, vs, e, h, n, RepL.weak ds vs r⟩
  | .non, _, h => h
  | .bl _, _, h => h
  | .int _, _, h => h
  | .str _, _, h => h
  | .raw _, _, h => h
  | .obj _ _ _, _, h => h
  | .purse, _, h => h
  | .rng _ _, _, h => h
  | .dct _ _, _, h => h
  | .scr _ _, _, h => h
  | .tag _, _, h => h
  | .fnv _ _, _, h => h
  | .clo _ _ _, _, h => h
theorem RepL.weak {W : Wd} : ∀ (ds : List D) (vs : List V), RepL W ds vs → RepL W (weakDs ds) vs
  | [], _, h => h
  | d :: ds, _, ⟨v, r, e, h1, h2⟩ => ⟨v, r, e, Rep.weak d v h1, RepL.weak ds r h2⟩
end
/-! ### the slots -/
/-- an own thing: a list, or a dict by its keys -/
structure Ow where
  ks : Option (List Key)
  ds : List D
@[reducible] def Ow.cell (o : Ow) (vs : List V) : HO := match o.ks with | none => .lst vs | some ks => .dK (ks.zip vs)
inductive Sl where
  | unset | val (d : D) | ownX (o : Ow)
@[reducible] def Sl.own (ds : List D) : Sl := .ownX ⟨none, ds⟩
@[reducible] def Sl.owd (ks : List Key) (ds : List D) : Sl := .ownX ⟨some ks, ds⟩
theorem Ow.ext (o : Ow) (vs : List V) : ∀ f, o.cell vs ≠ .ext f := fun f z => by
  obtain ⟨ks, ds⟩ := o
  cases ks <;> cases z
theorem no_extX {H : Hp} {a : Addr} {o : Ow} {vs : List V} (h : H a = some (o.cell vs)) : ∀ f, H a ≠ some (.ext f) := fun f z => by
  rw [h] at z
  exact o.ext vs f (Option.some.inj z)
abbrev Gam := List Sl

structure SR (F : Addr → Prop) (Γ : Gam) (σ : L2.St) (W : Wd) : Prop where
  ok : WOk F W
  len : Γ.length = σ.length
  val : ∀ (i : Nat) (d : D), Γ[i]? = some (Sl.val d) → ∃ v, σ[i]? = some (some v) ∧ Rep W d v
  ownX : ∀ (i : Nat) (ds : Ow), Γ[i]? = some (Sl.ownX ds) → ∃ a vs, σ[i]? = some (some (V.ref a)) ∧ W.U a ∧ ¬ F a ∧ ¬ W.P a ∧ W.H a = some (ds.cell vs) ∧ RepL W ds.ds vs
  apartX : ∀ (i j : Nat) (a : Addr) (ds es : Ow), Γ[i]? = some (Sl.ownX ds) → Γ[j]? = some (Sl.ownX es) → σ[i]? = some (some (V.ref a)) → σ[j]? = some (some (V.ref a)) → i = j
theorem SR.own {F : Addr → Prop} {Γ : Gam} {σ : L2.St} {W : Wd} (h : SR F Γ σ W) (i : Nat) (ds : List D) (e : Γ[i]? = some (Sl.own ds)) : ∃ a vs, σ[i]? = some (some (V.ref a)) ∧ W.U a ∧ ¬ F a ∧ ¬ W.P a ∧ W.H a = some (.lst vs) ∧ RepL W ds vs := h.ownX i ⟨none, ds⟩ e
theorem SR.owd {F : Addr → Prop} {Γ : Gam} {σ : L2.St} {W : Wd} (h : SR F Γ σ W) (i : Nat) (ks : List Key) (ds : List D) (e : Γ[i]? = some (Sl.owd ks ds)) : ∃ a vs, σ[i]? = some (some (V.ref a)) ∧ W.U a ∧ ¬ F a ∧ ¬ W.P a ∧ W.H a = some (.dK (ks.zip vs)) ∧ RepL W ds vs := h.ownX i ⟨some ks, ds⟩ e

theorem SR.same {F : Addr → Prop} {Γ : Gam} {σ : L2.St} {W : Wd} {H : Hp} (s : Same W.H H) (h : SR F Γ σ W) : SR F Γ σ (W.at H) :=
  ⟨h.ok.same s, h.len, fun i d e => let ⟨v, a, b⟩ := h.val i d e; ⟨v, a, b.same s⟩,
   fun i ds e => let ⟨a, vs, e1, u, f, p, q, r⟩ := h.ownX i ds e; ⟨a, vs, e1, u, f, p, s _ _ q, r.same s⟩, h.apartX⟩
/-- forgetting -/
theorem SR.weak {F : Addr → Prop} {Γ Γ' : Gam} {σ σ' : L2.St} {W : Wd} (h : SR F Γ σ W) (l : Γ'.length = σ'.length) (k : ∀ (i : Nat) (s : Sl), Γ'[i]? = some s → s = Sl.unset ∨ (Γ[i]? = some s ∧ σ'[i]? = σ[i]?)) : SR F Γ' σ' W := by
  have kv : ∀ (i : Nat) (d : D), Γ'[i]? = some (Sl.val d) → Γ[i]? = some (Sl.val d) ∧ σ'[i]? = σ[i]? := fun i d e => by
    rcases k i _ e with z | z
    · cases z
    · exact z
  have ko : ∀ (i : Nat) (d : Ow), Γ'[i]? = some (Sl.ownX d) → Γ[i]? = some (Sl.ownX d) ∧ σ'[i]? = σ[i]? := fun i d e => by
    rcases k i _ e with z | z
    · cases z
    · exact z
  refine ⟨h.ok, l, fun i d e => ?_, fun i ds e => ?_, fun i j a ds es e1 e2 e3 e4 => ?_⟩
  · obtain ⟨z, q⟩ := kv i d e
    rw [q]; exact h.val i d z
  · obtain ⟨z, q⟩ := ko i ds e
    rw [q]; exact h.ownX i ds z
  · obtain ⟨z1, q1⟩ := ko i ds e1
    obtain ⟨z2, q2⟩ := ko j es e2
    rw [q1] at e3; rw [q2] at e4
    exact h.apartX i j a ds es z1 z2 e3 e4
/-- a value is stored -/
theorem SR.set {F : Addr → Prop} {Γ : Gam} {σ : L2.St} {W : Wd} {i : Nat} {d : D} {v : V} (h : SR F Γ σ W) (r : Rep W d v) : SR F (Γ.set i (.val d)) (σ.set i (some v)) W := by
  refine ⟨h.ok, by simp [h.len], fun j e q => ?_, fun j ds q => ?_, fun j k a ds es q1 q2 q3 q4 => ?_⟩
  · by_cases hj : i = j
    · subst hj
      have hl : i < Γ.length := by
        have := (List.getElem?_eq_some_iff.mp q).1
        simpa using this
      rw [List.getElem?_set_self hl] at q
      cases q
      exact ⟨v, by rw [List.getElem?_set_self (by rw [← h.len]; exact hl)], r⟩
    · rw [List.getElem?_set_ne hj] at q ⊢
      exact h.val j e q
  · by_cases hj : i = j
    · subst hj
      have hl : i < Γ.length := by
        have := (List.getElem?_eq_some_iff.mp q).1
        simpa using this
      rw [List.getElem?_set_self hl] at q
      cases q
    · rw [List.getElem?_set_ne hj] at q ⊢
      exact h.ownX j ds q
  · have n : ∀ (j : Nat) (ds : Ow), (Γ.set i (.val d))[j]? = some (Sl.ownX ds) → i ≠ j := fun j ds q e => by
      subst e
      have hl : i < Γ.length := by
        have := (List.getElem?_eq_some_iff.mp q).1
        simpa using this
      rw [List.getElem?_set_self hl] at q
      cases q
    have n1 := n j ds q1
    have n2 := n k es q2
    rw [List.getElem?_set_ne n1] at q1 q3
    rw [List.getElem?_set_ne n2] at q2 q4
    exact h.apartX j k a ds es q1 q2 q3 q4
/-- what the callee may not touch: the frame and the own lists -/
def ownA (Γ : Gam) (σ : L2.St) (a : Addr) : Prop := ∃ (i : Nat) (ds : Ow), Γ[i]? = some (Sl.ownX ds) ∧ σ[i]? = some (some (V.ref a))
/-- behind a call -/
theorem SR.call {F : Addr → Prop} {Γ : Gam} {σ : L2.St} {W W' : Wd} (h : SR F Γ σ W) (s : Stp (fun a => F a ∨ ownA Γ σ a) W W') (ok : WOk (fun a => F a ∨ ownA Γ σ a) W') : SR F Γ σ W' := by
  refine ⟨⟨ok.dom, fun a z => ok.fu a (.inl z), fun a z => let ⟨u, f, p⟩ := ok.pu a z; ⟨u, fun w => f (.inl w), p⟩⟩, h.len, fun i d e => ?_, fun i ds e => ?_, h.apartX⟩
  · obtain ⟨v, a, b⟩ := h.val i d e
    exact ⟨v, a, b.stp s⟩
  · obtain ⟨a, vs, e1, u, f, p, q, r⟩ := h.ownX i ds e
    have o : ownA Γ σ a := ⟨i, ds, e, e1⟩
    exact ⟨a, vs, e1, ok.fu a (.inr o), f, fun z => (ok.pu a z).2.1 (.inr o), (s.fr a (.inr o)).trans q, r.stp s⟩
theorem SR.callOk {F : Addr → Prop} {Γ : Gam} {σ : L2.St} {W : Wd} (h : SR F Γ σ W) : WOk (fun a => F a ∨ ownA Γ σ a) W := by
  refine ⟨h.ok.dom, fun a z => ?_, fun a z => ?_⟩
  · rcases z with z | ⟨i, ds, e, q⟩
    · exact h.ok.fu a z
    · obtain ⟨b, vs, e1, u, _⟩ := h.ownX i ds e
      rw [q] at e1; cases e1
      exact u
  · obtain ⟨u, f, p⟩ := h.ok.pu a z
    refine ⟨u, fun w => ?_, p⟩
    rcases w with w | ⟨i, ds, e, q⟩
    · exact f w
    · obtain ⟨b, vs, e1, _, _, np, _⟩ := h.ownX i ds e
      rw [q] at e1; cases e1
      exact np z
theorem Stp.sub {F G : Addr → Prop} {W W' : Wd} (s : Stp G W W') (k : ∀ a, F a → G a) : Stp F W W' := ⟨s.keep, s.pur, fun a h => s.fr a (k a h)⟩
end Dw

/-! The judgements over data: Ev (pure), EvB (a list that is read), EvN (a new list), Dl (with draws), Ds (statements). -/
namespace Dw
open PySem PySem.Spec PyProof.Rows L2
variable [Tabs0]

def Ev (t : TE) (Γ : Gam) (d : D) : Prop := ∀ (F : Addr → Prop) (σ : L2.St) (W : Wd) (Q : VK), SR F Γ σ W → (∀ v H, Same W.H H → Rep (W.at H) d v → Q v H) → t σ W.H Q
def EvB (t : TE) (Γ : Gam) (ds : List D) : Prop := ∀ (F : Addr → Prop) (σ : L2.St) (W : Wd) (Q : VK), SR F Γ σ W → (∀ a vs H, Same W.H H → H a = some (.lst vs) → RepL (W.at H) ds vs → Q (.ref a) H) → t σ W.H Q
/-- the world where a is one's own, too -/
abbrev Wd.plus (W : Wd) (H : Hp) (a : Addr) : Wd := ⟨H, fun b => W.U b ∨ b = a, W.P⟩
theorem RepL.minus {W : Wd} {H : Hp} {a : Addr} {ds : List D} {vs : List V} (h : RepL (W.plus H a) ds vs) : RepL (W.at H) ds vs := RepL.mono (W := W.plus H a) (W' := W.at H) (fun b u e n => ⟨e, fun z => n (Or.inl z)⟩) (fun _ h => h) ds vs h
theorem RepL.plus {W : Wd} {H : Hp} {a : Addr} {ds : List D} {vs : List V} (n : W.H a = none) (s : Same W.H H) (h : RepL W ds vs) : RepL (W.plus H a) ds vs := RepL.mono (W := W) (W' := W.plus H a) (fun b u e nu => ⟨s b u e, fun z => z.elim nu fun z => by rw [z, n] at e; cases e⟩) (fun _ h => h) ds vs h
def EvN (t : TE) (Γ : Gam) (ds : List D) : Prop := ∀ (F : Addr → Prop) (σ : L2.St) (W : Wd) (Q : VK), SR F Γ σ W → (∀ a vs H, Same W.H H → W.H a = none → H a = some (.lst vs) → RepL (W.plus H a) ds vs → Q (.ref a) H) → t σ W.H Q
def EvT (t : TT) (Γ : Gam) (b : Bool) : Prop := ∀ (F : Addr → Prop) (σ : L2.St) (W : Wd) (Q : Bool → Hp → Prop), SR F Γ σ W → (∀ H, Same W.H H → Q b H) → t σ W.H Q
def EvA (t : TA) (Γ : Gam) (ds : List D) : Prop := ∀ (F : Addr → Prop) (σ : L2.St) (W : Wd) (Q : List V → Hp → Prop), SR F Γ σ W → (∀ vs H, Same W.H H → RepL (W.at H) ds vs → Q vs H) → t σ W.H Q

def Dl (t : TE) (Γ : Gam) (Q : D → Gam → Prop) : Prop := ∀ (F : Addr → Prop) (σ : L2.St) (W : Wd) (R : VK), SR F Γ σ W → (∀ v W' d Γ', Stp F W W' → SR F Γ' σ W' → Rep W' d v → Q d Γ' → R v W'.H) → t σ W.H R
def DlT (t : TT) (Γ : Gam) (Q : Bool → Gam → Prop) : Prop := ∀ (F : Addr → Prop) (σ : L2.St) (W : Wd) (R : Bool → Hp → Prop), SR F Γ σ W → (∀ b W' Γ', Stp F W W' → SR F Γ' σ W' → Q b Γ' → R b W'.H) → t σ W.H R
def DlA (t : TA) (Γ : Gam) (Q : List D → Gam → Prop) : Prop := ∀ (F : Addr → Prop) (σ : L2.St) (W : Wd) (R : List V → Hp → Prop), SR F Γ σ W → (∀ vs W' ds Γ', Stp F W W' → SR F Γ' σ W' → RepL W' ds vs → Q ds Γ' → R vs W'.H) → t σ W.H R

structure DE where
  nx : Gam → Prop
  rt : D → Prop
  bk : Gam → Prop := fun _ => False
  ct : Gam → Prop := fun _ => False
structure Lift (F : Addr → Prop) (W0 : Wd) (De : DE) (Dr : Ends) : Prop where
  nx : ∀ σ W Γ, Stp F W0 W → SR F Γ σ W → De.nx Γ → Dr.nx σ W.H
  rt : ∀ v W d, Stp F W0 W → WOk F W → Rep W d v → De.rt d → Dr.rt v W.H
  bk : ∀ σ W Γ, Stp F W0 W → SR F Γ σ W → De.bk Γ → Dr.bk σ W.H
  ct : ∀ σ W Γ, Stp F W0 W → SR F Γ σ W → De.ct Γ → Dr.ct σ W.H
theorem Lift.after {F : Addr → Prop} {W0 W1 : Wd} {De : DE} {Dr : Ends} (l : Lift F W0 De Dr) (s : Stp F W0 W1) : Lift F W1 De Dr :=
  ⟨fun σ W Γ a => l.nx σ W Γ (s.trans a), fun v W d a => l.rt v W d (s.trans a), fun σ W Γ a => l.bk σ W Γ (s.trans a), fun σ W Γ a => l.ct σ W Γ (s.trans a)⟩
def Ds (t : TS) (Γ : Gam) (De : DE) : Prop := ∀ (F : Addr → Prop) (σ : L2.St) (W : Wd) (Dr : Ends), SR F Γ σ W → Lift F W De Dr → t Dr σ W.H

/-! ### from the pure to the others -/
section
variable {t : TE} {Γ : Gam} {d : D} {ds : List D}
theorem Same.up {W : Wd} {H H' : Hp} (a : Same W.H H) (b : Same (W.at H).H H') : Same W.H H' := Same.trans a b
theorem EvN.b (h : EvN t Γ ds) : EvB t Γ ds := fun F σ W Q r k => h F σ W Q r fun a vs H s _ e l => k a vs H s e l.minus
theorem EvN.ev (h : EvN t Γ ds) : Ev t Γ (.lst ds) := fun F σ W Q r k => h F σ W Q r fun a vs H s n e l => k _ H s ⟨a, vs, rfl, e, r.ok.new n, l.minus⟩
theorem Ev.b (h : Ev t Γ (.lst ds)) : EvB t Γ ds := fun F σ W Q r k => h F σ W Q r fun v H s ⟨a, vs, e, q, _, l⟩ => by subst e; exact k a vs H s q l
theorem Ev.dl {Q : D → Gam → Prop} (h : Ev t Γ d) (q : Q d Γ) : Dl t Γ Q := fun F σ W R r k => h F σ W R r fun v H s l => k v (W.at H) d Γ (Stp.of_same r.ok s) (r.same s) l q
theorem Dl.imp {Q Q' : D → Gam → Prop} (h : Dl t Γ Q) (k : ∀ d Γ', Q d Γ' → Q' d Γ') : Dl t Γ Q' := fun F σ W R r z => h F σ W R r fun v W' d Γ' s r' l q => z v W' d Γ' s r' l (k d Γ' q)
theorem EvT.dl {t : TT} {b : Bool} {Q : Bool → Gam → Prop} (h : EvT t Γ b) (q : Q b Γ) : DlT t Γ Q := fun F σ W R r k => h F σ W R r fun H s => k b (W.at H) Γ (Stp.of_same r.ok s) (r.same s) q
theorem EvA.dl {t : TA} {Q : List D → Gam → Prop} (h : EvA t Γ ds) (q : Q ds Γ) : DlA t Γ Q := fun F σ W R r k => h F σ W R r fun vs H s l => k vs (W.at H) ds Γ (Stp.of_same r.ok s) (r.same s) l q
end

/-! ### names, constants -/
section
variable {Γ : Gam} {i : Nat} {d : D} {ds : List D}
theorem ev_var (h : Γ[i]? = some (.val d)) : Ev (tVar i) Γ d := fun F σ W Q r k => let ⟨v, e, l⟩ := r.val i d h; ⟨v, e, k v W.H (Same.refl _) l⟩
theorem evb_own (h : Γ[i]? = some (.own ds)) : EvB (tVar i) Γ ds := fun F σ W Q r k => let ⟨a, vs, e, _, _, _, q, l⟩ := r.own i ds h; ⟨.ref a, e, k a vs W.H (Same.refl _) q l⟩
theorem ev_int {z : Int} : Ev (tC (.int z)) Γ (.int z) := fun F σ W Q r k => k _ W.H (Same.refl _) rfl
theorem ev_bl {z : Bool} : Ev (tC (.bl z)) Γ (.bl z) := fun F σ W Q r k => k _ W.H (Same.refl _) rfl
theorem ev_str {z : Str} : Ev (tC (.str z)) Γ (.str z) := fun F σ W Q r k => k _ W.H (Same.refl _) rfl
theorem ev_non : Ev (tC .non) Γ .non := fun F σ W Q r k => k _ W.H (Same.refl _) rfl
theorem ev_raw {z : V} : Ev (tC z) Γ (.raw z) := fun F σ W Q r k => k _ W.H (Same.refl _) rfl
end

/-! ### arguments -/
section
variable {Γ : Gam} {t : TE} {tr : TA} {d : D} {ds : List D}
theorem eva_nil : EvA tNil Γ [] := fun F σ W Q r k => k [] W.H (Same.refl _) rfl
theorem eva_cons (h : Ev t Γ d) (hr : EvA tr Γ ds) : EvA (tCons t tr) Γ (d :: ds) := fun F σ W Q r k =>
  h F σ W _ r fun v H s l => hr F σ (W.at H) _ (r.same s) fun vs H' s' l' => k (v :: vs) H' (Same.trans s s') ⟨v, vs, rfl, Rep.same (W := W.at H) s' l, l'⟩
theorem dla_nil {Q : List D → Gam → Prop} (q : Q [] Γ) : DlA tNil Γ Q := eva_nil.dl q
theorem dla_cons {Q : List D → Gam → Prop} (h : Dl t Γ fun d Γ1 => DlA tr Γ1 fun ds Γ2 => Q (d :: ds) Γ2) : DlA (tCons t tr) Γ Q := fun F σ W R r k =>
  h F σ W _ r fun v W1 d Γ1 s1 r1 l1 h1 => h1 F σ W1 _ r1 fun vs W2 ds Γ2 s2 r2 l2 q => k (v :: vs) W2 (d :: ds) Γ2 (s1.trans s2) r2 ⟨v, vs, rfl, l1.stp s2, l2⟩ q
end

/-! ### operators -/
/-- what a two-place operator gives on data -/
def DR2 (r : R2) (x y d : D) : Prop := ∀ (W : Wd) (u v : V) (Q : VK), (∀ a, W.U a → W.H a ≠ none) → Rep W x u → Rep W y v → (∀ z H, Same W.H H → Rep (W.at H) d z → Q z H) → r u v W.H Q
def DR1 (r : V → Hp → VK → Prop) (x d : D) : Prop := ∀ (W : Wd) (u : V) (Q : VK), (∀ a, W.U a → W.H a ≠ none) → Rep W x u → (∀ z H, Same W.H H → Rep (W.at H) d z → Q z H) → r u W.H Q
def DRL (r : List V → Hp → VK → Prop) (xs : List D) (d : D) : Prop := ∀ (W : Wd) (us : List V) (Q : VK), (∀ a, W.U a → W.H a ≠ none) → RepL W xs us → (∀ z H, Same W.H H → Rep (W.at H) d z → Q z H) → r us W.H Q
section
variable {Γ : Gam} {ta tb : TE} {r : R2} {x y d : D}
theorem ev_op (ha : Ev ta Γ x) (hb : Ev tb Γ y) (hr : DR2 r x y d) : Ev (tOp r ta tb) Γ d := fun F σ W Q g k =>
  ha F σ W _ g fun u H s l => hb F σ (W.at H) _ (g.same s) fun v H' s' l' => hr (W.at H') u v Q ((g.same s).same s').ok.dom (Rep.same (W := W.at H) s' l) l' fun z H'' s'' q => k z H'' (Same.trans s (Same.trans s' s'')) q
theorem dl_op {Q : D → Gam → Prop} (h : Dl ta Γ fun x Γ1 => Dl tb Γ1 fun y Γ2 => ∃ d, DR2 r x y d ∧ Q d Γ2) : Dl (tOp r ta tb) Γ Q := fun F σ W R g k =>
  h F σ W _ g fun u W1 x Γ1 s1 g1 l1 h1 => h1 F σ W1 _ g1 fun v W2 y Γ2 s2 g2 l2 ⟨d, hr, q⟩ => hr W2 u v R g2.ok.dom (l1.stp s2) l2 fun z H s3 l3 =>
    k z (W2.at H) d Γ2 ((s1.trans s2).trans (Stp.of_same g2.ok s3)) (g2.same s3) l3 q
theorem ev_un {r : V → Hp → VK → Prop} (ha : Ev ta Γ x) (hr : DR1 r x d) : Ev (tUn r ta) Γ d := fun F σ W Q g k =>
  ha F σ W _ g fun u H s l => hr (W.at H) u Q (g.same s).ok.dom l fun z H' s' q => k z H' (Same.trans s s') q
theorem ev_cb {r : List V → Hp → VK → Prop} {t : TA} {xs : List D} (ha : EvA t Γ xs) (hr : DRL r xs d) : Ev (tCB r t) Γ d := fun F σ W Q g k =>
  ha F σ W _ g fun us H s l => hr (W.at H) us Q (g.same s).ok.dom l fun z H' s' q => k z H' (Same.trans s s') q
end
/-- no new object -/
theorem dr2_flat {r : R2} {x y d : D} (h : ∀ (W : Wd) (u v : V) (Q : VK), Rep W x u → Rep W y v → (∀ z, Rep W d z → Q z W.H) → r u v W.H Q) : DR2 r x y d :=
  fun W u v Q _ a b k => h W u v Q a b fun z q => k z W.H (Same.refl _) q
theorem same_upd {H : Hp} {p : Addr} {o : HO} (h : H p = none) : Same H (upd H p o) := fun b x e => by
  rw [upd_ne (ne_of_none e h)]
  exact e
theorem rep_new_lst {W : Wd} {p : Addr} {ds : List D} {vs : List V} (dom : ∀ a, W.U a → W.H a ≠ none) (h : W.H p = none) (l : RepL W ds vs) : Rep (W.at (upd W.H p (.lst vs))) (.lst ds) (.ref p) :=
  ⟨p, vs, rfl, upd_same, fun u => dom p u h, l.same (same_upd h)⟩
theorem rep_new_tup {W : Wd} {p : Addr} {ds : List D} {vs : List V} (dom : ∀ a, W.U a → W.H a ≠ none) (h : W.H p = none) (l : RepL W ds vs) : Rep (W.at (upd W.H p (.tup vs))) (.tup ds) (.ref p) :=
  ⟨p, vs, rfl, .mk upd_same, fun u => dom p u h, l.same (same_upd h)⟩

section
variable {i j : Int} {x y : Str} {ds es : List D} {K : PySem.W.Frag}
theorem dr2_rI0 {g : Int → Int → V} {d : D} (h : ∀ W, Rep W d (g i j)) : DR2 (rI0 g) (.int i) (.int j) d := dr2_flat fun W u v Q a b k => ⟨i, j, a, b, k _ (h W)⟩
theorem dr2_rI {C : Int → Int → Prop} {g : Int → Int → V} {d : D} (hc : C i j) (h : ∀ W, Rep W d (g i j)) : DR2 (rI C g) (.int i) (.int j) d := dr2_flat fun W u v Q a b k => ⟨i, j, a, b, hc, k _ (h W)⟩
theorem dr2_add : DR2 (rI0 fun i j => .int (i + j)) (.int i) (.int j) (.int (i + j)) := dr2_rI0 fun _ => rfl
theorem dr2_sub : DR2 (rI0 fun i j => .int (i - j)) (.int i) (.int j) (.int (i - j)) := dr2_rI0 fun _ => rfl
theorem dr2_mul (h : CMul i j) : DR2 (rI CMul fun i j => .int (i * j)) (.int i) (.int j) (.int (i * j)) := dr2_rI h fun _ => rfl
theorem dr2_mod (h : 0 < j) : DR2 (rI (fun _ j => 0 < j) fun i j => .int (i % j)) (.int i) (.int j) (.int (i % j)) := dr2_rI h fun _ => rfl
theorem dr2_lt : DR2 (rI0 fun i j => .bl (decide (i < j))) (.int i) (.int j) (.bl (decide (i < j))) := dr2_rI0 fun _ => rfl
theorem dr2_le : DR2 (rI0 fun i j => .bl (decide (i ≤ j))) (.int i) (.int j) (.bl (decide (i ≤ j))) := dr2_rI0 fun _ => rfl
theorem dr2_gt : DR2 (rI0 fun i j => .bl (decide (j < i))) (.int i) (.int j) (.bl (decide (j < i))) := dr2_rI0 fun _ => rfl
theorem dr2_ge : DR2 (rI0 fun i j => .bl (decide (j ≤ i))) (.int i) (.int j) (.bl (decide (j ≤ i))) := dr2_rI0 fun _ => rfl
abbrev rAddStr : R2 := fun x y H Q => ∃ i j, x = .str i ∧ y = .str j ∧ i.length + j.length ≤ sizeLine ∧ Q (.str (i ++ j)) H
theorem dr2_add_str (h : x.length + y.length ≤ sizeLine) : DR2 rAddStr (.str x) (.str y) (.str (x ++ y)) := dr2_flat fun W u v Q a b k => ⟨x, y, a, b, h, k _ rfl⟩
theorem dr2_cat (h : ds.length + es.length ≤ sizeLine) : DR2 rCat (.lst ds) (.lst es) (.lst (ds ++ es)) := fun W u v Q dom ⟨a, vs, e1, h1, n1, l1⟩ ⟨b, ws, e2, h2, n2, l2⟩ k =>
  ⟨a, b, vs, ws, e1, e2, h1, h2, by rw [← l1.length, ← l2.length]; exact h, fun p hp => k _ _ (same_upd hp) (rep_new_lst dom hp (l1.append l2))⟩
theorem dr2_eq_int : DR2 rEq (.int i) (.int j) (.bl (decide (i = j))) := dr2_flat fun W u v Q a b k => by
  rw [show u = .int i from a, show v = .int j from b]
  exact ⟨rfl, k _ (congrArg V.bl (by simp))⟩
theorem dr2_eq_str : DR2 rEq (.str x) (.str y) (.bl (decide (x = y))) := dr2_flat fun W u v Q a b k => by
  rw [show u = .str x from a, show v = .str y from b]
  exact ⟨rfl, k _ (congrArg V.bl (by simp))⟩
theorem dr2_ne_str : DR2 rNe (.str x) (.str y) (.bl (!decide (x = y))) := dr2_flat fun W u v Q a b k => by
  rw [show u = .str x from a, show v = .str y from b]
  exact ⟨rfl, k _ (congrArg V.bl (by simp))⟩
end

/-! ### deep equality -/
mutual
def py : D → PyData
  | .non => .none | .bl b => .bool b | .int i => .int i | .str x => .str x
  | .tup ds => .tuple (pys ds) | .lst ds => .list (pys ds)
  | .tupN ds => .tuple (pys ds)
  | .obj _ _ _ => .none | .raw _ => .none | .purse => .none | .rng _ _ => .none | .dct _ _ => .none | .scr _ _ => .none | .tag _ => .none | .fnv _ _ => .none | .clo _ _ _ => .none
def pys : List D → List PyData
  | [] => []
  | d :: ds => py d :: pys ds
end
mutual
def isPy : D → Bool
  | .obj _ _ _ => false | .raw _ => false | .purse => false | .rng _ _ => false | .dct _ _ => false | .scr _ _ => false | .tag _ => false | .fnv _ _ => false | .clo _ _ _ => false
  | .tup ds => isPys ds | .lst ds => isPys ds | .tupN ds => isPys ds
  | _ => true
def isPys : List D → Bool
  | [] => true
  | d :: ds => isPy d && isPys ds
end
mutual
theorem dp_of {K : PySem.W.Frag} {W : Wd} : ∀ (d : D) (v : V), isPy d = true → Rep W d v → Dp K W.H v (py d)
  | .non, _, _, h => by rw [show _ = V.non from h]; exact .non
  | .bl b, _, _, h => by rw [show _ = V.bl b from h]; exact .bl b
  | .int b, _, _, h => by rw [show _ = V.int b from h]; exact .int b
  | .str b, _, _, h => by rw [show _ = V.str b from h]; exact .str b
  | .tup ds, _, p, ⟨a, vs, e, h, _, l⟩ => by rw [e]; exact .tup h.sq (dps_of ds vs p l)
  | .tupN ds, _, p, ⟨a, vs, e, h, _, l⟩ => by rw [e]; exact .tup h.at.sq (dps_of ds vs p l)
  | .lst ds, _, p, ⟨a, vs, e, h, _, l⟩ => by rw [e]; exact .lst (.of h) (dps_of ds vs p l)
  | .obj _ _ _, _, p, _ => nomatch p
  | .raw _, _, p, _ => nomatch p
  | .purse, _, p, _ => nomatch p
  | .rng _ _, _, p, _ => nomatch p
  | .dct _ _, _, p, _ => nomatch p
  | .scr _ _, _, p, _ => nomatch p
  | .tag _, _, p, _ => nomatch p
  | .fnv _ _, _, p, _ => nomatch p
  | .clo _ _ _, _, p, _ => nomatch p
theorem dps_of {K : PySem.W.Frag} {W : Wd} : ∀ (ds : List D) (vs : List V), isPys ds = true → RepL W ds vs → DpAll K W.H vs (pys ds)
  | [], _, _, h => by rw [show _ = [] from h]; exact .nil
  | d :: ds, _, p, ⟨v, r, e, h1, h2⟩ => by
    have p' : isPy d = true ∧ isPys ds = true := by simpa [isPys] using p
    rw [e]
    exact .cons (dp_of d v p'.1 h1) (dps_of ds r p'.2 h2)
end
section
variable {K : PySem.W.Frag} {x y : D} {ta tb : TE} {Γ : Gam} {ds es : List D}
theorem dr2_eqD (px : isPy x = true) (py' : isPy y = true) (sx : SeqAt.shaped (py x) = true) (sy : SeqAt.shaped (py y) = true) : DR2 (rEqD K) x y (.bl (PyData.eqv (py x) (py y))) :=
  dr2_flat fun W u v Q a b k => ⟨_, _, dp_of x u px a, dp_of y v py' b, sx, sy, k _ rfl⟩
theorem dr2_neD (px : isPy x = true) (py' : isPy y = true) (sx : SeqAt.shaped (py x) = true) (sy : SeqAt.shaped (py y) = true) : DR2 (rNeD K) x y (.bl (!PyData.eqv (py x) (py y))) :=
  dr2_flat fun W u v Q a b k => ⟨_, _, dp_of x u px a, dp_of y v py' b, sx, sy, k _ rfl⟩
end
end Dw

/-! Rules over data: tests, statements, calls, lists that are one's own. -/
namespace Dw
open PySem PySem.Spec PyProof.Rows L2
variable [Tabs0]

/-! ### tests -/
section
variable {Γ : Gam} {t ta tb : TE} {c ct' : TT} {a b : Bool} {d d1 d2 : D} {ds : List D} {K : PySem.W.Frag}
abbrev tTru (K : PySem.W.Frag) (ta : TE) : TT := fun σ H Q => ta σ H fun x H' => ∃ k, TruV K x H' k ∧ Q k H'
theorem evt_test (h : Ev t Γ (.bl b)) : EvT (tTest t) Γ b := fun F σ W Q g k => h F σ W _ g fun v H s l => ⟨b, l, k H s⟩
theorem evt_tru_bl (h : Ev t Γ (.bl b)) : EvT (tTru K t) Γ b := fun F σ W Q g k => h F σ W _ g fun v H s l => ⟨b, by rw [show v = .bl b from l]; rfl, k H s⟩
theorem evt_tru_int {i : Int} (h : Ev t Γ (.int i)) : EvT (tTru K t) Γ (i != 0) := fun F σ W Q g k => h F σ W _ g fun v H s l => ⟨_, by rw [show v = .int i from l]; rfl, k H s⟩
theorem evt_tru_lst (h : EvB t Γ ds) : EvT (tTru K t) Γ (!ds.isEmpty) := fun F σ W Q g k => h F σ W _ g fun v vs H s e l => ⟨_, .inl ⟨vs, .of e, by
  have := l.length
  cases ds <;> cases vs <;> simp_all⟩, k H s⟩
theorem evt_and (h : EvT c Γ a) (h' : a = true → EvT ct' Γ b) : EvT (tAnd c ct') Γ (a && b) := fun F σ W Q g k => h F σ W _ g fun H s => by
  cases a with
  | true => exact h' rfl F σ (W.at H) Q (g.same s) fun H' s' => k H' (Same.trans s s')
  | false => exact k H s
theorem evt_or (h : EvT c Γ a) (h' : a = false → EvT ct' Γ b) : EvT (tOr c ct') Γ (a || b) := fun F σ W Q g k => h F σ W _ g fun H s => by
  cases a with
  | false => exact h' rfl F σ (W.at H) Q (g.same s) fun H' s' => k H' (Same.trans s s')
  | true => exact k H s
theorem evt_not (h : EvT c Γ a) : EvT (tNot c) Γ (!a) := fun F σ W Q g k => h F σ W _ g fun H s => k H s
theorem evt_yes : EvT tYes Γ true := fun F σ W Q g k => k W.H (Same.refl _)
theorem dlt_test {Q : Bool → Gam → Prop} (h : Dl t Γ fun d Γ1 => ∃ b, d = .bl b ∧ Q b Γ1) : DlT (tTest t) Γ Q := fun F σ W R g k => h F σ W _ g fun v W1 d Γ1 s g1 l ⟨b, e, q⟩ => ⟨b, by rw [e] at l; exact l, k b W1 Γ1 s g1 q⟩
theorem dlt_tru_bl {Q : Bool → Gam → Prop} (h : Dl t Γ fun d Γ1 => ∃ b, d = .bl b ∧ Q b Γ1) : DlT (tTru K t) Γ Q := fun F σ W R g k => h F σ W _ g fun v W1 d Γ1 s g1 l ⟨b, e, q⟩ => ⟨b, by rw [e] at l; rw [show v = .bl b from l]; rfl, k b W1 Γ1 s g1 q⟩
theorem dlt_not {Q : Bool → Gam → Prop} (h : DlT c Γ fun b Γ1 => Q (!b) Γ1) : DlT (tNot c) Γ Q := fun F σ W R g k => h F σ W _ g fun b W1 Γ1 s g1 q => k (!b) W1 Γ1 s g1 q
theorem dlt_and {Q : Bool → Gam → Prop} (h : DlT c Γ fun b Γ1 => (b = true → DlT ct' Γ1 Q) ∧ (b = false → Q false Γ1)) : DlT (tAnd c ct') Γ Q := fun F σ W R g k => h F σ W _ g fun b W1 Γ1 s g1 q => by
  cases b with
  | true => exact q.1 rfl F σ W1 R g1 fun b' W2 Γ2 s2 g2 q2 => k b' W2 Γ2 (s.trans s2) g2 q2
  | false => exact k false W1 Γ1 s g1 (q.2 rfl)
theorem dlt_or {Q : Bool → Gam → Prop} (h : DlT c Γ fun b Γ1 => (b = false → DlT ct' Γ1 Q) ∧ (b = true → Q true Γ1)) : DlT (tOr c ct') Γ Q := fun F σ W R g k => h F σ W _ g fun b W1 Γ1 s g1 q => by
  cases b with
  | false => exact q.1 rfl F σ W1 R g1 fun b' W2 Γ2 s2 g2 q2 => k b' W2 Γ2 (s.trans s2) g2 q2
  | true => exact k true W1 Γ1 s g1 (q.2 rfl)
theorem dlt_yes {Q : Bool → Gam → Prop} (h : Q true Γ) : DlT tYes Γ Q := evt_yes.dl h
/-! ### choice, and, or as values -/
theorem ev_if (h : EvT c Γ a) (h1 : a = true → Ev ta Γ d1) (h2 : a = false → Ev tb Γ d2) : Ev (tIf c ta tb) Γ (if a = true then d1 else d2) := fun F σ W Q g k => h F σ W _ g fun H s => by
  cases a with
  | true => exact h1 rfl F σ (W.at H) Q (g.same s) fun v H' s' l => k v H' (Same.trans s s') l
  | false => exact h2 rfl F σ (W.at H) Q (g.same s) fun v H' s' l => k v H' (Same.trans s s') l
theorem ev_andV (h : Ev ta Γ (.bl a)) (h' : a = true → Ev tb Γ (.bl b)) : Ev (tAndV ta tb) Γ (.bl (a && b)) := fun F σ W Q g k => h F σ W _ g fun v H s l => ⟨a, l, by
  cases a with
  | true => exact h' rfl F σ (W.at H) Q (g.same s) fun v H' s' l => k v H' (Same.trans s s') l
  | false => exact k _ H s rfl⟩
theorem ev_orV (h : Ev ta Γ (.bl a)) (h' : a = false → Ev tb Γ (.bl b)) : Ev (tOrV ta tb) Γ (.bl (a || b)) := fun F σ W Q g k => h F σ W _ g fun v H s l => ⟨a, l, by
  cases a with
  | false => exact h' rfl F σ (W.at H) Q (g.same s) fun v H' s' l => k v H' (Same.trans s s') l
  | true => exact k _ H s rfl⟩
end

/-! ### displays -/
section
variable {Γ : Gam} {t : TA} {ds : List D}
theorem evn_lst (h : EvA t Γ ds) (hz : ds.length ≤ sizeLine) : EvN (tLst t) Γ ds := fun F σ W Q g k => h F σ W _ g fun vs H s l => ⟨by rw [← l.length]; exact hz, fun p hp =>
  k p vs _ (Same.trans s (same_upd hp)) (s.free hp) upd_same (RepL.plus (W := W.at H) hp (same_upd hp) l)⟩
theorem ev_tup (h : EvA t Γ ds) (hz : ds.length ≤ sizeLine) : Ev (tTup t) Γ (.tup ds) := fun F σ W Q g k => h F σ W _ g fun vs H s l => ⟨by rw [← l.length]; exact hz, fun p hp =>
  k _ _ (Same.trans s (same_upd hp)) (rep_new_tup (W := W.at H) (g.same s).ok.dom hp l)⟩
theorem dl_lst {Q : D → Gam → Prop} (h : DlA t Γ fun ds Γ1 => ds.length ≤ sizeLine ∧ Q (.lst ds) Γ1) : Dl (tLst t) Γ Q := fun F σ W R g k => h F σ W _ g fun vs W1 ds Γ1 s g1 l ⟨hz, q⟩ => ⟨by rw [← l.length]; exact hz, fun p hp =>
  k _ (W1.at _) (.lst ds) Γ1 (s.trans (Stp.of_same g1.ok (same_upd hp))) (g1.same (same_upd hp)) (rep_new_lst g1.ok.dom hp l) q⟩
theorem dl_tup {Q : D → Gam → Prop} (h : DlA t Γ fun ds Γ1 => ds.length ≤ sizeLine ∧ Q (.tup ds) Γ1) : Dl (tTup t) Γ Q := fun F σ W R g k => h F σ W _ g fun vs W1 ds Γ1 s g1 l ⟨hz, q⟩ => ⟨by rw [← l.length]; exact hz, fun p hp =>
  k _ (W1.at _) (.tup ds) Γ1 (s.trans (Stp.of_same g1.ok (same_upd hp))) (g1.same (same_upd hp)) (rep_new_tup g1.ok.dom hp l) q⟩
end

/-! ### a list of one's own -/
theorem SR.plus {F : Addr → Prop} {Γ : Gam} {σ : L2.St} {W : Wd} {a : Addr} {H : Hp} (g : SR F Γ σ W) (s : Same W.H H) (n : W.H a = none) (ne : H a ≠ none) :
    Stp F W (W.plus H a) ∧ SR F Γ σ (W.plus H a) ∧ ¬ ownA Γ σ a ∧ ¬ F a ∧ ¬ W.P a := by
  have nu : ¬ W.U a := g.ok.new n
  have kp : ∀ b u, W.H b = some u → ¬ W.U b → H b = some u ∧ ¬ (W.U b ∨ b = a) := fun b u q nb => ⟨s b u q, fun z => z.elim nb fun z => by rw [z, n] at q; cases q⟩
  have st : Stp F W (W.plus H a) := ⟨kp, rfl, fun b h => by
    cases q : W.H b with
    | none => exact absurd q (g.ok.dom b (g.ok.fu b h))
    | some u => exact s b u q⟩
  refine ⟨st, ⟨⟨fun b h z => ?_, fun b h => Or.inl (g.ok.fu b h), fun b h => ?_⟩, g.len, fun j d q => ?_, fun j es q => ?_, g.apartX⟩, fun ⟨i, ds, e, q⟩ => ?_, fun z => nu (g.ok.fu a z), fun z => nu (g.ok.pu a z).1⟩
  · have z : H b = none := z
    rcases h with h | h
    · exact g.ok.dom b h (s.free z)
    · rw [h] at z; exact ne z
  · obtain ⟨u, f, o⟩ := g.ok.pu b h
    exact ⟨Or.inl u, f, o.grow s n⟩
  · obtain ⟨v, e1, r⟩ := g.val j d q
    exact ⟨v, e1, r.stp st⟩
  · obtain ⟨c, ws, e1, u, f, p, q1, r⟩ := g.ownX j es q
    exact ⟨c, ws, e1, Or.inl u, f, p, s _ _ q1, r.stp st⟩
  · obtain ⟨c, ws, e1, u, f, p, q1, r⟩ := g.ownX i ds e
    rw [q] at e1; cases e1
    exact nu u
theorem SR.adoptX {F : Addr → Prop} {Γ : Gam} {σ : L2.St} {W : Wd} {i : Nat} {a : Addr} {vs : List V} {ds : Ow} (g : SR F Γ σ W) (u : W.U a) (f : ¬ F a) (p : ¬ W.P a) (e : W.H a = some (ds.cell vs)) (l : RepL W ds.ds vs) (no : ¬ ownA Γ σ a) :
    SR F (Γ.set i (.ownX ds)) (σ.set i (some (.ref a))) W := by
  have lt : ∀ (k : Nat) (s : Sl), k = i → (Γ.set i (.ownX ds))[k]? = some s → i < Γ.length := fun k s hk q => by
    rw [hk] at q
    have := (List.getElem?_eq_some_iff.mp q).1
    simpa using this
  refine ⟨g.ok, by simp [g.len], fun j d q => ?_, fun j es q => ?_, fun j k c es fs q1 q2 q3 q4 => ?_⟩
  · by_cases hj : j = i
    · have hl := lt j _ hj q
      rw [hj, List.getElem?_set_self hl] at q; cases q
    · rw [List.getElem?_set_ne (Ne.symm hj)] at q ⊢
      exact g.val j d q
  · by_cases hj : j = i
    · have hl := lt j _ hj q
      rw [hj, List.getElem?_set_self hl] at q; cases q
      exact ⟨a, vs, by rw [hj, List.getElem?_set_self (by rw [← g.len]; exact hl)], u, f, p, e, l⟩
    · rw [List.getElem?_set_ne (Ne.symm hj)] at q ⊢
      exact g.ownX j es q
  · by_cases hj : j = i
    · have hl := lt j _ hj q1
      rw [hj, List.getElem?_set_self (by rw [← g.len]; exact hl)] at q3
      by_cases hk : k = i
      · rw [hj, hk]
      · rw [List.getElem?_set_ne (Ne.symm hk)] at q2 q4
        cases q3
        exact absurd ⟨k, fs, q2, q4⟩ no
    · rw [List.getElem?_set_ne (Ne.symm hj)] at q1 q3
      by_cases hk : k = i
      · have hl := lt k _ hk q2
        rw [hk, List.getElem?_set_self (by rw [← g.len]; exact hl)] at q4
        cases q4
        exact absurd ⟨j, es, q1, q3⟩ no
      · rw [List.getElem?_set_ne (Ne.symm hk)] at q2 q4
        exact g.apartX j k c es fs q1 q2 q3 q4
theorem SR.adopt {F : Addr → Prop} {Γ : Gam} {σ : L2.St} {W : Wd} {i : Nat} {a : Addr} {vs : List V} {ds : List D} (g : SR F Γ σ W) (u : W.U a) (f : ¬ F a) (p : ¬ W.P a) (e : W.H a = some (.lst vs)) (l : RepL W ds vs) (no : ¬ ownA Γ σ a) :
    SR F (Γ.set i (.own ds)) (σ.set i (some (.ref a))) W := g.adoptX (ds := ⟨none, ds⟩) u f p e l no
theorem SR.setOwn {F : Addr → Prop} {Γ : Gam} {σ : L2.St} {W : Wd} {i : Nat} {a : Addr} {vs : List V} {ds : List D} {H : Hp} (g : SR F Γ σ W) (s : Same W.H H) (n : W.H a = none) (e : H a = some (.lst vs)) (l : RepL (W.plus H a) ds vs) :
    Stp F W (W.plus H a) ∧ SR F (Γ.set i (.own ds)) (σ.set i (some (.ref a))) (W.plus H a) := by
  obtain ⟨st, g2, no, f, p⟩ := g.plus s n (by rw [e]; exact fun z => nomatch z)
  exact ⟨st, g2.adopt (Or.inr rfl) f p e l no⟩
end Dw

/-! Rules over data: own lists changed, statements, defs and their calls. -/
namespace Dw
open PySem PySem.Spec PyProof.Rows L2
variable [Tabs0]

/-! ### an own list is changed -/
theorem SR.writeX {F : Addr → Prop} {Γ : Gam} {σ : L2.St} {W : Wd} {i : Nat} {a : Addr} {vs : List V} {ds es : Ow} (g : SR F Γ σ W) (hi : Γ[i]? = some (.ownX ds)) (hs : σ[i]? = some (some (.ref a))) (l : RepL W es.ds vs) :
    Stp F W (W.at (upd W.H a (es.cell vs))) ∧ SR F (Γ.set i (.ownX es)) σ (W.at (upd W.H a (es.cell vs))) := by
  obtain ⟨a', us, e1, u, f, p, q, r⟩ := g.ownX i ds hi
  rw [hs] at e1; cases e1
  have kp : ∀ b o, W.H b = some o → ¬ W.U b → (upd W.H a (es.cell vs)) b = some o ∧ ¬ W.U b := fun b o e n => ⟨by rw [upd_ne (fun z : b = a => n (by rw [z]; exact u))]; exact e, n⟩
  have st : Stp F W (W.at (upd W.H a (es.cell vs))) := ⟨kp, rfl, fun b h => upd_ne (fun z : b = a => f (by rw [← z]; exact h))⟩
  refine ⟨st, ⟨⟨fun b h z => ?_, g.ok.fu, fun b h => ?_⟩, by simp [g.len], fun j d q' => ?_, fun j fs q' => ?_, fun j k c es' fs q1 q2 q3 q4 => ?_⟩⟩
  · have z : (upd W.H a (es.cell vs)) b = none := z
    by_cases hb : b = a
    · rw [hb, upd_same] at z; cases z
    · rw [upd_ne hb] at z; exact g.ok.dom b h z
  · obtain ⟨u', f', o⟩ := g.ok.pu b h
    exact ⟨u', f', o.upd (no_extX q) fun z : b = a => p (by rw [← z]; exact h)⟩
  · have hj : i ≠ j := fun z => by
      subst z
      have hl : i < Γ.length := (List.getElem?_eq_some_iff.mp hi).1
      rw [List.getElem?_set_self hl] at q'; cases q'
    rw [List.getElem?_set_ne hj] at q'
    obtain ⟨v, e1, r'⟩ := g.val j d q'
    exact ⟨v, e1, r'.stp st⟩
  · by_cases hj : i = j
    · subst hj
      have hl : i < Γ.length := (List.getElem?_eq_some_iff.mp hi).1
      rw [List.getElem?_set_self hl] at q'; cases q'
      exact ⟨a, vs, hs, u, f, p, upd_same, l.stp st⟩
    · rw [List.getElem?_set_ne hj] at q'
      obtain ⟨c, ws, e1, u', f', p', q1, r'⟩ := g.ownX j fs q'
      have nc : c ≠ a := fun z => hj (g.apartX i j a ds fs hi q' hs (z ▸ e1))
      exact ⟨c, ws, e1, u', f', p', (upd_ne nc).trans q1, r'.stp st⟩
  · have get : ∀ (j : Nat) (es' : Ow), (Γ.set i (.ownX es))[j]? = some (Sl.ownX es') → ∃ fs, Γ[j]? = some (Sl.ownX fs) := fun j es' q => by
      by_cases hj : i = j
      · subst hj; exact ⟨ds, hi⟩
      · rw [List.getElem?_set_ne hj] at q; exact ⟨es', q⟩
    obtain ⟨x, e1⟩ := get j es' q1
    obtain ⟨y, e2⟩ := get k fs q2
    exact g.apartX j k c x y e1 e2 q3 q4
theorem SR.write {F : Addr → Prop} {Γ : Gam} {σ : L2.St} {W : Wd} {i : Nat} {a : Addr} {vs : List V} {ds es : List D} (g : SR F Γ σ W) (hi : Γ[i]? = some (.own ds)) (hs : σ[i]? = some (some (.ref a))) (l : RepL W es vs) :
    Stp F W (W.at (upd W.H a (.lst vs))) ∧ SR F (Γ.set i (.own es)) σ (W.at (upd W.H a (.lst vs))) := g.writeX (ds := ⟨none, ds⟩) (es := ⟨none, es⟩) hi hs l
section
variable {K : PySem.W.Frag} {Γ : Gam} {i : Nat} {t : TA} {Q : D → Gam → Prop} {ds : List D}
/-- i's list is at the same place behind a step -/
theorem tyV_lst {K : PySem.W.Frag} {H : Hp} {a : Addr} {vs : List V} (h : H a = some (.lst vs)) : tyV K "list" (.ref a) H := .inl ⟨rfl, _, .inl (.inl h)⟩
theorem dl_append (h0 : ∃ ds, Γ[i]? = some (.own ds)) (h : DlA t Γ fun es Γ1 => ∃ e ds, es = [e] ∧ Γ1[i]? = some (.own ds) ∧ ds.length < sizeLine ∧ Q .non (Γ1.set i (.own (ds ++ [e])))) : Dl (tBM K "list" rAppend (tVar i) t) Γ Q := fun F σ W R g k => by
  obtain ⟨ds0, e0⟩ := h0
  obtain ⟨a, vs0, hs, _, _, _, q0, _⟩ := g.own i ds0 e0
  refine ⟨.ref a, hs, tyV_lst q0, h F σ W _ g fun us W1 es Γ1 s1 g1 l1 ⟨e, ds, e1, e2, hz, q⟩ => ?_⟩
  obtain ⟨a', vs, hs', u, f, p, q1, r1⟩ := g1.own i ds e2
  rw [hs] at hs'; cases hs'
  subst e1
  obtain ⟨v, _, rfl, l1, rfl⟩ := l1
  obtain ⟨st, g2⟩ := g1.write e2 hs (r1.append (RepL.one l1))
  exact ⟨a, vs, v, rfl, rfl, q1, by rw [← r1.length]; exact hz, k .non _ .non _ (s1.trans st) g2 rfl q⟩
end

/-! ### statements -/
section
variable {K : PySem.W.Frag} {Γ : Gam} {i j : Nat} {t u : TS} {te : TE} {De : DE} {ds es : List D}
theorem ds_next (h : De.nx Γ) : Ds tNext Γ De := fun F σ W Dr g l => l.nx σ W Γ (Stp.refl W) g h
theorem ds_seq (h : Ds t Γ { De with nx := fun Γ' => Ds u Γ' De }) : Ds (tSeq t u) Γ De := fun F σ W Dr g l => h F σ W { Dr with nx := u Dr } g
  ⟨fun σ1 W1 Γ1 s g1 q => q F σ1 W1 Dr g1 (l.after s), l.rt, l.bk, l.ct⟩
theorem ds_asg (h : Dl te Γ fun d Γ1 => De.nx (Γ1.set i (.val d))) : Ds (tAsg te (gName i)) Γ De := fun F σ W Dr g l => h F σ W _ g fun v W1 d Γ1 s g1 r q => l.nx _ W1 _ s (g1.set r) q
theorem ds_asg_own (h : EvN te Γ ds) (q : De.nx (Γ.set i (.own ds))) : Ds (tAsg te (gName i)) Γ De := fun F σ W Dr g l => h F σ W _ g fun a vs H s n e r =>
  let ⟨st, g2⟩ := g.setOwn (i := i) s n e r
  l.nx _ (W.plus H a) _ st g2 q
theorem ds_if {c : TT} (h : DlT c Γ fun b Γ1 => (b = true → Ds t Γ1 De) ∧ (b = false → Ds u Γ1 De)) : Ds (tIfS c t u) Γ De := fun F σ W Dr g l => h F σ W _ g fun b W1 Γ1 s g1 q => by
  cases b with
  | true => exact q.1 rfl F σ W1 Dr g1 (l.after s)
  | false => exact q.2 rfl F σ W1 Dr g1 (l.after s)
theorem ds_ret (h : Dl te Γ fun d _ => De.rt d) : Ds (tRet te) Γ De := fun F σ W Dr g l => h F σ W _ g fun v W1 d Γ1 s g1 r q => l.rt v W1 d s g1.ok r q
theorem ds_drop (h : Dl te Γ fun _ Γ1 => De.nx Γ1) : Ds (tDrop te) Γ De := fun F σ W Dr g l => h F σ W _ g fun v W1 d Γ1 s g1 r q => l.nx _ W1 _ s g1 q
/-- an own list is no longer changed -/
theorem SR.freeze {F : Addr → Prop} {σ : L2.St} {W : Wd} {a : Addr} (g : SR F Γ σ W) (hi : Γ[i]? = some (.own ds)) (hs : σ[i]? = some (some (.ref a))) :
    Stp F W ⟨W.H, fun b => W.U b ∧ b ≠ a, W.P⟩ ∧ SR F (Γ.set i (.val (.lst ds))) σ ⟨W.H, fun b => W.U b ∧ b ≠ a, W.P⟩ := by
  obtain ⟨a', us, e1, u, f, p, q, r⟩ := g.own i ds hi
  rw [hs] at e1; cases e1
  have st : Stp F W ⟨W.H, fun b => W.U b ∧ b ≠ a, W.P⟩ := ⟨fun b o e n => ⟨e, fun z => n z.1⟩, rfl, fun _ _ => rfl⟩
  have hl : i < Γ.length := (List.getElem?_eq_some_iff.mp hi).1
  refine ⟨st, ⟨⟨fun b h => g.ok.dom b h.1, fun b h => ⟨g.ok.fu b h, fun z => f (z ▸ h)⟩, fun b h => let ⟨u', f', pp⟩ := g.ok.pu b h; ⟨⟨u', fun z => p (z ▸ h)⟩, f', pp.sub fun _ z => z.1⟩⟩, by simp [g.len], fun j d q' => ?_, fun j fs q' => ?_, fun j k c es' fs q1 q2 q3 q4 => ?_⟩⟩
  · by_cases hj : i = j
    · subst hj
      rw [List.getElem?_set_self hl] at q'; cases q'
      exact ⟨.ref a, hs, a, us, rfl, q, fun z => z.2 rfl, r.stp st⟩
    · rw [List.getElem?_set_ne hj] at q'
      obtain ⟨v, e1, r'⟩ := g.val j d q'
      exact ⟨v, e1, r'.stp st⟩
  · have hj : i ≠ j := fun z => by
      subst z
      rw [List.getElem?_set_self hl] at q'; cases q'
    rw [List.getElem?_set_ne hj] at q'
    obtain ⟨c, ws, e1, u', f', p', q1, r'⟩ := g.ownX j fs q'
    exact ⟨c, ws, e1, ⟨u', fun z => hj (g.apartX i j a ⟨none, ds⟩ fs hi q' hs (z ▸ e1))⟩, f', p', q1, r'.stp st⟩
  · have get : ∀ (j : Nat) (es' : Ow), (Γ.set i (.val (.lst ds)))[j]? = some (Sl.ownX es') → Γ[j]? = some (Sl.ownX es') := fun j es' q => by
      by_cases hj : i = j
      · subst hj; rw [List.getElem?_set_self hl] at q; cases q
      · rw [List.getElem?_set_ne hj] at q; exact q
    exact g.apartX j k c es' fs (get j es' q1) (get k fs q2) q3 q4
theorem ds_freeze (i : Nat) (hi : Γ[i]? = some (.own ds)) (h : Ds t (Γ.set i (.val (.lst ds))) De) : Ds t Γ De := fun F σ W Dr g l => by
  obtain ⟨a, vs, hs, _⟩ := g.own i ds hi
  obtain ⟨st, g2⟩ := g.freeze hi hs
  exact h F σ ⟨W.H, fun b => W.U b ∧ b ≠ a, W.P⟩ Dr g2 (l.after st)
theorem ds_ret_own (hi : Γ[i]? = some (.own ds)) (h : De.rt (.lst ds)) : Ds (tRet (tVar i)) Γ De := by
  have hl : i < Γ.length := (List.getElem?_eq_some_iff.mp hi).1
  exact ds_freeze i hi (ds_ret ((ev_var (d := .lst ds) (by rw [List.getElem?_set_self hl])).dl h))
end

/-! ### a def's promise over data -/
/-- for each x : α that is ok, called with args x, it returns some d with rel x d -/
structure Spc where
  ty : Type
  args : ty → List D
  ok : ty → Prop
  rel : ty → D → Prop
def toSp (s : Spc) : Sp := fun vs H Q _ => ∃ (x : s.ty) (F : Addr → Prop) (W : Wd), W.H = H ∧ WOk F W ∧ RepL W (s.args x) vs ∧ s.ok x ∧ ∀ d v W', s.rel x d → Stp F W W' → WOk F W' → Rep W' d v → Q v W'.H
/-- the slots at a def's start -/
def Gz0 (n : Nat) (ds : List D) : Gam := ds.map Sl.val ++ List.replicate (n - ds.length) Sl.unset
theorem sr_start {F : Addr → Prop} {W : Wd} {N : List Str} {ds : List D} {vs : List V} (ok : WOk F W) (r : RepL W ds vs) : SR F (Gz0 N.length ds) (L2.start N vs) W := by
  have hl := r.length
  refine ⟨ok, by simp [Gz0, L2.start, hl], fun i d e => ?_, fun i d e => ?_, fun i j a ds' es e => ?_⟩
  · unfold Gz0 at e
    by_cases hi : i < ds.length
    · rw [List.getElem?_append_left (by simpa using hi), List.getElem?_map] at e
      cases q : ds[i]? with
      | none => rw [q] at e; cases e
      | some d' =>
        rw [q] at e; cases e
        obtain ⟨v, e1, r1⟩ := r.get q
        refine ⟨v, ?_, r1⟩
        unfold L2.start
        rw [List.getElem?_append_left (by simp [← hl, hi]), List.getElem?_map, e1]
        rfl
    · rw [List.getElem?_append_right (by simpa using hi)] at e
      have := List.mem_of_getElem? e
      rw [List.mem_replicate] at this
      cases this.2
  all_goals
    exfalso
    unfold Gz0 at e
    by_cases hi : i < ds.length
    · rw [List.getElem?_append_left (by simpa using hi), List.getElem?_map] at e
      cases q : ds[i]? with
      | none => rw [q] at e; cases e
      | some d' => rw [q] at e; cases e
    · rw [List.getElem?_append_right (by simpa using hi)] at e
      have := List.mem_of_getElem? e
      rw [List.mem_replicate] at this
      cases this.2
theorem body_of {s : Spc} {N : List Str} {t : TS} {vs : List V} {H : Hp} {Q : VK} {E : XK} (hs : toSp s vs H Q E) (hb : ∀ x, s.ok x → Ds t (Gz0 N.length (s.args x)) ⟨fun _ => s.rel x .non, s.rel x, fun _ => False, fun _ => False⟩) :
    t { nx := fun _ H' => Q .non H', rt := Q } (L2.start N vs) H := by
  obtain ⟨x, F, W, rfl, ok, r, hx, q⟩ := hs
  exact hb x hx F _ W _ (sr_start ok r) ⟨fun σ W' Γ st g h => q .non .non W' h st g.ok rfl, fun v W' d st ok' r' h => q d v W' h st ok' r', fun _ _ _ _ _ h => h.elim, fun _ _ _ _ _ h => h.elim⟩
theorem spc_len {s : Spc} {n : Nat} (h : ∀ x, (s.args x).length = n) : ∀ vs H Q E, toSp s vs H Q E → vs.length = n := fun vs H Q E ⟨x, F, W, _, _, r, _⟩ => by rw [← r.length]; exact h x
section
variable {P : Program} {w : World} {K : PySem.W.Frag} {mg : Str → Option Value} {base : Heap}
/-- THE RULE for a def that raises nothing -/
theorem fn_ok {x qual : Str} {st : Stmt} {f : Addr} {fd : FuncData} {N ps : List Str} {k : Nat} {s : Spc} (F : Fun K x qual st f fd) (S : FnScope N ps (defScope st)) (len : ∀ x, (s.args x).length = ps.length)
    (hbody : ∀ (cdv : Value) (A : Around) (outer : List Env) (s' : Shared) (H : Hp) (E : XK), Room k (A.deeper (envOfC qual (defScope st) s'.heap.objs.size f cdv)) →
      ∃ t, PSs (cxOf CX0 P w K mg base N qual (defScope st) f cdv A outer s' H E).nox (defBody st) t ∧ ∀ x, s.ok x → Ds t (Gz0 N.length (s.args x)) ⟨fun _ => s.rel x .non, s.rel x, fun _ => False, fun _ => False⟩) :
    FnOk P w K mg base CX0 (k + 1) f fd ps (toSp s) :=
  F.ok S (spc_len len) fun cdv A outer s' H vs Q E hr h => by
    obtain ⟨t, p, hb⟩ := hbody cdv A outer s' H E hr
    exact ⟨t, p, body_of h hb⟩
end
section
variable {Γ : Gam} {s : Spc} {t tk : TA} {E : XK} {Q : D → Gam → Prop} {ds es : List D} {d : D}
theorem dl_call (h : DlA t Γ fun ds Γ1 => ∃ x, ds = s.args x ∧ s.ok x ∧ ∀ d, s.rel x d → Q d Γ1) : Dl (tCall (toSp s) [] E t) Γ Q := fun F σ W R g k => h F σ W _ g fun vs W1 ds Γ1 st g1 r ⟨x, e, ok, q⟩ => by
  subst e
  rw [List.append_nil]
  exact ⟨x, _, W1, rfl, g1.callOk, r, ok, fun d v W' hd st' ok' r' => k v W' d Γ1 (st.trans (st'.sub fun _ z => .inl z)) (g1.call st' ok') r' (q d hd)⟩
theorem pure_call {F : Addr → Prop} {σ : L2.St} {W : Wd} {vs : List V} {x : s.ty} {R : VK} {U : Addr → Prop} (g : SR F Γ σ W) (ul : ∀ a, U a → W.U a) (hU : RepL ⟨W.H, U, fun _ => False⟩ (s.args x) vs) (ok : s.ok x) (k : ∀ d v H, s.rel x d → Same W.H H → Rep ⟨H, U, fun _ => False⟩ d v → R v H) : toSp s vs W.H R E := by
  refine ⟨x, U, ⟨W.H, U, fun _ => False⟩, rfl, ⟨fun a h => g.ok.dom a (ul a h), fun a h => h, fun a h => h.elim⟩, hU, ok, fun d v W' hd st ok' r => ?_⟩
  refine k d v W'.H hd (fun b o e => ?_) (Rep.mono (W := W') (W' := ⟨W'.H, U, fun _ => False⟩) (fun a u e n => ⟨e, fun z => n (ok'.fu a z)⟩) (fun a z => by rw [st.pur] at z; exact z) d v r)
  by_cases hb : U b
  · exact (st.fr b hb).trans e
  · exact (st.keep b o e hb).1
/-- purse-free data, as seen by a def that draws nothing -/
theorem Rep.addP {W : Wd} {H : Hp} {U P : Addr → Prop} {d : D} {v : V} (h : Rep ⟨H, U, fun _ => False⟩ d v) : Rep ⟨H, U, P⟩ d v := Rep.mono (W := ⟨H, U, fun _ => False⟩) (W' := ⟨H, U, P⟩) (fun _ _ e n => ⟨e, n⟩) (fun _ z => z.elim) d v h
mutual
/-- no purse within -/
def noP : D → Bool
  | .purse => false | .scr _ _ => false | .tag _ => false
  | .clo _ _ ds => noPs ds | .tup ds => noPs ds | .lst ds => noPs ds | .obj _ _ ds => noPs ds | .dct _ ds => noPs ds | .tupN ds => noPs ds
  | _ => true
def noPs : List D → Bool
  | [] => true
  | d :: ds => noP d && noPs ds
end
mutual
theorem Rep.delP {W : Wd} : ∀ (d : D) (v : V), noP d = true → Rep W d v → Rep ⟨W.H, W.U, fun _ => False⟩ d v
  | .non, _, _, h => h
  | .bl _, _, _, h => h
  | .int _, _, _, h => h
  | .str _, _, _, h => h
  | .raw _, _, _, h => h
  | .tup ds, _, n, ⟨a, vs, e, h, u, r⟩ => ⟨a, vs, e, h, u, RepL.delP ds vs n r⟩
  | .tupN ds, _, n, ⟨a, vs, e, h, u, r⟩ => ⟨a, vs, e, h, u, RepL.delP ds vs n r⟩
  | .lst ds, _, n, ⟨a, vs, e, h, u, r⟩ => ⟨a, vs, e, h, u, RepL.delP ds vs n r⟩
  | .obj C ns ds, _, n, ⟨a, dx, vs, e, h, u, l, r⟩ => ⟨a, dx, vs, e, h, u, l, RepL.delP ds vs n r⟩
  | .purse, _, n, _ => nomatch n
  | .rng _ _, _, _, h => h
  | .dct ks ds, _, n, ⟨a, vs, e, h, u, l, r⟩ => ⟨a, vs, e, h, u, l, RepL.delP ds vs n r⟩
  | .scr _ _, _, n, _ => nomatch n
  | .tag _, _, n, _ => nomatch n
  | .fnv _ _, _, _, h => h
  | .clo L ns ds, _, n, ⟨f, c, cl, vs, e, h1, n1, h2, n2, a1, a2, a3, a4, q, r⟩ => ⟨f, c, cl, vs, e, h1, n1, h2, n2, a1, a2, a3, a4, q, RepL.delP ds vs n r⟩
theorem RepL.delP {W : Wd} : ∀ (ds : List D) (vs : List V), noPs ds = true → RepL W ds vs → RepL ⟨W.H, W.U, fun _ => False⟩ ds vs
  | [], _, _, h => h
  | d :: ds, _, n, ⟨v, r, e, h1, h2⟩ => by
    have n' : noP d = true ∧ noPs ds = true := by simpa [noPs] using n
    exact ⟨v, r, e, Rep.delP d v n'.1 h1, RepL.delP ds r n'.2 h2⟩
end
theorem noPs_map {α : Type} {f : α → D} (h : ∀ x, noP (f x) = true) : ∀ xs : List α, noPs (xs.map f) = true
  | [] => rfl
  | x :: xs => by
    show (noP (f x) && noPs (xs.map f)) = true
    rw [h, noPs_map h xs]; rfl
/-- a call that draws nothing -/
theorem ev_call {x : s.ty} (h : EvA t Γ (s.args x)) (np : noPs (s.args x) = true) (ok : s.ok x) (hd : ∀ d', s.rel x d' → d' = d) : Ev (tCall (toSp s) [] E t) Γ d := fun F σ W R g k => h F σ W _ g fun vs H st r => by
  rw [List.append_nil]
  exact pure_call (W := W.at H) (g.same st) (fun _ z => z) (RepL.delP _ _ np r) ok fun d' v H' hd' s' r' => by
    rw [hd d' hd'] at r'
    exact k v H' (Same.trans st s') (Rep.addP (W := W) r')
end
end Dw

/-! Rules over data: targets, iterators, for, comprehensions. -/
namespace Dw
open PySem PySem.Spec PyProof.Rows L2
variable [Tabs0]

/-! ### wiped slots -/
theorem wipe_get (σ : L2.St) (j : Nat) : ∀ vs : List Nat, (wipe σ vs)[j]? = if j ∈ vs then (if j < σ.length then some none else none) else σ[j]?
  | [] => by simp [wipe]
  | v :: vs => by
    unfold wipe
    by_cases hv : v = j
    · subst hv
      rw [if_pos List.mem_cons_self]
      by_cases hl : v < σ.length
      · rw [List.getElem?_set_self (by rw [wipe_length]; exact hl), if_pos hl]
      · rw [if_neg hl]
        exact List.getElem?_eq_none (by rw [List.length_set, wipe_length]; omega)
    · rw [List.getElem?_set_ne hv, wipe_get σ j vs]
      by_cases hm : j ∈ vs
      · rw [if_pos hm, if_pos (List.mem_cons_of_mem _ hm)]
      · rw [if_neg hm, if_neg (by simp only [List.mem_cons, not_or]; exact ⟨fun z => hv z.symm, hm⟩)]
theorem wipe_set {σ : L2.St} {i : Nat} {o : Option V} {vs : List Nat} (h : i ∈ vs) : wipe (σ.set i o) vs = wipe σ vs := by
  refine List.ext_getElem? fun j => ?_
  rw [wipe_get, wipe_get, List.length_set]
  by_cases hm : j ∈ vs
  · rw [if_pos hm, if_pos hm]
  · rw [if_neg hm, if_neg hm, List.getElem?_set_ne (fun z : i = j => hm (by rw [← z]; exact h))]
theorem wipe_wipe {σ : L2.St} {vs : List Nat} : wipe (wipe σ vs) vs = wipe σ vs := by
  refine List.ext_getElem? fun j => ?_
  rw [wipe_get (wipe σ vs), wipe_get σ, wipe_length]
  by_cases hm : j ∈ vs
  · rw [if_pos hm, if_pos hm]
  · rw [if_neg hm, if_neg hm]
def wipeG (Γ : Gam) : List Nat → Gam
  | [] => Γ
  | v :: vs => (wipeG Γ vs).set v .unset
theorem wipeG_length (Γ : Gam) : ∀ vs : List Nat, (wipeG Γ vs).length = Γ.length
  | [] => rfl
  | v :: vs => by unfold wipeG; rw [List.length_set, wipeG_length Γ vs]
theorem wipeG_get {Γ : Gam} {j : Nat} {s : Sl} : ∀ {vs : List Nat}, (wipeG Γ vs)[j]? = some s → s = .unset ∨ (Γ[j]? = some s ∧ j ∉ vs)
  | [], h => .inr ⟨h, by simp⟩
  | v :: vs, h => by
    unfold wipeG at h
    by_cases hv : v = j
    · subst hv
      have hl : v < (wipeG Γ vs).length := by
        have := (List.getElem?_eq_some_iff.mp h).1
        simpa using this
      rw [List.getElem?_set_self hl] at h
      cases h; exact .inl rfl
    · rw [List.getElem?_set_ne hv] at h
      rcases wipeG_get h with h | ⟨h1, h2⟩
      · exact .inl h
      · exact .inr ⟨h1, by simp only [List.mem_cons, not_or]; exact ⟨fun z => hv z.symm, h2⟩⟩
theorem SR.wipe {F : Addr → Prop} {Γ : Gam} {σ : L2.St} {W : Wd} (g : SR F Γ σ W) (vs : List Nat) : SR F (wipeG Γ vs) (wipe σ vs) W :=
  g.weak (by rw [wipeG_length, wipe_length, g.len]) fun i s e => by
    rcases wipeG_get e with h | ⟨h1, h2⟩
    · exact .inl h
    · exact .inr ⟨h1, by rw [wipe_get, if_neg h2]⟩
theorem SR.unwipe {F : Addr → Prop} {Γ : Gam} {σ : L2.St} {W : Wd} {vs : List Nat} (g : SR F Γ (L2.wipe σ vs) W) : SR F Γ σ W :=
  ⟨g.ok, by rw [g.len, wipe_length], fun i d e => let ⟨v, e1, r⟩ := g.val i d e; ⟨v, (wipe_some e1).1, r⟩,
   fun i ds e => let ⟨a, vs', e1, r⟩ := g.ownX i ds e; ⟨a, vs', (wipe_some e1).1, r⟩, fun i j a ds es e1 e2 e3 e4 => by
    obtain ⟨b, _, q1, _⟩ := g.ownX i ds e1
    obtain ⟨c, _, q2, _⟩ := g.ownX j es e2
    have z1 := (wipe_some q1).1
    have z2 := (wipe_some q2).1
    rw [e3] at z1; cases z1
    rw [e4] at z2; cases z2
    exact g.apartX i j _ ds es e1 e2 q1 q2⟩

/-! ### targets -/
/-- storing x changes the slots is alone -/
def DG (g : TG) (is : List Nat) (x : D) (Γ Γ' : Gam) : Prop := ∀ (F : Addr → Prop) (σ : L2.St) (W : Wd) (v : V) (R : L2.St → Hp → Prop), SR F Γ σ W → Rep W x v →
  (∀ σ', SR F Γ' σ' W → (∀ vs : List Nat, (∀ i ∈ is, i ∈ vs) → wipe σ' vs = wipe σ vs) → R σ' W.H) → g v σ W.H R
theorem dg_name {i : Nat} {x : D} {Γ : Gam} : DG (gName i) [i] x Γ (Γ.set i (.val x)) := fun F σ W v R g r k => k _ (g.set r) fun vs h => wipe_set (h i List.mem_cons_self)
theorem dg_tup2 {K : PySem.W.Frag} {g1 g2 : TG} {is js : List Nat} {x y : D} {Γ Γ1 Γ2 : Gam} (h1 : DG g1 is x Γ Γ1) (h2 : DG g2 js y Γ1 Γ2) : DG (gTup K 2 (gCons g1 (gCons g2 gNil))) (is ++ js) (.tup [x, y]) Γ Γ2 := fun F σ W v R g r k => by
  obtain ⟨a, vs, e, ha, nu, v1, _, rfl, r1, v2, _, rfl, r2, rfl⟩ := r
  refine ⟨a, [v1, v2], e, ha.sq, rfl, v1, [v2], rfl, h1 F σ W v1 _ g r1 fun σ1 g1 w1 => ⟨v2, [], rfl, h2 F σ1 W v2 _ g1 r2 fun σ2 g2 w2 => ⟨rfl, k σ2 g2 fun vs h => ?_⟩⟩⟩
  rw [w2 vs fun i hi => h i (List.mem_append_right _ hi), w1 vs fun i hi => h i (List.mem_append_left _ hi)]
theorem dg_tup3 {K : PySem.W.Frag} {g1 g2 g3 : TG} {is js ks : List Nat} {x y z : D} {Γ Γ1 Γ2 Γ3 : Gam} (h1 : DG g1 is x Γ Γ1) (h2 : DG g2 js y Γ1 Γ2) (h3 : DG g3 ks z Γ2 Γ3) : DG (gTup K 3 (gCons g1 (gCons g2 (gCons g3 gNil)))) (is ++ (js ++ ks)) (.tup [x, y, z]) Γ Γ3 := fun F σ W v R g r k => by
  obtain ⟨a, vs, e, ha, nu, v1, _, rfl, r1, v2, _, rfl, r2, v3, _, rfl, r3, rfl⟩ := r
  refine ⟨a, [v1, v2, v3], e, ha.sq, rfl, v1, [v2, v3], rfl, h1 F σ W v1 _ g r1 fun σ1 g1 w1 => ⟨v2, [v3], rfl, h2 F σ1 W v2 _ g1 r2 fun σ2 g2 w2 => ⟨v3, [], rfl, h3 F σ2 W v3 _ g2 r3 fun σ3 g3 w3 => ⟨rfl, k σ3 g3 fun vs h => ?_⟩⟩⟩⟩
  rw [w3 vs fun i hi => h i (List.mem_append_right _ (List.mem_append_right _ hi)), w2 vs fun i hi => h i (List.mem_append_right _ (List.mem_append_left _ hi)), w1 vs fun i hi => h i (List.mem_append_left _ hi)]
theorem ds_asg_g {te : TE} {g : TG} {Γ : Gam} {De : DE} (h : Dl te Γ fun d Γ1 => ∃ is Γ2, DG g is d Γ1 Γ2 ∧ De.nx Γ2) : Ds (tAsg te g) Γ De := fun F σ W Dr s l => h F σ W _ s fun v W1 d Γ1 st g1 r ⟨is, Γ2, hg, q⟩ =>
  hg F σ W1 v _ g1 r fun σ' g' _ => l.nx σ' W1 Γ2 st g' q

/-! ### iterators -/
structure ItOk (F : Addr → Prop) (W : Wd) (J : It) (xs : List D) : Prop where
  go : ∀ (W1 : Wd) (i : Nat) (x : D), Stp F W W1 → WOk F W1 → xs[i]? = some x → J.go i W1.H ∧ ∀ v H', J.yld i W1.H v H' → Same W1.H H' ∧ Rep (W1.at H') x v
  stop : ∀ (W1 : Wd), Stp F W W1 → WOk F W1 → J.stop xs.length W1.H
structure ItS (W : Wd) (J : It) (xs : List D) : Prop where
  go : ∀ (W1 : Wd) (i : Nat) (x : D), (∀ a, W1.U a → W1.H a ≠ none) → Same W.H W1.H → (∀ a u, W.H a = some u → ¬ W.U a → ¬ W1.U a) → W1.P = W.P → xs[i]? = some x → J.go i W1.H ∧ ∀ v H', J.yld i W1.H v H' → Same W1.H H' ∧ Rep (W1.at H') x v
  stop : ∀ (H : Hp), Same W.H H → J.stop xs.length H
def Di (wi : TI) (Γ : Gam) (Q : List D → Gam → Prop) : Prop := ∀ (F : Addr → Prop) (σ : L2.St) (W : Wd) (R : It → Hp → Prop), SR F Γ σ W → (∀ J W' xs Γ', Stp F W W' → SR F Γ' σ W' → ItOk F W' J xs → Q xs Γ' → R J W'.H) → wi σ W.H R
def Ei (wi : TI) (Γ : Gam) (xs : List D) : Prop := ∀ (F : Addr → Prop) (σ : L2.St) (W : Wd) (R : It → Hp → Prop), SR F Γ σ W → (∀ J H, Same W.H H → ItS (W.at H) J xs → R J H) → wi σ W.H R
section
variable {K : PySem.W.Frag} {Γ : Gam} {t : TE} {ta : TA} {xs : List D} {Q : List D → Gam → Prop}
theorem di_list (h : Dl t Γ fun d Γ1 => ∃ xs, d = .lst xs ∧ Q xs Γ1) : Di (iList K t) Γ Q := fun F σ W R g k => h F σ W _ g fun v W1 d Γ1 st g1 r ⟨xs, e, q⟩ => by
  subst e
  obtain ⟨a, vs, rfl, ha, nu, l⟩ := r
  refine ⟨a, rfl, ⟨vs, .of ha⟩, k (Itl K a) W1 xs Γ1 st g1 ⟨fun W2 i x s2 ok2 hx => ?_, fun W2 s2 ok2 => ⟨vs, .of (s2.keep a _ ha nu).1, by rw [l.length]; exact Nat.le_refl _⟩⟩ q⟩
  obtain ⟨v, hv, rv⟩ := l.get hx
  exact ⟨⟨vs, v, .of (s2.keep a _ ha nu).1, hv⟩, fun u H' ⟨e, hy⟩ => by
    subst e
    have := hy vs (.of (s2.keep a _ ha nu).1)
    rw [hv] at this; cases this
    exact ⟨Same.refl _, rv.stp s2⟩⟩
theorem ei_list (h : EvB t Γ xs) : Ei (iList K t) Γ xs := fun F σ W R g k => h F σ W _ g fun a vs H st ha l => by
  refine ⟨a, rfl, ⟨vs, .of ha⟩, k (Itl K a) H st ⟨fun W2 i x dm s2 ku pu hx => ?_, fun H2 s2 => ⟨vs, .of (s2 a _ ha), by rw [l.length]; exact Nat.le_refl _⟩⟩⟩
  obtain ⟨v, hv, rv⟩ := l.get hx
  exact ⟨⟨vs, v, .of (s2 a _ ha), hv⟩, fun u H' ⟨e, hy⟩ => by
    subst e
    have := hy vs (.of (s2 a _ ha))
    rw [hv] at this; cases this
    exact ⟨Same.refl _, Rep.mono (W := W.at H) (W' := W2) (fun b u e n => ⟨s2 b u e, ku b u e n⟩) (fun b z => by rw [pu]; exact z) _ _ rv⟩⟩
theorem ei_tup (h : Ev t Γ (.tup xs)) : Ei (iTup K t) Γ xs := fun F σ W R g k => h F σ W _ g fun v H st ⟨a, vs, e, ha, nu, l⟩ => by
  subst e
  refine ⟨a, rfl, ⟨vs, ha.sq⟩, k (Itt K a) H st ⟨fun W2 i x dm s2 ku pu hx => ?_, fun H2 s2 => ⟨vs, (ha.same s2).sq, by rw [l.length]; exact Nat.le_refl _⟩⟩⟩
  obtain ⟨v, hv, rv⟩ := l.get hx
  exact ⟨⟨vs, v, (ha.same s2).sq, hv⟩, fun u H' ⟨e, hy⟩ => by
    subst e
    have := hy vs ((ha.same s2).sq)
    rw [hv] at this; cases this
    exact ⟨Same.refl _, Rep.mono (W := W.at H) (W' := W2) (fun b u e n => ⟨s2 b u e, ku b u e n⟩) (fun b z => by rw [pu]; exact z) _ _ rv⟩⟩
/-- 0, 1, .., n - 1 -/
def rng (n : Nat) : List D := (List.range n).map fun (i : Nat) => D.int i
theorem rng_get {n i : Nat} {x : D} (h : (rng n)[i]? = some x) : i < n ∧ x = .int i := by
  unfold rng at h
  rw [List.getElem?_map] at h
  by_cases hi : i < n
  · rw [List.getElem?_range hi] at h
    cases h; exact ⟨hi, rfl⟩
  · rw [List.getElem?_eq_none (by simpa using hi)] at h; cases h
theorem rng_length (n : Nat) : (rng n).length = n := by simp [rng]
theorem di_range {Q : List D → Gam → Prop} (h : DlA ta Γ fun ds Γ1 => ∃ n : Nat, ds = [.int n] ∧ n < 2 ^ 62 ∧ Q (rng n) Γ1) : Di (iRng1 ta) Γ Q := fun F σ W R g k => h F σ W _ g fun vs W1 ds Γ1 st g1 r ⟨n, e, hn, q⟩ => by
  subst e
  obtain ⟨v, _, rfl, rv, rfl⟩ := r
  refine ⟨n, by rw [show v = V.int n from rv], by omega, by omega, k (Itr 0 (n : Int).toNat) W1 (rng n) Γ1 st g1 ⟨fun W2 i x s2 ok2 hx => ?_, fun W2 s2 ok2 => ?_⟩ q⟩
  · obtain ⟨hi, rfl⟩ := rng_get hx
    refine ⟨by show i < (n : Int).toNat; omega, fun u H' ⟨e, hy⟩ => ?_⟩
    subst e hy
    exact ⟨Same.refl _, by show V.int (0 + (i : Int)) = V.int i; rw [Int.zero_add]⟩
  · show (n : Int).toNat ≤ _
    rw [rng_length]; omega
theorem ei_range {n : Nat} (h : EvA ta Γ [.int n]) (hn : n < 2 ^ 62) : Ei (iRng1 ta) Γ (rng n) := fun F σ W R g k => h F σ W _ g fun vs H st r => by
  obtain ⟨v, _, rfl, rv, rfl⟩ := r
  refine ⟨n, by rw [show v = V.int n from rv], by omega, by omega, k (Itr 0 (n : Int).toNat) H st ⟨fun W2 i x dm s2 ku pu hx => ?_, fun H2 s2 => ?_⟩⟩
  · obtain ⟨hi, rfl⟩ := rng_get hx
    refine ⟨by show i < (n : Int).toNat; omega, fun u H' ⟨e, hy⟩ => ?_⟩
    subst e hy
    exact ⟨Same.refl _, by show V.int (0 + (i : Int)) = V.int i; rw [Int.zero_add]⟩
  · show (n : Int).toNat ≤ _
    rw [rng_length]; omega
/-- the signs of a text -/
def signs (x : Str) : List D := x.cps.toList.map fun c => D.str ⟨#[c]⟩
end

/-! ### for -/
section
variable {Γ : Gam} {wi : TI} {g : TG} {tb : TS} {De : DE}
theorem ds_for (J : List D → Nat → Gam → Prop) (h : Di wi Γ fun xs Γ1 => J xs 0 Γ1 ∧ (∀ i x Γ', xs[i]? = some x → J xs i Γ' → ∃ is Γ2, DG g is x Γ' Γ2 ∧ Ds tb Γ2 ⟨J xs (i + 1), De.rt, De.nx, J xs (i + 1)⟩) ∧ ∀ Γ', J xs xs.length Γ' → De.nx Γ') : Ds (tFor wi g tb) Γ De :=
  fun F σ W Dr s l => h F σ W _ s fun I W1 xs Γ1 st g1 it ⟨h0, hs, hd⟩ => by
    refine ⟨fun i m σ' H' => m = xs.length - i ∧ i ≤ xs.length ∧ ∃ W' Γ', W'.H = H' ∧ Stp F W1 W' ∧ SR F Γ' σ' W' ∧ J xs i Γ', ⟨_, rfl, Nat.zero_le _, W1, Γ1, rfl, .refl _, g1, h0⟩, ?_⟩
    rintro i m σ' H' ⟨rfl, hi, W', Γ', rfl, s', g', j⟩
    by_cases hlt : i < xs.length
    · obtain ⟨x, hx⟩ : ∃ x, xs[i]? = some x := ⟨_, List.getElem?_eq_getElem hlt⟩
      obtain ⟨is, Γ2, hg, hb⟩ := hs i x Γ' hx j
      obtain ⟨go, yl⟩ := it.go W' i x s' g'.ok hx
      refine .inr ⟨go, fun σ2 H2 => ∃ W2 Γ2, W2.H = H2 ∧ Stp F W1 W2 ∧ SR F Γ2 σ2 W2 ∧ J xs (i + 1) Γ2, fun σ2 H2 q => ⟨xs.length - (i + 1), by omega, rfl, hlt, q⟩, fun v H2 y => ?_⟩
      obtain ⟨sm, rv⟩ := yl v H2 y
      have s2 := s'.trans (Stp.of_same g'.ok sm)
      refine hg F σ' (W'.at H2) v _ (g'.same sm) rv fun σ3 g3 _ => hb F σ3 (W'.at H2) _ g3 ⟨fun σ4 W4 Γ4 s4 g4 q => ⟨W4, Γ4, rfl, s2.trans s4, g4, q⟩, fun v W4 d s4 ok4 r4 q => l.rt v W4 d (st.trans (s2.trans s4)) ok4 r4 q, fun σ4 W4 Γ4 s4 g4 q => l.nx σ4 W4 Γ4 (st.trans (s2.trans s4)) g4 q, fun σ4 W4 Γ4 s4 g4 q => ⟨W4, Γ4, rfl, s2.trans s4, g4, q⟩⟩
    · have e : i = xs.length := by omega
      subst e
      exact .inl ⟨it.stop W' s' g'.ok, l.nx σ' W' Γ' (st.trans s') g' (hd Γ' j)⟩
end

/-! ### list comprehensions -/
section
variable {Γ : Gam} {wi : TI} {g : TG} {tt : TT} {te : TE} {vs : List Nat}
/-- pure: over xs.map c, kept where p, f of each -/
theorem evn_lc {α : Type} {xs : List α} {c : α → D} {p : α → Bool} {f : α → D} (h : Ei wi Γ (xs.map c)) (hz : xs.length ≤ 1000000)
    (he : ∀ x ∈ xs, ∃ is Γ2, DG g is (c x) (wipeG Γ vs) Γ2 ∧ (∀ i ∈ is, i ∈ vs) ∧ EvT tt Γ2 (p x) ∧ (p x = true → Ev te Γ2 (f x))) : EvN (tLc wi g tt te vs) Γ ((xs.filter p).map f) := fun F σ W R s k =>
  h F σ W _ s fun I H1 st it => fun Dn hD => by
    have wd : W.H Dn = none := st.free hD
    refine ⟨fun i m H' => m = xs.length - i ∧ i ≤ xs.length ∧ Same H1 H' ∧ ∃ us, H' Dn = some (.lst us) ∧ RepL (W.plus H' Dn) (((xs.take i).filter p).map f) us, ⟨_, rfl, Nat.zero_le _, same_upd hD, [], upd_same, rfl⟩, ?_⟩
    rintro i m H' ⟨rfl, hi, sm, us, hus, rus⟩
    by_cases hlt : i < xs.length
    · have hx : xs[i]? = some xs[i] := List.getElem?_eq_getElem hlt
      have hx' : (xs.map c)[i]? = some (c xs[i]) := by rw [List.getElem?_map, hx]; rfl
      obtain ⟨is, Γ2, hg, his, ht, hel⟩ := he xs[i] (List.getElem_mem hlt)
      obtain ⟨go, yl⟩ := it.go (W.plus H' Dn) i (c xs[i]) (fun b hb z => hb.elim (fun u => s.ok.dom b u ((Same.trans st sm).free z)) (fun e => by rw [e] at z; exact absurd (hus.symm.trans z) (fun q => nomatch q))) sm (fun b u e n z => z.elim n fun z => by rw [z] at e; exact absurd (e.symm.trans hD) (fun q => nomatch q)) rfl hx'
      refine .inr ⟨go, fun H2 => Same H1 H2 ∧ ∃ us, H2 Dn = some (.lst us) ∧ RepL (W.plus H2 Dn) (((xs.take (i + 1)).filter p).map f) us, fun H2 q => ⟨xs.length - (i + 1), by omega, rfl, hlt, q⟩, fun v H2 y => ?_⟩
      obtain ⟨sm2, rv⟩ := yl v H2 y
      have sW : Same W.H H2 := Same.trans st (Same.trans sm sm2)
      -- the world where the list in the making is one's own
      obtain ⟨_, gp, _, _, _⟩ := s.plus sW wd (by rw [sm2 _ _ hus]; exact fun z => nomatch z)
      have gp := gp.wipe vs
      refine hg F _ (W.plus H2 Dn) v _ gp rv fun σ2 g2 w2 => ⟨by rw [w2 vs his, wipe_wipe], ?_⟩
      refine ht F σ2 (W.plus H2 Dn) _ g2 fun H3 s3 => ?_
      have e1 : (xs.take (i + 1)).filter p = (xs.take i).filter p ++ (if p xs[i] = true then [xs[i]] else []) := by
        rw [List.take_add_one, hx, List.filter_append]
        congr 1
        cases hp : p xs[i] <;> simp [hp]
      have mv : ∀ {H3 H4 : Hp} {ds us}, Same H3 H4 → RepL (W.plus H3 Dn) ds us → RepL (W.plus H4 Dn) ds us := fun {H3 H4 ds us} s34 r => RepL.mono (W := W.plus H3 Dn) (W' := W.plus H4 Dn) (fun b u e n => ⟨s34 b u e, n⟩) (fun _ h => h) ds us r
      cases hp : p xs[i] with
      | false =>
        rw [if_neg Bool.false_ne_true]
        refine ⟨Same.trans (Same.trans sm sm2) s3, us, s3 _ _ (sm2 _ _ hus), ?_⟩
        rw [e1, hp, if_neg Bool.false_ne_true, List.append_nil]
        exact mv s3 (mv sm2 rus)
      | true =>
        rw [if_pos rfl]
        refine hel hp F σ2 ((W.plus H2 Dn).at H3) _ (g2.same s3) fun z H4 s4 rz => ?_
        have h4 : H4 Dn = some (.lst us) := s4 _ _ (s3 _ _ (sm2 _ _ hus))
        have un : ∀ {ds us}, RepL (W.plus H4 Dn) ds us → ∀ o, RepL (W.plus (upd H4 Dn o) Dn) ds us := fun {ds us} r o => RepL.mono (W := W.plus H4 Dn) (W' := W.plus (upd H4 Dn o) Dn) (fun b u e n => ⟨by
          show (upd H4 Dn o) b = some u
          rw [upd_ne (fun z : b = Dn => n (Or.inr z))]; exact e, n⟩) (fun _ h => h) ds us r
        refine ⟨us, h4, ?_, fun b u e => ?_, us ++ [z], upd_same, ?_⟩
        · rw [← rus.length, List.length_map]
          refine Nat.lt_of_le_of_lt (Nat.le_trans (List.length_filter_le _ _) (Nat.le_trans (List.length_take_le _ _) ?_)) (show 1000000 < sizeLine by decide)
          omega
        · have nb : b ≠ Dn := fun z => by rw [z, hD] at e; cases e
          rw [upd_ne nb]
          exact s4 _ _ (s3 _ _ (sm2 _ _ (sm _ _ e)))
        · rw [e1, hp, if_pos rfl, List.map_append]
          exact un ((mv s4 (mv s3 (mv sm2 rus))).append (RepL.one rz)) _
    · have e : i = xs.length := by omega
      subst e
      rw [List.take_length] at rus
      exact .inl ⟨by have := it.stop H' sm; rw [List.length_map] at this; exact this, k Dn us H' (Same.trans st sm) wd hus rus⟩
end
end Dw

/-! Rules over data: comprehensions that draw. -/
namespace Dw
open PySem PySem.Spec PyProof.Rows L2
variable [Tabs0]

abbrev Fp (F : Addr → Prop) (a : Addr) : Addr → Prop := fun b => F b ∨ b = a
theorem SR.frame {F : Addr → Prop} {Γ : Gam} {σ : L2.St} {W : Wd} {a : Addr} (g : SR F Γ σ W) (u : W.U a) (p : ¬ W.P a) (no : ¬ ownA Γ σ a) : SR (Fp F a) Γ σ W :=
  ⟨⟨g.ok.dom, fun b h => h.elim (g.ok.fu b) fun h => by rw [h]; exact u, fun b h => let ⟨u', f, pp⟩ := g.ok.pu b h; ⟨u', fun z => z.elim f fun z => p (by rw [← z]; exact h), pp⟩⟩, g.len, g.val,
   fun i ds e => let ⟨b, vs, e1, u', f, pp, q, r⟩ := g.ownX i ds e; ⟨b, vs, e1, u', fun z => z.elim f fun z => no ⟨i, ds, e, by rw [← z]; exact e1⟩, pp, q, r⟩, g.apartX⟩
/-- a cell of the frame is changed -/
theorem SR.poke {F : Addr → Prop} {Γ : Gam} {σ : L2.St} {W : Wd} {a : Addr} {o : HO} (g : SR (Fp F a) Γ σ W) (nf : ¬ F a) (ne : ∀ h, W.H a ≠ some (.ext h)) :
    Stp F W (W.at (upd W.H a o)) ∧ SR (Fp F a) Γ σ (W.at (upd W.H a o)) := by
  have u : W.U a := g.ok.fu a (Or.inr rfl)
  have st : Stp F W (W.at (upd W.H a o)) := ⟨fun b x e n => ⟨by
    show (upd W.H a o) b = some x
    rw [upd_ne (fun z : b = a => n (by rw [z]; exact u))]; exact e, n⟩, rfl, fun b h => upd_ne (fun z : b = a => nf (by rw [← z]; exact h))⟩
  refine ⟨st, ⟨⟨fun b h z => ?_, g.ok.fu, fun b h => ?_⟩, g.len, fun i d e => ?_, fun i ds e => ?_, g.apartX⟩⟩
  · have z : (upd W.H a o) b = none := z
    by_cases hb : b = a
    · rw [hb, upd_same] at z; cases z
    · rw [upd_ne hb] at z; exact g.ok.dom b h z
  · obtain ⟨u', f, oo⟩ := g.ok.pu b h
    exact ⟨u', f, oo.upd ne fun z : b = a => f (Or.inr z)⟩
  · obtain ⟨v, e1, r⟩ := g.val i d e
    exact ⟨v, e1, r.stp st⟩
  · obtain ⟨b, vs, e1, u', f, pp, q, r⟩ := g.ownX i ds e
    exact ⟨b, vs, e1, u', f, pp, (upd_ne (fun z : b = a => f (Or.inr z))).trans q, r.stp st⟩
/-- .. and becomes a value -/
theorem SR.land {F : Addr → Prop} {Γ : Gam} {σ : L2.St} {W : Wd} {a : Addr} (g : SR (Fp F a) Γ σ W) (nf : ¬ F a) :
    Stp F W ⟨W.H, fun b => W.U b ∧ b ≠ a, W.P⟩ ∧ SR F Γ σ ⟨W.H, fun b => W.U b ∧ b ≠ a, W.P⟩ := by
  have st : Stp F W ⟨W.H, fun b => W.U b ∧ b ≠ a, W.P⟩ := ⟨fun b x e n => ⟨e, fun z => n z.1⟩, rfl, fun _ _ => rfl⟩
  refine ⟨st, ⟨⟨fun b h => g.ok.dom b h.1, fun b h => ⟨g.ok.fu b (Or.inl h), fun z => nf (by rw [← z]; exact h)⟩, fun b h => ?_⟩, g.len, fun i d e => ?_, fun i ds e => ?_, g.apartX⟩⟩
  · obtain ⟨u', f, pp⟩ := g.ok.pu b h
    exact ⟨⟨u', fun z => f (Or.inr z)⟩, fun z => f (Or.inl z), pp.sub fun _ z => z.1⟩
  · obtain ⟨v, e1, r⟩ := g.val i d e
    exact ⟨v, e1, r.stp st⟩
  · obtain ⟨b, vs, e1, u', f, pp, q, r⟩ := g.ownX i ds e
    exact ⟨b, vs, e1, ⟨u', fun z => f (Or.inr z)⟩, fun z => f (Or.inl z), pp, q, r.stp st⟩
section
variable {Γ : Gam} {wi : TI} {g : TG} {tt : TT} {te : TE} {vs : List Nat} {Q : D → Gam → Prop}
theorem dl_lc (h : Di wi Γ fun xs Γ1 => xs.length ≤ 1000000 ∧ ∃ J : Nat → List D → Gam → Prop, J 0 [] (wipeG Γ1 vs) ∧
      (∀ i x acc Γ', xs[i]? = some x → J i acc Γ' → ∃ is Γ2, DG g is x Γ' Γ2 ∧ (∀ i ∈ is, i ∈ vs) ∧ DlT tt Γ2 fun b Γ3 => (b = true → Dl te Γ3 fun d Γ4 => J (i + 1) (acc ++ [d]) (wipeG Γ4 vs)) ∧ (b = false → J (i + 1) acc (wipeG Γ3 vs))) ∧
      ∀ acc Γ', J xs.length acc Γ' → Q (.lst acc) Γ') : Dl (tLc wi g tt te vs) Γ Q := fun F σ W R s k =>
  h F σ W _ s fun I W1 xs Γ1 st1 g1 it ⟨hz, J, h0, hs, hd⟩ => fun Dn hD => by
    obtain ⟨stp, gp, no, nf, np⟩ := g1.plus (H := upd W1.H Dn (.lst [])) (a := Dn) (same_upd hD) hD (by rw [upd_same]; exact fun z => nomatch z)
    have gf := (gp.frame (Or.inr rfl) np no).wipe vs
    refine ⟨fun i m H' => m = xs.length - i ∧ i ≤ xs.length ∧ ∃ W' Γ' acc us, W'.H = H' ∧ Stp F W1 W' ∧ SR (Fp F Dn) Γ' (wipe σ vs) W' ∧ H' Dn = some (.lst us) ∧ RepL W' acc us ∧ acc.length ≤ i ∧ J i acc Γ',
      ⟨_, rfl, Nat.zero_le _, W1.plus (upd W1.H Dn (.lst [])) Dn, _, [], [], rfl, stp, gf, upd_same, rfl, Nat.le_refl _, h0⟩, ?_⟩
    rintro i m H' ⟨rfl, hi, W', Γ', acc, us, rfl, s', g', hus, rus, hl, j⟩
    by_cases hlt : i < xs.length
    · have hx : xs[i]? = some xs[i] := List.getElem?_eq_getElem hlt
      obtain ⟨is, Γ2, hg, his, ht⟩ := hs i xs[i] acc Γ' hx j
      have ok1 : WOk F W' := ⟨g'.ok.dom, fun b z => g'.ok.fu b (Or.inl z), fun b z => let ⟨u, f, p⟩ := g'.ok.pu b z; ⟨u, fun q => f (Or.inl q), p⟩⟩
      obtain ⟨go, yl⟩ := it.go W' i xs[i] s' ok1 hx
      refine .inr ⟨go, fun H2 => ∃ W2 Γ2 acc us, W2.H = H2 ∧ Stp F W1 W2 ∧ SR (Fp F Dn) Γ2 (wipe σ vs) W2 ∧ H2 Dn = some (.lst us) ∧ RepL W2 acc us ∧ acc.length ≤ i + 1 ∧ J (i + 1) acc Γ2, fun H2 q => ⟨xs.length - (i + 1), by omega, rfl, hlt, q⟩, fun v H2 y => ?_⟩
      obtain ⟨sm, rv⟩ := yl v H2 y
      have g2 := g'.same sm
      have s2 : Stp F W1 (W'.at H2) := s'.trans (Stp.of_same ok1 sm)
      refine hg (Fp F Dn) _ (W'.at H2) v _ g2 rv fun σ2 g3 w2 => ?_
      have ew : wipe σ2 vs = wipe σ vs := by rw [w2 vs his, wipe_wipe]
      refine ⟨ew, ht (Fp F Dn) σ2 (W'.at H2) _ g3 fun b W3 Γ3 s3 g4 q => ?_⟩
      have h3 : W3.H Dn = some (.lst us) := (s3.fr Dn (Or.inr rfl)).trans (sm _ _ hus)
      have r3 : RepL W3 acc us := (RepL.same (W := W') sm rus).stp s3
      cases b with
      | false =>
        rw [if_neg Bool.false_ne_true]
        have g5 := g4.wipe vs
        rw [ew] at g5
        exact ⟨W3, _, acc, us, rfl, s2.trans (s3.sub fun _ z => Or.inl z), g5, h3, r3, by omega, q.2 rfl⟩
      | true =>
        rw [if_pos rfl]
        refine q.1 rfl (Fp F Dn) σ2 W3 _ g4 fun z W4 d Γ4 s4 g5 rz qj => ?_
        have h4 : W4.H Dn = some (.lst us) := (s4.fr Dn (Or.inr rfl)).trans h3
        have r4 : RepL W4 acc us := r3.stp s4
        have g6 := g5.wipe vs
        rw [ew] at g6
        obtain ⟨s5, g7⟩ := g6.poke (o := .lst (us ++ [z])) nf (no_ext (by assumption))
        refine ⟨us, h4, ?_, W4.at (upd W4.H Dn (.lst (us ++ [z]))), _, acc ++ [d], us ++ [z], rfl, ((s2.trans (s3.sub fun _ z => Or.inl z)).trans (s4.sub fun _ z => Or.inl z)).trans s5, g7, upd_same, (r4.append (RepL.one rz)).stp s5, by rw [List.length_append, List.length_singleton]; omega, qj⟩
        rw [← r4.length]
        exact Nat.lt_of_le_of_lt (show acc.length ≤ 1000000 by omega) (by decide)
    · have e : i = xs.length := by omega
      subst e
      have ok1 : WOk F W' := ⟨g'.ok.dom, fun b z => g'.ok.fu b (Or.inl z), fun b z => let ⟨u, f, p⟩ := g'.ok.pu b z; ⟨u, fun q => f (Or.inl q), p⟩⟩
      obtain ⟨s8, g8⟩ := (SR.unwipe g').land nf
      refine .inl ⟨it.stop W' s' ok1, k (.ref Dn) ⟨W'.H, fun b => W'.U b ∧ b ≠ Dn, W'.P⟩ (.lst acc) Γ' (st1.trans (s'.trans s8)) g8 ⟨Dn, us, rfl, hus, fun z => z.2 rfl, rus.stp s8⟩ (hd acc Γ' j)⟩
end
end Dw

/-! Operators that serve several kinds at once, and what they give on data. -/
namespace Dw
open PySem PySem.Spec PyProof.Rows L2
variable [Tabs0]
section
variable {X : Cx} {a b c e : Expr} {ta tb te : TE} {pos : Pos} {i j : Int} {x y : Str} {ds es : List D} {K : PySem.W.Frag} {Γ : Gam} {d : D}
abbrev rOr (r r' : R2) : R2 := fun x y H Q => r x y H Q ∨ r' x y H Q
theorem dr2_l {r r' : R2} {x y d : D} (h : DR2 r x y d) : DR2 (rOr r r') x y d := fun W u v Q dom a b k => .inl (h W u v Q dom a b k)
theorem dr2_r {r r' : R2} {x y d : D} (h : DR2 r' x y d) : DR2 (rOr r r') x y d := fun W u v Q dom a b k => .inr (h W u v Q dom a b k)
/-! ### + and * -/
abbrev rPlus (K : PySem.W.Frag) : R2 := rOr (rI0 fun i j => .int (i + j)) (rOr rAddStr (rOr rCat (rCatT K)))
theorem opPlus : OpR X (binaryOp .Add) (rPlus X.K) := op_add.or (op_add_str.or (op_cat.or op_catT))
theorem plus_int : DR2 (rPlus K) (.int i) (.int j) (.int (i + j)) := dr2_l dr2_add
theorem plus_str (h : x.length + y.length ≤ sizeLine) : DR2 (rPlus K) (.str x) (.str y) (.str (x ++ y)) := dr2_r (dr2_l (dr2_add_str h))
theorem plus_lst (h : ds.length + es.length ≤ sizeLine) : DR2 (rPlus K) (.lst ds) (.lst es) (.lst (ds ++ es)) := dr2_r (dr2_r (dr2_l (dr2_cat h)))
abbrev rTimes : R2 := rOr (rI CMul fun i j => .int (i * j)) rRep
theorem opTimes : OpR X (binaryOp .Mult) rTimes := op_mul.or op_rep
theorem times_int (h : CMul i j) : DR2 rTimes (.int i) (.int j) (.int (i * j)) := dr2_l (dr2_mul h)
/-! ### comparisons -/
abbrev rEqX (K : PySem.W.Frag) : R2 := rOr rEq (rEqD K)
abbrev rNeX (K : PySem.W.Frag) : R2 := rOr rNe (rNeD K)
theorem opEq (hu : X.A.units + 64 < cLine) : OpR X (compareOp .Eq) (rEqX X.K) := op_eq.or (op_eqD hu)
theorem opNe (hu : X.A.units + 64 < cLine) : OpR X (compareOp .NotEq) (rNeX X.K) := op_ne.or (op_neD hu)
theorem eq_int' : DR2 (rEqX K) (.int i) (.int j) (.bl (decide (i = j))) := dr2_l dr2_eq_int
theorem eq_str' : DR2 (rEqX K) (.str x) (.str y) (.bl (decide (x = y))) := dr2_l dr2_eq_str
theorem ne_str' : DR2 (rNeX K) (.str x) (.str y) (.bl (!decide (x = y))) := dr2_l dr2_ne_str
theorem eq_deep {p q : D} (h1 : isPy p = true) (h2 : isPy q = true) (h3 : SeqAt.shaped (py p) = true) (h4 : SeqAt.shaped (py q) = true) : DR2 (rEqX K) p q (.bl (PyData.eqv (py p) (py q))) := dr2_r (dr2_eqD h1 h2 h3 h4)
theorem ne_deep {p q : D} (h1 : isPy p = true) (h2 : isPy q = true) (h3 : SeqAt.shaped (py p) = true) (h4 : SeqAt.shaped (py q) = true) : DR2 (rNeX K) p q (.bl (!PyData.eqv (py p) (py q))) := dr2_r (dr2_neD h1 h2 h3 h4)
abbrev rLtS : R2 := fun x y H Q => ∃ i j, x = .str i ∧ y = .str j ∧ Q (.bl (decide (i.cps.toList < j.cps.toList))) H
theorem opLt : OpR X (compareOp .Lt) (rOr (rI0 fun i j => .bl (decide (i < j))) rLtS) := op_lt.or op_lt_str
theorem lt_int' : DR2 (rOr (rI0 fun i j => .bl (decide (i < j))) rLtS) (.int i) (.int j) (.bl (decide (i < j))) := dr2_l dr2_lt
theorem lt_str' : DR2 (rOr (rI0 fun i j => .bl (decide (i < j))) rLtS) (.str x) (.str y) (.bl (decide (x.cps.toList < y.cps.toList))) := dr2_r (dr2_flat fun W u v Q a b k => ⟨x, y, a, b, k _ rfl⟩)
theorem opLe : OpR X (compareOp .LtE) (rI0 fun i j => .bl (decide (i ≤ j))) := op_le
theorem opGt : OpR X (compareOp .Gt) (rI0 fun i j => .bl (decide (j < i))) := op_gt
theorem opGe : OpR X (compareOp .GtE) (rI0 fun i j => .bl (decide (j ≤ i))) := op_ge
abbrev rInS : R2 := fun x y H Q => ∃ i j, x = .str i ∧ y = .str j ∧ Q (.bl (!(Builtin.Str.occurrences j i 0 j.length 1).isEmpty)) H
abbrev rNinS : R2 := fun x y H Q => ∃ i j, x = .str i ∧ y = .str j ∧ Q (.bl (!(!(Builtin.Str.occurrences j i 0 j.length 1).isEmpty))) H
theorem opIn : OpR X (compareOp .In) (rOr (rIn X.K false) rInS) := op_in_seq.or op_in_str
theorem opNotIn : OpR X (compareOp .NotIn) (rOr (rIn X.K true) rNinS) := op_notIn_seq.or op_notin_str
theorem in_str' : DR2 (rOr (rIn K false) rInS) (.str x) (.str y) (.bl (!(Builtin.Str.occurrences y x 0 y.length 1).isEmpty)) := dr2_r (dr2_flat fun W u v Q a b k => ⟨x, y, a, b, k _ rfl⟩)
/-- scalars -/
def isSc : D → Bool
  | .non => true | .bl _ => true | .int _ => true | .str _ => true | _ => false
def scV : D → V
  | .non => .non | .bl b => .bl b | .int i => .int i | .str x => .str x | _ => .non
theorem rep_sc {W : Wd} {d : D} {v : V} (h : isSc d = true) (r : Rep W d v) : v = scV d := by
  cases d <;> first | exact r | exact absurd (show false = true from h) Bool.false_ne_true
theorem repL_sc {W : Wd} : ∀ {ds : List D} {vs : List V}, ds.all isSc = true → RepL W ds vs → vs = ds.map scV
  | [], _, _, h => h
  | d :: ds, _, p, ⟨v, r, e, h1, h2⟩ => by
    have p' : isSc d = true ∧ ds.all isSc = true := by simpa using p
    rw [e, rep_sc p'.1 h1, repL_sc p'.2 h2]; rfl
theorem flat_sc {d : D} (h : isSc d = true) : flatV (scV d) = true := by
  cases d <;> first | rfl | exact absurd (show false = true from h) Bool.false_ne_true
theorem flats_sc : ∀ {ds : List D}, ds.all isSc = true → (ds.map scV).all flatV = true
  | [], _ => rfl
  | d :: ds, p => by
    have p' : isSc d = true ∧ ds.all isSc = true := by simpa using p
    rw [List.map_cons, List.all_cons, flat_sc p'.1, flats_sc p'.2]; rfl
theorem ev_in {neg : Bool} {r' : R2} (ha : Ev ta Γ d) (hb : EvB tb Γ ds) (s1 : isSc d = true) (s2 : ds.all isSc = true) : Ev (tOp (rOr (rIn K neg) r') ta tb) Γ (.bl (if neg then !inV (scV d) (ds.map scV) else inV (scV d) (ds.map scV))) := fun F σ W Q g k =>
  ha F σ W _ g fun v H s r => hb F σ (W.at H) _ (g.same s) fun p vs H' s' e l => .inl ⟨p, vs, rfl, .inl (.of e), by rw [rep_sc s1 r]; exact flat_sc s1, by rw [repL_sc s2 l]; exact flats_sc s2, by
    rw [rep_sc s1 r, repL_sc s2 l]
    exact k _ H' (Same.trans s s') rfl⟩
theorem ev_inT {neg : Bool} {r' : R2} (ha : Ev ta Γ d) (hb : Ev tb Γ (.tup ds)) (s1 : isSc d = true) (s2 : ds.all isSc = true) : Ev (tOp (rOr (rIn K neg) r') ta tb) Γ (.bl (if neg then !inV (scV d) (ds.map scV) else inV (scV d) (ds.map scV))) := fun F σ W Q g k =>
  ha F σ W _ g fun v H s r => hb F σ (W.at H) _ (g.same s) fun u H' s' ⟨p, vs, eu, e, nu, l⟩ => .inl ⟨p, vs, eu, .inr e.sq, by rw [rep_sc s1 r]; exact flat_sc s1, by rw [repL_sc s2 l]; exact flats_sc s2, by
    rw [rep_sc s1 r, repL_sc s2 l]
    exact k _ H' (Same.trans s s') rfl⟩
/-! ### len, items, slices -/
abbrev rLen (K : PySem.W.Frag) : List V → Hp → VK → Prop := fun xs H Q => (∃ p ys, xs = [.ref p] ∧ (SqL K H p ys ∨ SqT K H p ys) ∧ Q (.int ys.length) H) ∨ ∃ z, xs = [.str z] ∧ z.length ≤ sizeLine ∧ Q (.int z.length) H
theorem opLen : CallR X (.builtin "len") (rLen X.K) := call_len_seq.or call_len_str
theorem ev_len (h : EvB ta Γ ds) : Ev (tCB (rLen K) (tCons ta tNil)) Γ (.int ds.length) := fun F σ W Q g k => h F σ W _ g fun p vs H s e l => .inl ⟨p, vs, rfl, .inl (.of e), k _ H s (by rw [l.length]; rfl)⟩
theorem ev_lenT (h : Ev ta Γ (.tup ds)) : Ev (tCB (rLen K) (tCons ta tNil)) Γ (.int ds.length) := fun F σ W Q g k => h F σ W _ g fun u H s ⟨p, vs, eu, e, nu, l⟩ => .inl ⟨p, vs, by rw [eu], .inr e.sq, k _ H s (by rw [l.length]; rfl)⟩
theorem ev_lenS (h : Ev ta Γ (.str x)) (hz : x.length ≤ sizeLine) : Ev (tCB (rLen K) (tCons ta tNil)) Γ (.int x.length) := fun F σ W Q g k => h F σ W _ g fun u H s r => .inr ⟨x, by rw [show u = V.str x from r], hz, k _ H s rfl⟩
theorem atI_rep {W : Wd} {vs : List V} (l : RepL W ds vs) (h : atI ds i = some d) : ∃ v, atI vs i = some v ∧ Rep W d v := by
  unfold atI at h ⊢
  rw [← l.length]
  cases q : ixN ds.length i with
  | none => rw [q] at h; cases h
  | some k =>
    rw [q] at h
    obtain ⟨v, e, r⟩ := l.get (i := k) h
    exact ⟨v, e, r⟩
theorem ev_ix (ha : EvB ta Γ ds) (hb : Ev tb Γ (.int i)) (h : atI ds i = some d) : Ev (tOp (rIx K) ta tb) Γ d := fun F σ W Q g k => ha F σ W _ g fun p vs H s e l => hb F σ (W.at H) _ (g.same s) fun u H' s' r => by
  obtain ⟨v, ev, rv⟩ := atI_rep (RepL.same (W := W.at H) s' l) h
  exact .inl ⟨p, vs, i, v, rfl, r, .of (s' _ _ e), ev, k v H' (Same.trans s s') rv⟩
theorem ev_ixT (ha : Ev ta Γ (.tup ds)) (hb : Ev tb Γ (.int i)) (h : atI ds i = some d) : Ev (tOp (rIx K) ta tb) Γ d := fun F σ W Q g k => ha F σ W _ g fun u H s ⟨p, vs, eu, e, nu, l⟩ => hb F σ (W.at H) _ (g.same s) fun u H' s' r => by
  obtain ⟨v, ev, rv⟩ := atI_rep (RepL.same (W := W.at H) s' l) h
  exact .inr (.inl ⟨p, vs, i, v, eu, r, (e.same s').sq, ev, k v H' (Same.trans s s') rv⟩)
theorem dr2_ixS {z : Nat} (hl : x.length ≤ sizeLine) (h : atI x.cps.toList i = some z) : DR2 (rIx K) (.str x) (.int i) (.str ⟨#[z]⟩) := dr2_flat fun W u v Q a b k => .inr (.inr ⟨x, i, z, a, b, hl, h, k _ rfl⟩)
theorem dr2_ixL (h : atI ds i = some d) : DR2 (rIx K) (.lst ds) (.int i) d := dr2_flat fun W u v Q ⟨p, vs, eu, e, nu, l⟩ b k => by
  obtain ⟨w, ev, rw'⟩ := atI_rep l h
  exact .inl ⟨p, vs, i, w, eu, b, .of e, ev, k w rw'⟩
theorem dr2_ixT (h : atI ds i = some d) : DR2 (rIx K) (.tup ds) (.int i) d := dr2_flat fun W u v Q ⟨p, vs, eu, e, nu, l⟩ b k => by
  obtain ⟨w, ev, rw'⟩ := atI_rep l h
  exact .inr (.inl ⟨p, vs, i, w, eu, b, e.sq, ev, k w rw'⟩)
/-! ### iterators -/
theorem pi_or {tg iter : Expr} {w1 w2 : TI} (h1 : PI X tg iter w1) (h2 : PI X tg iter w2) : PI X tg iter (fun σ H R => w1 σ H R ∨ w2 σ H R) :=
  ⟨fun pins s σ H R I h => h.elim (h1.run pins s σ H R I) (h2.run pins s σ H R I)⟩
abbrev iAny (K : PySem.W.Frag) (t : TE) : TI := fun σ H R => iList K t σ H R ∨ (fun σ H R => iTup K t σ H R ∨ iStr t σ H R) σ H R
theorem pi_any {tg : Expr} (h : PE X e te) : PI X tg e (iAny X.K te) := pi_or (pi_list h) (pi_or (pi_tup h) (pi_str h))
theorem ei_l {w1 w2 : TI} {xs : List D} (h : Ei w1 Γ xs) : Ei (fun σ H R => w1 σ H R ∨ w2 σ H R) Γ xs := fun F σ W R g k => .inl (h F σ W R g k)
theorem ei_r {w1 w2 : TI} {xs : List D} (h : Ei w2 Γ xs) : Ei (fun σ H R => w1 σ H R ∨ w2 σ H R) Γ xs := fun F σ W R g k => .inr (h F σ W R g k)
theorem di_l {w1 w2 : TI} {Q : List D → Gam → Prop} (h : Di w1 Γ Q) : Di (fun σ H R => w1 σ H R ∨ w2 σ H R) Γ Q := fun F σ W R g k => .inl (h F σ W R g k)
theorem eia_list {xs : List D} (h : EvB te Γ xs) : Ei (iAny K te) Γ xs := ei_l (ei_list h)
theorem eia_tup {xs : List D} (h : Ev te Γ (.tup xs)) : Ei (iAny K te) Γ xs := ei_r (ei_l (ei_tup h))
theorem dia_list {Q : List D → Gam → Prop} (h : Dl te Γ fun d Γ1 => ∃ xs, d = .lst xs ∧ Q xs Γ1) : Di (iAny K te) Γ Q := di_l (di_list h)
theorem signs_get {x : Str} {i : Nat} {d : D} (h : (signs x)[i]? = some d) : i < x.cps.size ∧ ∃ c, x.cps[i]? = some c ∧ d = .str ⟨#[c]⟩ := by
  unfold signs at h
  rw [List.getElem?_map, Array.getElem?_toList] at h
  cases q : x.cps[i]? with
  | none => rw [q] at h; cases h
  | some c =>
    rw [q] at h
    have hl := (Array.getElem?_eq_some_iff.mp q).1
    exact ⟨hl, c, rfl, (Option.some.inj h).symm⟩
theorem signs_length (x : Str) : (signs x).length = x.cps.size := by simp [signs]
theorem ei_str (h : Ev te Γ (.str x)) : Ei (iStr te) Γ (signs x) := fun F σ W R g k => h F σ W _ g fun v H s r => ⟨x, r, k (Its x) H s ⟨fun W1 i d dm sm ku pu hx => by
  obtain ⟨hi, c, hc, rfl⟩ := signs_get hx
  refine ⟨hi, fun v H' ⟨e, c', hc', ev⟩ => ?_⟩
  rw [hc] at hc'; cases hc'
  subst e ev
  exact ⟨Same.refl _, rfl⟩, fun H2 s2 => by rw [signs_length]; exact Nat.le_refl _⟩⟩
theorem eia_str (h : Ev te Γ (.str x)) : Ei (iAny K te) Γ (signs x) := ei_r (ei_r (ei_str h))
/-! ### builtins over lists -/
theorem ev_all {bs : List Bool} (h : EvB ta Γ (bs.map D.bl)) : Ev (tCB (rAll K) (tCons ta tNil)) Γ (.bl (bs.all id)) := fun F σ W Q g k => h F σ W _ g fun p vs H s e l => ⟨p, bs, rfl, .of (by rw [e, RepL.bls.mp l]), k _ H s rfl⟩
theorem dl_all {Q : D → Gam → Prop} (h : Dl ta Γ fun d Γ1 => ∃ bs : List Bool, d = .lst (bs.map D.bl) ∧ Q (.bl (bs.all id)) Γ1) : Dl (tCB (rAll K) (tCons ta tNil)) Γ Q := fun F σ W R g k => h F σ W _ g fun v W1 d Γ1 st g1 r ⟨bs, e, q⟩ => by
  subst e
  obtain ⟨p, vs, rfl, e, nu, l⟩ := r
  exact ⟨p, bs, rfl, .of (by rw [e, RepL.bls.mp l]), k _ W1 (.bl (bs.all id)) Γ1 st g1 rfl q⟩
theorem ev_any {bs : List Bool} (h : EvB ta Γ (bs.map D.bl)) : Ev (tCB (rAny K) (tCons ta tNil)) Γ (.bl (bs.any id)) := fun F σ W Q g k => h F σ W _ g fun p vs H s e l => ⟨p, bs, rfl, .of (by rw [e, RepL.bls.mp l]), k _ H s rfl⟩
/-- sep.join(xs) -/
abbrev rJoin (K : PySem.W.Frag) : V → List V → Hp → VK → Prop := fun x xs H Q => ∃ a p, ∃ ys : List Str, x = .str a ∧ xs = [.ref p] ∧ (SqL K H p (ys.map V.str) ∨ SqT K H p (ys.map V.str)) ∧
      (ys.map (·.length)).sum + ys.length * a.length ≤ 16777216 ∧ Q (.str (Txt.join a ys)) H
theorem ev_join {ys : List Str} (ha : Ev ta Γ (.str x)) (hb : EvB tb Γ (ys.map D.str)) (hz : (ys.map (·.length)).sum + ys.length * x.length ≤ 16777216) : Ev (tM1 (rJoin K) ta tb) Γ (.str (Txt.join x ys)) := fun F σ W Q g k =>
  ha F σ W _ g fun v H s r => ⟨⟨x, r⟩, hb F σ (W.at H) _ (g.same s) fun p vs H' s' e l => ⟨x, p, ys, r, rfl, .inl (.of (by rw [e, RepL.strs.mp l])), hz, k _ H' (Same.trans s s') rfl⟩⟩
theorem dl_join {Q : D → Gam → Prop} (ha : Ev ta Γ (.str x)) (hb : Dl tb Γ fun d Γ1 => ∃ ys : List Str, d = .lst (ys.map D.str) ∧ (ys.map (·.length)).sum + ys.length * x.length ≤ 16777216 ∧ Q (.str (Txt.join x ys)) Γ1) : Dl (tM1 (rJoin K) ta tb) Γ Q := fun F σ W R g k =>
  ha F σ W _ g fun v H s r => ⟨⟨x, r⟩, hb F σ (W.at H) _ (g.same s) fun u W2 d Γ1 st g1 rd ⟨ys, e, hz, q⟩ => by
    subst e
    obtain ⟨p, vs, rfl, e, nu, l⟩ := rd
    exact ⟨x, p, ys, r, rfl, .inl (.of (e.trans (by rw [RepL.strs.mp l]))), hz, k _ W2 (.str (Txt.join x ys)) Γ1 ((Stp.of_same g.ok s).trans st) g1 rfl q⟩⟩
/-- list(range(n)) -/
theorem evn_listRg {n : Nat} (h : Ev ta Γ (.int n)) (hn : n ≤ 16777216) : EvN (tLstRg (tRg1 ta)) Γ (rng n) := fun F σ W Q g k => h F σ W _ g fun v H s r => ⟨n, r, RgOk.of_le (by omega) (by omega) (by omega) (by omega), fun q hq => by
  have e : rgV 0 n = (rng n).map scV := by
    unfold rgV rng
    rw [List.map_map]
    refine List.map_congr_left fun i _ => ?_
    show V.int (0 + (i : Int)) = V.int i
    rw [Int.zero_add]
  have l : RepL (W.at H) (rng n) (rgV 0 n) := by
    have := (RepL.ints (W := W.at H) (ns := (List.range n).map fun (i : Nat) => (i : Int)) (vs := rgV 0 n)).mpr (by
      rw [e]; unfold rng; rw [List.map_map, List.map_map]; rfl)
    rw [List.map_map] at this
    exact this
  exact k q _ _ (Same.trans s (same_upd hq)) (s.free hq) upd_same (RepL.plus (W := W.at H) hq (same_upd hq) l)⟩
/-- list(xs), tuple(xs) -/
abbrev rListOf (K : PySem.W.Frag) : List V → Hp → VK → Prop := fun xs H Q => ∃ p ys, xs = [.ref p] ∧ (SqL K H p ys ∨ SqT K H p ys) ∧ ∀ l, H l = none → Q (.ref l) (upd H l (.lst ys))
theorem evn_list (h : EvB ta Γ ds) : EvN (tCB (rListOf K) (tCons ta tNil)) Γ ds := fun F σ W Q g k => h F σ W _ g fun p vs H s e l => ⟨p, vs, rfl, .inl (.of e), fun n hn => k n vs _ (Same.trans s (same_upd hn)) (s.free hn) upd_same (RepL.plus (W := W.at H) hn (same_upd hn) l)⟩
abbrev rTupleOf (K : PySem.W.Frag) : List V → Hp → VK → Prop := fun xs H Q => ∃ p ys, xs = [.ref p] ∧ ((SqL K H p ys ∧ ∀ l, H l = none → Q (.ref l) (upd H l (.tup ys))) ∨ (SqT K H p ys ∧ Q (.ref p) H))
theorem ev_tuple (h : EvB ta Γ ds) : Ev (tCB (rTupleOf K) (tCons ta tNil)) Γ (.tup ds) := fun F σ W Q g k => h F σ W _ g fun p vs H s e l => ⟨p, vs, rfl, .inl ⟨.of e, fun n hn => k _ _ (Same.trans s (same_upd hn)) (rep_new_tup (W := W.at H) (g.same s).ok.dom hn l)⟩⟩
/-- sorted(texts) -/
theorem dl_sortedS {Q : D → Gam → Prop} {r' : List V → Hp → VK → Prop} (h : Dl ta Γ fun d Γ1 => ∃ ys : List Str, d = .lst (ys.map D.str) ∧ ys.length < 64 ∧ ∀ zs : List Str, zs.Perm ys → sortedS zs = true → Q (.lst (zs.map D.str)) Γ1) :
    Dl (tCB (fun xs H Q => r' xs H Q ∨ rSortedS K xs H Q) (tCons ta tNil)) Γ Q := fun F σ W R g k => h F σ W _ g fun v W1 d Γ1 st g1 r ⟨ys, e, hz, q⟩ => by
  subst e
  obtain ⟨p, vs, rfl, e, nu, l⟩ := r
  refine .inr ⟨p, ys, rfl, .of (by rw [e, RepL.strs.mp l]), hz, fun zs n hp hs hn => ?_⟩
  exact k _ (W1.at _) (.lst (zs.map D.str)) Γ1 (st.trans (Stp.of_same g1.ok (same_upd hn))) (g1.same (same_upd hn)) (rep_new_lst g1.ok.dom hn (RepL.strs.mpr rfl)) (q zs hp hs)
theorem opSorted {X : Cx} : CallR X (.builtin "sorted") (fun xs H Q => rSorted X.K xs H Q ∨ rSortedS X.K xs H Q) := cr_sorted.or cr_sortedS
end
end Dw

/-! Rules of the machine that the hand layer lacks: f(k = v) by keywords alone, an attribute as a target within a tuple, count of flat things. -/
namespace Dw
open PySem PySem.Spec PyProof.Rows L2
variable [Tabs0]
section
variable {X : Cx} {CX : CXT} {k : Nat} {f C : Addr} {fd : FuncData} {ps ks : List Str} {sp : Sp} {E : XK} {x m : Str} {p pos apos kpos : Pos} {e o : Expr} {es : List Expr} {kws : List Keyword} {te ta : TE} {t tk : TA} {nm : Option Str}
variable {g : List Value → List Value → List Value} {gV : List V → List V → List V}
theorem pe_callK0 (F : FnOk X.prog X.w X.K X.mg X.base CX k f fd ps sp) (hr : Room k X.A) (hg : Gl X x) (hm : X.mg x = some (.ref f)) (hk : PySem.W.keepIn X.K (.ref f) = true) (hb : KBinds X.K fd ps ks g gV) (hx : Passes CX X E)
    (hkw : PK X kws tk) (hall : (backToKw pos (keywordEach kws X.env)).all (·.1.isSome) = true := by rfl) (hks : (backToKw pos (keywordEach kws X.env)).filterMap (·.1) = ks := by rfl)
    (hdb : (x == ("__debug__" : Str)) = false := by decide)
    (hpl : ((backTo pos (starEach [] X.env)).any (·.1) || (backToKw pos (keywordEach kws X.env)).any (·.1.isNone)) = false := by rfl) :
    PE X (.Call (.Name x p) [] kws pos) (tCallK sp gV E tNil tk) := by
  refine ⟨fun pins s σ H Q I h => ?_⟩
  refine wpAny_Call_Name_kw (ld_glob I hg hm ?_ hdb)
  refine PySem.W.callWith_KW0 (h₀ := X.base) I.ok.mod.kin hk hall ?_ hpl
  refine thn (hkw.run pos pins s σ H _ I h) fun ws s2 ⟨zs, H2, I2, rz, q2⟩ => ⟨I2.kIn, ?_⟩
  rw [hks]
  exact run_fnk F hr hb hx I2 .nil rz q2
end
section
variable {X : Cx} {o : Expr} {f : Str} {pos : Pos} {ta : TE}
/-- x.f as a target -/
def gFld (K : PySem.W.Frag) (ta : TE) (f : Str) : TG := fun y σ H Q => ta σ H fun x H2 => ∃ a C dx fs, x = .ref a ∧ H2 a = some (.ins C dx fs) ∧ Cls K C ∧ NoAttr K C f ∧ fs.length < 1000 ∧ Q σ (upd H2 a (.ins C dx (putF f y fs)))
theorem pg_fld (ha : PE X o ta)
    (hs : ∀ v, assign (.Attribute o f pos) X.env v = (do
      let ov ← holding [v] (eval o X.env)
      standAt pos
      holding [v, ov] (setAttr ov f v)
      release [v, ov] []) := by intro _; rfl) : PG X (.Attribute o f pos) (gFld X.K ta f) := by
  refine ⟨fun pins s σ H v u Q I r h => ?_⟩
  rw [hs]
  refine wpAny_bind (wpAny_holding (thn (ha.run pins s σ H _ I h) fun ov s1 ⟨x, H2, I2, rx, a, C, dx, fs, ex, ea, c, n, l, q2⟩ => ?_))
  subst ex
  obtain rfl : ov = Value.ref a := rx
  refine wpAny_bind (wpAny_standAt (wpAny_bind (wpAny_holding ?_)))
  exact setattr_ok I2 ea c n l r fun s3 I3 => wpAny_release ⟨σ, _, I3, q2⟩
end
end Dw

/-! The same rules with the written part K named (within a comprehension's block it is the def's). -/
namespace Dw
open PySem PySem.Spec PyProof.Rows L2
variable [Tabs0]
section
variable {X : Cx} {K : PySem.W.Frag} {e : Expr} {te ta tb : TE} {pos apos : Pos} {tg o i a : Expr} {t : TA}
theorem ixA (K : PySem.W.Frag) (hK : X.K = K := by rfl) : IxR X (rIx K) := hK ▸ ix_seq
theorem ixD (K : PySem.W.Frag) (w : World) (hK : X.K = K := by rfl) (hw : X.w = w := by rfl) : IxR X (rIxD K w) := by subst hK hw; exact ix_kdict
theorem eqA (K : PySem.W.Frag) (hu : X.A.units + 64 < cLine) (hK : X.K = K := by rfl) : OpR X (compareOp .Eq) (rEqX K) := hK ▸ opEq hu
theorem neA (K : PySem.W.Frag) (hu : X.A.units + 64 < cLine) (hK : X.K = K := by rfl) : OpR X (compareOp .NotEq) (rNeX K) := hK ▸ opNe hu
theorem inA (K : PySem.W.Frag) (hK : X.K = K := by rfl) : OpR X (compareOp .In) (rOr (rIn K false) rInS) := hK ▸ opIn
theorem ninA (K : PySem.W.Frag) (hK : X.K = K := by rfl) : OpR X (compareOp .NotIn) (rOr (rIn K true) rNinS) := hK ▸ opNotIn
theorem lenA (K : PySem.W.Frag) (hK : X.K = K := by rfl) : CallR X (.builtin "len") (rLen K) := hK ▸ opLen
theorem allA (K : PySem.W.Frag) (hc : X.calm = true := by rfl) (hK : X.K = K := by rfl) : CallR X (.builtin "all") (rAll K) := hK ▸ cr_all hc
theorem anyA (K : PySem.W.Frag) (hc : X.calm = true := by rfl) (hK : X.K = K := by rfl) : CallR X (.builtin "any") (rAny K) := hK ▸ cr_any hc
theorem sumA (K : PySem.W.Frag) (hc : X.calm = true := by rfl) (hK : X.K = K := by rfl) : CallR X (.builtin "sum") (rSum K) := hK ▸ cr_sum hc
abbrev rSortedX (K : PySem.W.Frag) : List V → Hp → VK → Prop := fun xs H Q => rSorted K xs H Q ∨ rSortedS K xs H Q
theorem sortedA (K : PySem.W.Frag) (hK : X.K = K := by rfl) : CallR X (.builtin "sorted") (rSortedX K) := hK ▸ opSorted
theorem isiA (K : PySem.W.Frag) (hK : X.K = K := by rfl) : CallR X (.builtin "isinstance") (rIsi K) := hK ▸ call_isi
theorem listA (K : PySem.W.Frag) (hK : X.K = K := by rfl) : CallR X (.type "list") (rListOf K) := hK ▸ call_list_of
theorem tupleA (K : PySem.W.Frag) (hK : X.K = K := by rfl) : CallR X (.type "tuple") (rTupleOf K) := hK ▸ call_tuple_of
theorem joinA (K : PySem.W.Frag) (ho : PE X o ta) (he : PE X e te) (hK : X.K = K := by rfl) (hs : starEach [e] X.env = [(false, eval e X.env)] := by rfl) (hbase : attributeBase o "join" X.env (eval o X.env) = eval o X.env := by rfl) (hline : (apos.endLine == pos.line) = true := by rfl) :
    PE X (.Call (.Attribute o "join" apos) [e] [] pos) (tM1 (rJoin K) ta te) := hK ▸ pe_join ho he hs hbase hline
theorem notA (K : PySem.W.Frag) (ha : PE X a ta) (hK : X.K = K := by rfl) : PE X (.UnaryOp .Not a pos) (tNotT K ta) := hK ▸ pe_notT ha
theorem fldA (K : PySem.W.Frag) {f : Str} (he : PE X e ta) (hK : X.K = K := by rfl) (hb : attributeBase e f X.env (eval e X.env) = eval e X.env := by rfl) : PE X (.Attribute e f pos) (tFld K ta f) := hK ▸ pe_fld he hb
theorem truA (K : PySem.W.Frag) (ha : PE X a ta) (hK : X.K = K := by rfl) (he : ∀ whole, isTrue a X.env whole = (do let v ← whole; standAt a.pos; holding [v] (truthy v)) := by intro _; rfl) : PT X a (tTru K ta) := by
  subst hK; exact pt_truth ha he
end
end Dw

/-! Lists of texts as data: their shape, their equality. -/
namespace Dw
open PySem PySem.Spec PyProof.Rows L2
variable [Tabs0]
def okS (x : Str) : Prop := PyData.strOk x = true
section
variable {K : PySem.W.Frag} {xs ys : List Str} {ta tb : TE} {Γ : Gam}
end
/-- a text of one sign -/
def ch (c : Nat) : Str := ⟨#[c]⟩
theorem ch_eq {a b : Nat} : ch a = ch b ↔ a = b := by
  constructor
  · intro h
    have : (#[a] : Array Nat) = #[b] := congrArg Str.cps h
    simpa using this
  · rintro rfl; rfl
/-- a text of its codes -/
def tx (l : List Nat) : Str := ⟨l.toArray⟩
theorem tx_len (l : List Nat) : (tx l).length = l.length := by show l.toArray.size = _; simp
theorem tx_cps (l : List Nat) : (tx l).cps.toList = l := by show l.toArray.toList = l; simp
theorem tx_eq {a b : List Nat} : tx a = tx b ↔ a = b := by
  constructor
  · intro h
    have := congrArg (fun x : Str => x.cps.toList) h
    simpa [tx_cps] using this
  · rintro rfl; rfl
theorem okS_tx {l : List Nat} (h : ∀ c ∈ l, c < 1114112) : okS (tx l) := by
  show l.toArray.all (fun x => decide (x < 0x110000)) = true
  simp
  exact h
theorem of_tx (x : Str) : x = tx x.cps.toList := by
  obtain ⟨⟨l⟩⟩ := x
  rfl
theorem tx_append (a b : List Nat) : tx a ++ tx b = tx (a ++ b) := by
  show (⟨a.toArray ++ b.toArray⟩ : Str) = ⟨(a ++ b).toArray⟩
  simp
theorem signs_tx (l : List Nat) : signs (tx l) = (l.map ch).map D.str := by
  unfold signs
  rw [tx_cps, List.map_map]
  rfl
end Dw

/-! More rules of the machine: () + t, a range that is kept, enumerate of a tuple, first, *rest = a list. -/
namespace Dw
open PySem PySem.Spec PyProof.Rows L2
variable [Tabs0]
section
variable {X : Cx}
/-! ### () + t -/
abbrev rCatE (K : PySem.W.Frag) : R2 := fun x y H Q => ∃ a b ys, x = .ref a ∧ y = .ref b ∧ SqT K H a [] ∧ SqT K H b ys ∧ Q (.ref b) H
theorem op_catE : OpR X (binaryOp .Add) (rCatE X.K) := by
  intro pins s σ H x y v u Q I rx ry ⟨a, b, ys, ex, ey, ha, hb, q⟩
  subst ex; subst ey
  cases rx; cases ry
  obtain ⟨i1, v1, t1, _⟩ := I.tuple ha
  obtain ⟨i2, v2, t2, _⟩ := I.tuple hb
  cases v1
  obtain ⟨o1, g1, c1, n1, d1⟩ := t1
  obtain ⟨o2, g2, c2, n2, d2⟩ := t2
  obtain ⟨oc1, od1, da1, sl1⟩ := o1
  obtain ⟨oc2, od2, da2, sl2⟩ := o2
  simp only at c1 d1 c2 d2
  subst c1; subst d1; subst c2; subst d2
  exact concat_meets ⟨_, g1, rfl⟩ ⟨_, g2, rfl⟩ noFill_tuple_add seq_tuple_add PySem.F.slot_tuple_add PySem.F.entry_tuple_add
    (PySem.F.args_tuple_add_2 _ _) (tuple_addW0 a b _ _ n1 n2 od1 od2 sl1 sl2 rfl) ⟨g1, g2, ⟨.ref b, H, I, rfl, q⟩⟩
abbrev rPlusE (K : PySem.W.Frag) : R2 := rOr (rPlus K) (rCatE K)
theorem plusE (K : PySem.W.Frag) (hK : X.K = K := by rfl) : OpR X (binaryOp .Add) (rPlusE K) := hK ▸ opPlus.or op_catE
variable {K : PySem.W.Frag} {ds es : List D} {i j : Int} {x y : Str} {ta tb : TE} {Γ : Gam}
theorem pl_int : DR2 (rPlusE K) (.int i) (.int j) (.int (i + j)) := dr2_l plus_int
theorem pl_str (h : x.length + y.length ≤ sizeLine) : DR2 (rPlusE K) (.str x) (.str y) (.str (x ++ y)) := dr2_l (plus_str h)
theorem pl_lst (h : ds.length + es.length ≤ sizeLine) : DR2 (rPlusE K) (.lst ds) (.lst es) (.lst (ds ++ es)) := dr2_l (plus_lst h)
theorem pl_evn (ha : EvB ta Γ ds) (hb : EvB tb Γ es) (h : ds.length + es.length ≤ sizeLine) : EvN (tOp (rPlusE K) ta tb) Γ (ds ++ es) := fun F σ W Q g k => ha F σ W _ g fun p vs H s e l => hb F σ (W.at H) _ (g.same s) fun q ws H' s' e' l' =>
  .inl (.inr (.inr (.inl ⟨p, q, vs, ws, rfl, rfl, s' _ _ e, e', by rw [← l.length, ← l'.length]; exact h, fun n hn =>
    k n (vs ++ ws) _ (Same.trans s (Same.trans s' (same_upd hn))) (s.free (s'.free hn)) upd_same (RepL.plus (W := W.at H') hn (same_upd hn) ((RepL.same (W := W.at H) s' l).append l'))⟩)))

/-! ### range(n), kept -/
def iRgO (te : TE) : TI := fun σ H R => te σ H fun x H1 => ∃ p lo hi, x = .ref p ∧ H1 p = some (.rng lo hi) ∧ (-(2 ^ 62) ≤ lo ∧ lo < 2 ^ 62 ∧ -(2 ^ 62) ≤ hi ∧ hi < 2 ^ 62) ∧ R (Itr lo (hi - lo).toNat) H1
theorem pi_rgO {tg l : Expr} {te : TE} (hl : PE X l te) : PI X tg l (iRgO te) := by
  refine ⟨fun pins s σ H R I h => thn (hl.run pins s σ H _ I h) fun v s1 ⟨x, H1, I1, r1, q1⟩ => ?_⟩
  obtain ⟨p, lo, hi, ex, hp, ⟨b1, b2, b3, b4⟩, q⟩ := q1
  subst ex
  cases r1
  obtain ⟨t, u, w, hr⟩ := I1.hok p _ hp
  have hr' : IsRange s1.heap p lo hi 1 t u w := hr
  refine wpAny_pyIter_range hr' (small_one b1 b2 b3 b4) ?_
  refine ⟨s1.heap.objs.size, [s1.heap.objs.size], _, _, H1, rfl, I1.kept (t' := s1.toks) fun b o e => Heap.get?_push_of_some _ e, turn_range _ lo (hi - lo).toNat, ?_, fun b hb => ?_, q⟩
  · have e1 : lo + ((0 : Nat) : Int) * 1 = lo := by simp
    have e2 : (((hi - lo).toNat : Nat) : Int) - ((0 : Nat) : Int) = Builtin.Range.rangeSize lo hi 1 := by rw [rangeSize_one]; split <;> omega
    show IsRangeIter _ _ (lo + ((0 : Nat) : Int) * 1) (_ - _) 1
    rw [e1, e2]
    exact Heap.get?_push_size _ rfl
  · obtain rfl : b = s1.heap.objs.size := by simpa using hb
    exact I1.fpOk (Nat.le_refl _) (I1.hok.fresh (Nat.le_refl _))
abbrev iAnyR (K : PySem.W.Frag) (t : TE) : TI := fun σ H R => iAny K t σ H R ∨ iRgO t σ H R
theorem piR (K : PySem.W.Frag) {tg e : Expr} {te : TE} (h : PE X e te) (hK : X.K = K := by rfl) : PI X tg e (iAnyR K te) := hK ▸ pi_or (pi_any h) (pi_rgO h)
theorem ej_list {xs : List D} (h : EvB ta Γ xs) : Ei (iAnyR K ta) Γ xs := ei_l (eia_list h)
theorem ej_tup {xs : List D} (h : Ev ta Γ (.tup xs)) : Ei (iAnyR K ta) Γ xs := ei_l (eia_tup h)
theorem ej_str (h : Ev ta Γ (.str x)) : Ei (iAnyR K ta) Γ (signs x) := ei_l (eia_str h)
theorem dj_list {Q : List D → Gam → Prop} (h : Dl ta Γ fun d Γ1 => ∃ xs, d = .lst xs ∧ Q xs Γ1) : Di (iAnyR K ta) Γ Q := di_l (dia_list h)
/-! ### first, *rest = xs -/
theorem unpack_star1 {prog : Program} {w : World} {A : Around} {E : Value → Shared → Prop} {s : Shared} {l : Addr} {b : Value} {its : List Value} {Q : List Value → Shared → Prop} (hl : s.heap.IsList l (b :: its).toArray) (hh : A.handled = none)
    (hz : its.length ≤ 16000) (h : ∀ (h1 : Heap) (tk : Nat), (∀ c o, s.heap.get? c = some o → h1.get? c = some o) → Q [b, .ref h1.objs.size] { s with heap := h1.push { cls := .type "list", data := .seq its.toArray }, toks := tk }) :
    wpAny (model prog w) A (unpackItems (.ref l) 2 (some 1)) Q E s := by
  have lt : l < s.heap.objs.size := by obtain ⟨o, ho, _⟩ := hl; exact Heap.lt_size ho
  have ne : l ≠ s.heap.objs.size := Nat.ne_of_lt lt
  unfold unpackItems notIterableAtAll
  refine wpAny_bind (wpAny_bind (wpAny_specialOf hl.typeIs slot_list_iter.lookup (wpAny_pure ?_)))
  simp only [Bool.false_eq_true, if_false]
  refine wpAny_bind (wpAny_holding (wpAny_pyIter_list hl ?_))
  refine wpAny_bind (wpAny_holding (PySem.W.kun_draw ne 1 0 _ _ ⟨_, Heap.get?_push_size _ rfl, rfl, rfl⟩ (hl.push _) (by simp) fun ha hit hs => ?_))
  have hla : ha.IsList l (b :: its).toArray := (hl.push _).extBut hs.extBut ne
  rw [Nat.zero_add] at hit
  obtain ⟨oi, hoi, _⟩ := id hit
  obtain ⟨ol, hol, _⟩ := id hla
  rw [if_neg (show ¬ (((b :: its).toArray.toList.drop 0).take 1).length < 1 by simp)]
  refine wpAny_bind (wpAny_holding (PySem.W.kun_collect (s := { s with heap := ha }) (T := "list_iterator") (.inr (.inr (.inl rfl))) (Walks.list (A := A.in1) hh s.heap.objs.size l ne _) (fun j u st => st.1.typeIs) (k := 1) (by simp) ⟨hit, hla⟩
    (Heap.lt_size hoi) (Heap.lt_size hol) (fun hb tk kp => ?_) (by rw [sizeLine_eq]; simp; omega)))
  show wpAny _ _ (if its.length < 0 then _ else _) _ _ _
  rw [if_neg (Nat.not_lt_zero _)]
  show wpAny _ _ (newList (its.take (its.length - 0)) >>= fun d => pure ([b] ++ [d] ++ its.drop (its.length - 0))) _ _ _
  rw [Nat.sub_zero, List.take_length, List.drop_length]
  have k2 : ∀ c o, s.heap.get? c = some o → hb.get? c = some o := fun c o e => kp c o (Nat.ne_of_lt (Heap.lt_size e)) (hs.extBut c o (Nat.ne_of_lt (Heap.lt_size e)) (Heap.get?_push_of_some _ e))
  unfold newList
  refine wpAny_bind (wpAny_newObj_type (wpAny_pure ?_) (by show its.toArray.size ≤ sizeLine; rw [sizeLine_eq, List.size_toArray]; omega))
  exact h hb tk k2
def gStar1 (K : PySem.W.Frag) (g1 g2 : TG) : TG := fun v σ H Q => ∃ a z zs, v = .ref a ∧ SqL K H a (z :: zs) ∧ zs.length ≤ 16000 ∧ ∀ p, H p = none → g1 z σ (upd H p (.lst zs)) fun σ1 H1 => g2 (.ref p) σ1 H1 Q
theorem pg_star1 (hc : X.calm = true) {e1 e2 : Expr} {g1 g2 : TG} {k : Nat} {pos sp : Pos} (h1 : PG X e1 g1) (h2 : PG X e2 g2) (hlen : (assignEach [e1, .Starred e2 sp] X.env).length = 2 := by rfl)
    (hst : (assignEach [e1, .Starred e2 sp] X.env).findIdx? (·.1) = some 1 := by rfl) (hm : (assignEach [e1, .Starred e2 sp] X.env).map (·.2) = [assign e1 X.env, assign e2 X.env] := by rfl) :
    PG X (.Tuple [e1, .Starred e2 sp] k pos) (gStar1 X.K g1 g2) := by
  refine ⟨fun pins s σ H v u Q I r hw => ?_⟩
  obtain ⟨a, z, zs, ev, hq, hl, hw⟩ := hw
  subst ev
  cases r
  obtain ⟨its, rv, pl, hz⟩ := I.list hq
  cases rv with
  | cons rz rr =>
    rename_i b l
    rw [assign_Tuple]
    refine wpAny_bind (wpAny_standAt ?_)
    unfold unpack
    rw [hlen, hst, hm]
    refine wpAny_bind (wpAny_holding (unpack_star1 pl.isList (I.ok.hd hc) (by rw [← rr.length]; exact hl) fun ha tk kp => ?_))
    have I1 : Inv X pins σ H { s with heap := ha, toks := tk } := I.kept kp
    have I2 := I1.laid (t' := tk) (o := .lst zs) (h' := ha.push { cls := .type "list", data := .seq l.toArray }) (fun c o e => Heap.get?_push_of_some _ e) (Nat.le_refl _)
      ⟨by have hz' : zs.length + 1 ≤ sizeLine := hz
          omega, l, 0, rr, Heap.get?_push_size _ rfl⟩
    refine assignInOrder_cons (thn (h1.run pins _ σ _ z b _ I2 rz (hw _ (I1.hok.fresh (Nat.le_refl _)))) fun _ s3 ⟨σ3, H3, I3, q3⟩ => ?_)
    exact assignInOrder_cons (thn (h2.run pins s3 σ3 H3 (.ref ha.objs.size) _ Q I3 rfl q3) fun _ s4 ⟨σ4, H4, I4, q4⟩ => assignInOrder_nil ⟨σ4, H4, I4, q4⟩)
end
end Dw

/-! enumerate of a tuple. -/
namespace Dw
open PySem PySem.Spec PyProof.Rows L2
variable [Tabs0]
theorem meets_enum_tup (l : Addr) (items : Array Value) (n : Nat) (dd : Option Addr) (sl : Array (Option Value)) :
    Meets (Builtin.«enumerate.__new__» ⟨[.type "enumerate", .ref l], []⟩) (fun _ R s => s.heap.get? l = some { cls := .type "tuple", dict := dd, data := .seq items n, slots := sl } ∧
      R (.ok (.ret (.ref (s.heap.push { cls := .type "tuple_iterator", data := .fields #[.ref l, .int 0 0] }).objs.size)))
        { s with heap := (s.heap.push { cls := .type "tuple_iterator", data := .fields #[.ref l, .int 0 0] }).push { cls := .type "enumerate", data := .fields #[.none, .bool false, .ref s.heap.objs.size, rawInt 0, .none, .none] } }) :=
  .of_wp fun prog w A R s h => by
    obtain ⟨hp, g, d, tk, os⟩ := s
    obtain ⟨hl, h⟩ := h
    have hL : hp.IsTuple l items := ⟨_, hl, rfl, n, rfl⟩
    have hsub := sub_enumerate
    wp_walk using wpAny_loadPart' hl
    refine wpAny_stack_any fun st => wpAny_pure ?_
    split
    · rename_i c _ _ _ _ _
      cases (c == Value.type "enumerate") <;> (wp_walk using wpAny_loadPart' hl, wpAny_pyIter_tuple hL; exact ⟨_, rfl, h⟩)
    · wp_walk using wpAny_loadPart' hl, wpAny_pyIter_tuple hL
      exact ⟨_, rfl, h⟩
end Dw

/-! for i, x in enumerate(a tuple). -/
namespace Dw
open PySem PySem.Spec PyProof.Rows L2
variable [Tabs0]
theorem call_enum_tup {prog : Program} {w : World} {A : Around} {E : Value → Shared → Prop} {s : Shared} {l : Addr} {items : Array Value} {Q : Value → Shared → Prop} (hL : IsTup s.heap l items)
    (h : ∀ h' : Heap, IsEnum h' (s.heap.objs.size + 1) s.heap.objs.size 0 .none → h'.IsTupleIter s.heap.objs.size l 0 →
      (∀ b o, s.heap.get? b = some o → h'.get? b = some o) → Q (.ref (s.heap.objs.size + 1)) { s with heap := h' }) :
    wpAny (model prog w) A (call (.type "enumerate") [.ref l]) Q E s := by
  obtain ⟨⟨c, dct, dt, sl⟩, hl, hc, n, hd⟩ := hL
  simp only at hc hd
  subst hc; subst hd
  have z1 : (s.heap.push { cls := .type "tuple_iterator", data := .fields #[.ref l, .int 0 0] }).objs.size = s.heap.objs.size + 1 := Heap.size_push ..
  refine callType_new F.called_enumerate (by decide) (F.typeCall_enumerate_1 _) (F.newCall_enumerate_1 _)
    (fun obj => F.args_object_init_2 obj _) F.entry_enumerate_new (meets_enum_tup l items n dct sl) ⟨hl, ?_⟩
  show _ ∧ _
  rw [z1]
  have g0 : ∀ b o, s.heap.get? b = some o → ((s.heap.push { cls := .type "tuple_iterator", data := .fields #[.ref l, .int 0 0] }).push { cls := .type "enumerate", data := .fields #[.none, .bool false, .ref s.heap.objs.size, rawInt 0, .none, .none] }).get? b = some o :=
    fun b o e => Heap.get?_push_of_some _ (Heap.get?_push_of_some _ e)
  have g1 := Heap.get?_push_size (s.heap.push { cls := .type "tuple_iterator", data := .fields #[.ref l, .int 0 0] })
    (o := { cls := .type "enumerate", data := .fields #[.none, .bool false, .ref s.heap.objs.size, rawInt 0, .none, .none] }) rfl
  rw [z1] at g1
  refine ⟨⟨_, g1, rfl⟩, h _ g1 ⟨_, Heap.get?_push_of_some _ (Heap.get?_push_size _ rfl), rfl, rfl⟩ g0⟩
/-- the tuple at a, each item in a new pair -/
def IteT (K : PySem.W.Frag) (a : Addr) : It :=
  ⟨fun i H => ∃ xs x, SqT K H a xs ∧ xs[i]? = some x, fun i H v H' => ∃ T x, v = .ref T ∧ H T = none ∧ H' = upd H T (.tup [.int (i : Nat), x]) ∧ ∀ xs, SqT K H a xs → xs[i]? = some x, fun i H => ∃ xs : List V, SqT K H a xs ∧ xs.length = i⟩
/-- several records of ours have turned -/
theorem inv_turned {X : Cx} {pins : List (Addr × Obj)} {σ : L2.St} {H : Hp} {s : Shared} {h' : Heap} {t' : Nat} {ch : List Addr} (I : Inv X pins σ H s) (k : ∀ b o, b ∉ ch → s.heap.get? b = some o → h'.get? b = some o) (hf : ∀ b ∈ ch, FpOk X pins H b) :
    Inv X pins σ H { s with heap := h', toks := t' } := by
  have nit : ∀ b u, H b = some u → b ∉ ch := fun b u e z => by
    have q := (hf b z).1
    rw [q] at e; cases e
  refine I.step (g' := s.gens) (d' := s.drawn) (ch := ch) (fun b hb => ?_) (fun b o _ _ hc e _ => k b o hc e) (fun b o _ _ hc e _ => ⟨o.slots, k b o hc e⟩) (fun _ _ _ _ n => n) (fun b o hc e => ⟨o, k b o hc e⟩) (fun _ _ e => e) (fun _ _ _ e => e)
    (fun b ps e => ⟨#[], by rw [e]; simp⟩) (fun m hm => ?_) (fun b u e => ?_) I.bare
  · obtain ⟨f0, f1, f2, f3, f4, f5⟩ := hf b hb
    exact ⟨f3, f1, f4, f5⟩
  · obtain ⟨o, es, ep, ho, r⟩ := hm
    exact ⟨o, es, ep, k _ o (fun z => (hf _ z).2.1 rfl) ho, r⟩
  · refine (I.hok b u e).stay (fun c v hc q => k c v ?_ q) (fun _ q => q) fun _ _ q => q
    rcases hc with z | z
    · rw [z]; exact nit b u e
    · exact nit c _ z
theorem turn_enumT {P : Program} {w : World} {K : PySem.W.Frag} {elts : List Expr} {kk : Nat} {tpos : Pos} (a e it : Addr) (nai : a ≠ it) (nae : a ≠ e) (nei : e ≠ it) :
    Turn P w K (.Tuple elts kk tpos) (IteT K a) [e, it] e (fun i h => (∃ old, IsEnum h e it ((0 : Int) + (i : Int)) old) ∧ h.IsTupleIter it a i) where
  mem := by simp
  obj := fun i h ⟨⟨old, he⟩, ⟨o, ho, hc, hd⟩⟩ b hb => by
    rcases (show b = e ∨ b = it by simpa using hb) with z | z
    · subst z; exact ⟨_, he, fun v q => nomatch q⟩
    · subst z; exact ⟨o, ho, fun v q => by rw [hd] at q; cases q⟩
  keep := fun i h h' ⟨⟨old, he⟩, hi⟩ k => ⟨⟨old, k e (by simp) _ he⟩, hi.at fun o q => k it (by simp) o q⟩
  item := by
    intro X hP hw hK hc i pins s σ H E I hf st hg
    subst hP; subst hw; subst hK
    obtain ⟨xs, x, hq, hx⟩ := hg
    obtain ⟨its, rv, p, hz⟩ := I.tuple hq
    obtain ⟨u, hu, ru⟩ := rv.get hx
    have G := GoesN.enumFrom (prog := X.prog) (w := X.w) (A := X.A) (elts := elts) (x1 := kk) (pos := tpos) 0 (Draws.tuple (A := X.A.in1) (I.ok.hd hc) it a nai its.toArray) e nei (by simp [nei, Ne.symm nae]) (by simp)
    have hi : i < its.toArray.size := by
      have := (List.getElem?_eq_some_iff.mp hu).1
      simpa using this
    refine thn (G.goes i s (fun v s2 => ∃ T t y, v = Value.ref T ∧ s.heap.objs.size ≤ T ∧ its.toArray[i]? = some y ∧ s2.heap.IsTuple T #[.int ((0 : Int) + (i : Int)) t, y] ∧
        (∃ old, IsEnum s2.heap e it ((0 : Int) + ((i + 1 : Nat) : Int)) old) ∧ s2.heap.IsTupleIter it a (i + 1) ∧ (∀ b o, b ∉ [e, it] → s.heap.get? b = some o → s2.heap.get? b = some o) ∧ ∃ h' tk, s2 = { s with heap := h', toks := tk }) E hi ⟨st.1, st.2, p⟩
      fun v h' tk ⟨T, t, y, ev, hT, hy, htu⟩ ⟨ho, hit, _⟩ kp _ => ⟨T, t, y, ev, hT, hy, htu, ho, hit, kp, h', tk, rfl⟩) fun r s1 ⟨v, er, hv⟩ => ⟨v, er, thn hv fun _ s2 ⟨T, t, y, ev, hT, hy, htu, ho, hit, kp, h', tk, es⟩ => ?_⟩
    subst es; subst ev
    have ey : y = u := by
      rw [List.getElem?_toArray, hu] at hy
      exact (Option.some.inj hy).symm
    subst ey
    have new : ObjOk X.prog X.w (upd H T (.tup [.int (i : Nat), x])) h' T (.tup [.int (i : Nat), x]) :=
      ⟨by show 2 ≤ sizeLine; decide, [.int ((0 : Int) + (i : Int)) t, y], .cons ⟨t, by rw [Int.zero_add]⟩ (.cons ru .nil), htu⟩
    have I1 : Inv X pins σ (upd H T (.tup [.int (i : Nat), x])) { s with heap := h', toks := tk } := I.turnedNew (ch := [e, it]) kp hf hT new
    refine ⟨.ref T, _, I1, rfl, ⟨T, x, rfl, I.hok.fresh hT, rfl, fun ys hy => by rw [I.tuple_inj hy hq]; exact hx⟩, ⟨ho, hit⟩, fun b hb => ?_⟩
    have lt : b ≠ T := by
      rcases (show b = e ∨ b = it by simpa using hb) with z | z
      · obtain ⟨old, he⟩ := st.1
        rw [z]; exact Nat.ne_of_lt (Nat.lt_of_lt_of_le (Heap.lt_size he) hT)
      · obtain ⟨o, q, _⟩ := st.2
        rw [z]; exact Nat.ne_of_lt (Nat.lt_of_lt_of_le (Heap.lt_size q) hT)
    rw [upd_ne lt]
    exact (hf b hb).1
  done := by
    intro X hP hw hK hc i pins s σ H E I hf st hg
    subst hP; subst hw; subst hK
    obtain ⟨xs, hq, hx⟩ := hg
    obtain ⟨its, rv, p, hz⟩ := I.tuple hq
    have hl := rv.length
    have G := GoesN.enumFrom (prog := X.prog) (w := X.w) (A := X.A) (elts := elts) (x1 := kk) (pos := tpos) 0 (Draws.tuple (A := X.A.in1) (I.ok.hd hc) it a nai its.toArray) e nei (by simp [nei, Ne.symm nae]) (by simp)
    have en : its.toArray.size = i := by rw [List.size_toArray]; omega
    rw [en] at G
    exact G.stops s _ E ⟨st.1, st.2, p⟩ fun h' tk kp _ => inv_turned I kp hf
  self := fun A i s Q E ⟨⟨_, he⟩, _⟩ h => wpAny_pyIter_enum he h
def iEnumT (K : PySem.W.Frag) (ta : TA) : TI := fun σ H R => ta σ H fun vs H1 => ∃ a xs, vs = [.ref a] ∧ SqT K H1 a xs ∧ R (IteT K a) H1
theorem pi_enumT {X : Cx} {e : Expr} {ta : TA} {p pos tpos : Pos} {elts : List Expr} {kk : Nat} (hg : Gl X "enumerate") (hm : X.mg "enumerate" = none) (ha : PA X [e] ta) (hs : starEach [e] X.env = [(false, eval e X.env)] := by rfl) :
    PI X (.Tuple elts kk tpos) (.Call (.Name "enumerate" p) [e] [] pos) (iEnumT X.K ta) := by
  refine ⟨fun pins s σ H R I h => ?_⟩
  refine Call_ (ld_blt I hg hm boot_enumerate (callWith_type1 (thn (ha.run pos pins s σ H _ I h) fun us s1 ⟨vs, H1, I1, r1, q1⟩ => ?_) hs rfl))
  obtain ⟨a, xs, ex, hq, q⟩ := q1
  subst ex
  obtain ⟨u, eu, ru⟩ := vals1 r1
  subst eu
  cases ru
  obtain ⟨its, rv, tp, hz⟩ := I1.tuple hq
  have lta : a < s1.heap.objs.size := by obtain ⟨o, ho, _⟩ := tp; exact Heap.lt_size ho
  refine call_enum_tup tp fun h' he hit hk => wpAny_pyIter_enum he ?_
  refine ⟨s1.heap.objs.size + 1, [s1.heap.objs.size + 1, s1.heap.objs.size], _, _, H1, rfl, I1.kept (t' := s1.toks) hk, turn_enumT a (s1.heap.objs.size + 1) s1.heap.objs.size (Nat.ne_of_lt lta) (Nat.ne_of_lt (Nat.lt_succ_of_lt lta)) (Nat.succ_ne_self _), ⟨⟨.none, he⟩, hit⟩, fun b hb => ?_, q⟩
  have hle : s1.heap.objs.size ≤ b := by
    rcases (show b = s1.heap.objs.size + 1 ∨ b = s1.heap.objs.size by simpa using hb) with z | z
    · rw [z]; exact Nat.le_succ _
    · rw [z]; exact Nat.le_refl _
  exact I1.fpOk hle (I1.hok.fresh hle)
theorem enumTA (K : PySem.W.Frag) {X : Cx} {e : Expr} {ta : TA} {p pos tpos : Pos} {elts : List Expr} {kk : Nat} (hg : Gl X "enumerate") (hm : X.mg "enumerate" = none) (ha : PA X [e] ta) (hK : X.K = K := by rfl) (hs : starEach [e] X.env = [(false, eval e X.env)] := by rfl) :
    PI X (.Tuple elts kk tpos) (.Call (.Name "enumerate" p) [e] [] pos) (fun σ H R => iEnum K ta σ H R ∨ iEnumT K ta σ H R) := hK ▸ pi_or (pi_enum hg hm ha hs) (pi_enumT hg hm ha hs)
theorem zipA (K : PySem.W.Frag) {X : Cx} {e e2 : Expr} {ta : TA} {p pos tpos : Pos} {elts : List Expr} {kk : Nat} (hg : Gl X "zip") (hm : X.mg "zip" = none) (ha : PA X [e, e2] ta) (hK : X.K = K := by rfl)
    (hs : starEach [e, e2] X.env = (false, eval e X.env) :: starEach [e2] X.env := by rfl) (hpl : (backTo pos (starEach [e2] X.env)).any (·.1) = false := by rfl) :
    PI X (.Tuple elts kk tpos) (.Call (.Name "zip" p) [e, e2] [] pos) (RZ.iZipA K ta) := hK ▸ RZ.pi_zipA hg hm ha hs hpl
/-! ### over data -/
/-- the pairs (0, x), (1, y), .. -/
def enumD (xs : List D) : List D := xs.mapIdx fun i x => .tup [.int (i : Nat), x]
theorem enumD_get {xs : List D} {i : Nat} {d : D} (h : (enumD xs)[i]? = some d) : ∃ x, xs[i]? = some x ∧ d = .tup [.int (i : Nat), x] := by
  unfold enumD at h
  rw [List.getElem?_mapIdx] at h
  cases q : xs[i]? with
  | none => rw [q] at h; cases h
  | some x => rw [q] at h; exact ⟨x, rfl, (Option.some.inj h).symm⟩
theorem enumD_length (xs : List D) : (enumD xs).length = xs.length := by simp [enumD]
section
variable {K : PySem.W.Frag} {Γ : Gam} {ta : TE} {xs ys : List D}
theorem ei_enumT {r : TI} (h : Ev ta Γ (.tup xs)) : Ei (fun σ H R => r σ H R ∨ iEnumT K (tCons ta tNil) σ H R) Γ (enumD xs) := fun F σ W R g k => .inr (h F σ W _ g fun v H s ⟨a, vs, ev, ha, nu, l⟩ => by
  subst ev
  refine ⟨a, vs, rfl, ha.sq, k (IteT K a) H s ⟨fun W2 i x dm s2 ku pu hx => ?_, fun H2 s2 => ⟨vs, (ha.same s2).sq, by rw [enumD_length, l.length]⟩⟩⟩
  obtain ⟨y, hy, rfl⟩ := enumD_get hx
  obtain ⟨v, hv, rv⟩ := l.get hy
  have h2 : TupAt W2.H a vs := ha.same s2
  refine ⟨⟨vs, v, h2.sq, hv⟩, fun u H' ⟨T, z, eu, hT, eH, hz⟩ => ?_⟩
  subst eu; subst eH
  have := hz vs h2.sq
  rw [hv] at this; cases this
  exact ⟨same_upd hT, rep_new_tup dm hT ⟨_, _, rfl, rfl, v, _, rfl, Rep.mono (W := W.at H) (W' := W2) (fun b u e n => ⟨s2 b u e, ku b u e n⟩) (fun b z => by rw [pu]; exact z) _ _ rv, rfl⟩⟩)
end
end Dw

/-! zip, slices, fields, isinstance, over data. -/
namespace Dw
open PySem PySem.Spec PyProof.Rows L2
variable [Tabs0]
def zipD (xs ys : List D) : List D := (xs.zip ys).map fun p => .tup [p.1, p.2]
theorem zipD_get {xs ys : List D} {i : Nat} {d : D} (h : (zipD xs ys)[i]? = some d) : ∃ x y, xs[i]? = some x ∧ ys[i]? = some y ∧ d = .tup [x, y] := by
  unfold zipD at h
  rw [List.getElem?_map] at h
  cases q : (xs.zip ys)[i]? with
  | none => rw [q] at h; cases h
  | some p =>
    rw [q] at h
    rw [List.getElem?_zip_eq_some] at q
    exact ⟨p.1, p.2, q.1, q.2, (Option.some.inj h).symm⟩
theorem zipD_length (xs ys : List D) : (zipD xs ys).length = min xs.length ys.length := by simp [zipD]
section
variable {K : PySem.W.Frag} {Γ : Gam} {ta tb te : TE} {xs ys ds : List D} {d : D}
theorem ei_zipT (h1 : Ev ta Γ (.tup xs)) (h2 : Ev tb Γ (.tup ys)) : Ei (RZ.iZipA K (tCons ta (tCons tb tNil))) Γ (zipD xs ys) := fun F σ W R g k => h1 F σ W _ g fun v H s ⟨a, vs, ev, ha, nu, l⟩ => h2 F σ (W.at H) _ (g.same s) fun u H' s' ⟨b, ws, eu, hb, nu', l'⟩ => by
  subst ev; subst eu
  have ha' := ha.same s'
  refine ⟨a, b, vs, ws, rfl, .inr ⟨ha'.sq, hb.sq, k (RZ.ItzT K a b) H' (Same.trans s s') ⟨fun W2 i x dm s2 ku pu hx => ?_, fun H2 s2 => ?_⟩⟩⟩
  · obtain ⟨x, y, hx1, hy, rfl⟩ := zipD_get hx
    obtain ⟨v, hv, rv⟩ := (RepL.same (W := W.at H) s' l).get hx1
    obtain ⟨u, hu, ru⟩ := l'.get hy
    have a2 := ha'.same s2
    have b2 := hb.same s2
    refine ⟨⟨vs, ws, v, u, a2.sq, b2.sq, hv, hu⟩, fun z H3 ⟨T, p, q, ez, hT, eH, hp, hq⟩ => ?_⟩
    subst ez; subst eH
    have e1 := hp vs a2.sq
    have e2 := hq ws b2.sq
    rw [hv] at e1; cases e1
    rw [hu] at e2; cases e2
    have mv : ∀ {d v}, Rep (W.at H') d v → Rep W2 d v := fun {d v} r => Rep.mono (W := W.at H') (W' := W2) (fun b u e n => ⟨s2 b u e, ku b u e n⟩) (fun b z => by rw [pu]; exact z) d v r
    exact ⟨same_upd hT, rep_new_tup dm hT ⟨_, _, rfl, mv rv, _, _, rfl, mv ru, rfl⟩⟩
  · refine ⟨vs, ws, (ha'.same s2).sq, (hb.same s2).sq, ?_⟩
    rw [zipD_length, ← l.length, ← l'.length]
    omega
/-! ### slices -/
def Eo (t : TO) (Γ : Gam) (o : Option Int) : Prop := ∀ (F : Addr → Prop) (σ : L2.St) (W : Wd) (Q : Option Int → Hp → Prop), SR F Γ σ W → (∀ H, Same W.H H → Q o H) → t σ W.H Q
theorem eo_none : Eo tNoPart Γ none := fun F σ W Q g k => k W.H (Same.refl _)
theorem eo_some {i : Int} (h : Ev te Γ (.int i)) : Eo (tPart te) Γ (some i) := fun F σ W Q g k => h F σ W _ g fun v H s r => ⟨i, r, k H s⟩
/-- xs[lo:hi] -/
def cutD (xs : List D) (lo hi : Option Int) : List D := (xs.drop (HT.sIx xs.length 0 lo)).take (HT.sIx xs.length xs.length hi - HT.sIx xs.length 0 lo)
theorem repL_cut {W : Wd} {vs : List V} {lo hi : Option Int} (l : RepL W ds vs) : RepL W (cutD ds lo hi) (cutV vs lo hi) := by
  unfold cutD cutV
  rw [l.length]
  exact (l.drop _).take _
/-! ### fields -/
theorem ev_fld {C : Addr} {ns : List Str} {f : Str} (cl : Cls K C) (na : NoAttr K C f) (h : Ev ta Γ (.obj C ns ds)) (hl : (ns.zip ds).lookup f = some d) : Ev (tFld K ta f) Γ d := fun F σ W Q g k => h F σ W _ g fun v H s ⟨a, dx, vs, ev, e, nu, l, r⟩ => by
  subst ev
  have key : ∀ (ns : List Str) (ds : List D) (vs : List V), RepL (W.at H) ds vs → (ns.zip ds).lookup f = some d → ∃ v, (ns.zip vs).lookup f = some v ∧ Rep (W.at H) d v := by
    intro ns
    induction ns with
    | nil => intro ds vs _ q; simp at q
    | cons n ns ih =>
      intro ds vs r q
      cases ds with
      | nil => simp at q
      | cons e ds =>
        obtain ⟨v, rr, rfl, r1, r2⟩ := r
        rw [List.zip_cons_cons, List.lookup_cons] at q ⊢
        cases hb : f == n with
        | true =>
          rw [hb] at q
          exact ⟨v, rfl, by rw [← Option.some.inj q]; exact r1⟩
        | false =>
          rw [hb] at q
          exact ih ds rr r2 q
  obtain ⟨v, hv, rv⟩ := key ns ds vs r hl
  exact ⟨a, C, dx, _, v, rfl, e, cl, na, hv, k v H s rv⟩
/-! ### isinstance with one class -/
/-- a value's type, as the fragment's deciders take it -/
def tyD : D → Value
  | .non => .type "NoneType" | .bl _ => .type "bool" | .int _ => .type "int" | .str _ => .type "str" | .tup _ => .type "tuple" | .tupN _ => .type "tuple" | .lst _ => .type "list" | .dct _ _ => .type "dict" | .obj C _ _ => .ref C | _ => .none
structure InsOk (K : PySem.W.Frag) (C : Addr) : Prop where
  cl : Cls K C
  ha : PySem.W.findIn K (.ref C) "__class__" = some (some (.builtin "object.__class__"))
  hn : PySem.W.specialIn K (.builtin "object.__class__") "__get__" = some (some (.builtin "getset_descriptor.__get__"))
  ht : PySem.W.takesIn K (.builtin "object.__class__") = some true
  hm : PySem.W.mroIn K C (.type "object") = some true
def hasTy : D → Bool
  | .raw _ => false | .purse => false | .rng _ _ => false | .obj _ _ _ => false | .scr _ _ => false | .tag _ => false | .fnv _ _ => false | .clo _ _ _ => false | .tupN _ => false | _ => true
theorem ty_of {W : Wd} {v : V} (r : Rep W d v) (h : hasTy d = true ∨ ∃ C ns ds, d = .obj C ns ds ∧ InsOk K C) : TyX K W.H v (tyD d) := by
  cases d with
  | non => rw [show v = V.non from r]; exact .base .non
  | bl b => rw [show v = V.bl b from r]; exact .base (.bl b)
  | int b => rw [show v = V.int b from r]; exact .base (.int b)
  | str b => rw [show v = V.str b from r]; exact .base (.str b)
  | tup ds =>
    obtain ⟨a, vs, ev, e, _⟩ := r
    rw [ev]
    exact e.elim (fun e => .base (.tup e)) fun ⟨o, e⟩ => .fTuple e
  | tupN ds => obtain ⟨a, vs, ev, ⟨o, e, _⟩, _⟩ := r; rw [ev]; exact .fTuple e
  | lst ds => obtain ⟨a, vs, ev, e, _⟩ := r; rw [ev]; exact .base (.lst e)
  | dct ks ds => obtain ⟨a, vs, ev, e, _⟩ := r; rw [ev]; exact .base (.dK e)
  | obj C ns ds =>
    obtain ⟨a, dx, vs, ev, e, _⟩ := r
    rcases h with h | ⟨C', ns', ds', q, o⟩
    · cases h
    · cases q; rw [ev]; exact .base (.ins e o.cl o.ha o.hn o.ht o.hm)
  | raw _ => rcases h with h | ⟨_, _, _, q, _⟩ <;> first | cases h | cases q
  | scr _ _ => rcases h with h | ⟨_, _, _, q, _⟩ <;> first | cases h | cases q
  | tag _ => rcases h with h | ⟨_, _, _, q, _⟩ <;> first | cases h | cases q
  | fnv _ _ => rcases h with h | ⟨_, _, _, q, _⟩ <;> first | cases h | cases q
  | clo _ _ _ => rcases h with h | ⟨_, _, _, q, _⟩ <;> first | cases h | cases q
  | purse => rcases h with h | ⟨_, _, _, q, _⟩ <;> first | cases h | cases q
  | rng _ _ => rcases h with h | ⟨_, _, _, q, _⟩ <;> first | cases h | cases q
theorem ev_isi {c : V} {u : Value} {b : Bool} (h : Ev ta Γ d) (hc : Ev tb Γ (.raw c)) (hd : hasTy d = true ∨ ∃ C ns ds, d = .obj C ns ds ∧ InsOk K C) (hv : ClsV c u) (hk : PySem.W.kitOne K (tyD d) u = some b) : Ev (tCB (rIsi K) (tCons ta (tCons tb tNil))) Γ (.bl b) := fun F σ W Q g k =>
  h F σ W _ g fun v H s r => hc F σ (W.at H) _ (g.same s) fun w H' s' rc => ⟨v, c, tyD d, u, b, by rw [show w = c from rc], hv, ty_of (Rep.same (W := W.at H) s' r) hd, hk, k _ H' (Same.trans s s') rfl⟩
end
end Dw
namespace Dw
open PySem PySem.Spec PyProof.Rows L2
variable [Tabs0]
theorem tupA (K : PySem.W.Frag) (n : Nat) {X : Cx} {pos : Pos} {es : List Expr} {k : Nat} {t : TGs} (hc : X.calm = true) (h : PGs X es t) (hK : X.K = K := by rfl)
    (hn : (assignEach es X.env).length = n := by rfl) (hst : (assignEach es X.env).findIdx? (·.1) = none := by rfl) : PG X (.Tuple es k pos) (gTup K n t) := hK ▸ pg_tup hc h hn hst
/-- a purse is drawn from -/
theorem purse_step {F : Addr → Prop} {W : Wd} {a : Addr} {x y c : Int} (ok : WOk F W) (hp : W.P a) (nn : Tabs0.nm a = none) (hx : 0 ≤ x) (hy : 0 ≤ y) (hy2 : y < 2147483647) :
    Stp F W (W.at (upd W.H a (.lst [.int x, .int y, .int c]))) ∧ WOk F (W.at (upd W.H a (.lst [.int x, .int y, .int c]))) := by
  obtain ⟨u, f, oa⟩ := ok.pu a hp
  obtain ⟨_, _, _, _, _, ha⟩ := oa.purse nn
  have up : ∀ b, b ≠ a → (upd W.H a (.lst [.int x, .int y, .int c])) b = W.H b := fun b hb => upd_ne hb
  refine ⟨⟨fun b o e n => ⟨?_, n⟩, rfl, fun b h => up b fun z => f (by rw [← z]; exact h)⟩, ⟨fun b h z => ?_, ok.fu, fun b h => ?_⟩⟩
  · show (upd W.H a _) b = _
    rw [up b fun z => n (by rw [z]; exact u)]
    exact e
  · have z : (upd W.H a (.lst [.int x, .int y, .int c])) b = none := z
    by_cases hb : b = a
    · rw [hb, upd_same] at z; cases z
    · rw [up b hb] at z; exact ok.dom b h z
  · obtain ⟨u', f', o⟩ := ok.pu b h
    refine ⟨u', f', ?_⟩
    by_cases hb : b = a
    · rw [hb]; exact .of ⟨(x, c), y, hx, hy, hy2, upd_same⟩ nn
    · exact o.upd (no_ext ha) hb
end Dw

/-! Joined texts as codes; a written dict that is asked at once. -/
namespace Dw
open PySem PySem.Spec PyProof.Rows L2
variable [Tabs0]
theorem joinL_nil : ∀ ls : List (List Nat), TL.joinL [] ls = ls.flatten
  | [] => rfl
  | [p] => by simp [TL.joinL]
  | p :: q :: r => by
    show p ++ ([] ++ TL.joinL [] (q :: r)) = _
    rw [List.nil_append, joinL_nil (q :: r)]; rfl
theorem join_tx (a : List Nat) (ys : List (List Nat)) : Txt.join (tx a) (ys.map tx) = tx (TL.joinL a ys) := SX.join_S a ys
theorem flat_chs (l : List Nat) : (l.map fun c => [c]).flatten = l := by
  induction l with
  | nil => rfl
  | cons c l ih => rw [List.map_cons, List.flatten_cons, ih]; rfl
theorem join_chs (l : List Nat) : Txt.join (Str.ofString "") (l.map ch) = tx l := by
  have e : l.map ch = (l.map fun c => [c]).map tx := by rw [List.map_map]; rfl
  have e0 : Str.ofString "" = tx [] := by decide +kernel
  rw [e, e0, join_tx, joinL_nil, flat_chs]
theorem chs_len (l : List Nat) : ((l.map ch).map (·.length)).sum = l.length := by
  induction l with
  | nil => rfl
  | cons c l ih =>
    rw [List.map_cons, List.map_cons, List.sum_cons, ih, List.length_cons]
    show 1 + l.length = _
    omega
section
variable {Γ : Gam} {K : PySem.W.Frag} {ty : TE} {x y : Str}
def dispP (kvs : List (Str × Str)) : List (TE × TE) := kvs.map fun p => (tC (.str p.1), tC (.str p.2))
theorem tPairs_disp (σ : L2.St) (H : Hp) : ∀ (kvs : List (Str × Str)) (Q : List (V × V) → Hp → Prop), Q (kvs.map fun p => (V.str p.1, V.str p.2)) H → tPairs (dispP kvs) σ H Q
  | [], Q, h => h
  | (a, b) :: kvs, Q, h => tPairs_disp σ H kvs (fun ps H3 => Q ((V.str a, V.str b) :: ps) H3) h
theorem ev_dget {trs : List (TE × TE)} (kvs : List (Str × Str)) (ht : trs = dispP kvs) (hl : kvs.length ≤ 15) (h : Ev ty Γ (.str x))
    (hv : valV (mergeK [] (kvs.map fun p => ((Sum.inr p.1 : Key), V.str p.2))) (Sum.inr x) = some (.str y)) : Ev (tDGet (tDisp trs) ty) Γ (.str y) := fun F σ W Q g k => by
  subst ht
  refine fun p hp => tPairs_disp σ _ kvs _ ⟨upd_same, kvs.map fun p => ((Sum.inr p.1 : Key), V.str p.2), by rw [List.map_map]; rfl, by rw [List.length_map]; exact hl, ?_⟩
  rw [upd_upd]
  have sm : Same W.H (upd W.H p (.dK (mergeK [] (kvs.map fun p => ((Sum.inr p.1 : Key), V.str p.2))))) := same_upd hp
  refine h F σ (W.at _) _ (g.same sm) fun v H2 s2 r => ⟨p, .str y, rfl, ?_, k _ H2 (Same.trans sm s2) rfl⟩
  rw [show v = V.str x from r, ← hv]
  exact DGet.k (k := Sum.inr x) (s2 _ _ upd_same)
end
end Dw

/-! Chains of comparisons, dicts of the module, properties, texts cut, objects made. -/
namespace Dw
open PySem PySem.Spec PyProof.Rows L2
variable [Tabs0]
section
variable {Γ : Gam} {K : PySem.W.Frag} {w : World} {ta tb tc te tv : TE} {t : TA} {x y z d : D} {ds : List D} {a b : Str} {C ad : Addr} {E : XK} {s : Spc}
theorem ev_chain {r r' : R2} {p q : Bool} (ha : Ev ta Γ x) (hb : Ev tb Γ y) (hc : p = true → Ev tc Γ z) (h1 : DR2 r x y (.bl p)) (h2 : p = true → DR2 r' y z (.bl q)) : Ev (tChain r r' ta tb tc) Γ (.bl (p && q)) := fun F σ W Q g k =>
  ha F σ W _ g fun u H s ru => hb F σ (W.at H) _ (g.same s) fun v H1 s1 rv => by
    refine h1 (W.at H1) u v _ ((g.same s).same s1).ok.dom (ru.same (W := W.at H) s1) rv fun o H2 s2 ro => ⟨p, ro, ?_⟩
    have s02 : Same W.H H2 := Same.trans s (Same.trans s1 s2)
    cases p with
    | false => exact ite2 (fun h => nomatch h) fun _ => k _ H2 s02 rfl
    | true =>
      refine ite2 (fun _ => ?_) fun h => absurd rfl h
      refine hc rfl F σ (W.at H2) _ (g.same s02) fun e H3 s3 re => ?_
      exact h2 rfl (W.at H3) v e _ ((g.same s02).same (W := W.at H2) s3).ok.dom ((rv.same (W := W.at H1) s2).same (W := W.at H2) s3) re fun o' H4 s4 ro' => k _ H4 (Same.trans s02 (Same.trans s3 s4)) ro'
theorem evt_chain {r r' : R2} {p q : Bool} (ha : Ev ta Γ x) (hb : Ev tb Γ y) (hc : p = true → Ev tc Γ z) (h1 : DR2 r x y (.bl p)) (h2 : p = true → DR2 r' y z (.bl q)) : EvT (tTest (tChain r r' ta tb tc)) Γ (p && q) := evt_test (ev_chain ha hb hc h1 h2)
theorem ev_ixD {p : Addr} (h : Ev tb Γ (.str b)) (hk : KDct K w p b (.str a)) : Ev (tOp (rIxD K w) (tC (.ref p)) tb) Γ (.str a) :=
  ev_op ev_raw h (dr2_flat fun W u v Q r1 r2 k => ⟨p, b, .str a, r1, r2, hk, k _ rfl⟩)
/-- a property of an object -/
theorem ev_prop {x : s.ty} {ns : List Str} (h : Ev ta Γ (.obj C ns ds)) (ha : s.args x = [.obj C ns ds]) (np : noPs (s.args x) = true) (ok : s.ok x) (hd : ∀ d', s.rel x d' → d' = d) : Ev (tProp C (toSp s) [] E ta) Γ d := fun F σ W R g k => h F σ W _ g fun v H st r => by
  obtain ⟨a, dx, vs, ev, e, nu, l, rl⟩ := r
  refine ⟨a, dx, _, ev, e, ?_⟩
  have rr : RepL (W.at H) (s.args x) [v] := by rw [ha]; exact RepL.one ⟨a, dx, vs, ev, e, nu, l, rl⟩
  rw [← ev]
  exact pure_call (W := W.at H) (g.same st) (fun _ z => z) (RepL.delP _ _ np rr) ok fun d' v H' hd' s' r' => by
    rw [hd d' hd'] at r'
    exact k v H' (Same.trans st s') (Rep.addP (W := W) r')
theorem evn_split (ha : Ev ta Γ (.str a)) (hb : Ev tb Γ (.str b)) (hn : (b.length == 0) = false) (hz : a.length + 2 ≤ sizeLine) :
    EvN (tM1 (fun x xs H Q => ∃ a b, x = .str a ∧ xs = [.str b] ∧ (b.length == 0) = false ∧ a.length + 2 ≤ sizeLine ∧ rNewStrs (Txt.split a b) H Q) ta tb) Γ ((Txt.split a b).map D.str) := fun F σ W Q g k =>
  ha F σ W _ g fun v H s r => ⟨⟨a, r⟩, hb F σ (W.at H) _ (g.same s) fun u H1 s1 r1 => ⟨a, b, r, by rw [show u = V.str b from r1], hn, hz, fun p hp =>
    k p _ _ (Same.trans (Same.trans s s1) (same_upd hp)) ((Same.trans s s1).free hp) upd_same (RepL.strs.mpr rfl)⟩⟩
theorem ev_partition (ha : Ev ta Γ (.str a)) (hb : Ev tb Γ (.str b)) (hn : (b.length == 0) = false) (hz : a.length ≤ sizeLine) :
    Ev (tM1 (fun x xs H Q => ∃ a b, x = .str a ∧ xs = [.str b] ∧ (b.length == 0) = false ∧ a.length ≤ sizeLine ∧
      ∀ p, H p = none → Q (.ref p) (upd H p (.tup [.str (Txt.partition a b).1, .str (Txt.partition a b).2.1, .str (Txt.partition a b).2.2]))) ta tb) Γ (.tup [.str (Txt.partition a b).1, .str (Txt.partition a b).2.1, .str (Txt.partition a b).2.2]) := fun F σ W Q g k =>
  ha F σ W _ g fun v H s r => ⟨⟨a, r⟩, hb F σ (W.at H) _ (g.same s) fun u H1 s1 r1 => ⟨a, b, r, by rw [show u = V.str b from r1], hn, hz, fun p hp =>
    k _ _ (Same.trans (Same.trans s s1) (same_upd hp)) (rep_new_tup (W := W.at H1) ((g.same s).same (W := W.at H) s1).ok.dom hp ⟨_, _, rfl, rfl, _, _, rfl, rfl, _, _, rfl, rfl, rfl⟩)⟩⟩
end
end Dw

/-! Objects made: the promise of an __init__, its rules, the call of the class. -/
namespace Dw
open PySem PySem.Spec PyProof.Rows L2
variable [Tabs0]
abbrev rIsNone : R2 := fun x y H Q => y = .non ∧ Q (.bl (decide (x = .non))) H
theorem dr2_isN {d : D} {b : Bool} (h : ∀ (W : Wd) v, Rep W d v → decide (v = V.non) = b) : DR2 rIsNone d .non (.bl b) := dr2_flat fun W u v Q r1 r2 k => ⟨r2, by rw [h W u r1]; exact k _ rfl⟩
/-- an __init__'s promise: the object gets ns and ds, where rel x (.tup ds) -/
def toIn (C : Addr) (ns : List Str) (s : Spc) : Sp := fun vs H Q _ => ∃ (x : s.ty) (F : Addr → Prop) (W : Wd) (a dx : Addr) (us : List V), vs = .ref a :: us ∧ W.H = H ∧ WOk F W ∧ W.U a ∧ ¬ F a ∧ ¬ W.P a ∧ W.H a = some (.ins C dx []) ∧ RepL W (s.args x) us ∧ s.ok x ∧
  ∀ ds zs W', s.rel x (.tup ds) → Stp F W W' → WOk F W' → W'.U a → W'.H a = some (.ins C dx (ns.zip zs)) → ns.length = zs.length → RepL W' ds zs → Q .non W'.H
section
variable {Γ : Gam} {K : PySem.W.Frag} {te tv ta : TE} {t u : TS} {x y d : D} {C : Addr} {s : Spc}
/-- a statement of an __init__ whose object stands at a, with the fields ns so far -/
def DI (C a : Addr) (t : TS) (Γ : Gam) (ns : List Str) (ds : List D) (R : Gam → List Str → List D → Prop) : Prop := ∀ (F : Addr → Prop) (σ : L2.St) (W : Wd) (Dr : Ends) (dx : Addr) (us : List V), SR (Fp F a) Γ σ W → ¬ F a → W.H a = some (.ins C dx (ns.zip us)) → ns.length = us.length → RepL W ds us →
  (∀ σ' Γ' ns' ds' us' W', Stp F W W' → SR (Fp F a) Γ' σ' W' → W'.H a = some (.ins C dx (ns'.zip us')) → ns'.length = us'.length → RepL W' ds' us' → R Γ' ns' ds' → Dr.nx σ' W'.H) → t Dr σ W.H
theorem di_seq {a : Addr} {ns : List Str} {ds : List D} {R : Gam → List Str → List D → Prop} (h : DI C a t Γ ns ds fun Γ' ns' ds' => DI C a u Γ' ns' ds' R) : DI C a (tSeq t u) Γ ns ds R := fun F σ W Dr dx us g nf e l r k =>
  h F σ W { Dr with nx := u Dr } dx us g nf e l r fun σ' Γ' ns' ds' us' W' st g' e' l' r' hR => hR F σ' W' Dr dx us' g' nf e' l' r' fun σ2 Γ2 ns2 ds2 us2 W2 st2 => k σ2 Γ2 ns2 ds2 us2 W2 (st.trans st2)
theorem di_of {a : Addr} {ns : List Str} {ds : List D} {R : Gam → List Str → List D → Prop} (h : Ds t Γ ⟨fun Γ' => R Γ' ns ds, fun _ => False, fun _ => False, fun _ => False⟩) : DI C a t Γ ns ds R := fun F σ W Dr dx us g nf e l r k =>
  h (Fp F a) σ W Dr g ⟨fun σ' W' Γ' st g' hR => k σ' Γ' ns ds us W' (st.sub fun _ z => .inl z) g' ((st.fr a (.inr rfl)).trans e) l (r.stp st) hR, fun _ _ _ _ _ _ h => h.elim, fun _ _ _ _ _ h => h.elim, fun _ _ _ _ _ h => h.elim⟩
theorem putF_new {f : Str} {v : V} : ∀ {ns : List Str} {us : List V}, f ∉ ns → ns.length = us.length → putF f v (ns.zip us) = (ns ++ [f]).zip (us ++ [v])
  | [], [], _, _ => rfl
  | n :: ns, u :: us, h, l => by
    show (if n = f then _ else (n, u) :: putF f v (ns.zip us)) = _
    rw [if_neg (fun z => h (by rw [z]; exact List.mem_cons_self)), putF_new (fun z => h (List.mem_cons_of_mem _ z)) (Nat.succ.inj l)]
    rfl
theorem zip_len {ns : List Str} {us : List V} (l : ns.length = us.length) : (ns.zip us).length = ns.length := by rw [List.length_zip, ← l]; omega
theorem di_fld {a : Addr} {ns : List Str} {ds : List D} {f : Str} {R : Gam → List Str → List D → Prop} (cl : Cls K C) (na : NoAttr K C f) (hn : f ∉ ns) (hz : ns.length < 1000) (ha : Ev ta Γ (.raw (.ref a))) (hv : Ev tv Γ d) (h : R Γ (ns ++ [f]) (ds ++ [d])) :
    DI C a (sFld K ta tv f) Γ ns ds R := fun F σ W Dr dx us g nf e l r k => hv _ σ W _ g fun v H s rv => ha _ σ (W.at H) _ (g.same s) fun z H1 s1 rz => by
  have g1 := (g.same s).same (W := W.at H) s1
  have s01 := Same.trans s s1
  refine ⟨a, C, dx, ns.zip us, rz, s01 _ _ e, cl, na, by rw [zip_len l]; exact hz, ?_⟩
  rw [putF_new hn l]
  obtain ⟨st, g2⟩ := g1.poke (o := .ins C dx ((ns ++ [f]).zip (us ++ [v]))) nf (no_extI (s01 _ _ e))
  have st1 : Stp F W (W.at H1) := (Stp.of_same g.ok s01).sub fun _ z => .inl z
  exact k σ Γ (ns ++ [f]) (ds ++ [d]) (us ++ [v]) _ (st1.trans st) g2 upd_same (by rw [List.length_append, List.length_append, l]; rfl) (((r.same s01).append (RepL.one (rv.same (W := W.at H) s1))).stp st) h
theorem di_fld2 {a : Addr} {ns : List Str} {ds : List D} {f f2 : Str} {R : Gam → List Str → List D → Prop} (cl : Cls K C) (na : NoAttr K C f) (na2 : NoAttr K C f2) (hn : f ∉ ns) (hn2 : f2 ∉ ns ++ [f]) (hz : ns.length < 900) (ha : Ev ta Γ (.raw (.ref a))) (hv : Ev tv Γ (.tup [x, y]))
    (h : R Γ ((ns ++ [f]) ++ [f2]) ((ds ++ [x]) ++ [y])) :
    DI C a (tAsg tv (gTup K 2 (gCons (gFld K ta f) (gCons (gFld K ta f2) gNil)))) Γ ns ds R := fun F σ W Dr dx us g nf e l r k => hv _ σ W _ g fun v H s rv => by
  obtain ⟨p, vs, ev, hp, nu, v1, _, rfl, r1, v2, _, rfl, r2, rfl⟩ := rv
  refine ⟨p, [v1, v2], ev, hp.sq, rfl, v1, [v2], rfl, ha _ σ (W.at H) _ (g.same s) fun z H1 s1 rz => ?_⟩
  have g1 := (g.same s).same (W := W.at H) s1
  have s01 := Same.trans s s1
  refine ⟨a, C, dx, ns.zip us, rz, s01 _ _ e, cl, na, by rw [zip_len l]; omega, ?_⟩
  rw [putF_new hn l]
  obtain ⟨st, g2⟩ := g1.poke (o := .ins C dx ((ns ++ [f]).zip (us ++ [v1]))) nf (no_extI (s01 _ _ e))
  have st1 : Stp F W (W.at H1) := (Stp.of_same g.ok s01).sub fun _ z => .inl z
  have l1 : (ns ++ [f]).length = (us ++ [v1]).length := by rw [List.length_append, List.length_append, l]; rfl
  have rr1 := ((r.same s01).append (RepL.one (r1.same (W := W.at H) s1))).stp st
  have r2' := (r2.same (W := W.at H) s1).stp st
  refine ⟨v2, [], rfl, ha _ σ _ _ g2 fun z' H2 s2 rz' => ?_⟩
  refine ⟨a, C, dx, (ns ++ [f]).zip (us ++ [v1]), rz', s2 _ _ upd_same, cl, na2, by rw [zip_len l1, List.length_append]; show ns.length + 1 < 1000; omega, rfl, ?_⟩
  rw [putF_new hn2 l1]
  obtain ⟨st2, g3⟩ := (g2.same s2).poke (o := .ins C dx (((ns ++ [f]) ++ [f2]).zip ((us ++ [v1]) ++ [v2]))) nf (no_extI (s2 _ _ upd_same))
  have sto : Stp F (W.at (upd H1 a (.ins C dx ((ns ++ [f]).zip (us ++ [v1]))))) (W.at H2) := (Stp.of_same g2.ok s2).sub fun _ z => .inl z
  exact k σ Γ _ ((ds ++ [x]) ++ [y]) ((us ++ [v1]) ++ [v2]) _ (st1.trans (st.trans (sto.trans st2))) g3 upd_same (by simp [l]) (((rr1.stp sto).append (RepL.one (r2'.stp sto))).stp st2) h
section
variable {P : Program} {w : World} {mg : Str → Option Value} {base : Heap}
theorem in_ok {x qual : Str} {st : Stmt} {f : Addr} {fd : FuncData} {N ps : List Str} {k : Nat} {ns : List Str} (F : Fun K x qual st f fd) (S : FnScope N ps (defScope st)) (len : ∀ x, (s.args x).length + 1 = ps.length)
    (hbody : ∀ (cdv : Value) (A : Around) (outer : List Env) (s' : Shared) (H : Hp) (E : XK), Room k (A.deeper (envOfC qual (defScope st) s'.heap.objs.size f cdv)) →
      ∃ t, PSs (cxOf CX0 P w K mg base N qual (defScope st) f cdv A outer s' H E).nox (defBody st) t ∧ ∀ x, s.ok x → ∀ a, DI C a t (Gz0 N.length (.raw (.ref a) :: s.args x)) [] [] fun _ ns' ds' => ns' = ns ∧ s.rel x (.tup ds')) :
    FnOk P w K mg base CX0 (k + 1) f fd ps (toIn C ns s) :=
  F.ok S (fun vs H Q E ⟨x, F, W, a, dx, us, e, _, _, _, _, _, _, r, _⟩ => by rw [e, List.length_cons, ← r.length]; exact len x) fun cdv A outer s' H vs Q E hr h => by
    obtain ⟨t, p, hb⟩ := hbody cdv A outer s' H E hr
    refine ⟨t, p, ?_⟩
    obtain ⟨x, F, W, a, dx, us, rfl, rfl, ok, hu, nf, np, ha, r, hx, q⟩ := h
    have ok' : WOk (Fp F a) W := ⟨ok.dom, fun b z => z.elim (ok.fu b) fun z => by rw [z]; exact hu, fun b z => let ⟨u, f, pp⟩ := ok.pu b z; ⟨u, fun y => y.elim f fun y => np (by rw [← y]; exact z), pp⟩⟩
    refine hb x hx a F _ W _ dx [] (sr_start ok' (ds := .raw (.ref a) :: s.args x) ⟨_, us, rfl, rfl, r⟩) nf ha rfl rfl fun σ' Γ' ns' ds' us' W' st g' e' l' r' hR => ?_
    obtain ⟨rfl, hrel⟩ := hR
    exact q ds' us' W' hrel st ⟨g'.ok.dom, fun b z => g'.ok.fu b (.inl z), fun b z => let ⟨u, f, pp⟩ := g'.ok.pu b z; ⟨u, fun y => f (.inl y), pp⟩⟩ (g'.ok.fu a (.inr rfl)) e' l' r'
end
/-- C(..) -/
theorem dl_make {ns : List Str} {t : TA} {E : XK} {Q : D → Gam → Prop} (h : DlA t Γ fun ds Γ1 => ∃ x, ds = s.args x ∧ s.ok x ∧ ∀ es, s.rel x (.tup es) → Q (.obj C ns es) Γ1) : Dl (tMake C (toIn C ns s) [] E t) Γ Q := fun F σ W R g k => h F σ W _ g fun vs W1 ds Γ1 st g1 r ⟨x, e, ok, q⟩ => by
  subst e
  intro b dx hb hdx ne
  rw [List.append_nil]
  have sm : Same W1.H (upd (upd W1.H dx (.own b)) b (.ins C dx [])) := Same.trans (same_upd hdx) (same_upd ((upd_ne (Ne.symm ne)).trans hb))
  obtain ⟨stp, gp, no, nf, np⟩ := g1.plus (H := upd (upd W1.H dx (.own b)) b (.ins C dx [])) (a := b) sm hb (by rw [upd_same]; exact fun z => nomatch z)
  refine ⟨x, _, W1.plus _ b, b, dx, vs, rfl, rfl, gp.callOk, .inr rfl, fun z => z.elim nf no, np, upd_same, r.stp stp, ok, fun ds zs W' hd st' ok' hu hH hl rr => ⟨rfl, ?_⟩⟩
  have g2 := gp.call st' ok'
  have np' : ¬ W'.P b := by rw [st'.pur]; exact np
  obtain ⟨st3, g3⟩ := (g2.frame hu np' no).land nf
  exact k (.ref b) ⟨W'.H, fun c => W'.U c ∧ c ≠ b, W'.P⟩ (.obj C ns ds) Γ1 (st.trans (stp.trans ((st'.sub fun _ z => .inl z).trans st3))) g3 ⟨b, dx, zs, rfl, hH, fun z => z.2 rfl, hl, rr.stp st3⟩ (q ds hd)
end
end Dw

/-! all() over a pure comprehension; one sign within a text; comparisons with their answers. -/
namespace Dw
open PySem PySem.Spec PyProof.Rows L2
variable [Tabs0]
section
variable {Γ : Gam} {K : PySem.W.Frag} {wi : TI} {g : TG} {tt : TT} {te : TE} {vs : List Nat}
theorem ev_all_lc {α : Type} {xs : List α} {c : α → D} {b : α → Bool} (h : Ei wi Γ (xs.map c)) (hz : xs.length ≤ 1000000)
    (he : ∀ x ∈ xs, ∃ is Γ2, DG g is (c x) (wipeG Γ vs) Γ2 ∧ (∀ i ∈ is, i ∈ vs) ∧ EvT tt Γ2 true ∧ Ev te Γ2 (.bl (b x))) : Ev (tCB (rAll K) (tCons (tLc wi g tt te vs) tNil)) Γ (.bl (xs.all b)) := by
  have e := evn_lc (p := fun _ => true) (f := fun x => D.bl (b x)) h hz fun x hx => by
    obtain ⟨is, Γ2, h1, h2, h3, h4⟩ := he x hx
    exact ⟨is, Γ2, h1, h2, h3, fun _ => h4⟩
  rw [List.filter_eq_self.mpr (fun _ _ => rfl)] at e
  have e2 : xs.map (fun x => D.bl (b x)) = (xs.map b).map D.bl := by rw [List.map_map]; rfl
  rw [e2] at e
  have r := ev_all (K := K) e.b
  rw [List.all_map] at r
  exact r
/-- a pure comprehension without a test -/
theorem evn_lc1 {α : Type} {xs : List α} {c f : α → D} (h : Ei wi Γ (xs.map c)) (hz : xs.length ≤ 1000000)
    (he : ∀ x ∈ xs, ∃ is Γ2, DG g is (c x) (wipeG Γ vs) Γ2 ∧ (∀ i ∈ is, i ∈ vs) ∧ EvT tt Γ2 true ∧ Ev te Γ2 (f x)) : EvN (tLc wi g tt te vs) Γ (xs.map f) := by
  have e := evn_lc (p := fun _ => true) (f := f) h hz fun x hx => by
    obtain ⟨is, Γ2, h1, h2, h3, h4⟩ := he x hx
    exact ⟨is, Γ2, h1, h2, h3, fun _ => h4⟩
  rw [List.filter_eq_self.mpr (fun _ _ => rfl)] at e
  exact e
end
theorem in_code {K : PySem.W.Frag} {l : List Nat} {c : Nat} : DR2 (rOr (rIn K false) rInS) (.str (ch c)) (.str (tx l)) (.bl (decide (c ∈ l))) := by
  have e := in_str' (K := K) (x := ch c) (y := tx l)
  rw [show (Builtin.Str.occurrences (tx l) (ch c) 0 (tx l).length 1).isEmpty = !decide (c ∈ l) from by rw [← Bool.not_not (Builtin.Str.occurrences (tx l) (ch c) 0 (tx l).length 1).isEmpty]; exact congrArg _ (SX.in_one l c), Bool.not_not] at e
  exact e
theorem nin_code {K : PySem.W.Frag} {l : List Nat} {c : Nat} : DR2 (rOr (rIn K true) rNinS) (.str (ch c)) (.str (tx l)) (.bl (!decide (c ∈ l))) := by
  refine dr2_r (dr2_flat fun W u v Q a b k => ⟨ch c, tx l, a, b, ?_⟩)
  rw [show (Builtin.Str.occurrences (tx l) (ch c) 0 (tx l).length 1).isEmpty = !decide (c ∈ l) from by rw [← Bool.not_not (Builtin.Str.occurrences (tx l) (ch c) 0 (tx l).length 1).isEmpty]; exact congrArg _ (SX.in_one l c), Bool.not_not]
  exact k _ rfl
section
variable {K : PySem.W.Frag} {i j : Int} {b : Bool} {x y : Str}
theorem le_b (h : decide (i ≤ j) = b) : DR2 (rI0 fun i j => .bl (decide (i ≤ j))) (.int i) (.int j) (.bl b) := h ▸ dr2_le
theorem gt_b (h : decide (j < i) = b) : DR2 (rI0 fun i j => .bl (decide (j < i))) (.int i) (.int j) (.bl b) := h ▸ dr2_gt
theorem lt_b (h : decide (i < j) = b) : DR2 (rOr (rI0 fun i j => .bl (decide (i < j))) rLtS) (.int i) (.int j) (.bl b) := h ▸ lt_int'
theorem lt_tx {l m : List Nat} : DR2 (rOr (rI0 fun i j => .bl (decide (i < j))) rLtS) (.str (tx l)) (.str (tx m)) (.bl (decide (l < m))) := by
  have e := lt_str' (x := tx l) (y := tx m)
  rw [tx_cps, tx_cps] at e
  exact e
theorem eq_ib (h : decide (i = j) = b) : DR2 (rEqX K) (.int i) (.int j) (.bl b) := h ▸ eq_int'
theorem eq_sb (h : decide (x = y) = b) : DR2 (rEqX K) (.str x) (.str y) (.bl b) := h ▸ eq_str'
theorem ne_sb (h : (!decide (x = y)) = b) : DR2 (rNeX K) (.str x) (.str y) (.bl b) := h ▸ ne_str'
end
/-- a and b, both true -/
theorem small {n : Nat} (h : n ≤ 100000) : n ≤ sizeLine := Nat.le_trans h (by decide)
end Dw

/-! Methods of lists with K named: within blocks X.K speaks of the block. -/
namespace Dw
open PySem PySem.Spec PyProof.Rows L2
variable [Tabs0]
variable {X : Cx} {o e : Expr} {es : List Expr} {to : TE} {t : TA} {name : Str} {apos cpos : Pos} {T id : String} {r : V → List V → Hp → VK → Prop}
theorem bmA (K : PySem.W.Frag) (pa : PlainAttrs T) (slot : Slot T name id) (hty : typeOf (.builtin id) = pure (.type "method_descriptor")) (hm : MtR X id r) (ho : PE X o to) (ha : PA X (e :: es) t) (hK : X.K = K := by rfl)
    (hbase : attributeBase o name X.env (eval o X.env) = eval o X.env := by rfl)
    (hfew : ((backTo cpos (starEach (e :: es) X.env)).all (fun x => !x.1) && (backToKw cpos (keywordEach [] X.env)).all (fun x => x.1.isSome)
      && decide ((e :: es).length + ([] : List Keyword).length + (if ([] : List Keyword).isEmpty then 0 else 1) < 30)) = true := by rfl)
    (hline : (apos.endLine == cpos.line) = true := by rfl) (hs : starEach (e :: es) X.env = (false, eval e X.env) :: starEach es X.env := by rfl) (hplain : (backTo cpos (starEach es X.env)).any (·.1) = false := by rfl) :
    PE X (.Call (.Attribute o name apos) (e :: es) [] cpos) (tBM K T r to t) := hK ▸ pe_bm pa slot hty hm ho ha hbase hfew hline hs hplain
end Dw

/-! The script (a list that the head gives), and a purse that is made and at once given on. -/
namespace Dw
open PySem PySem.Spec PyProof.Rows L2
variable [Tabs0]
section
variable {Γ : Gam} {K : PySem.W.Frag} {ta tb : TE} {vs : List V} {d : D} {i : Int}
theorem scr_sq {W : Wd} {v : V} (r : Rep W (.scr K vs) v) : ∃ a, v = .ref a ∧ SqL K W.H a vs := by
  obtain ⟨a, e, q, _⟩ := r
  refine ⟨a, e, ?_⟩
  rcases q with ⟨u, h, n, q⟩ | q
  · rcases q with rfl | ⟨o, rfl⟩
    · exact .inl (.inl h)
    · exact .inl (.inr ⟨o, h⟩)
  · exact .inr q
theorem ev_lenX (h : Ev ta Γ (.scr K vs)) : Ev (tCB (rLen K) (tCons ta tNil)) Γ (.int vs.length) := fun F σ W Q g k => h F σ W _ g fun v H s r => by
  obtain ⟨a, e, q⟩ := scr_sq r
  exact .inl ⟨a, vs, by rw [e], .inl q, k _ H s rfl⟩
theorem ev_ixX {z : Int} (h : Ev ta Γ (.scr K vs)) (hb : Ev tb Γ (.int i)) (hz : atI vs i = some (.int z)) : Ev (tOp (rIx K) ta tb) Γ (.int z) := fun F σ W Q g k => h F σ W _ g fun v H s r => hb F σ (W.at H) _ (g.same s) fun u H' s' r' => by
  obtain ⟨a, e, q⟩ := scr_sq (r.same (W := W.at H) s')
  exact .inl ⟨a, vs, i, .int z, e, r', q, hz, k _ H' (Same.trans s s') rfl⟩
end
end Dw
namespace Dw
open PySem PySem.Spec PyProof.Rows L2
variable [Tabs0]
section
variable {Γ : Gam} {K : PySem.W.Frag} {ta tb te : TE} {ns : List Int} {d : D} {i : Int} {s : Spc} {E : XK}
def intD (ns : List Int) : List D := ns.map D.int
def cutI (ns : List Int) (lo hi : Option Int) : List Int := (ns.drop (HT.sIx ns.length 0 lo)).take (HT.sIx ns.length ns.length hi - HT.sIx ns.length 0 lo)
theorem ev_int1 (h : Ev ta Γ (.int i)) : Ev (tCB (fun xs H Q => (∃ i, xs = [.int i] ∧ Q (.int i) H) ∨ ∃ k, xs = [.bl k] ∧ Q (.int (if k then 1 else 0)) H) (tCons ta tNil)) Γ (.int i) :=
  ev_cb (eva_cons h eva_nil) fun W us Q dom r k => by
    obtain ⟨v, _, rfl, rv, rfl⟩ := r
    exact .inl ⟨i, by rw [show v = V.int i from rv], k _ _ (Same.refl _) rfl⟩
theorem ev_abs (h : Ev ta Γ (.int i)) : Ev (tCB (fun xs H Q => ∃ i, xs = [.int i] ∧ Q (.int (if i < 0 then -i else i)) H) (tCons ta tNil)) Γ (.int (if i < 0 then -i else i)) :=
  ev_cb (eva_cons h eva_nil) fun W us Q dom r k => by
    obtain ⟨v, _, rfl, rv, rfl⟩ := r
    exact ⟨i, by rw [show v = V.int i from rv], k _ _ (Same.refl _) rfl⟩
theorem ev_max2 {j : Int} (h : Ev ta Γ (.int i)) (h' : Ev tb Γ (.int j)) : Ev (tCB (fun xs H Q => ∃ i j, xs = [.int i, .int j] ∧ Q (.int (if j > i then j else i)) H) (tCons ta (tCons tb tNil))) Γ (.int (if j > i then j else i)) :=
  ev_cb (eva_cons h (eva_cons h' eva_nil)) fun W us Q dom r k => by
    obtain ⟨v, _, rfl, rv, v', _, rfl, rv', rfl⟩ := r
    exact ⟨i, j, by rw [show v = V.int i from rv, show v' = V.int j from rv'], k _ _ (Same.refl _) rfl⟩
theorem ev_min2 {j : Int} (h : Ev ta Γ (.int i)) (h' : Ev tb Γ (.int j)) : Ev (tCB (fun xs H Q => ∃ i j, xs = [.int i, .int j] ∧ Q (.int (if j < i then j else i)) H) (tCons ta (tCons tb tNil))) Γ (.int (if j < i then j else i)) :=
  ev_cb (eva_cons h (eva_cons h' eva_nil)) fun W us Q dom r k => by
    obtain ⟨v, _, rfl, rv, v', _, rfl, rv', rfl⟩ := r
    exact ⟨i, j, by rw [show v = V.int i from rv, show v' = V.int j from rv'], k _ _ (Same.refl _) rfl⟩
end
end Dw

/-! sorted(a tuple of ints), xs[::k]. -/
namespace Dw
open PySem PySem.Spec PyProof.Rows L2
section
variable {prog : Program} {w : World} {A : Around} {E : Value → Shared → Prop} {s : Shared}
end
/-! ### xs[::k] -/
/-! ### text * int -/
def rMulS : R2 := fun x y H Q => ∃ i j, x = .str i ∧ y = .int j ∧ MulOk i j ∧ Q (.str (Txt.mul i j)) H
theorem op_mulS {X : Cx} : OpR X (binaryOp .Mult) rMulS := by
  intro pins s σ H x y v u Q I rx ry h
  obtain ⟨i, j, rfl, rfl, hz, q⟩ := h
  obtain ⟨t, rfl⟩ := rx
  obtain ⟨t', rfl⟩ := ry
  exact SB.mul hz fun t' tk => ⟨.str (Txt.mul i j), H, I.tok _, ⟨_, rfl⟩, q⟩
end Dw

/-! while, xs[::k], sorted of a tuple, equality of nested data. -/
namespace Dw
open PySem PySem.Spec PyProof.Rows L2
variable [Tabs0]
section
variable {K : PySem.W.Frag} {Γ : Gam} {ta tb te tk : TE} {De : DE} {ds es : List D} {d : D}
theorem ds_while {c : TT} {tb : TS} (J : Nat → Gam → Prop) (m0 : Nat) (h0 : J m0 Γ)
    (hs : ∀ m Γ', J m Γ' → DlT c Γ' fun b Γ1 => (b = true → Ds tb Γ1 ⟨fun Γ2 => ∃ m', m' < m ∧ J m' Γ2, De.rt, De.nx, fun Γ2 => ∃ m', m' < m ∧ J m' Γ2⟩) ∧ (b = false → De.nx Γ1)) : Ds (tWhile c tb) Γ De := fun F σ W Dr g l => by
  refine ⟨fun m σ' H' => ∃ W' Γ', W'.H = H' ∧ Stp F W W' ∧ SR F Γ' σ' W' ∧ J m Γ', ⟨m0, W, Γ, rfl, .refl _, g, h0⟩, ?_⟩
  rintro m σ' H' ⟨W', Γ', rfl, s', g', j⟩
  refine hs m Γ' j F σ' W' _ g' fun b W1 Γ1 s1 g1 q => ?_
  cases b with
  | false => rw [if_neg (by decide)]; exact l.nx σ' W1 Γ1 (s'.trans s1) g1 (q.2 rfl)
  | true =>
    rw [if_pos rfl]
    refine ⟨fun σ2 H2 => ∃ m', m' < m ∧ ∃ W2 Γ2, W2.H = H2 ∧ Stp F W W2 ∧ SR F Γ2 σ2 W2 ∧ J m' Γ2, fun σ2 H2 q => q, ?_⟩
    have s2 := s'.trans s1
    exact q.1 rfl F σ' W1 _ g1 ⟨fun σ4 W4 Γ4 s4 g4 ⟨m', hm, q⟩ => ⟨m', hm, W4, Γ4, rfl, s2.trans s4, g4, q⟩, fun v W4 d s4 ok4 r4 q => l.rt v W4 d (s2.trans s4) ok4 r4 q, fun σ4 W4 Γ4 s4 g4 q => l.nx σ4 W4 Γ4 (s2.trans s4) g4 q, fun σ4 W4 Γ4 s4 g4 ⟨m', hm, q⟩ => ⟨m', hm, W4, Γ4, rfl, s2.trans s4, g4, q⟩⟩
end
/-! ### nested data: what may be compared -/
mutual
def dOk : Nat → D → Bool
  | _, .non => true | _, .bl _ => true | _, .int _ => true | _, .str x => PyData.strOk x
  | 0, _ => false
  | k + 1, .tup ds => dOks k ds | k + 1, .lst ds => dOks k ds | k + 1, .tupN ds => dOks k ds
  | _ + 1, .obj _ _ _ => false | _ + 1, .raw _ => false | _ + 1, .purse => false | _ + 1, .rng _ _ => false | _ + 1, .dct _ _ => false | _ + 1, .scr _ _ => false | _ + 1, .tag _ => false | _ + 1, .fnv _ _ => false | _ + 1, .clo _ _ _ => false
def dOks : Nat → List D → Bool
  | _, [] => true
  | k, d :: ds => dOk k d && dOks k ds
end
mutual
theorem dOk_py : ∀ (k : Nat) (d : D), dOk k d = true → isPy d = true ∧ PyData.canLay0 (py d) = true ∧ PyData.depth (py d) ≤ k
  | k, .non, _ => ⟨rfl, rfl, Nat.zero_le _⟩
  | k, .bl _, _ => ⟨rfl, rfl, Nat.zero_le _⟩
  | k, .int _, _ => ⟨rfl, rfl, Nat.zero_le _⟩
  | k, .str x, h => ⟨rfl, by cases k <;> exact h, Nat.zero_le _⟩
  | k + 1, .tup ds, h => by
    obtain ⟨h1, h2, h3⟩ := dOks_py k ds h
    exact ⟨h1, h2, Nat.succ_le_succ h3⟩
  | k + 1, .lst ds, h => by
    obtain ⟨h1, h2, h3⟩ := dOks_py k ds h
    exact ⟨h1, h2, Nat.succ_le_succ h3⟩
  | k + 1, .tupN ds, h => by
    obtain ⟨h1, h2, h3⟩ := dOks_py k ds h
    exact ⟨h1, h2, Nat.succ_le_succ h3⟩
  | 0, .tupN _, h => nomatch h
  | 0, .tup _, h => nomatch h
  | 0, .lst _, h => nomatch h
  | 0, .obj _ _ _, h => nomatch h
  | 0, .raw _, h => nomatch h
  | 0, .purse, h => nomatch h
  | 0, .rng _ _, h => nomatch h
  | 0, .dct _ _, h => nomatch h
  | 0, .scr _ _, h => nomatch h
  | 0, .tag _, h => nomatch h
  | 0, .fnv _ _, h => nomatch h
  | 0, .clo _ _ _, h => nomatch h
  | _ + 1, .obj _ _ _, h => nomatch h
  | _ + 1, .raw _, h => nomatch h
  | _ + 1, .purse, h => nomatch h
  | _ + 1, .rng _ _, h => nomatch h
  | _ + 1, .dct _ _, h => nomatch h
  | _ + 1, .scr _ _, h => nomatch h
  | _ + 1, .tag _, h => nomatch h
  | _ + 1, .fnv _ _, h => nomatch h
  | _ + 1, .clo _ _ _, h => nomatch h
theorem dOks_py : ∀ (k : Nat) (ds : List D), dOks k ds = true → isPys ds = true ∧ PyData.canLayAll0 (pys ds) = true ∧ PyData.depthAll (pys ds) ≤ k
  | k, [], _ => ⟨rfl, rfl, Nat.zero_le _⟩
  | k, d :: ds, h => by
    have h : (dOk k d && dOks k ds) = true := by cases k <;> exact h
    rw [Bool.and_eq_true] at h
    obtain ⟨a1, a2, a3⟩ := dOk_py k d h.1
    obtain ⟨b1, b2, b3⟩ := dOks_py k ds h.2
    exact ⟨by show (isPy d && isPys ds) = true; rw [a1, b1]; rfl, by show (PyData.canLay0 (py d) && PyData.canLayAll0 (pys ds)) = true; rw [a2, b2]; rfl, Nat.max_le.mpr ⟨a3, b3⟩⟩
end
theorem dOk_shaped {k : Nat} {d : D} (h : dOk k d = true) (hk : k ≤ 64) : isPy d = true ∧ SeqAt.shaped (py d) = true := by
  obtain ⟨h1, h2, h3⟩ := dOk_py k d h
  refine ⟨h1, ?_⟩
  show (PyData.canLay0 (py d) && decide (PyData.depth (py d) ≤ 64)) = true
  rw [h2, decide_eq_true (Nat.le_trans h3 hk)]; rfl
theorem dOks_map {α : Type} {k : Nat} {f : α → D} : ∀ {l : List α}, (∀ x ∈ l, dOk k (f x) = true) → dOks k (l.map f) = true
  | [], _ => by cases k <;> rfl
  | x :: l, h => by
    have e : dOks k ((x :: l).map f) = (dOk k (f x) && dOks k (l.map f)) := by cases k <;> rfl
    rw [e, h x List.mem_cons_self, dOks_map fun y hy => h y (List.mem_cons_of_mem _ hy)]; rfl
section
variable {K : PySem.W.Frag} {d : D} {ds es : List D} {k : Nat}
theorem eq_self (h : dOk k d = true) (hk : k ≤ 64) : DR2 (rEqX K) d d (.bl true) := by
  obtain ⟨h1, h2⟩ := dOk_shaped h hk
  have := eq_deep (K := K) h1 h1 h2 h2
  rw [SeqAt.eqv_refl _ (dOk_py k d h).2.1] at this
  exact this
theorem eqv_nil : ∀ ds : List D, PyData.eqvAll (pys ds) (pys []) = ds.isEmpty
  | [] => rfl
  | _ :: _ => rfl
theorem eq_nil (h : dOk k (.lst ds) = true) (hk : k ≤ 64) : DR2 (rEqX K) (.lst ds) (.lst []) (.bl ds.isEmpty) := by
  obtain ⟨h1, h2⟩ := dOk_shaped h hk
  have := eq_deep (K := K) (q := .lst []) h1 rfl h2 rfl
  rw [show PyData.eqv (py (.lst ds)) (py (.lst [])) = PyData.eqvAll (pys ds) (pys []) from rfl, eqv_nil] at this
  exact this
theorem ne_nil (h : dOk k (.lst ds) = true) (hk : k ≤ 64) : DR2 (rNeX K) (.lst ds) (.lst []) (.bl (!ds.isEmpty)) := by
  obtain ⟨h1, h2⟩ := dOk_shaped h hk
  have := ne_deep (K := K) (q := .lst []) h1 rfl h2 rfl
  rw [show PyData.eqv (py (.lst ds)) (py (.lst [])) = PyData.eqvAll (pys ds) (pys []) from rfl, eqv_nil] at this
  exact this
end
section
variable {K : PySem.W.Frag} {Γ : Gam} {ta tb : TE}
theorem mul_ok {n : Nat} (h : n ≤ 8) : MulOk (Str.ofString ".") (n : Int) ∧ Txt.mul (Str.ofString ".") (n : Int) = tx (List.replicate n 46) := by
  have hn : n = 0 ∨ n = 1 ∨ n = 2 ∨ n = 3 ∨ n = 4 ∨ n = 5 ∨ n = 6 ∨ n = 7 ∨ n = 8 := by omega
  unfold MulOk
  rcases hn with rfl | rfl | rfl | rfl | rfl | rfl | rfl | rfl | rfl <;> exact ⟨by decide +kernel, by decide +kernel⟩
theorem mul_dots {n : Nat} (h : n ≤ 8) : DR2 rMulS (.str (Str.ofString ".")) (.int n) (.str (tx (List.replicate n 46))) := dr2_flat fun W u v Q a b k => ⟨_, _, a, b, (mul_ok h).1, k _ (by rw [(mul_ok h).2]; rfl)⟩
theorem ev_neg {i : Int} (h : Ev ta Γ (.int i)) : Ev (tUn (rU fun i => .int (-i)) ta) Γ (.int (-i)) := ev_un h fun W u Q dom r k => ⟨i, r, k _ _ (Same.refl _) rfl⟩
/-- whole numbers in a list -/
def ordN (o : List Nat) : List D := o.map fun (k : Nat) => D.int k
theorem inV_ord (c : Nat) : ∀ l : List Nat, inV (.int (c : Int)) ((ordN l).map scV) = decide (c ∈ l)
  | [] => rfl
  | b :: l => by
    show ((decide ((b : Int) = (c : Int))) || inV (.int (c : Int)) ((ordN l).map scV)) = _
    rw [inV_ord c l, Bool.eq_iff_iff]
    simp only [Bool.or_eq_true, decide_eq_true_eq, List.mem_cons, Int.natCast_inj]
    constructor
    · rintro (h | h)
      · exact .inl h.symm
      · exact .inr h
    · rintro (h | h)
      · exact .inl h.symm
      · exact .inr h
theorem sc_ord (l : List Nat) : (ordN l).all isSc = true := by
  unfold ordN
  rw [List.all_map, List.all_eq_true]
  exact fun _ _ => rfl
theorem ev_inO {neg : Bool} {r' : R2} {c : Nat} {l : List Nat} (ha : Ev ta Γ (.int c)) (h : EvB tb Γ (ordN l)) : Ev (tOp (rOr (rIn K neg) r') ta tb) Γ (.bl (if neg then !decide (c ∈ l) else decide (c ∈ l))) := by
  have e := ev_in (neg := neg) (K := K) (r' := r') ha h rfl (sc_ord l)
  rw [show scV (.int (c : Int)) = V.int (c : Int) from rfl, inV_ord c l] at e
  exact e
end
end Dw

/-! sorted(set(t)), t a tuple of ints. -/
namespace Dw
open PySem PySem.Spec PyProof.Rows L2
variable [Tabs0]
section
variable {K : PySem.W.Frag} {w : World} {Γ : Gam} {ta : TE}
end
section
variable {K : PySem.W.Frag} {Γ : Gam} {ta : TE} {xs : List D}
theorem ei_enumL {r : TI} (h : EvB ta Γ xs) : Ei (fun σ H R => iEnum K (tCons ta tNil) σ H R ∨ r σ H R) Γ (enumD xs) := fun F σ W R g k => .inl (h F σ W _ g fun a vs H s ha l => by
  refine ⟨a, vs, rfl, .of ha, k (Ite K a) H s ⟨fun W2 i x dm s2 ku pu hx => ?_, fun H2 s2 => ⟨vs, .of (s2 _ _ ha), by rw [enumD_length, l.length]; exact Nat.le_refl _⟩⟩⟩
  obtain ⟨y, hy, rfl⟩ := enumD_get hx
  obtain ⟨v, hv, rv⟩ := l.get hy
  have h2 : W2.H a = some (.lst vs) := s2 _ _ ha
  refine ⟨⟨vs, v, .of h2, hv⟩, fun u H' ⟨T, z, eu, hT, eH, hz⟩ => ?_⟩
  subst eu; subst eH
  have := hz vs (.of h2)
  rw [hv] at this; cases this
  exact ⟨same_upd hT, rep_new_tup dm hT ⟨_, _, rfl, rfl, v, _, rfl, Rep.mono (W := W.at H) (W' := W2) (fun b u e n => ⟨s2 b u e, ku b u e n⟩) (fun b z => by rw [pu]; exact z) _ _ rv, rfl⟩⟩)
end
end Dw

/-! repr of data: it asks that no other repr is under way (guards), so the defs that call it have a promise of their own. -/
namespace Dw
open PySem PySem.Spec PyProof.Rows L2
variable [Tabs0]
/-- as FnOk, but only where no repr is under way -/
def FnG (P : Program) (w : World) (K : PySem.W.Frag) (mg : Str → Option Value) (base : Heap) (k : Nat) (f : Addr) (fd : FuncData) (ps : List Str) (s : Spc) : Prop :=
  (∀ x, (s.args x).length = ps.length) ∧ ∀ (A : Around) (outer : List Env) (sh : Shared) (H : Hp) (args : Args) (us : List Value) (vs : List V) (Q : VK) (E : XK), Room k A → A.guards = some [] → Env0 P w K mg base A outer sh H → BindsTo sh fd args (ps.zip us) → Vals vs us → toSp s vs H Q E → codeAny (model P w) A (.call (.ref f) args) (CR CX0 outer P w H sh Q E) sh
section
variable {P : Program} {w : World} {K : PySem.W.Frag} {mg : Str → Option Value} {base : Heap}
theorem cells_in {N ps : List Str} {sc : Scope} {n : Nat} (S : FnScope N ps sc) (us : List Value) : ∀ y ∈ ps.zip us, sc.names.lookup y.1 = some .local ∨ (sc.names.lookup y.1 = some .cell ∧ ((cellsFrom n sc.names []).lookup y.1).isSome = true) := by
  rintro ⟨a, b⟩ hy
  exact (S.par a (List.of_mem_zip hy).1).imp id fun q => ⟨q, PySem.W.cellsFrom_some _ _ _ (.inl q)⟩
theorem fnG_ok {x qual : Str} {st : Stmt} {f : Addr} {fd : FuncData} {N ps : List Str} {k : Nat} {s : Spc} (F : Fun K x qual st f fd) (S : FnScope N ps (defScope st)) (len : ∀ x, (s.args x).length = ps.length)
    (hbody : ∀ (cdv : Value) (A : Around) (outer : List Env) (s' : Shared) (H : Hp) (E : XK), Room k (A.deeper (envOfC qual (defScope st) s'.heap.objs.size f cdv)) → (A.deeper (envOfC qual (defScope st) s'.heap.objs.size f cdv)).guards = some [] →
      ∃ t, PSs (cxOf CX0 P w K mg base N qual (defScope st) f cdv A outer s' H E).nox (defBody st) t ∧ ∀ x, s.ok x → Ds t (Gz0 N.length (s.args x)) ⟨fun _ => s.rel x .non, s.rel x, fun _ => False, fun _ => False⟩) : FnG P w K mg base (k + 1) f fd ps s := by
  obtain ⟨oc, od, kV, doc, pm, an, cdv, ct, osl, rfl, lk, hcd⟩ := F.ex
  refine ⟨len, fun A outer sh H args us vs Q E hr hg e0 hb r hsp => ?_⟩
  obtain ⟨t, p, hd⟩ := hbody cdv A outer sh H E (hr.deeper _) hg
  have old : ∀ b o, base.get? b = some o → sh.heap.get? b = some o := fun b o e => (e0.bs b o e).1
  have KX := e0.mod.kin.keeps old
  refine codeAny_call_function hr.depth (KX _ _ lk) rfl S.co S.gen rfl (PySem.W.codeRec_of KX hcd) (hb _ _ _ _ (wpAny_newFunctionEnv_cells S.kind (cells_in S us) ?_))
  rintro env rfl s1 x1
  refine ⟨(e0.mod.nolimit.keeps old).keeps x1.toInCall.keep, codeAny_func (wpAny_mono (p.nox.run [] s1 _ H _ (inv_start S hr.hd e0 (spc_len len _ _ _ _ hsp) r x1) (body_of hsp hd)) (fun fl s' hs => ?_) fun _ _ z => z)⟩
  have done : ∀ {σ' : L2.St} {H' : Hp} {v : V} {u : Value}, Inv (cxOf CX0 P w K mg base N qual (defScope st) f cdv A outer sh H E) [] σ' H' s' → RelV v u → Q v H' → CE outer P w H sh Q u s' := fun {_ H' v _} J rv q => ⟨v, H', J.os, J.bare, J.base, J.hok, rv, q⟩
  match fl, hs with
  | .ret _, ⟨_, _, _, J, rv, q⟩ => exact done J rv q
  | .next, ⟨_, _, J, q⟩ => exact done (v := .non) (u := .none) J rfl q
  | .brk, ⟨_, _, _, q⟩ => exact q.elim
  | .cont, ⟨_, _, _, q⟩ => exact q.elim
section
variable {X : Cx} {k : Nat} {f : Addr} {fd : FuncData} {ps : List Str} {s : Spc} {E : XK} {x : Str} {p pos : Pos} {e : Expr} {es : List Expr} {t : TA}
theorem pe_callG (F : FnG X.prog X.w X.K X.mg X.base k f fd ps s) (hr : Room k X.A) (hG : X.A.guards = some []) (hg : Gl X x) (hm : X.mg x = some (.ref f)) (hk : PySem.W.keepIn X.K (.ref f) = true) (hb : Binds X.K fd ps []) (ha : PA X (e :: es) t)
    (hdb : (x == ("__debug__" : Str)) = false := by decide) (he : starEach (e :: es) X.env = (false, eval e X.env) :: starEach es X.env := by rfl) (hpl : (backTo pos (starEach es X.env)).any (·.1) = false := by rfl) : PE X (.Call (.Name x p) (e :: es) [] pos) (tCall (toSp s) [] E t) := by
  refine ⟨fun pins s1 σ H Q I h => wpAny_Call_Name_kw (ld_glob I hg hm (PySem.W.callWith_K (h₀ := X.base) I.ok.mod.kin hk (thn (ha.run pos pins s1 σ H _ I h) fun us s2 ⟨vs, H1, I1, r, q⟩ => ⟨I1.kIn, ?_⟩) he hpl) hdb)⟩
  have q : toSp s vs H1 Q E := by rw [← List.append_nil vs]; exact q
  have hb := hb s2 us I1.kIn (by rw [List.append_nil, ← r.length]; exact spc_len F.1 _ _ _ _ q)
  rw [List.append_nil] at hb
  refine wpAny_call (codeAny_mono (F.2 X.A X.stack s2 H1 ⟨us, []⟩ us vs Q E hr hG I1.env0 hb r q) fun res s3 hq => ?_)
  match res, hq with
  | .error _, hq => exact (show False from hq).elim
  | .ok (.ret _), hq => exact I1.after hq
  | .ok .next, hq => exact (show False from hq).elim
  | .ok .brk, hq => exact (show False from hq).elim
  | .ok .cont, hq => exact (show False from hq).elim
end
end
/-! ### repr -/
mutual
/-- what can be shown -/
def shOk : D → Bool
  | .non => true | .bl _ => true | .int i => PyData.showable (.int i) | .str x => PyData.showable (.str x)
  | .tup ds => shOks ds | .lst ds => shOks ds | .tupN ds => shOks ds | _ => false
def shOks : List D → Bool
  | [] => true
  | d :: ds => shOk d && shOks ds
end
mutual
theorem shOk_py : ∀ d : D, shOk d = true → PyData.showable (py d) = true ∧ PyData.hasDict (py d) = false
  | .non, _ => ⟨rfl, rfl⟩
  | .bl _, _ => ⟨rfl, rfl⟩
  | .int _, h => ⟨h, rfl⟩
  | .str _, h => ⟨h, rfl⟩
  | .tup ds, h => shOks_py ds h
  | .lst ds, h => shOks_py ds h
  | .tupN ds, h => shOks_py ds h
  | .obj _ _ _, h => nomatch h
  | .raw _, h => nomatch h
  | .purse, h => nomatch h
  | .rng _ _, h => nomatch h
  | .dct _ _, h => nomatch h
  | .scr _ _, h => nomatch h
  | .tag _, h => nomatch h
  | .fnv _ _, h => nomatch h
  | .clo _ _ _, h => nomatch h
theorem shOks_py : ∀ ds : List D, shOks ds = true → PyData.showableAll (pys ds) = true ∧ PyData.hasDictAll (pys ds) = false
  | [], _ => ⟨rfl, rfl⟩
  | d :: ds, h => by
    have h : (shOk d && shOks ds) = true := h
    rw [Bool.and_eq_true] at h
    obtain ⟨a1, a2⟩ := shOk_py d h.1
    obtain ⟨b1, b2⟩ := shOks_py ds h.2
    exact ⟨by show (PyData.showable (py d) && PyData.showableAll (pys ds)) = true; rw [a1, b1]; rfl, by show (PyData.hasDict (py d) || PyData.hasDictAll (pys ds)) = false; rw [a2, b2]; rfl⟩
end
section
variable {K : PySem.W.Frag} {Γ : Gam} {ta : TE} {ds : List D} {k : Nat}
end
/-! ### the head, where the law's def has such a promise -/
section
variable {P : Program} {w : World} {K : PySem.W.Frag} {mg mb : Str → Option Value} {k : Nat} {fa a : Addr} {fd : FuncData} {x : Str} {s1 : Shared} {vs : List Value} {ns : List Int} {sp : Spc}
/-- what is tracked at the head: the script, unless the module has it -/
def headH (K : PySem.W.Frag) (a : Addr) (vs : List Value) (ns : List Int) : Hp := fun b => if b = a ∧ K.lookup a = none then some (.frz { cls := .type "list", data := .seq vs.toArray } (.lst (ns.map V.int))) else none
theorem headH_none {b : Addr} (h : b ≠ a) : headH K a vs ns b = none := if_neg fun z => h z.1
end
end Dw

/-! Bits, sums, xs[k] = v, x |= y, reversed(range(n)). -/
namespace Dw
open PySem PySem.Spec PyProof.Rows L2
variable [Tabs0]
section
variable {K : PySem.W.Frag} {Γ : Gam} {ta tb te tk : TE} {De : DE} {ds : List D} {d : D}
abbrev rShl : R2 := rI CPow fun i j => .int (i * 2 ^ j.toNat)
abbrev rOrB : R2 := rI0 fun i j => .int (Builtin.bitOr i j)
abbrev rAndB : R2 := rI0 fun i j => .int (Builtin.bitAnd i j)
theorem dr2_shl1 {k : Nat} (h : k ≤ 1000) : DR2 rShl (.int 1) (.int k) (.int ((2 ^ k : Nat) : Int)) := dr2_rI ⟨by omega, by omega, by decide⟩ fun W => by
  show V.int (1 * 2 ^ (k : Int).toNat) = V.int ((2 ^ k : Nat) : Int)
  rw [Int.one_mul, Int.toNat_natCast, Int.natCast_pow]; rfl
theorem dr2_or {a b : Nat} : DR2 rOrB (.int a) (.int b) (.int ((a ||| b : Nat) : Int)) := dr2_rI0 fun W => by
  show V.int (Builtin.bitOr a b) = V.int ((a ||| b : Nat) : Int)
  rw [Bits.bitOr_pp (by omega) (by omega)]; rfl
theorem dr2_and {a b : Nat} : DR2 rAndB (.int a) (.int b) (.int ((a &&& b : Nat) : Int)) := dr2_rI0 fun W => by
  show V.int (Builtin.bitAnd a b) = V.int ((a &&& b : Nat) : Int)
  rw [bitAnd_pp (by omega) (by omega)]; rfl
theorem ev_sum {ns : List Int} (h : EvB ta Γ (ns.map D.int)) : Ev (tCB (rSum K) (tCons ta tNil)) Γ (.int ns.sum) := fun F σ W Q g k => h F σ W _ g fun p vs H s e l => ⟨p, ns, rfl, .of (by rw [e, RepL.ints.mp l]), k _ H s rfl⟩
theorem repL_rep {W : Wd} {vs : List V} (l : RepL W ds vs) : ∀ n : Nat, RepL W (List.replicate n ds).flatten (List.replicate n vs).flatten
  | 0 => rfl
  | n + 1 => by
    rw [List.replicate_succ, List.replicate_succ, List.flatten_cons, List.flatten_cons]
    exact l.append (repL_rep l n)
/-- xs * n, a new list -/
theorem evn_rep {n : Nat} (h : EvB ta Γ ds) (hn : Ev tb Γ (.int n)) (hz : ds.length * n ≤ sizeLine) (hb : n < 2 ^ 63) : EvN (tOp rTimes ta tb) Γ (List.replicate n ds).flatten := fun F σ W Q g k =>
  h F σ W _ g fun a vs H s e l => hn F σ (W.at H) _ (g.same s) fun u H2 s2 r => .inr ⟨a, n, vs, rfl, r, s2 _ _ e, by omega, by omega, by rw [← l.length, Int.toNat_natCast]; exact hz, fun p hp => by
    rw [Int.toNat_natCast]
    exact k p _ _ (Same.trans s (Same.trans s2 (same_upd hp))) (s.free (s2.free hp)) upd_same (RepL.plus (W := W.at H2) hp (same_upd hp) (repL_rep (RepL.same (W := W.at H) s2 l) n))⟩
/-- xs[k] = v, an own list -/
theorem ds_sub {i : Nat} (h0 : ∃ ds, Γ[i]? = some (.own ds)) (h : Dl te Γ fun d Γ1 => ∃ (ds : List D) (k : Nat), Γ1[i]? = some (.own ds) ∧ Ev tk Γ1 (.int k) ∧ k < ds.length ∧ De.nx (Γ1.set i (.own (ds.set k d)))) : Ds (tAsg te (gSub (tVar i) tk rSetL)) Γ De := fun F σ W Dr g l =>
  h F σ W _ g fun v W1 d Γ1 st g1 r ⟨ds, k, e1, hk, lt, q⟩ => by
    obtain ⟨a, vs, hs, u, f, p, q1, r1⟩ := g1.own i ds e1
    refine ⟨.ref a, hs, hk F σ W1 _ g1 fun w H2 s2 rk => ?_⟩
    have g2 := g1.same s2
    obtain ⟨a', vs', hs', _, _, _, q2, r2⟩ := g2.own i ds e1
    rw [hs] at hs'; cases hs'
    have hl : (k : Int) < (vs'.length : Int) := by rw [← r2.length]; omega
    obtain ⟨st3, g3⟩ := g2.write e1 hs (r2.set (r.same (W := W1) s2) k)
    refine ⟨a, vs', k, k, rfl, rk, q2, ?_, l.nx σ _ _ (st.trans ((Stp.of_same g1.ok s2).trans st3)) g3 q⟩
    unfold ixN
    rw [if_pos (by omega), if_pos hl]; rfl
/-- x |= y -/
theorem ds_orI {i a b : Nat} (h0 : Γ[i]? = some (.val (.int a))) (h : Ev te Γ (.int b)) (q : De.nx (Γ.set i (.val (.int ((a ||| b : Nat) : Int))))) : Ds (tAug i te rOrB) Γ De := fun F σ W Dr g l => by
  obtain ⟨v, e, r⟩ := g.val i _ h0
  refine ⟨v, e, h F σ W _ g fun u H s ru => ⟨a, b, r, ru, ?_⟩⟩
  have e2 : Builtin.bitOr (a : Int) (b : Int) = ((a ||| b : Nat) : Int) := by rw [Bits.bitOr_pp (by omega) (by omega)]; rfl
  show Dr.nx (σ.set i (some (V.int (Builtin.bitOr a b)))) H
  rw [e2]
  exact l.nx _ (W.at H) _ (Stp.of_same g.ok s) ((g.same s).set (d := .int ((a ||| b : Nat) : Int)) rfl) q
end
end Dw

/-! for i, c in enumerate(a text). -/
namespace Dw
open PySem PySem.Spec PyProof.Rows L2
variable [Tabs0]
/-- each sign of x in a new pair -/
def IteS (x : Str) : It :=
  ⟨fun i _ => i < x.cps.size, fun i H v H' => ∃ T c, v = .ref T ∧ H T = none ∧ H' = upd H T (.tup [.int (i : Nat), .str ⟨#[c]⟩]) ∧ x.cps[i]? = some c, fun i _ => x.cps.size ≤ i⟩
theorem turn_enumS {P : Program} {w : World} {K : PySem.W.Frag} {elts : List Expr} {kk : Nat} {tpos : Pos} (x : Str) (t0 : Tok) (e it : Addr) (nei : e ≠ it) :
    Turn P w K (.Tuple elts kk tpos) (IteS x) [e, it] e (fun i h => (∃ old, IsEnum h e it ((0 : Int) + (i : Int)) old) ∧ h.IsStrIter it (strIterType x) x t0 i ∧ i ≤ x.cps.size) where
  mem := by simp
  obj := fun i h ⟨⟨old, he⟩, ⟨o, ho, hc, hd⟩, _⟩ b hb => by
    rcases (show b = e ∨ b = it by simpa using hb) with z | z
    · subst z; exact ⟨_, he, fun v q => nomatch q⟩
    · subst z; exact ⟨o, ho, fun v q => by rw [hd] at q; cases q⟩
  keep := fun i h h' ⟨⟨old, he⟩, ⟨o, ho, r⟩, hl⟩ k => ⟨⟨old, k e (by simp) _ he⟩, ⟨o, k it (by simp) o ho, r⟩, hl⟩
  item := by
    intro X hP hw hK hc i pins s σ H E I hf st hg
    subst hP; subst hw; subst hK
    have G := GoesN.enumFrom (prog := X.prog) (w := X.w) (A := X.A) (elts := elts) (x1 := kk) (pos := tpos) 0 (Draws.text (A := X.A.in1) (I.ok.hd hc) it x t0) e nei (by simp [nei]) (by simp)
    refine thn (G.goes i s (fun v s2 => ∃ T t c u, v = Value.ref T ∧ s.heap.objs.size ≤ T ∧ x.cps[i]? = some c ∧ s2.heap.IsTuple T #[.int ((0 : Int) + (i : Int)) t, .str ⟨#[c]⟩ u] ∧
        (∃ old, IsEnum s2.heap e it ((0 : Int) + ((i + 1 : Nat) : Int)) old) ∧ s2.heap.IsStrIter it (strIterType x) x t0 (i + 1) ∧ (∀ b o, b ∉ [e, it] → s.heap.get? b = some o → s2.heap.get? b = some o) ∧ ∃ h' tk, s2 = { s with heap := h', toks := tk }) E hg ⟨st.1, st.2.1⟩
      fun v h' tk ⟨T, t, y, ev, hT, ⟨c, u, hy, ey⟩, htu⟩ ⟨ho, hit⟩ kp _ => ⟨T, t, c, u, ev, hT, hy, by rw [← ey]; exact htu, ho, hit, kp, h', tk, rfl⟩) fun r s1 ⟨v, er, hv⟩ => ⟨v, er, thn hv fun _ s2 ⟨T, t, c, u, ev, hT, hy, htu, ho, hit, kp, h', tk, es⟩ => ?_⟩
    subst es; subst ev
    have new : ObjOk X.prog X.w (upd H T (.tup [.int (i : Nat), .str ⟨#[c]⟩])) h' T (.tup [.int (i : Nat), .str ⟨#[c]⟩]) :=
      ⟨by show 2 ≤ sizeLine; decide, [.int ((0 : Int) + (i : Int)) t, .str ⟨#[c]⟩ u], .cons ⟨t, by rw [Int.zero_add]⟩ (.cons ⟨u, rfl⟩ .nil), htu⟩
    have I1 : Inv X pins σ (upd H T (.tup [.int (i : Nat), .str ⟨#[c]⟩])) { s with heap := h', toks := tk } := I.turnedNew (ch := [e, it]) kp hf hT new
    refine ⟨.ref T, _, I1, rfl, ⟨T, c, rfl, I.hok.fresh hT, rfl, hy⟩, ⟨ho, hit, hg⟩, fun b hb => ?_⟩
    have lt : b ≠ T := by
      rcases (show b = e ∨ b = it by simpa using hb) with z | z
      · obtain ⟨old, he⟩ := st.1
        rw [z]; exact Nat.ne_of_lt (Nat.lt_of_lt_of_le (Heap.lt_size he) hT)
      · obtain ⟨o, q, _⟩ := st.2.1
        rw [z]; exact Nat.ne_of_lt (Nat.lt_of_lt_of_le (Heap.lt_size q) hT)
    rw [upd_ne lt]
    exact (hf b hb).1
  done := by
    intro X hP hw hK hc i pins s σ H E I hf st hg
    subst hP; subst hw; subst hK
    have G := GoesN.enumFrom (prog := X.prog) (w := X.w) (A := X.A) (elts := elts) (x1 := kk) (pos := tpos) 0 (Draws.text (A := X.A.in1) (I.ok.hd hc) it x t0) e nei (by simp [nei]) (by simp)
    have en : x.cps.size = i := Nat.le_antisymm hg st.2.2
    rw [en] at G
    exact G.stops s _ E ⟨st.1, st.2.1⟩ fun h' tk kp _ => inv_turned I kp hf
  self := fun A i s Q E ⟨⟨_, he⟩, _⟩ h => wpAny_pyIter_enum he h
def iEnumS (ta : TA) : TI := fun σ H R => ta σ H fun vs H1 => ∃ x, vs = [.str x] ∧ R (IteS x) H1
theorem pi_enumS {X : Cx} {e : Expr} {ta : TA} {p pos tpos : Pos} {elts : List Expr} {kk : Nat} (hg : Gl X "enumerate") (hm : X.mg "enumerate" = none) (ha : PA X [e] ta) (hs : starEach [e] X.env = [(false, eval e X.env)] := by rfl) :
    PI X (.Tuple elts kk tpos) (.Call (.Name "enumerate" p) [e] [] pos) (iEnumS ta) := by
  refine ⟨fun pins s σ H R I h => ?_⟩
  refine Call_ (ld_blt I hg hm boot_enumerate (callWith_type1 (thn (ha.run pos pins s σ H _ I h) fun us s1 ⟨vs, H1, I1, r1, q1⟩ => ?_) hs rfl))
  obtain ⟨x, ex, q⟩ := q1
  subst ex
  obtain ⟨u, eu, ru⟩ := vals1 r1
  subst eu
  obtain ⟨t, rfl⟩ := ru
  refine call_enumerate_str fun h' he hit hsz hk => wpAny_pyIter_enum he ?_
  refine ⟨s1.heap.objs.size + 1, [s1.heap.objs.size + 1, s1.heap.objs.size], _, _, H1, rfl, I1.kept (t' := s1.toks) hk, turn_enumS x t (s1.heap.objs.size + 1) s1.heap.objs.size (Nat.succ_ne_self _), ⟨⟨_, he⟩, hit, Nat.zero_le _⟩, fun b hb => ?_, q⟩
  have hle : s1.heap.objs.size ≤ b := by
    rcases (show b = s1.heap.objs.size + 1 ∨ b = s1.heap.objs.size by simpa using hb) with z | z
    · rw [z]; exact Nat.le_succ _
    · rw [z]; exact Nat.le_refl _
  exact I1.fpOk hle (I1.hok.fresh hle)
theorem enumSA {X : Cx} {e : Expr} {ta : TA} {p pos tpos : Pos} {elts : List Expr} {kk : Nat} (hg : Gl X "enumerate") (hm : X.mg "enumerate" = none) (ha : PA X [e] ta) (hs : starEach [e] X.env = [(false, eval e X.env)] := by rfl) :
    PI X (.Tuple elts kk tpos) (.Call (.Name "enumerate" p) [e] [] pos) (iEnumS ta) := pi_enumS hg hm ha hs
section
variable {K : PySem.W.Frag} {Γ : Gam} {ta : TE}
theorem itS {W : Wd} {x : Str} : ∀ (W2 : Wd) (i : Nat) (d : D), (enumD (signs x))[i]? = some d → (∀ a, W2.U a → W2.H a ≠ none) → (IteS x).go i W2.H ∧ ∀ u H', (IteS x).yld i W2.H u H' → Same W2.H H' ∧ Rep (W2.at H') d u := fun W2 i d hx dm => by
  obtain ⟨y, hy, rfl⟩ := enumD_get hx
  obtain ⟨_, c, hc, rfl⟩ := signs_get hy
  refine ⟨(Array.getElem?_eq_some_iff.mp hc).1, fun u H' ⟨T, z, eu, hT, eH, hz⟩ => ?_⟩
  subst eu; subst eH
  rw [hc] at hz; cases hz
  exact ⟨same_upd hT, rep_new_tup dm hT ⟨_, _, rfl, rfl, _, _, rfl, rfl, rfl⟩⟩
theorem enumS_len (x : Str) : (enumD (signs x)).length = x.cps.size := by
  rw [enumD_length]
  unfold signs
  rw [List.length_map, Array.length_toList]
theorem ei_enumS {x : Str} (h : Ev ta Γ (.str x)) : Ei (iEnumS (tCons ta tNil)) Γ (enumD (signs x)) := fun F σ W R g k => h F σ W _ g fun v H s r => by
  refine ⟨x, by rw [show v = V.str x from r], k (IteS x) H s ⟨fun W2 i d dm s2 ku pu hx => itS (W := W) W2 i d hx dm, fun H2 s2 => ?_⟩⟩
  show x.cps.size ≤ _
  rw [enumS_len]; exact Nat.le_refl _
end
end Dw

/-! *xs in a display, o.m(..). -/
namespace Dw
open PySem PySem.Spec PyProof.Rows L2
variable [Tabs0]
section
variable {K : PySem.W.Frag} {Γ : Gam} {ta te : TE} {t : TA} {ds es : List D} {d : D} {C : Addr} {s : Spc} {E : XK}
end
end Dw

/-! a, b, c = x, y, z. -/
namespace Dw
open PySem PySem.Spec PyProof.Rows L2
variable [Tabs0]
end Dw

/-! enumerate of a list that draws go on beside, not, sign * n. -/
namespace Dw
open PySem PySem.Spec PyProof.Rows L2
variable [Tabs0]
section
variable {K : PySem.W.Frag} {Γ : Gam} {ta t : TE}
theorem di_enumL {Q : List D → Gam → Prop} {r : TI} (h : Dl ta Γ fun d Γ1 => ∃ xs, d = .lst xs ∧ Q (enumD xs) Γ1) : Di (fun σ H R => iEnum K (tCons ta tNil) σ H R ∨ r σ H R) Γ Q := fun F σ W R g k => .inl (h F σ W _ g fun v W1 d Γ1 st g1 rd ⟨xs, e, q⟩ => by
  subst e
  obtain ⟨a, vs, rfl, ha, nu, l⟩ := rd
  refine ⟨a, vs, rfl, .of ha, k (Ite K a) W1 (enumD xs) Γ1 st g1 ⟨fun W2 i x s2 ok2 hx => ?_, fun W2 s2 ok2 => ⟨vs, .of (s2.keep a _ ha nu).1, by rw [enumD_length, l.length]; exact Nat.le_refl _⟩⟩ q⟩
  obtain ⟨y, hy, rfl⟩ := enumD_get hx
  obtain ⟨v, hv, rv⟩ := l.get hy
  have h2 := (s2.keep a _ ha nu).1
  refine ⟨⟨vs, v, .of h2, hv⟩, fun u H' ⟨T, z, eu, hT, eH, hz⟩ => ?_⟩
  subst eu; subst eH
  have := hz vs (.of h2)
  rw [hv] at this; cases this
  exact ⟨same_upd hT, rep_new_tup ok2.dom hT ⟨_, _, rfl, rfl, v, _, rfl, rv.stp s2, rfl⟩⟩)
/-! equality of lists of whole numbers, deep -/
theorem eqv_ints : ∀ a b : List Nat, PyData.eqvAll (pys (ordN a)) (pys (ordN b)) = decide (a = b)
  | [], [] => rfl
  | [], y :: ys => by
    show false = _
    simp
  | x :: xs, [] => by
    show false = _
    simp
  | x :: xs, y :: ys => by
    show ((((x : Nat) : Int) == ((y : Nat) : Int)) && PyData.eqvAll (pys (ordN xs)) (pys (ordN ys))) = _
    rw [eqv_ints xs ys, Bool.eq_iff_iff]
    simp
    intro _
    omega
end
end Dw

/-! first, *rest = a tuple; t[::-1]; t[a:b] of any bounds; x in a dict of the module; the head with the bits of the script. -/
namespace Dw
open PySem PySem.Spec PyProof.Rows L2
variable [Tabs0]
/-! ### first, *rest = t -/
theorem unpack_star1T {prog : Program} {w : World} {A : Around} {E : Value → Shared → Prop} {s : Shared} {l : Addr} {b : Value} {its : List Value} {Q : List Value → Shared → Prop} (hl : IsTup s.heap l (b :: its).toArray) (hh : A.handled = none)
    (hz : its.length ≤ 16000) (h : ∀ (h1 : Heap) (tk : Nat), (∀ c o, s.heap.get? c = some o → h1.get? c = some o) → Q [b, .ref h1.objs.size] { s with heap := h1.push { cls := .type "list", data := .seq its.toArray }, toks := tk }) :
    wpAny (model prog w) A (unpackItems (.ref l) 2 (some 1)) Q E s := by
  have lt : l < s.heap.objs.size := by obtain ⟨o, ho, _⟩ := hl; exact Heap.lt_size ho
  have ne : l ≠ s.heap.objs.size := Nat.ne_of_lt lt
  unfold unpackItems notIterableAtAll
  refine wpAny_bind (wpAny_bind (wpAny_specialOf hl.typeIs slot_tuple_iter.lookup (wpAny_pure ?_)))
  simp only [Bool.false_eq_true, if_false]
  refine wpAny_bind (wpAny_holding (iter_tuple hl ?_))
  refine wpAny_bind (wpAny_holding (draw_tuple ne 1 0 _ _ ⟨_, Heap.get?_push_size _ rfl, rfl, rfl⟩ (hl.push _) (by simp) fun ha hit hs => ?_))
  have hla : IsTup ha l (b :: its).toArray := (hl.push _).extBut hs.extBut ne
  rw [Nat.zero_add] at hit
  obtain ⟨oi, hoi, _⟩ := id hit
  obtain ⟨ol, hol, _⟩ := id hla
  rw [if_neg (show ¬ (((b :: its).toArray.toList.drop 0).take 1).length < 1 by simp)]
  refine wpAny_bind (wpAny_holding (PySem.W.kun_collect (s := { s with heap := ha }) (T := "tuple_iterator") (.inr (.inr (.inr rfl))) (Walks.tuple (A := A.in1) hh s.heap.objs.size l ne _) (fun j u st => st.1.typeIs) (k := 1) (by simp) ⟨hit, hla⟩
    (Heap.lt_size hoi) (Heap.lt_size hol) (fun hb tk kp => ?_) (by rw [sizeLine_eq]; simp; omega)))
  show wpAny _ _ (if its.length < 0 then _ else _) _ _ _
  rw [if_neg (Nat.not_lt_zero _)]
  show wpAny _ _ (newList (its.take (its.length - 0)) >>= fun d => pure ([b] ++ [d] ++ its.drop (its.length - 0))) _ _ _
  rw [Nat.sub_zero, List.take_length, List.drop_length]
  have k2 : ∀ c o, s.heap.get? c = some o → hb.get? c = some o := fun c o e => kp c o (Nat.ne_of_lt (Heap.lt_size e)) (hs.extBut c o (Nat.ne_of_lt (Heap.lt_size e)) (Heap.get?_push_of_some _ e))
  unfold newList
  refine wpAny_bind (wpAny_newObj_type (wpAny_pure ?_) (by show its.toArray.size ≤ sizeLine; rw [sizeLine_eq, List.size_toArray]; omega))
  exact h hb tk k2
/-- from a list or a tuple -/
def gStar1X (K : PySem.W.Frag) (g1 g2 : TG) : TG := fun v σ H Q => ∃ a z zs, v = .ref a ∧ (SqL K H a (z :: zs) ∨ SqT K H a (z :: zs)) ∧ zs.length ≤ 16000 ∧ ∀ p, H p = none → g1 z σ (upd H p (.lst zs)) fun σ1 H1 => g2 (.ref p) σ1 H1 Q
theorem pg_star1X {X : Cx} (hc : X.calm = true) {e1 e2 : Expr} {g1 g2 : TG} {k : Nat} {pos sp : Pos} (h1 : PG X e1 g1) (h2 : PG X e2 g2) (hlen : (assignEach [e1, .Starred e2 sp] X.env).length = 2 := by rfl)
    (hst : (assignEach [e1, .Starred e2 sp] X.env).findIdx? (·.1) = some 1 := by rfl) (hm : (assignEach [e1, .Starred e2 sp] X.env).map (·.2) = [assign e1 X.env, assign e2 X.env] := by rfl) :
    PG X (.Tuple [e1, .Starred e2 sp] k pos) (gStar1X X.K g1 g2) := by
  refine ⟨fun pins s σ H v u Q I r hw => ?_⟩
  obtain ⟨a, z, zs, ev, hq, hl, hw⟩ := hw
  rcases hq with hq | hq
  · exact (pg_star1 hc h1 h2 hlen hst hm).run pins s σ H v u Q I r ⟨a, z, zs, ev, hq, hl, hw⟩
  subst ev
  cases r
  obtain ⟨its, rv, pl, hz⟩ := I.tuple hq
  cases rv with
  | cons rz rr =>
    rename_i b l
    rw [assign_Tuple]
    refine wpAny_bind (wpAny_standAt ?_)
    unfold unpack
    rw [hlen, hst, hm]
    refine wpAny_bind (wpAny_holding (unpack_star1T pl (I.ok.hd hc) (by rw [← rr.length]; exact hl) fun ha tk kp => ?_))
    have I1 : Inv X pins σ H { s with heap := ha, toks := tk } := I.kept kp
    have I2 := I1.laid (t' := tk) (o := .lst zs) (h' := ha.push { cls := .type "list", data := .seq l.toArray }) (fun c o e => Heap.get?_push_of_some _ e) (Nat.le_refl _)
      ⟨by have hz' : zs.length + 1 ≤ sizeLine := hz
          omega, l, 0, rr, Heap.get?_push_size _ rfl⟩
    refine assignInOrder_cons (thn (h1.run pins _ σ _ z b _ I2 rz (hw _ (I1.hok.fresh (Nat.le_refl _)))) fun _ s3 ⟨σ3, H3, I3, q3⟩ => ?_)
    exact assignInOrder_cons (thn (h2.run pins s3 σ3 H3 (.ref ha.objs.size) _ Q I3 rfl q3) fun _ s4 ⟨σ4, H4, I4, q4⟩ => assignInOrder_nil ⟨σ4, H4, I4, q4⟩)
theorem star1XA (K : PySem.W.Frag) {X : Cx} (hc : X.calm = true) {e1 e2 : Expr} {g1 g2 : TG} {k : Nat} {pos sp : Pos} (h1 : PG X e1 g1) (h2 : PG X e2 g2) (hK : X.K = K := by rfl) (hlen : (assignEach [e1, .Starred e2 sp] X.env).length = 2 := by rfl)
    (hst : (assignEach [e1, .Starred e2 sp] X.env).findIdx? (·.1) = some 1 := by rfl) (hm : (assignEach [e1, .Starred e2 sp] X.env).map (·.2) = [assign e1 X.env, assign e2 X.env] := by rfl) :
    PG X (.Tuple [e1, .Starred e2 sp] k pos) (gStar1X K g1 g2) := hK ▸ pg_star1X hc h1 h2 hlen hst hm
section
variable {K : PySem.W.Frag} {Γ : Gam}
theorem ds_starL {te : TE} {De : DE} {a b : Nat} (h : Dl te Γ fun d Γ1 => ∃ d0 ds, (d = .lst (d0 :: ds) ∨ d = .tup (d0 :: ds)) ∧ ds.length ≤ 16000 ∧ De.nx ((Γ1.set a (.val d0)).set b (.val (.lst ds)))) : Ds (tAsg te (gStar1X K (gName a) (gName b))) Γ De := fun F σ W Dr s l => h F σ W _ s fun v W1 d Γ1 st g1 r ⟨d0, ds, e, hz, q⟩ => by
  rcases e with e | e
  · subst e
    obtain ⟨p, vs, rfl, hp, nu, z, zs, rfl, r0, r1⟩ := r
    refine ⟨p, z, zs, rfl, .inl (.of hp), by rw [← r1.length]; exact hz, fun n hn => ?_⟩
    have sm : Same W1.H (upd W1.H n (.lst zs)) := same_upd hn
    exact l.nx _ (W1.at _) _ (st.trans (Stp.of_same g1.ok sm)) (((g1.same sm).set (r0.same sm)).set (rep_new_lst g1.ok.dom hn r1)) q
  · subst e
    obtain ⟨p, vs, rfl, hp, nu, z, zs, rfl, r0, r1⟩ := r
    refine ⟨p, z, zs, rfl, .inr (hp.sq), by rw [← r1.length]; exact hz, fun n hn => ?_⟩
    have sm : Same W1.H (upd W1.H n (.lst zs)) := same_upd hn
    exact l.nx _ (W1.at _) _ (st.trans (Stp.of_same g1.ok sm)) (((g1.same sm).set (r0.same sm)).set (rep_new_lst g1.ok.dom hn r1)) q
end
/-! ### t[a:b] -/
abbrev rSlX (K : PySem.W.Frag) : V → Option Int → Option Int → Hp → VK → Prop := fun x lo hi H Q => rSlL K x lo hi H Q ∨ rSlA K x lo hi H Q
theorem slXA {X : Cx} (K : PySem.W.Frag) (hK : X.K = K := by rfl) : SlR X (rSlX K) := hK ▸ sl_list.or sl_tupA
section
variable {K : PySem.W.Frag} {Γ : Gam} {te : TE} {ds : List D}
theorem cut_whole {α : Type} (xs : List α) (n : Nat) (lo hi : Option Int) (hn : n = xs.length) (h : HT.sIx n 0 lo = 0 ∧ HT.sIx n n hi = n) : (xs.drop (HT.sIx n 0 lo)).take (HT.sIx n n hi - HT.sIx n 0 lo) = xs := by
  rw [h.1, h.2, List.drop_zero, Nat.sub_zero, hn, List.take_length]
theorem ev_sliceTY {tl th : TO} {lo hi : Option Int} (h : Ev te Γ (.tup ds)) (h1 : Eo tl Γ lo) (h2 : Eo th Γ hi) : Ev (tSl (rSlX K) te tl th) Γ (.tup (cutD ds lo hi)) := fun F σ W Q g k => h F σ W _ g fun v H s ⟨a, vs, ev, e, nu, l⟩ => h1 F σ (W.at H) _ (g.same s) fun H1 s1 => h2 F σ ((W.at H).at H1) _ ((g.same s).same s1) fun H2 s2 => by
  have sm : Same H H2 := Same.trans s1 s2
  subst ev
  refine .inr ⟨a, vs, rfl, (e.same sm).sq, fun hw => ?_, fun hw p hp => k _ _ (Same.trans s (Same.trans sm (same_upd hp))) (rep_new_tup (W := W.at H2) (((g.same s).same s1).same s2).ok.dom hp (repL_cut (RepL.same (W := W.at H) sm l)))⟩
  have e1 : cutD ds lo hi = ds := cut_whole ds ds.length lo hi rfl (by rw [l.length]; exact hw)
  rw [e1] at k
  exact k _ H2 (Same.trans s sm) ⟨a, vs, rfl, e.same sm, nu, RepL.same (W := W.at H) sm l⟩
end
/-! ### x in a written dict -/
section
variable {K : PySem.W.Frag} {w : World} {Γ : Gam} {ta tb : TE} {x : Str}
end
/-! ### the head, with the script's bits -/
end Dw

/-! xs[::-1] of lists and tuples, *xs in a list, written dicts as values. -/
namespace Dw
open PySem PySem.Spec PyProof.Rows L2 HT
variable [Tabs0]
section
variable {prog : Program} {w : World} {A : Around} {E : Value → Shared → Prop} {s : Shared}
end
section
variable {K : PySem.W.Frag} {Γ : Gam} {ta tk te : TE} {ds es : List D} {t : TA}
/-! ### {}, {'a': 1} -/
theorem ev_dnew : Ev tDNewK Γ (.dct [] []) := fun F σ W Q g k => fun p hp => k _ _ (same_upd hp) ⟨p, [], rfl, upd_same, fun u => g.ok.dom p u hp, rfl, rfl⟩
end
end Dw

/-! t != (), a, b, c = [], x, y, tuple(xs) with draws, cuts of the script. -/
namespace Dw
open PySem PySem.Spec PyProof.Rows L2 HT
variable [Tabs0]
section
variable {K : PySem.W.Frag} {Γ : Gam} {ta te : TE}
theorem evn_sliceXY {tl th : TO} {ns : List Int} {lo hi : Option Int} (h : Ev te Γ (.scr K (ns.map V.int))) (h1 : Eo tl Γ lo) (h2 : Eo th Γ hi) : EvN (tSl (rSlX K) te tl th) Γ (intD (cutI ns lo hi)) := fun F σ W Q g k => h F σ W _ g fun v H s r => h1 F σ (W.at H) _ (g.same s) fun H1 s1 => h2 F σ ((W.at H).at H1) _ ((g.same s).same s1) fun H2 s2 => by
  have sm : Same H H2 := Same.trans s1 s2
  obtain ⟨a, e, q⟩ := scr_sq (r.same (W := W.at H) sm)
  refine .inl ⟨a, _, e, q, fun p hp => k p _ _ (Same.trans s (Same.trans sm (same_upd hp))) (s.free (sm.free hp)) upd_same (RepL.ints.mpr ?_)⟩
  unfold cutI L2.cutV
  simp [List.map_take, List.map_drop]
end
end Dw

/-! tuple(range(n)), x not in a list of signs. -/
namespace Dw
open PySem PySem.Spec PyProof.Rows L2
variable [Tabs0]
section
variable {K : PySem.W.Frag} {Γ : Gam} {ta : TE}
end
end Dw

/-! cuts of texts, x is not False, t == (). -/
namespace Dw
open PySem PySem.Spec PyProof.Rows L2 HT
variable [Tabs0]
section
variable {K : PySem.W.Frag} {Γ : Gam} {ta te : TE} {x : Str}
theorem ev_sliceS {tl th : TO} {lo hi : Option Int} (h : Ev te Γ (.str x)) (hz : x.length ≤ sizeLine) (h1 : Eo tl Γ lo) (h2 : Eo th Γ hi) : Ev (tSl rSlS te tl th) Γ (.str (cutS x lo hi)) := fun F σ W Q g k => h F σ W _ g fun v H s r => h1 F σ (W.at H) _ (g.same s) fun H1 s1 => h2 F σ ((W.at H).at H1) _ ((g.same s).same s1) fun H2 s2 =>
  ⟨x, r, hz, k _ H2 (Same.trans s (Same.trans s1 s2)) rfl⟩
theorem cutS_drop (l : List Nat) (j : Nat) : cutS (tx l) (some (j : Int)) none = tx (l.drop j) := by
  unfold cutS
  rw [sIx_none, sIx_nat, tx_cps, tx_len]
  by_cases h : j ≤ l.length
  · rw [Nat.min_eq_left h, List.take_of_length_le (by rw [List.length_drop]; exact Nat.le_refl _)]; rfl
  · rw [Nat.min_eq_right (by omega), Nat.sub_self, List.take_zero, List.drop_eq_nil_of_le (by omega)]; rfl
end
end Dw

/-! xs != [] of any list. -/
namespace Dw
open PySem PySem.Spec PyProof.Rows L2 HT
variable [Tabs0]
end Dw

/-! a, b = a list; {i: x, j: y}.get(k, z). -/
namespace Dw
open PySem PySem.Spec PyProof.Rows L2 HT
variable [Tabs0]
section
variable {Γ : Gam} {td ty : TE}
end
end Dw

/-! [b for a in xs for b in a]; a value not in a list; repr of a tuple. -/
namespace Dw
open PySem PySem.Spec PyProof.Rows L2 HT
variable [Tabs0]
/-! a tuple of whole numbers, not in a list of such -/
end Dw

/-! dicts whose keys are tuples of whole numbers, made and walked by one def. -/
namespace Dw
open PySem PySem.Spec PyProof.Rows L2 HT
variable [Tabs0]
/-! worlds without a frame and without a purse: U holds the dicts -/
abbrev NoF : Addr → Prop := fun _ => False
def PW (H : Hp) (U : Addr → Prop) : Wd := ⟨H, U, fun _ => False⟩
def NO (Γ : Gam) : Prop := ∀ (i : Nat) (ds : Ow), Γ[i]? ≠ some (.ownX ds)
theorem NO.set {Γ : Gam} (h : NO Γ) (i : Nat) (d : D) : NO (Γ.set i (.val d)) := fun j ds e => by
  by_cases hij : i = j
  · subst hij
    by_cases hl : i < Γ.length
    · rw [List.getElem?_set_self hl] at e; cases e
    · rw [List.getElem?_eq_none (by rw [List.length_set]; omega)] at e; cases e
  · rw [List.getElem?_set_ne hij] at e; exact h j ds e
abbrev SP (Γ : Gam) (σ : L2.St) (H : Hp) (U : Addr → Prop) : Prop := SR NoF Γ σ (PW H U)
/-! for over a range; for over a dict with tuple keys -/
end Dw

/-! How long a repr may be. -/
namespace Dw
open PySem PySem.Spec PyProof.Rows L2 HT
variable [Tabs0]
/-! ### the length of a repr -/
mutual
def shB : D → Nat
  | .int i => (PyData.shown (.int i)).length | .str x => 10 * x.length + 2
  | .tup ds => shBs ds + 4 | .lst ds => shBs ds + 4 | .tupN ds => shBs ds + 4
  | _ => 5
def shBs : List D → Nat
  | [] => 0
  | d :: ds => shB d + 2 + shBs ds
end
theorem listText_le (ts : List Str) : (listText ts).length ≤ piled ts + 4 := by
  cases ts with
  | nil => decide
  | cons t r =>
    have h := textFrom_length_pos r 1 (("[" : Str) ++ (if (0 : Nat) > 0 then ", " else "" : String) ++ t) (Nat.succ_pos 0)
    have e : ((("[" : Str) ++ (if (0 : Nat) > 0 then ", " else "" : String) ++ t)).length = 1 + t.length := by
      rw [strLen_append, strLen_append]; rfl
    have hX : (listText (t :: r)).length = (textFrom 1 (("[" : Str) ++ (if (0 : Nat) > 0 then ", " else "" : String) ++ t) r).length + 1 := by
      unfold listText
      rw [strLen_append]; rfl
    rw [hX, h, e, piled_cons]
    omega
theorem tupleText_le (ts : List Str) : (tupleText ts).length ≤ piled ts + 4 := by
  unfold tupleText
  rw [strLen_append, strLen_append]
  have e1 : ((("(" : String) : Str)).length = 1 := rfl
  have e3 : (((if ts.length == 1 then ",)" else ")" : String) : Str)).length ≤ 2 := by split <;> decide
  rw [e1]
  by_cases h : ts = []
  · subst h
    have : (Str.join ", " []).length = 0 := rfl
    omega
  · have := join_length_add ts h
    omega
mutual
theorem shB_le : ∀ (k : Nat) (d : D), dOk k d = true → (PyData.shown (py d)).length ≤ shB d
  | _, .non, _ => by show (("None" : String) : Str).length ≤ 5; decide
  | _, .bl b, _ => by cases b <;> (show (PyData.shown (.bool _)).length ≤ 5) <;> decide
  | _, .int i, _ => Nat.le_refl _
  | k, .str x, h => by
    have e : dOk k (.str x) = PyData.strOk x := by cases k <;> rfl
    rw [e] at h
    have a' : x.cps.all (fun c => decide (c < 1114112)) = true := h
    rw [← Array.all_toList, List.all_eq_true] at a'
    exact PySem.StrLaws.reprText_len x fun c hc => Nat.lt_of_lt_of_le (of_decide_eq_true (a' c hc)) (by decide)
  | k + 1, .tup ds, h => by
    have ih := shBs_le k ds h
    show (tupleText (PyData.shownAll (pys ds))).length ≤ shBs ds + 4
    have := tupleText_le (PyData.shownAll (pys ds))
    omega
  | k + 1, .lst ds, h => by
    have ih := shBs_le k ds h
    show (listText (PyData.shownAll (pys ds))).length ≤ shBs ds + 4
    have := listText_le (PyData.shownAll (pys ds))
    omega
  | k + 1, .tupN ds, h => by
    have ih := shBs_le k ds h
    show (tupleText (PyData.shownAll (pys ds))).length ≤ shBs ds + 4
    have := tupleText_le (PyData.shownAll (pys ds))
    omega
  | 0, .tup _, h => nomatch h
  | 0, .lst _, h => nomatch h
  | 0, .tupN _, h => nomatch h
  | k, .obj _ _ _, h => by cases k <;> exact nomatch h
  | k, .raw _, h => by cases k <;> exact nomatch h
  | k, .purse, h => by cases k <;> exact nomatch h
  | k, .rng _ _, h => by cases k <;> exact nomatch h
  | k, .dct _ _, h => by cases k <;> exact nomatch h
  | k, .scr _ _, h => by cases k <;> exact nomatch h
  | k, .tag _, h => by cases k <;> exact nomatch h
  | k, .fnv _ _, h => by cases k <;> exact nomatch h
  | k, .clo _ _ _, h => by cases k <;> exact nomatch h
theorem shBs_le : ∀ (k : Nat) (ds : List D), dOks k ds = true → piled (PyData.shownAll (pys ds)) ≤ shBs ds
  | _, [], _ => Nat.zero_le _
  | k, d :: ds, h => by
    have e : dOks k (d :: ds) = (dOk k d && dOks k ds) := by cases k <;> rfl
    rw [e, Bool.and_eq_true] at h
    have h1 := shB_le k d h.1
    have h2 := shBs_le k ds h.2
    show piled (PyData.shown (py d) :: PyData.shownAll (pys ds)) ≤ shB d + 2 + shBs ds
    rw [piled_cons]
    omega
end
end Dw
namespace Dw
open PySem PySem.Spec PyProof.Rows L2 HT
variable [Tabs0]
end Dw

/-! Tuples that are known to have no dict of their own: displays, sums, tuple(xs); t.index(x). -/
namespace Dw
open PySem PySem.Spec PyProof.Rows L2 HT
variable [Tabs0]
theorem Dl.weak {t : TE} {Γ : Gam} {Q : D → Gam → Prop} (h : Dl t Γ fun d Γ1 => Q (weakD d) Γ1) : Dl t Γ Q := fun F σ W R g k => h F σ W R g fun v W' d Γ' s r' l q => k v W' (weakD d) Γ' s r' (Rep.weak d v l) q
section
variable {X : Cx} {pins : List (Addr × Obj)} {σ : L2.St} {H : Hp} {s : Shared}
end
/-! ### (x, y) -/
section
variable {Γ : Gam} {t : TA} {ds : List D}
end
/-! ### t + (x,) -/
/-! ### tuple(xs) -/
/-! ### t.m(x) of such a tuple -/
section
variable {X : Cx} {o e : Expr} {es : List Expr} {to : TE} {t : TA} {nm : Str} {p1 p2 : Pos} {id : String} {r : V → List V → Hp → VK → Prop}
end
section
variable {K : PySem.W.Frag} {Γ : Gam} {ta tb : TE}
end
end Dw
namespace Dw
open PySem PySem.Spec PyProof.Rows L2 HT
variable [Tabs0]
/-! ### a new tuple, by its cell -/
section
variable {K : PySem.W.Frag} {Γ : Gam} {t : TA} {ta : TE} {ds : List D}
end
end Dw
namespace Dw
open PySem PySem.Spec PyProof.Rows L2 HT
variable [Tabs0]
end Dw

/-! {k: v for x in xs if ..}, k in d, d[k]; a call of a local name that holds a def. -/
namespace Dw
open PySem PySem.Spec PyProof.Rows L2 HT
variable [Tabs0]
section
variable {K : PySem.W.Frag} {Γ : Gam} {wi : TI} {g : TG} {tt : TT} {tk tv ta td ty : TE} {vs : List Nat}
/-! ### a call of a local name that holds a def -/
end
end Dw

/-! xs, y = [], e with a cell among them; xs.index(x) of texts. -/
namespace Dw
open PySem PySem.Spec PyProof.Rows L2 HT
variable [Tabs0]
section
variable {K : PySem.W.Frag} {Γ : Gam} {ta tb : TE}
end
end Dw

/-! an own list, lent for the time of one expression whose answer is a tuple of numbers. -/
namespace Dw
open PySem PySem.Spec PyProof.Rows L2 HT
variable [Tabs0]
end Dw

/-! list(d.values()). -/
namespace Dw
open PySem PySem.Spec PyProof.Rows L2 HT
variable [Tabs0]
section
variable {X : Cx} {e : Expr} {te : TE} {p apos cpos pos : Pos}
variable {Γ : Gam} {td : TE}
end
end Dw

/-! xs == [] of any list. -/
namespace Dw
open PySem PySem.Spec PyProof.Rows L2 HT
variable [Tabs0]
/-! ### texts, >= -/
/-! ### range(a, b) -/
end Dw

/-! {"a": 1, ..}, d.get(k, z); cuts and sums of tuples whose cells are known. -/
namespace Dw
open PySem PySem.Spec PyProof.Rows L2 HT
variable [Tabs0]
section
variable {Γ : Gam} {td ty : TE}
end
/-! ### t[a:b], its cell known -/
section
variable {K : PySem.W.Frag} {Γ : Gam} {te : TE} {ds : List D}
end
/-! ### t == () -/
/-! ### a text's count -/
end Dw

/-! min(xs); xs.extend(ys) of an own list; a purse that is made of a number. -/
namespace Dw
open PySem PySem.Spec PyProof.Rows L2 HT
variable [Tabs0]
section
variable {K : PySem.W.Frag} {Γ : Gam} {ta tb : TE}
end
/-- a def that makes a purse of a number -/
def toWell : Sp := fun vs H Q _ => ∃ (F : Addr → Prop) (W : Wd) (cell : Int), W.H = H ∧ WOk F W ∧ RepL W [.int cell] vs ∧
  ∀ (a : Addr) (x y c : Int) (W' : Wd) (H' : Hp), Stp F W W' → WOk F W' → Same W'.H H' → W'.H a = none → H' a = some (.lst [.int x, .int y, .int c]) → 0 ≤ x → 0 ≤ y → y < 2147483647 → Q (.ref a) H'
section
variable {s : Spc} {E : XK} {Γ : Gam} {ta : TE}
end
end Dw

/-! x, ys = e, [] with a cell among them. -/
namespace Dw
open PySem PySem.Spec PyProof.Rows L2 HT
variable [Tabs0]
section
variable {s : Spc} {E : XK} {Γ : Gam} {ta : TE}
/-- right(well(number)) -/
theorem dl_wellT {K : PySem.W.Frag} {E2 : XK} {Q : D → Gam → Prop} {x : s.ty} (ha : s.args x = [.purse]) (ok : s.ok x) (hr : ∀ d, s.rel x d → d = .bl true) (h1 : Dl ta Γ fun d Γ1 => (∃ z : Int, d = .int z) ∧ (∃ (i : Nat) (vs : List V), Γ1[i]? = some (.val (.scr K vs))) ∧ Q (.bl true) Γ1) :
    Dl (tCall (toSp s) [] E (tCons (tCall toWell [] E2 (tCons ta tNil)) tNil)) Γ Q := fun F σ W R g k => by
  show tCons ta tNil σ W.H (fun vs H1 => toWell (vs ++ []) H1 (fun v H2 => toSp s ([v] ++ []) H2 R E) E2)
  refine h1 F σ W _ g fun v0 W1 d0 Γ1 s1 g1 r0 ⟨⟨z, ez⟩, ⟨ci, cvs, hcs⟩, q⟩ => ?_
  subst ez
  have r : RepL W1 [.int z] [v0] := RepL.one r0
  refine ⟨_, W1, z, rfl, g1.callOk, r, fun a x' y c' W' H' st ok' sm hn ha' h0 h0' h0y => ?_⟩
  have g2 := g1.call st ok'
  have okc := g2.callOk
  have nu : ¬ W'.U a := g2.ok.new hn
  have tb : ∀ p q, Tabs0.nm p = some q → W'.P p := fun p q z => by
    obtain ⟨v0, e0, hr0⟩ := g1.val ci _ hcs
    obtain ⟨_, _, _, t0⟩ := hr0
    have := t0 p q z
    rw [st.pur]
    exact this
  have nn : Tabs0.nm a = none := by
    cases z : Tabs0.nm a with
    | none => rfl
    | some q => exact absurd hn ((okc.pu a (tb a q z)).2.2.some)
  refine ⟨x, _, ⟨H', fun b => W'.U b ∨ b = a, fun b => W'.P b ∨ b = a⟩, rfl, ⟨fun b z => ?_, fun b z => .inl (okc.fu b z), fun b z => ?_⟩, ?_, ok, fun d v W2 hd st2 ok2 r2 => ?_⟩
  · rcases z with z | rfl
    · exact fun e => okc.dom b z (sm.free e)
    · show H' b ≠ none
      rw [ha']; exact fun e => nomatch e
  · rcases z with z | rfl
    · obtain ⟨u, f, o⟩ := okc.pu b z
      exact ⟨.inl u, f, o.grow sm hn⟩
    · exact ⟨.inr rfl, fun z => nu (okc.fu b z), .of ⟨(x', c'), y, h0, h0', h0y, ha'⟩ nn⟩
  · rw [ha]
    exact RepL.one ⟨a, rfl, .inr rfl, nn, fun p q z => .inl (tb p q z)⟩
  · have hd' := hr d hd
    subst hd'
    have stc : Stp (fun b => F b ∨ ownA Γ1 σ b) W' ⟨W2.H, W2.U, W'.P⟩ := ⟨fun b u e n => by
        have nb : b ≠ a := fun z => by rw [z, hn] at e; cases e
        obtain ⟨e2, n2⟩ := st2.keep b u (sm _ _ e) fun z => z.elim n nb
        exact ⟨e2, n2⟩, rfl, fun b z => by
        refine (st2.fr b z).trans ?_
        show H' b = W'.H b
        cases q : W'.H b with
        | none => exact absurd q (okc.dom b (okc.fu b z))
        | some u => exact sm _ _ q⟩
    have okc2 : WOk (fun b => F b ∨ ownA Γ1 σ b) ⟨W2.H, W2.U, W'.P⟩ := ⟨ok2.dom, ok2.fu, fun b z => by
      have := ok2.pu b (by rw [st2.pur]; exact .inl z)
      exact this⟩
    have st0 : Stp F W ⟨W2.H, W2.U, W'.P⟩ := s1.trans (((st.trans stc)).sub fun _ z => .inl z)
    exact k v ⟨W2.H, W2.U, W'.P⟩ (.bl true) Γ1 st0 (g2.call stc okc2) r2 q
end
end Dw

/-! tuple("abc"); == of truth values. -/
namespace Dw
open PySem PySem.Spec PyProof.Rows L2 HT
variable [Tabs0]
section
variable {K : PySem.W.Frag} {Γ : Gam} {ta : TE}
end
end Dw

/-! ways[i] += e, of an own list of numbers. -/
namespace Dw
open PySem PySem.Spec PyProof.Rows L2
variable [Tabs0]
section
variable {K : PySem.W.Frag} {Γ : Gam} {De : DE} {te tk : TE}
end
end Dw

/-! A lambda made, with the very heap: all but its maker's table stays. -/
namespace Dw
open PySem PySem.Spec PyProof.Rows L2 LamX
/-- what a lambda's making may have done: nothing, or the maker's table at P is longer and a code object is new -/
def Chg (P : Addr) (q : Str) (H H1 : Hp) : Prop := H1 = H ∨ ∃ (c : Addr) (ps : Array Value) (pos : Pos), H P = some (.tbl ps) ∧ H c = none ∧ H1 = upd (upd H P (.tbl (ps ++ #[rawInt pos.line, rawInt pos.col, .ref c]))) c (CodeO c q)
theorem Chg.ne {P : Addr} {q : Str} {H H1 : Hp} (h : Chg P q H H1) {b : Addr} {u : HO} (hb : b ≠ P) (e : H b = some u) : H1 b = some u := by
  rcases h with rfl | ⟨c, ps, more, _, hc, rfl⟩
  · exact e
  · rw [upd_ne (ne_of_none e hc), upd_ne hb]
    exact e
theorem Chg.ext {P : Addr} {q : Str} {H H1 : Hp} (h : Chg P q H H1) : ExtN H H1 := by
  rcases h with rfl | ⟨c, ps, more, hP, hc, rfl⟩
  · exact ExtN.refl _
  · intro b o e n
    rw [upd_ne (ne_of_none e hc), upd_ne (fun z => n ps (Option.some.inj (e.symm.trans (by rw [z]; exact hP))))]
    exact e
section
variable {X : Cx} {pins : List (Addr × Obj)} {σ : L2.St} {H : Hp} {s : Shared}
/-- the tables go on telling the truth -/
theorem tabs_grow {T : List (Addr × Str)} {P c' : Addr} {q : Str} {ps : Array Value} {pos : Pos} (hT : Tabs T H) (hu : ∀ p ∈ T, p.1 = P → p.2 = q) (hP : H P = some (.tbl ps)) (ht : TriplesOk ps.toList)
    (ha : ∀ (pos : Pos) (cv : Value), codeAmong pos ps.toList = some cv → ∃ c, cv = .ref c ∧ H c = some (CodeO c q)) (nC : H c' = none) :
    Tabs T (upd (upd H P (.tbl (ps ++ #[rawInt pos.line, rawInt pos.col, .ref c']))) c' (CodeO c' q)) := by
  have eE : ∀ b o, H b = some o → (∀ ps, o ≠ .tbl ps) → upd (upd H P (.tbl (ps ++ #[rawInt pos.line, rawInt pos.col, .ref c']))) c' (CodeO c' q) b = some o :=
    (Chg.ext (q := q) (.inr ⟨c', ps, _, hP, nC, rfl⟩))
  have eL : (ps ++ #[rawInt pos.line, rawInt pos.col, .ref c']).toList = ps.toList ++ [rawInt pos.line, rawInt pos.col, .ref c'] := by simp
  intro p hp
  by_cases hb : p.1 = P
  · rw [hu p hp hb, hb]
    refine ⟨_, by rw [upd_ne (ne_of_none hP nC), upd_same], by rw [eL]; exact PySem.TriplesOk_snoc _ _ _ _ ht, fun p' cv hcv => ?_⟩
    rw [eL] at hcv
    rcases among_app _ ht hcv with z | z
    · obtain ⟨c0, e1, e2⟩ := ha p' cv z
      exact ⟨c0, e1, eE _ _ e2 codeO_ne⟩
    · exact ⟨c', z, upd_same⟩
  · obtain ⟨ps', a1, a2, a3⟩ := hT p hp
    refine ⟨ps', by rw [upd_ne (ne_of_none a1 nC), upd_ne hb]; exact a1, a2, fun p' cv hcv => ?_⟩
    obtain ⟨c0, e1, e2⟩ := a3 p' cv hcv
    exact ⟨c0, e1, eE _ _ e2 codeO_ne⟩
/-- the lambda is made; what its making did is told -/
theorem lam_make3 {T : List (Addr × Str)} {c P : Addr} {params : Arguments} {body : Expr} {scope : Scope} {pos : Pos} {E Q : Value → Shared → Prop} (I : Inv X pins σ H s) (TB : TabB X.base X.mg c P) (hcode : X.env.code = .ref c)
    (hm : (P, X.env.qual ++ "<lambda>") ∈ T) (hu : ∀ p ∈ T, p.1 = P → p.2 = X.env.qual ++ "<lambda>") (hT : Tabs T H) (hdef : defaultsOf params X.env = ([], [])) (hfree : ∀ y ∈ scope.names, y.2 = .free → ∃ c, X.env.cells.lookup y.1 = some c)
    (h : ∀ (f c' : Addr) (pm ctv : Value) (H1 : Hp) (s' : Shared), Inv X pins σ H1 s' → Chg P (X.env.qual ++ "<lambda>") H H1 → Tabs T H1 →
      s'.heap.get? f = some (PySem.W.kla_obj "<lambda>" (X.env.qual ++ "<lambda>") params body scope (cloFrom X.env.cells scope.names []) pm c' ctv) → H1 f = none → f ∉ frs X.stack → H1 c' = some (CodeO c' (X.env.qual ++ "<lambda>")) → Q (.ref f) s') :
    wpAny (model X.prog X.w) X.A (eval (.Lambda params body scope pos) X.env) Q E s := by
  obtain ⟨ps, hP, ht, ha⟩ := hT _ hm
  have nofr : ∀ f, s.heap.objs.size ≤ f → f ∉ frs X.stack := fun f hf z => by
    rcases List.mem_cons.mp (I.stkSub _ z) with e | e
    · have := I.lt
      rw [← e] at this
      exact Nat.lt_irrefl _ (Nat.lt_of_lt_of_le this hf)
    · exact I.nofs hf e
  have hP' : s.heap.get? P = some { cls := .none, data := .fields ps } := I.hok P _ hP
  have bP := TB.bm.keeps I.bk
  refine PySem.W.kla_eval hdef ?_
  cases hc : codeAmong pos ps.toList with
  | some cv =>
    obtain ⟨c', rfl, hco⟩ := ha pos cv hc
    refine PySem.W.kla_makeFunctionHit (mg := X.mg) (c := c) (P := P) (ps := ps) (closure_ok hfree) I.ok.glob (I.mod.glob.keeps I.bk) hcode (TB.code.keeps I.bk) hP' ht hc bP fun ctv h' tk hx hsz => ?_
    exact h h'.objs.size c' _ ctv H _ (I.kept (t' := tk) fun b o e => Heap.get?_push_of_some _ (hx b o e)) (.inl rfl) hT (Heap.get?_push_size _ rfl) (I.hok.fresh hsz) (nofr _ hsz) hco
  | none =>
    refine PySem.W.kla_makeFunction (mg := X.mg) (c := c) (P := P) (ps := ps) (closure_ok hfree) I.ok.glob (I.mod.glob.keeps I.bk) hcode (TB.code.keeps I.bk) hP' ht hc TB.gP bP fun c' ctv h' tk hx hge hlt hrec htb => ?_
    obtain ⟨c2, oc, vs, t, e2, hoc, hd, hv⟩ := hrec
    cases e2
    have nC : H c' = none := I.hok.fresh hge
    have hsz : s.heap.objs.size ≤ h'.objs.size := Nat.le_trans hge (Nat.le_of_lt hlt)
    have I1 := inv_table (t' := tk) (more := #[rawInt pos.line, rawInt pos.col, .ref c']) (h' := h'.push (PySem.W.kla_obj "<lambda>" (X.env.qual ++ "<lambda>") params body scope (cloFrom X.env.cells scope.names []) ((X.mg "__name__").getD .none) c' ctv)) I hP
      (fun b o hb e => Heap.get?_push_of_some _ (hx b o hb e)) (Heap.get?_push_of_some _ htb) hge ⟨oc, vs, t, Heap.get?_push_of_some _ hoc, hd, hv⟩
    refine h h'.objs.size c' _ ctv _ _ I1 (.inr ⟨c', ps, _, hP, nC, rfl⟩) (tabs_grow hT hu hP ht ha nC) (Heap.get?_push_size _ rfl) ?_ (nofr _ hsz) upd_same
    rw [upd_ne (Nat.ne_of_gt hlt), upd_ne (Nat.ne_of_gt (Nat.lt_of_lt_of_le (Heap.lt_size hP') hsz))]
    exact I.hok.fresh hsz
end
/-! ### the lambda handed to a def -/
section
variable {X : Cx}
end
end Dw

/-! except (A, B) as e: one clause for two classes, that takes all that comes. -/
namespace Dw
open PySem PySem.Spec PyProof.Rows L2 HotX
section
variable {X : Cx} {x1 x2 n : Str} {c1 c2 : Value} {i kk : Nat} {body suite : List Stmt} {b₀ : Stmt} {p1 p2 tpos pos pos' : Pos} {tb : WX → TS} {ts : Addr → Value → Option Addr → TS}
end
end Dw

/-! The exception that is held, within a def that the suite calls. -/
namespace Dw
open PySem PySem.Spec PyProof.Rows L2
variable [Tabs0]
section
variable {X : Cx} {a D : Addr} {oe : Obj}
theorem inst_some {h : Heap} {dd : Addr} {od : Obj} (hz : Zc (.ref D) (some dd) oe) (hf : ∃ vs, oe.data = .fields vs) (hget : h.get? a = some oe) (ho : h.get? dd = some od) : PySem.W.InstAt h a oe D (some od) := by
  obtain ⟨vs, hv⟩ := hf
  exact ⟨hget, hz.1, by unfold PySem.W.notCls; rw [hv] <;> rfl, by rw [hz.2]; exact ho⟩
end
/-! ### promises of defs that may raise: the one that returns, and the one that raises, side by side -/
section
variable {P : Program} {w : World} {K : PySem.W.Frag} {mg : Str → Option Value} {base : Heap} {k : Nat} {f : Addr} {fd : FuncData} {ps : List Str} {sp sp' : Sp}
/-- one of two promises -/
def spOr (sp sp' : Sp) : Sp := fun vs H Q E => sp vs H Q E ∨ sp' vs H Q E
/-- a def that raises: the class, and no dict -/
structure SpcE where
  ty : Type
  args : ty → List D
  ok : ty → Prop
  cls : Addr
end
end Dw

/-! Defs that an except suite calls, and that neither raise nor loop: nothing is asked of the held exception's context. -/
namespace Dw
open PySem PySem.Spec PyProof.Rows L2
open L2H (RoomH PinOk cxH inv_startH)
variable [Tabs0]
section
variable {P : Program} {w : World} {K : PySem.W.Frag} {mg : Str → Option Value} {base : Heap} {k : Nat} {f : Addr} {fd : FuncData} {ps : List Str} {sp : Addr × Obj → Sp}
/-- the promise of a def f while p is held -/
structure FnS (P : Program) (w : World) (K : PySem.W.Frag) (mg : Str → Option Value) (base : Heap) (k : Nat) (f : Addr) (fd : FuncData) (ps : List Str) (sp : Addr × Obj → Sp) : Prop where
  len : ∀ p vs H Q E, sp p vs H Q E → vs.length = ps.length
  run : ∀ (A : Around) (outer : List Env) (s : Shared) (H : Hp) (args : Args) (us : List Value) (vs : List V) (Q : VK) (E : XK) (p : Addr × Obj), RoomH k A → A.guards = some [] → PinOk outer H s p → Env0 P w K mg base A outer s H → BindsTo s fd args (ps.zip us) → Vals vs us → sp p vs H Q E →
    codeAny (model P w) A (.call (.ref f) args) (CR CX0 outer P w H s Q E) s
end
section
variable {X : Cx} {k : Nat} {f : Addr} {fd : FuncData} {ps : List Str} {sp : Addr × Obj → Sp} {E : L2.St → XK} {x : Str} {q pos : Pos} {e : Expr} {es : List Expr} {t : TA} {p : Addr × Obj}
end
end Dw

/-! try: g = a() / except (A, B) as e: suite; return ("returned", g). -/
namespace Dw
open PySem PySem.Spec PyProof.Rows L2 LamX
variable [Tabs0]
/-- what flies comes with all of the maker's slots -/
theorem takes_len {X : Cx} {W : WX} (t : Takes X W) : Takes X (fun cls d σ H => σ.length = X.N.length → W cls d σ H) := fun u s' ⟨a, B, sI, pins, σ, H, cls, d, e, I, nb, up, sky, na, os, ag, w⟩ =>
  t u s' ⟨a, B, sI, pins, σ, H, cls, d, e, I, nb, up, sky, na, os, ag, w I.len⟩
end Dw

/-! told(lambda: body), by data. -/
namespace Dw
open PySem PySem.Spec PyProof.Rows L2 LamX
variable [Tabs0]
/-- the tables that a law knows: all there are -/
structure TabsOk (Tt : List (Addr × Str)) : Prop where
  sound : ∀ p ∈ Tt, Tabs0.nm p.1 = some p.2
  all : ∀ p q, Tabs0.nm p = some q → (p, q) ∈ Tt
theorem tabs_of {F : Addr → Prop} {W : Wd} {Tt : List (Addr × Str)} (ok : WOk F W) (T : TabsOk Tt) (tb : ∀ p q, Tabs0.nm p = some q → W.P p) : Tabs Tt W.H := fun p hp => (ok.pu p.1 (tb _ _ (T.sound p hp))).2.2.tab (T.sound p hp)
/-- a lambda is made: all that is known stays known -/
theorem SR.chg {F : Addr → Prop} {Γ : Gam} {σ : L2.St} {W : Wd} {Tt : List (Addr × Str)} {P : Addr} {q : Str} {H1 : Hp} (g : SR F Γ σ W) (T : TabsOk Tt) (hP : (P, q) ∈ Tt) (tb : ∀ p q, Tabs0.nm p = some q → W.P p) (c : Chg P q W.H H1) (T1 : Tabs Tt H1) :
    Stp F W (W.at H1) ∧ SR F Γ σ (W.at H1) := by
  have pP : W.P P := tb P q (T.sound _ hP)
  obtain ⟨uP, fP, _⟩ := g.ok.pu P pP
  have st : Stp F W (W.at H1) := ⟨fun a u e n => ⟨c.ne (fun z => n (by rw [z]; exact uP)) e, n⟩, rfl, fun a h => by
    cases e : W.H a with
    | none => exact absurd e (g.ok.dom a (g.ok.fu a h))
    | some u => exact c.ne (fun z => fP (by rw [← z]; exact h)) e⟩
  refine ⟨st, ⟨⟨fun a h z => ?_, g.ok.fu, fun a h => ?_⟩, g.len, fun i d e => ?_, fun i ds e => ?_, g.apartX⟩⟩
  · have z : H1 a = none := z
    by_cases hb : a = P
    · obtain ⟨ps, e, _⟩ := T1 _ hP
      rw [hb, show H1 P = _ from e] at z; cases z
    · cases e : W.H a with
      | none => exact g.ok.dom a h e
      | some u => rw [c.ne hb e] at z; cases z
  · obtain ⟨u, f, o⟩ := g.ok.pu a h
    refine ⟨u, f, ?_⟩
    cases n : Tabs0.nm a with
    | some q' =>
      refine .mk n (T1 _ (T.all a q' n)) fun ps' pos cc q1 q2 z => ?_
      have t0 := o.tab n
      obtain ⟨ps0, e1, t1, e3⟩ := id t0
      by_cases hb : a = P
      · rcases c with rfl | ⟨cn, ps, more, hPs, hcn, rfl⟩
        · exact o.cod n ps' pos cc q1 q2 z
        · subst hb
          have q1 : upd (upd W.H a (.tbl (ps ++ #[rawInt more.line, rawInt more.col, .ref cn]))) cn (CodeO cn q) a = some (.tbl ps') := q1
          rw [upd_ne (ne_of_none hPs hcn), upd_same] at q1
          cases q1
          have ee : ps0 = ps := HO.tbl.inj (Option.some.inj (e1.symm.trans hPs))
          rw [ee] at t1
          have eL : (ps ++ #[rawInt more.line, rawInt more.col, .ref cn]).toList = ps.toList ++ [rawInt more.line, rawInt more.col, .ref cn] := by simp
          rw [eL] at q2
          rcases among_app _ t1 q2 with w | w
          · exact o.cod n _ pos cc hPs w z
          · cases w
            exact g.ok.dom _ z hcn
      · have ee : ps0 = ps' := HO.tbl.inj (Option.some.inj ((c.ne hb e1).symm.trans q1))
        exact o.cod n ps0 pos cc e1 (by rw [ee]; exact q2) z
    | none =>
      obtain ⟨x, y, h1, h2, h3, e⟩ := o.purse n
      refine .of ⟨x, y, h1, h2, h3, c.ne (fun z => ?_) e⟩ n
      have := T.sound _ hP
      rw [← show a = P from z, n] at this; cases this
  · obtain ⟨v, e1, r⟩ := g.val i d e
    exact ⟨v, e1, r.stp st⟩
  · obtain ⟨a, vs, e1, u, f, p, e2, r⟩ := g.ownX i ds e
    exact ⟨a, vs, e1, u, f, p, c.ne (fun z => p (by rw [z]; exact pP)) e2, r.stp st⟩
section
variable {K : PySem.W.Frag} {Γ : Gam} {Tt : List (Addr × Str)} {P : Addr} {q wd : Str} {c1 c2 : Value} {n ie i : Nat} {ts : Addr → Value → Option Addr → TS} {t : XK → TE} {d : D} {Q : D → Gam → Prop}
end
/-! ### calls of defs that return, or raise -/
section
variable {Γ : Gam} {s : Spc} {se : SpcE} {sp : Sp} {ta : TA} {E : XK} {d : D}
theorem ev_call_or {x : s.ty} (h : EvA ta Γ (s.args x)) (np : noPs (s.args x) = true) (ok : s.ok x) (hd : ∀ d', s.rel x d' → d' = d) : Ev (tCall (spOr (toSp s) sp) [] E ta) Γ d := fun F σ W R g k => h F σ W _ g fun vs H st r => by
  rw [List.append_nil]
  exact .inl (pure_call (W := W.at H) (g.same st) (fun _ z => z) (RepL.delP _ _ np r) ok fun d' v H' hd' s' r' => by
    rw [hd d' hd'] at r'
    exact k v H' (Same.trans st s') (Rep.addP (W := W) r'))
end
end Dw

/-! Defs that return or raise, by data. -/
namespace Dw
open PySem PySem.Spec PyProof.Rows L2 LamX
variable [Tabs0]
/-! ### raise C() -/
section
variable {X : Cx} {C : Addr} {bmB : List Value} {B newId initId : String}
theorem pmk_own0 {x : Str} {p pos : Pos} (F : ExcBaseFacts B newId initId bmB) (q : PySem.W.excIn X.K C bmB newId = true) (gC : X.mg x = some (.ref C)) (kC : PySem.W.keepIn X.K (.ref C) = true) (r : Raises X (.ref C)) (hg : Gl X x)
    (hdb : (x == ("__debug__" : Str)) = false := by decide) : PMk X (.Call (.Name x p) [] [] pos) (fun _ H Q => Q (.ref C) none H) := by
  intro pins s σ H Q I h
  refine wpAny_Call_Name_kw (ld_glob I hg gC ?_ hdb)
  refine PySem.W.callWith_K0 I.kIn kC ?_
  show wpAny _ _ (call (.ref C) []) _ _ _
  obtain ⟨bm, N, nm, qn, bs, hdct, sn, sub, ab, col, dd, k0, k1, k2, k3, k5, mN, hC, hN, hni, T⟩ := exc_obj I.kIn q
  exact wpAny_call_exc_subT F T hC hN hni (fun h' e hm => mk_of I hm r h (I.hok.gone hm.new)) (Nat.zero_le _)
end
/-! ### what is raised -/
/-- the class, and the fields (none: no dict) -/
structure Exn where
  C : Addr
  fs : List (Str × D)
/-- its dict, as it stands in W -/
def ExHeld (W : Wd) (x : Exn) (ed : Option Addr) : Prop := match x.fs with
  | [] => ed = none
  | f :: fs => ∃ (dd : Addr) (vs : List V), ed = some dd ∧ ¬ W.U dd ∧ W.H dd = some (.xd (((f :: fs).map fun z => z.1).zip vs)) ∧ RepL W ((f :: fs).map fun z => z.2) vs
theorem ExHeld.mono {W W' : Wd} {x : Exn} {ed : Option Addr} (k : ∀ a u, W.H a = some u → ¬ W.U a → W'.H a = some u ∧ ¬ W'.U a) (p : ∀ a, W.P a → W'.P a) (h : ExHeld W x ed) : ExHeld W' x ed := by
  obtain ⟨C, fs⟩ := x
  cases fs with
  | nil => exact h
  | cons f fs =>
    obtain ⟨dd, vs, e, nu, hd, r⟩ := h
    obtain ⟨h1, h2⟩ := k _ _ hd nu
    exact ⟨dd, vs, e, h2, h1, RepL.mono k p _ _ r⟩
theorem ExHeld.same {W : Wd} {H : Hp} {x : Exn} {ed : Option Addr} (s : Same W.H H) (h : ExHeld W x ed) : ExHeld (W.at H) x ed := ExHeld.mono (W := W) (W' := W.at H) (fun a u e n => ⟨s a u e, n⟩) (fun _ z => z) h
/-- raised in W, where the heap was H0 before -/
def ExAt (H0 : Hp) (W : Wd) (x : Exn) (ed : Option Addr) : Prop := (∀ dd, ed = some dd → H0 dd = none) ∧ ExHeld W x ed
/-- an expression that raises x, and leaves what is known -/
def ErT (t : TE) (Γ : Gam) (x : Exn) (R : Option Addr → Hp → Prop) : Prop := ∀ (F : Addr → Prop) (σ : L2.St) (W : Wd) (Q : VK), SR F Γ σ W → (∀ ed H', Same W.H H' → ExAt W.H (W.at H') x ed → R ed H') → t σ W.H Q
/-- .. a statement -/
def ErS (t : TS) (Γ : Gam) (x : Exn) (R : Option Addr → Hp → Prop) : Prop := ∀ (F : Addr → Prop) (σ : L2.St) (W : Wd) (Dr : Ends), SR F Γ σ W → (∀ ed H', Same W.H H' → ExAt W.H (W.at H') x ed → R ed H') → t Dr σ W.H
/-- a statement that leaves what is known -/
def PuS (t : TS) (Γ Γ' : Gam) : Prop := ∀ (F : Addr → Prop) (σ : L2.St) (W : Wd) (Dr : Ends), SR F Γ σ W → (∀ σ' H', Same W.H H' → SR F Γ' σ' (W.at H') → Dr.nx σ' H') → t Dr σ W.H
theorem exAt_back {H0 H1 : Hp} {W : Wd} {x : Exn} {ed : Option Addr} (s : Same H0 H1) (h : ExAt H1 W x ed) : ExAt H0 W x ed := ⟨fun dd e => by
  cases q : H0 dd with
  | none => rfl
  | some u => exact absurd (s dd u q) (by rw [h.1 dd e]; exact fun z => nomatch z), h.2⟩
section
variable {Γ Γ' : Gam} {x : Exn} {R : Option Addr → Hp → Prop} {t u : TS} {te : TE} {c : TT} {d : D} {i : Nat} {g : TG}
theorem ers_raise {C : Addr} {E : XK} (hx : x = ⟨C, []⟩) : ErS (fun _ σ H => E (.ref C) none H) Γ x (fun ed H' => E (.ref C) ed H') := fun F σ W Dr gg k => by
  subst hx
  refine k none W.H (Same.refl _) ⟨fun dd e => ?_, rfl⟩
  cases e
theorem ers_first (h : ErS t Γ x R) : ErS (tSeq t u) Γ x R := fun F σ W Dr gg k => h F σ W _ gg k
theorem ers_seq (h : PuS t Γ Γ') (h' : ErS u Γ' x R) : ErS (tSeq t u) Γ x R := fun F σ W Dr gg k => h F σ W _ gg fun σ' H1 s1 g1 => h' F σ' (W.at H1) Dr g1 fun ed H' s' a => k ed H' (Same.trans s1 s') (exAt_back s1 a)
theorem ers_drop (h : ErT te Γ x R) : ErS (tDrop te) Γ x R := fun F σ W Dr gg k => h F σ W _ gg k
theorem ers_ifT (hc : EvT c Γ true) (h : ErS t Γ x R) : ErS (tIfS c t u) Γ x R := fun F σ W Dr gg k => hc F σ W _ gg fun H1 s1 => h F σ (W.at H1) Dr (gg.same s1) fun ed H' s' a => k ed H' (Same.trans s1 s') (exAt_back s1 a)
theorem pus_drop (h : Ev te Γ d) : PuS (tDrop te) Γ Γ := fun F σ W Dr gg k => h F σ W _ gg fun v H s r => k σ H s (gg.same s)
theorem pus_asg (h : Ev te Γ d) : PuS (tAsg te (gName i)) Γ (Γ.set i (.val d)) := fun F σ W Dr gg k => h F σ W _ gg fun v H s r => k _ H s ((gg.same s).set r)
end
/-! ### a def that raises -/
structure SpcX where
  ty : Type
  args : ty → List D
  ok : ty → Prop
  ex : ty → Exn
def toSpX (s : SpcX) : Sp := fun vs H _ E => ∃ (x : s.ty) (F : Addr → Prop) (W : Wd), W.H = H ∧ WOk F W ∧ RepL W (s.args x) vs ∧ s.ok x ∧ ∀ ed H', Same W.H H' → ExAt W.H (W.at H') (s.ex x) ed → E (.ref (s.ex x).C) ed H'
/-- both promises -/
abbrev spRX (s : Spc) (sx : SpcX) : Sp := spOr (toSp s) (toSpX sx)
section
variable {P : Program} {w : World} {K : PySem.W.Frag} {mg : Str → Option Value} {base : Heap}
theorem fn_okX {x qual : Str} {st : Stmt} {f : Addr} {fd : FuncData} {N ps : List Str} {k : Nat} {s : Spc} {sx : SpcX} (F : Fun K x qual st f fd) (S : FnScope N ps (defScope st)) (len : ∀ x, (s.args x).length = ps.length) (lenX : ∀ x, (sx.args x).length = ps.length)
    (hbody : ∀ (cdv : Value) (A : Around) (outer : List Env) (s' : Shared) (H : Hp) (E : XK), Room k (A.deeper (envOfC qual (defScope st) s'.heap.objs.size f cdv)) →
      ∃ t, PSs (cxOf (L2.CX P w) P w K mg base N qual (defScope st) f cdv A outer s' H E) (defBody st) t ∧ (∀ x, s.ok x → Ds t (Gz0 N.length (s.args x)) ⟨fun _ => s.rel x .non, s.rel x, fun _ => False, fun _ => False⟩) ∧ ∀ x, sx.ok x → ErS t (Gz0 N.length (sx.args x)) (sx.ex x) fun ed H' => E (.ref (sx.ex x).C) ed H') :
    FnOk P w K mg base (L2.CX P w) (k + 1) f fd ps (spRX s sx) := by
  obtain ⟨oc, od, kV, doc, pm, an, cdv, ct, osl, rfl, lk, hcd⟩ := F.ex
  refine fn_of lk hcd S (fun vs H Q E h => ?_) fun A outer s' H vs Q E hr h => ?_
  · rcases h with h | ⟨x, F, W, _, _, r, _⟩
    · exact spc_len len vs H Q E h
    · rw [← r.length]; exact lenX x
  · obtain ⟨t, p, hb, hx⟩ := hbody cdv A outer s' H E hr
    refine ⟨t, p, ?_⟩
    rcases h with h | ⟨x, F, W, rfl, ok, r, ho, hE⟩
    · exact body_of h hb
    · exact hx x ho F _ W _ (sr_start ok r) hE
end
section
variable {Γ : Gam} {s : Spc} {sx : SpcX} {sp : Sp} {ta tk : TA} {E : XK} {d : D} {ds es : List D} {R : Option Addr → Hp → Prop}
theorem ert_call {x : sx.ty} (h : EvA ta Γ (sx.args x)) (ok : sx.ok x) (hR : ∀ ed H', R ed H' → E (.ref (sx.ex x).C) ed H') : ErT (tCall (spOr sp (toSpX sx)) [] E ta) Γ (sx.ex x) R := fun F σ W Q g k => h F σ W _ g fun vs H st r => by
  rw [List.append_nil]
  exact .inr ⟨x, _, W.at H, rfl, (g.same st).callOk, r, ok, fun ed H' s' a => hR ed H' (k ed H' (Same.trans st s') (exAt_back st a))⟩
theorem ert_callK {gV : List V → List V → List V} {x : sx.ty} (h : EvA ta Γ ds) (h' : EvA tk Γ es) (hg : ∀ (W : Wd) vs zs, RepL W ds vs → RepL W es zs → RepL W (sx.args x) (gV vs zs)) (ok : sx.ok x) (hR : ∀ ed H', R ed H' → E (.ref (sx.ex x).C) ed H') :
    ErT (tCallK (spOr sp (toSpX sx)) gV E ta tk) Γ (sx.ex x) R := fun F σ W Q g k => h F σ W _ g fun vs H st r => h' F σ (W.at H) _ (g.same st) fun zs H2 st2 r2 => by
  have g2 := (g.same st).same st2
  exact .inr ⟨x, _, W.at H2, rfl, g2.callOk, hg (W.at H2) vs zs (r.same (W := W.at H) st2) r2, ok, fun ed H' s' a => hR ed H' (k ed H' (Same.trans st (Same.trans st2 s')) (exAt_back (Same.trans st st2) a))⟩
end
end Dw

/-! The suite of told, by data: defs that it calls while an exception is held. -/
namespace L2H
theorem RoomH.units {k : Nat} {A : PySem.Around} (r : RoomH k A) : A.units + 64 < PySem.cLine := by have := r.un; omega
end L2H
namespace Dw
open PySem PySem.Spec PyProof.Rows L2 LamX
open L2H (RoomH PinOk cxH inv_startH)
variable [Tabs0]
/-! ### pure readings, where x is held with the dict ed -/
def EvH (t : TE) (Γ : Gam) (x : Exn) (ed : Option Addr) (d : D) : Prop := ∀ (F : Addr → Prop) (σ : L2.St) (W : Wd) (Q : VK), SR F Γ σ W → ExHeld W x ed → (∀ v H, Same W.H H → Rep (W.at H) d v → Q v H) → t σ W.H Q
/-- statements that return d -/
def RtS (t : TS) (Γ : Gam) (x : Exn) (ed : Option Addr) (d : D) : Prop := ∀ (F : Addr → Prop) (σ : L2.St) (W : Wd) (Dr : Ends), SR F Γ σ W → ExHeld W x ed → (∀ v H, Same W.H H → Rep (W.at H) d v → Dr.rt v H) → t Dr σ W.H
section
variable {Γ Γ' : Gam} {x : Exn} {ed : Option Addr} {t u : TS} {te ta tb : TE} {c : TT} {d : D} {i : Nat} {K : PySem.W.Frag}
theorem Ev.held (h : Ev te Γ d) : EvH te Γ x ed d := fun F σ W Q g hx k => h F σ W Q g k
theorem rts_ret (h : EvH te Γ x ed d) : RtS (tRet te) Γ x ed d := fun F σ W Dr g hx k => h F σ W _ g hx k
end
/-! ### their promise -/
structure SpcS where
  ty : Type
  args : ty → List D
  ok : ty → Prop
  ex : ty → Exn
  out : ty → D
section
variable {P : Program} {w : World} {K : PySem.W.Frag} {mg : Str → Option Value} {base : Heap}
end
section
variable {X : Cx} {k : Nat} {f : Addr} {fd : FuncData} {ps : List Str} {s : SpcS} {E : XK} {n : Str} {q pos : Pos} {e : Expr} {es : List Expr} {t : TA} {a : Addr} {oe : Obj} {cls : Value} {ed : Option Addr}
end
section
variable {Γ : Gam} {s : SpcS} {t : TA} {u : TS} {te ta tb : TE} {x : s.ty} {y : Exn} {a : Addr} {ed : Option Addr} {E : XK} {d d1 d2 : D} {i : Nat}
theorem sr_unset {F : Addr → Prop} {W : Wd} (ok : WOk F W) : ∀ σ : L2.St, SR F (List.replicate σ.length .unset) σ W := fun σ =>
  have no : ∀ (i : Nat) (z : Sl), (List.replicate σ.length Sl.unset)[i]? = some z → z = .unset := fun i z h => List.eq_of_mem_replicate (List.mem_of_getElem? h)
  ⟨ok, by simp, fun i d h => (nomatch no i _ h), fun i d h => (nomatch no i _ h), fun i j a ds es h => (nomatch no i _ h)⟩
end
/-! ### counting truth values -/
section
variable {K : PySem.W.Frag} {Γ : Gam} {ta tb : TE} {bs : List Bool}
end
/-! ### told(lambda: ..), where x is raised -/
section
variable {K : PySem.W.Frag} {Γ : Gam} {Tt : List (Addr × Str)} {P : Addr} {q wd : Str} {c1 c2 : Value} {n ie i : Nat} {ts : Addr → Value → Option Addr → TS} {t : XK → TE} {d : D} {Q : D → Gam → Prop} {x : Exn}
/-- the suite's reading: it returns d -/
def SuitX (ts : Addr → Value → Option Addr → TS) (n ie : Nat) (x : Exn) (d : D) : Prop := ∀ (F : Addr → Prop) (W : Wd) (σ : L2.St) (a : Addr) (Dr : Ends) (ed : Option Addr), WOk F W → σ.length = n → W.H a = none → ExHeld W x ed → (∀ v H', Same W.H H' → Rep (W.at H') d v → Dr.rt v H') → ts a (.ref x.C) ed Dr (σ.set ie (some (.ref a))) W.H
end
end Dw

/-! Defs that make lambdas: their code object is known. The head with tables of code objects. -/
namespace Dw
open PySem PySem.Spec PyProof.Rows L2 LamX
variable [Tabs0]
/-- a def of the text, with the address of its code object -/
structure FunC (K : PySem.W.Frag) (x qual : Str) (st : Stmt) (f : Addr) (fd : FuncData) (c : Addr) : Prop where
  ex : ∃ (oc : Value) (od : Option Addr) (kV doc pm : Value) (an : Option Addr) (ct : Value) (osl : Array (Option Value)), fd = PySem.W.fnOf x qual (defArgs st) (defBody st) (defScope st) .none kV doc pm an (.ref c) ct ∧ K.lookup f = some ⟨oc, od, .func fd, osl⟩ ∧ PySem.W.codeIn K (.ref c) qual = true
section
variable {P : Program} {w : World} {K : PySem.W.Frag} {mg : Str → Option Value} {base : Heap}
theorem fnGC_ok {x qual : Str} {st : Stmt} {f c : Addr} {fd : FuncData} {N ps : List Str} {k : Nat} {s : Spc} (F : FunC K x qual st f fd c) (S : FnScope N ps (defScope st)) (len : ∀ x, (s.args x).length = ps.length)
    (hbody : ∀ (A : Around) (outer : List Env) (s' : Shared) (H : Hp) (E : XK), Room k (A.deeper (envOfC qual (defScope st) s'.heap.objs.size f (.ref c))) → (A.deeper (envOfC qual (defScope st) s'.heap.objs.size f (.ref c))).guards = some [] →
      ∃ t, PSs (cxOf CX0 P w K mg base N qual (defScope st) f (.ref c) A outer s' H E).nox (defBody st) t ∧ ∀ x, s.ok x → Ds t (Gz0 N.length (s.args x)) ⟨fun _ => s.rel x .non, s.rel x, fun _ => False, fun _ => False⟩) : FnG P w K mg base (k + 1) f fd ps s := by
  obtain ⟨oc, od, kV, doc, pm, an, ct, osl, rfl, lk, hcd⟩ := F.ex
  refine ⟨len, fun A outer sh H args us vs Q E hr hg e0 hb r hsp => ?_⟩
  obtain ⟨t, p, hd⟩ := hbody A outer sh H E (hr.deeper _) hg
  have old : ∀ b o, base.get? b = some o → sh.heap.get? b = some o := fun b o e => (e0.bs b o e).1
  have KX := e0.mod.kin.keeps old
  refine codeAny_call_function hr.depth (KX _ _ lk) rfl S.co S.gen rfl (PySem.W.codeRec_of KX hcd) (hb _ _ _ _ (wpAny_newFunctionEnv_cells S.kind (cells_in S us) ?_))
  rintro env rfl s1 x1
  refine ⟨(e0.mod.nolimit.keeps old).keeps x1.toInCall.keep, codeAny_func (wpAny_mono (p.nox.run [] s1 _ H _ (inv_start S hr.hd e0 (spc_len len _ _ _ _ hsp) r x1) (body_of hsp hd)) (fun fl s' hs => ?_) fun _ _ z => z)⟩
  have done : ∀ {σ' : L2.St} {H' : Hp} {v : V} {u : Value}, Inv (cxOf CX0 P w K mg base N qual (defScope st) f (.ref c) A outer sh H E) [] σ' H' s' → RelV v u → Q v H' → CE outer P w H sh Q u s' := fun {_ H' v _} J rv q => ⟨v, H', J.os, J.bare, J.base, J.hok, rv, q⟩
  match fl, hs with
  | .ret _, ⟨_, _, _, J, rv, q⟩ => exact done J rv q
  | .next, ⟨_, _, J, q⟩ => exact done (v := .non) (u := .none) J rfl q
  | .brk, ⟨_, _, _, q⟩ => exact q.elim
  | .cont, ⟨_, _, _, q⟩ => exact q.elim
end
/-! ### the head -/
section
variable {P : Program} {w : World} {K : PySem.W.Frag} {mg mb : Str → Option Value} {k : Nat} {fa a : Addr} {fd : FuncData} {x : Str} {s1 : Shared} {vs : List Value} {ns : List Int} {sp : Spc}
/-- the script, and the tables, empty -/
def headT (K : PySem.W.Frag) (a : Addr) (vs : List Value) (ns : List Int) (ts : List Addr) : Hp := fun b => if b ∈ ts then some (.tbl #[]) else headH K a vs ns b
theorem headT_in {b : Addr} {ts : List Addr} (h : b ∈ ts) : headT K a vs ns ts b = some (.tbl #[]) := if_pos h
theorem headT_out {b : Addr} {ts : List Addr} (h : b ∉ ts) : headT K a vs ns ts b = headH K a vs ns b := if_neg h
theorem head_callT (cs : List (Addr × Addr × Str)) (T : TabsOk (cs.map fun p => (p.2.1, p.2.2)))
    (KX : K.In s1.heap) (hns : s1.heap.Ns mainGlobals mg) (hb : s1.heap.Ns builtinsNs mb) (hbb : ∀ x : Str, x ≠ "__name__" → mb x = bootBuiltins x) (hlim : s1.heap.NoLimit) (hg : s1.gens = #[]) (ha : s1.heap.get? a = some { cls := .type "list", data := .seq vs.toArray }) (hi : IntsAre vs ns) (hl : ns.length ≤ sizeLine) (hr : Room k callerA)
    (hT : ∀ p ∈ cs, s1.heap.get? p.2.1 = some { cls := .none, data := .fields #[] }) (nT : ∀ p ∈ cs, K.lookup p.2.1 = none) (hC : ∀ p ∈ cs, PySem.W.CodeHd s1.heap p.1 p.2.1)
    (hbm : ∃ (bm : Addr) (ob : Obj), mg "__builtins__" = some (.ref bm) ∧ bm ≠ builtinsNs ∧ s1.heap.get? bm = some ob ∧ ob.cls = .type "module" ∧ ob.dict = some builtinsNs ∧ ob.data = .plain)
    (F : ∀ base : Heap, (∀ p ∈ cs, TabB base mg p.1 p.2.1) → FnG P w K mg base k fa fd [x] sp) (hbind : ∀ (s : Shared) (u : Value), BindsTo s fd ⟨[u], []⟩ [(x, u)]) (hx : ∃ y : sp.ty, sp.args y = [.scr K (ns.map V.int)] ∧ sp.ok y ∧ ∀ d, sp.rel y d → d = .bl true) :
    codeAny (model P w) callerA (.call (.ref fa) ⟨[.ref a], []⟩) (fun r s' => r = .ok (.ret (.bool true)) ∧ OldK s1.heap s'.heap ∧ s'.os = s1.os ∧ AllBare s'.gens) s1 := by
  obtain ⟨ts, ets⟩ : ∃ ts : List Addr, ts = cs.map fun p => p.2.1 := ⟨_, rfl⟩
  have memT : ∀ p ∈ cs, p.2.1 ∈ ts := fun p hp => by rw [ets]; exact List.mem_map.mpr ⟨p, hp, rfl⟩
  have ofT : ∀ b ∈ ts, ∃ p ∈ cs, p.2.1 = b := fun b hb => by rw [ets] at hb; exact List.mem_map.mp hb
  have rv := vals_ints hi
  have tabO : ∀ b ∈ ts, s1.heap.get? b = some { cls := .none, data := .fields #[] } := fun b hb => by
    obtain ⟨p, hp, e⟩ := ofT b hb
    rw [← e]; exact hT p hp
  have aT : a ∉ ts := fun z => by
    have q := tabO a z
    rw [ha] at q
    cases (show Data.seq vs.toArray _ = Data.fields #[] from congrArg Obj.data (Option.some.inj q))
  -- what is neither the script nor a table stands in the ground
  have grd : ∀ {b : Addr} {o : Obj}, s1.heap.get? b = some o → (∀ vs n, o.data ≠ .seq vs n) → o.data ≠ .fields #[] → (hidT s1.heap (headT K a vs ns ts)).get? b = some o := fun {b o} e h1 h2 => by
    have nb : b ∉ ts := fun z => by
      rw [tabO b z] at e; cases e
      exact h2 rfl
    refine hidT_get e ?_
    rw [headT_out nb]
    refine headH_none fun z => ?_
    rw [z, ha] at e; cases e
    exact h1 _ _ rfl
  have dictG : ∀ {b : Addr} {o : Obj} {es : Array DictEntry} {ep : Nat}, s1.heap.get? b = some o → o.data = .dict es ep → (hidT s1.heap (headT K a vs ns ts)).get? b = some o := fun e d =>
    grd e (fun _ _ z => by rw [d] at z; cases z) (fun z => by rw [d] at z; cases z)
  have nsK : ∀ {b : Addr} {m : Str → Option Value}, s1.heap.Ns b m → (hidT s1.heap (headT K a vs ns ts)).Ns b m := fun ⟨o, es, ep, e, d, r⟩ => ⟨o, es, ep, dictG e d, d, r⟩
  have nK : ∀ b ∈ ts, K.lookup b = none := fun b hb => by
    obtain ⟨p, hp, e⟩ := ofT b hb
    rw [← e]; exact nT p hp
  have kin : K.In (hidT s1.heap (headT K a vs ns ts)) := fun b o e => hidT_get (KX b o e) (by
    have nb : b ∉ ts := fun z => by rw [nK b z] at e; cases e
    rw [headT_out nb]
    exact if_neg fun z => by rw [z.1, z.2] at e; cases e)
  have hS : SqL K (headT K a vs ns ts) a (ns.map V.int) := by
    cases q : K.lookup a with
    | none => exact .inl (.inr ⟨_, (headT_out aT).trans (if_pos ⟨rfl, q⟩)⟩)
    | some o =>
      have e := KX a o q
      rw [ha] at e; cases e
      exact .inr ⟨_, vs.toArray, _, q, rfl, rfl, rfl, by rw [List.size_toArray, hi.length]; exact hl, by simpa using rv⟩
  have hok : HOk P w (headT K a vs ns ts) s1.heap := fun b u z => by
    by_cases hb : b ∈ ts
    · rw [headT_in hb] at z; cases z
      exact tabO b hb
    · rw [headT_out hb] at z
      by_cases q : b = a ∧ K.lookup a = none
      · have z' := (if_pos q).symm.trans z
        cases z'
        rw [q.1]
        exact ⟨ha, by rw [List.length_map]; exact hl, vs, _, rv, ha⟩
      · cases (if_neg q).symm.trans z
  have hM : Mod K mg (hidT s1.heap (headT K a vs ns ts)) := ⟨kin, nsK hns, ⟨mb, nsK hb, hbb⟩, hlim.imp fun mc h => ⟨nsK h.1, h.2⟩⟩
  have TB : ∀ p ∈ cs, TabB (hidT s1.heap (headT K a vs ns ts)) mg p.1 p.2.1 := fun p hp => by
    have hTp := hT p hp
    refine ⟨?_, ?_, fun z => ?_⟩
    · obtain ⟨o, us, file, tf, flags, tg, inF, text, tt, e1, r1, r2, r3, r⟩ := hC p hp
      refine ⟨o, us, file, tf, flags, tg, inF, text, tt, grd e1 (fun _ _ z => ?_) (fun z => ?_), r1, r2, r3, r⟩
      · rw [r2] at z; cases z
      · rw [r2] at z; cases z
        simp at r3
    · obtain ⟨bm, ob, b1, b2, b3, b4, b5, b6⟩ := hbm
      refine ⟨bm, ob, b1, b2, fun q => ?_, fun q => ?_, grd b3 (fun _ _ z => ?_) (fun z => ?_), b4, b5, b6⟩
      · obtain ⟨o, es, ep, e, hd, _⟩ := hns
        rw [q, e] at b3; cases b3
        rw [hd] at b6; cases b6
      · rw [q, hTp] at b3; cases b3
        cases b6
      · rw [b6] at z; cases z
      · rw [b6] at z; cases z
    · obtain ⟨o, es, ep, e, hd, _⟩ := hns
      rw [z, hTp] at e; cases e
      cases hd
  obtain ⟨y, e1, o1, r1⟩ := hx
  have tabI : ∀ p q, Tabs0.nm p = some q → p ∈ ts := fun p q z => by
    obtain ⟨c, hc, e⟩ := List.mem_map.mp (T.all p q z)
    cases e
    exact memT c hc
  have rS : Rep ⟨headT K a vs ns ts, fun b => b ∈ ts, fun b => b ∈ ts⟩ (.scr K (ns.map V.int)) (.ref a) := by
    refine ⟨a, rfl, ?_, tabI⟩
    rcases hS with (h | ⟨o, h⟩) | q
    · exact .inl ⟨_, h, aT, .inl rfl⟩
    · exact .inl ⟨_, h, aT, .inr ⟨o, rfl⟩⟩
    · exact .inr q
  have hsp : toSp sp [.ref a] (headT K a vs ns ts) (fun v _ => v = .bl true) (fun _ _ _ => False) := by
    refine ⟨y, fun _ => False, ⟨headT K a vs ns ts, fun b => b ∈ ts, fun b => b ∈ ts⟩, rfl, ⟨fun b h z => ?_, fun b h => h.elim, fun b h => ⟨h, fun z => z, ?_⟩⟩, by rw [e1]; exact RepL.one rS, o1, fun d v W' h _ _ rp => by rw [r1 d h] at rp; exact rp⟩
    · have z : headT K a vs ns ts b = none := z
      rw [headT_in h] at z; cases z
    · obtain ⟨p, hp, e⟩ := ofT b h
      have nm : Tabs0.nm b = some p.2.2 := by
        rw [← e]; exact T.sound (p.2.1, p.2.2) (List.mem_map.mpr ⟨p, hp, rfl⟩)
      exact .mk nm (TabS.nil (headT_in h)) fun ps pos c q1 q2 => by
        have q1' := (headT_in h).symm.trans q1
        cases q1'
        simp [codeAmong] at q2
  refine codeAny_mono ((F _ TB).2 callerA [] s1 _ ⟨[.ref a], []⟩ [.ref a] [.ref a] _ _ hr rfl ⟨rfl, hM, fun b o e => of_hidT e, Nat.le_of_eq (hidT_size _ _), trivial, fun b hb => absurd (show b ∈ ([] : List Addr) from hb) (by simp), hok, .of_eq hg⟩ (hbind s1 (.ref a)) (.cons rfl .nil) hsp) fun r s' h => ?_
  match r, h with
  | .error _, h => exact (show False from h).elim
  | .ok .next, h => exact (show False from h).elim
  | .ok .brk, h => exact (show False from h).elim
  | .ok .cont, h => exact (show False from h).elim
  | .ok (.ret u), ⟨v, H', os, bare, un, hok', r', q⟩ =>
    have q' : v = .bl true := q
    subst q'
    obtain rfl : u = Value.bool true := r'
    have key : ∀ b o, b ∉ ts → s1.heap.get? b = some o → s'.heap.get? b = some o := fun b o nb e => by
      by_cases c : b = a ∧ K.lookup a = none
      · have z : headT K a vs ns ts b = _ := (headT_out nb).trans (if_pos c)
        have e3 := (hok b _ z).1
        rw [e] at e3; cases e3
        exact (hok' b _ (un.frzs b _ _ z)).1
      · exact un.keep b o e ((headT_out nb).trans (if_neg c)) (by intro z; exact absurd (show b ∈ ([] : List Addr) from z) (by simp)) (by simp)
    have grown : ∀ b ∈ ts, ∃ more : Array Value, s'.heap.get? b = some { cls := .none, data := .fields more } := fun b hb => by
      obtain ⟨more, z⟩ := un.tbls b #[] (headT_in hb)
      exact ⟨_, hok' b _ z⟩
    refine ⟨rfl, ⟨fun b o e => ?_, fun b o e => ?_⟩, os, bare⟩
    · by_cases hb : b ∈ ts
      · obtain ⟨more, hm⟩ := grown b hb
        rw [tabO b hb] at e; cases e
        obtain ⟨p, hp, ep⟩ := ofT b hb
        have CT := (hC p hp).tab (hT p hp)
        rw [ep] at CT
        exact .inr (.inl ⟨CT.isCodeTable, rfl, #[], more, rfl, by rw [Array.empty_append]; exact hm⟩)
      · exact .inl (key b o hb e)
    · by_cases hb : b ∈ ts
      · obtain ⟨more, hm⟩ := grown b hb
        exact ⟨_, hm⟩
      · exact ⟨o, key b o hb e⟩
end
/-- the table of a def of the law's text is empty, its code object stands -/
def TabOf (K : PySem.W.Frag) (f : Addr) (h : Heap) : Prop := ∀ (c P : Addr) (o : Obj) (fd : FuncData) (e : Value) (dd : Option Addr) (vs : Array Value) (sl : Array (Option Value)), K.lookup f = some o → o.data = .func fd → fd.code = .ref c → K.lookup c = some ⟨e, dd, .fields vs, sl⟩ → vs[11]? = some (.ref P) →
  h.get? P = some { cls := .none, data := .fields #[] } ∧ PySem.W.CodeHd h c P
end Dw

/-! The end of a law with tables of code objects. -/
namespace Dw
open PySem PySem.Spec PyProof.Rows L2 LamX
/-- what the end must bring -/
def EndT (l : PySem.W.OpenLaw) (w : World) (K : PySem.W.Frag) (mg : Str → Option Value) (k : Nat) (fa : Addr) (x : Str) (h : Heap) (sp : Spc) : Prop :=
  ∃ (fd : FuncData) (I : Tabs0) (cs : List (Addr × Addr × Str)), (∀ (s : Shared) (u : Value), BindsTo s fd ⟨[u], []⟩ [(x, u)]) ∧ @TabsOk I (cs.map fun p => (p.2.1, p.2.2)) ∧ (∀ p ∈ cs, h.get? p.2.1 = some { cls := .none, data := .fields #[] }) ∧ (∀ p ∈ cs, K.lookup p.2.1 = none) ∧ (∀ p ∈ cs, PySem.W.CodeHd h p.1 p.2.1) ∧
    ∀ base : Heap, (∀ p ∈ cs, TabB base mg p.1 p.2.1) → @FnG I l.prog w K mg base k fa fd [x] sp
theorem walk_GT {l : PySem.W.OpenLaw} {k : Nat} {x : Str} {q : Program} {loose : List Str} {XP : (Str → Option Value) → Heap → Prop} {YP : World → Heap → Prop} {d : DefRec} {K : Params → PySem.W.Frag} {sp : PySem.W.Frag → Spc} (hn : l.most = some 63) (hdf : d.params.defaults = []) (hr : Room k callerA)
    (hY : ∀ (w : World) (h : Heap), YP w h → (K w.params).In h) (hsp : ∀ (K : PySem.W.Frag) (ns : List Int), ns.length ≤ 63 → (∀ z ∈ ns, Builtin.Int.intBits z ≤ 1048576) → ∃ y : (sp K).ty, (sp K).args y = [.scr K (ns.map V.int)] ∧ (sp K).ok y ∧ ∀ d, (sp K).rel y d → d = .bl true)
    (F : ∀ (w : World) (mg : Str → Option Value) (fa : Addr) (h : Heap), (K w.params).In h → h.Ns mainGlobals mg → mg d.name = some (.ref fa) → (∀ (y : Str) (f : Addr), ((recsOf q).any fun e => e.name == y) = true → mg y = some (.ref f) → TabOf (K w.params) f h) → EndT l w (K w.params) mg k fa x h (sp (K w.params))) :
    PySem.W.WalkO q loose XP YP l.row.toRowW d [] (fun f vs => PySem.call f vs) := by
  refine Att.attach_callB hn hdf fun w _ s1 mg mb fa _ _ _ _ a _ ns G Y _ _ _ hmg hobj hints hlen hbits hg => ?_
  have KX := hY w _ Y
  obtain ⟨fd, I, cs, hb, T, hT, nT, hC, hF⟩ := F w mg fa _ KX G.T.g hmg fun y f hy hm c P o1 fd1 e dd vs1 sl k1 k2 k3 k4 k5 => by
    obtain ⟨dL, hm1, hn1⟩ := List.any_eq_true.mp hy
    have hn2 : dL.name = y := beq_iff_eq.mp hn1
    obtain ⟨a', o', fd', c', P', h1, h2, h3, h4, h5, h6⟩ := G.T.tab dL hm1
    rw [hn2, hm] at h1; cases h1
    have g1 := KX _ _ k1
    rw [g1] at h2; cases h2
    rw [k2] at h3; cases h3
    rw [k3] at h4; cases h4
    have CH := PySem.W.CodeHd.of h5 h6
    obtain ⟨⟨oc, vc, e1, _, e3, e4⟩, hP⟩ := h6
    have g2 := KX _ _ k4
    rw [g2] at e1; cases e1
    cases e3
    rw [k5] at e4; cases e4
    exact ⟨hP, CH⟩
  exact @head_callT I _ _ _ _ _ _ _ _ _ _ _ _ _ _ cs T KX G.T.g G.T.b G.T.builtins G.T.nolimit hg hobj hints (Nat.le_trans hlen (by decide)) hr hT nT hC G.T.bmain hF hb (hsp _ ns hlen hbits)
end Dw

/-! What is told of an error's class, by a row of truth values. -/
namespace Dw
open PySem PySem.Spec PyProof.Rows L2 LamX
theorem TabsOk.uniq [Tabs0] {Tt : List (Addr × Str)} (T : TabsOk Tt) {P : Addr} {q : Str} (h : (P, q) ∈ Tt) : ∀ p ∈ Tt, p.1 = P → p.2 = q := fun p hp e => by
  have h1 := T.sound p hp
  have h2 := T.sound (P, q) h
  rw [e] at h1
  rw [h1] at h2
  exact Option.some.inj h2
end Dw

/-! [f for a in xs if p for b in ys if q]; all of whole numbers. -/
namespace Dw
open PySem PySem.Spec PyProof.Rows L2
variable [Tabs0]
/-- what is walked stands out of the reach of what changes -/
structure ItK (W : Wd) (J : It) (xs : List D) : Prop where
  go : ∀ (W1 : Wd) (i : Nat) (x : D), (∀ a u, W.H a = some u → ¬ W.U a → W1.H a = some u ∧ ¬ W1.U a) → W1.P = W.P → xs[i]? = some x → J.go i W1.H ∧ ∀ v H', J.yld i W1.H v H' → Same W1.H H' ∧ Rep (W1.at H') x v
  stop : ∀ (W1 : Wd), (∀ a u, W.H a = some u → ¬ W.U a → W1.H a = some u ∧ ¬ W1.U a) → J.stop xs.length W1.H
section
variable {K : PySem.W.Frag} {Γ : Gam} {t : TE} {ta : TA} {xs : List D}
end
section
variable {Γ : Gam} {wi wi1 : TI} {g g1 : TG} {tt tt1 : TT} {te : TE} {vs vs1 : List Nat}
end

/-! ### all of whole numbers -/
/-! ### xs = [e, ..], a list of one's own that is drawn -/
theorem ds_asg_ownL {Γ : Gam} {ta : TA} {De : DE} {i : Nat} (h : DlA ta Γ fun es Γ1 => es.length ≤ sizeLine ∧ De.nx (Γ1.set i (.own es))) : Ds (tAsg (tLst ta) (gName i)) Γ De := fun F σ W Dr g l => h F σ W _ g fun vs W1 es Γ1 s1 g1 r ⟨hz, q⟩ => ⟨by rw [← r.length]; exact hz, fun p hp => by
  have sm : Same W1.H (upd W1.H p (.lst vs)) := same_upd hp
  obtain ⟨st, g2⟩ := g1.setOwn (i := i) sm hp upd_same (RepL.plus (W := W1) hp sm r)
  exact l.nx _ (W1.plus _ p) _ (s1.trans st) g2 q⟩
end Dw

/-! max of a list; sorted of a tuple of whole numbers. -/
namespace Dw
open PySem PySem.Spec PyProof.Rows L2
variable [Tabs0]
section
variable {K : PySem.W.Frag} {Γ : Gam} {ta tb : TE}
end
end Dw

/-! Errors with a field: made, asked for their class and their field, shown. -/
namespace Dw
open PySem PySem.Spec PyProof.Rows L2 LamX
variable [Tabs0]
/-! ### X(given), where X's __init__ stores it -/
/-- the promise of such an __init__ -/
def spXI (C : Addr) (f : Str) : Sp := fun vs H Q _ => ∃ (a : Addr) (y : V), vs = [.ref a, y] ∧ H a = some (exo a C none) ∧ ∀ dx, H dx = none → dx ≠ a → Q .non (upd (upd H dx (exd dx [(f, y)])) a (exo a C (some dx)))
section
variable {P : Program} {w : World} {K : PySem.W.Frag} {mg : Str → Option Value} {base : Heap}
theorem fn_xinit {qual x f : Str} {st : Stmt} {fa C : Addr} {fd : FuncData} {N ps : List Str} {k : Nat} (F : Fun K x qual st fa fd) (S : FnScope N ps (defScope st)) (hp : ps.length = 2) (T : OexC K C) (hno : PySem.W.findIn K (.ref C) f = some none)
    (hN : N.length = 2)
    (hbody : ∀ (cdv : Value) (A : Around) (outer : List Env) (s' : Shared) (H : Hp) (E : XK), PSs (cxOf CX0 P w K mg base N qual (defScope st) fa cdv A outer s' H E).nox (defBody st) (tOst K f (tVar 0) (tVar 1))) :
    FnOk P w K mg base CX0 (k + 1) fa fd ps (spXI C f) :=
  F.ok S (fun vs H Q E ⟨a, y, e, _⟩ => by rw [e, hp]; rfl) fun cdv A outer s' H vs Q E hr ⟨a, y, e, ha, q⟩ => by
    subst e
    refine ⟨_, hbody cdv A outer s' H E, ?_⟩
    have e0 : (L2.start N [.ref a, y])[0]? = some (some (V.ref a)) := by unfold L2.start; simp
    have e1 : (L2.start N [.ref a, y])[1]? = some (some y) := by unfold L2.start; simp
    exact ⟨y, e1, .ref a, e0, a, C, rfl, T, hno, .inl ⟨ha, fun dx h1 h2 => q dx h1 h2⟩⟩
end
/-! ### raise X(e) -/
theorem ers_raiseF {Γ : Gam} {C : Addr} {f : Str} {ta : TA} {d : D} {E : XK} {x : Exn} (hx : x = ⟨C, [(f, d)]⟩) (h : EvA ta Γ [d]) : ErS (fun _ σ H => tMkO C (spXI C f) [] ta σ H fun cls ed H' => E cls ed H') Γ x (fun ed H' => E (.ref C) ed H') := fun F σ W Dr g k => h F σ W _ g fun vs H1 s1 r => by
  subst hx
  obtain ⟨v, _, rfl, rv, rfl⟩ := r
  refine ⟨by show 1 ≤ 1000; decide, fun a ha => ⟨a, v, rfl, upd_same, fun dx hd hne => ⟨rfl, dx, [(f, v)], upd_same, ?_, ?_, ?_⟩⟩⟩
  · rw [upd_ne hne, upd_same]
  · rw [upd_ne hne] at hd
    exact hd
  · have hd1 : H1 dx = none := by rw [upd_ne hne] at hd; exact hd
    have sm : Same H1 (upd (L2.del (upd (upd (upd H1 a (exo a C none)) dx (exd dx [(f, v)])) a (exo a C (some dx))) a) dx (.xd [(f, v)])) := fun b u e => by
      have nb : b ≠ dx := fun z => by rw [z, hd1] at e; cases e
      have na : b ≠ a := fun z => by rw [z, ha] at e; cases e
      rw [upd_ne nb, L2.del_ne na, upd_ne na, upd_ne nb, upd_ne na]
      exact e
    refine k (some dx) _ (Same.trans s1 sm) ⟨fun dd e => ?_, dx, [v], rfl, ?_, upd_same, v, [], rfl, ?_, rfl⟩
    · cases e
      exact s1.free hd1
    · exact fun u => g.ok.dom dx u (s1.free hd1)
    · exact Rep.same (W := W.at H1) sm rv
/-! ### asking the held error -/
section
variable {X : Cx} {a D0 : Addr} {oe : Obj} {ed : Option Addr}
/-- e.f, e pinned -/
theorem pe_xfP {e : Expr} {te : TE} {pos : Pos} {n : Str} (hp : (a, oe) ∈ X.pn) (T : XfC X.K D0) (hno : PySem.W.findIn X.K (.ref D0) n = some none) (hz : Zc (.ref D0) ed oe) (hf : ∃ vs, oe.data = .fields vs) (he : PE X e te)
    (hb : attributeBase e n X.env (eval e X.env) = eval e X.env := by rfl) :
    PE X (.Attribute e n pos) (tXf a (.ref D0) ed D0 n te) := by
  refine ⟨fun pins s σ H Q I h => ?_⟩
  refine attr_of hb (thn (he.run pins s σ H _ I h) fun u s1 ⟨x, H1, I1, rx, ex, ec, dd, fs, v, edd, ea, l, q⟩ => ?_)
  subst ex edd
  obtain rfl : u = Value.ref a := rx
  have hget := (I1.pin (a, oe) (List.mem_append_left _ hp)).1
  have hx : ObjOk X.prog X.w H1 s1.heap dd (.xd fs) := I1.hok dd _ ea
  obtain ⟨mA, hns, hr⟩ := hx
  obtain ⟨od, ho, hl⟩ := lookIn_ns hns
  have hn := hr n
  rw [l] at hn
  obtain ⟨w', hw, rw'⟩ := RelO.some_of hn
  exact HandSPX.exc_get I1.kIn (inst_some hz hf hget ho) T.ga T.gg T.exC (PySem.W.findObj_own T.hdC hno rfl (by rw [hl, hw])) (handed_of rw') ⟨v, H1, I1.tok _, rw', q⟩
end
end Dw

/-! Errors with fields, as told's suite reads them; repr of any data. -/
namespace Dw
open PySem PySem.Spec PyProof.Rows L2 LamX
variable [Tabs0]
/-! ### repr of any data -/
def rReprX (K : PySem.W.Frag) : List V → Hp → VK → Prop := fun xs H Q => ∃ (v : V) (d : PyData), xs = [v] ∧ Dp K H v d ∧ d.showable = true ∧ d.hasDict = false ∧ d.depth ≤ 64 ∧ d.shown.length ≤ sizeLine ∧ Q (.str d.shown) H
theorem cr_reprX {X : Cx} (hu : X.A.units + 66 < PySem.cLine) (hG : X.A.guards = some []) : CallR X (.builtin "repr") (rReprX X.K) := by
  intro pins s σ H xs us Q I r h
  obtain ⟨v, d, rfl, hd, h1, h2, h3, h4, q⟩ := h
  obtain ⟨u, rfl, ru⟩ := vals1 r
  cases d with
  | none =>
    cases hd
    obtain rfl : u = Value.none := ru
    exact P.repr_of_none ⟨.str _, H, I.tok _, ⟨_, rfl⟩, q⟩
  | bool b =>
    cases hd
    obtain rfl : u = Value.bool b := ru
    cases b
    · exact P.repr_of_bool ⟨.str _, H, I.tok _, ⟨_, rfl⟩, q⟩
    · exact P.repr_of_bool ⟨.str _, H, I.tok _, ⟨_, rfl⟩, q⟩
  | int i =>
    cases hd
    obtain ⟨t, rfl⟩ := ru
    exact P.repr_of_int (of_decide_eq_true h1) ⟨.str _, H, I.tok _, ⟨_, rfl⟩, q⟩
  | str x =>
    cases hd
    obtain ⟨t, rfl⟩ := ru
    exact P.repr_of_str ⟨.str _, H, I.tok _, ⟨_, rfl⟩, q⟩ h4
  | list ds =>
    cases hd with | lst e l => ?_
    cases ru
    obtain ⟨as, r1⟩ := Dp.reads I (.list ds) _ _ (.lst e l) rfl
    exact repr_of_reads' r1 h1 (PyData.noDict_hsm h2) hG (by omega) (fun _ _ e => e) (fun h' u tk hk => ⟨.str _, H, I.kept (t' := tk) hk, ⟨_, rfl⟩, q⟩) h4
  | tuple ds =>
    cases hd with | tup e l => ?_
    cases ru
    obtain ⟨as, r1⟩ := Dp.reads I (.tuple ds) _ _ (.tup e l) rfl
    exact repr_of_reads' r1 h1 (PyData.noDict_hsm h2) hG (by omega) (fun _ _ e => e) (fun h' u tk hk => ⟨.str _, H, I.kept (t' := tk) hk, ⟨_, rfl⟩, q⟩) h4
  | dict kv => cases hd
/-! ### held readings -/
def EvHA (t : TA) (Γ : Gam) (x : Exn) (ed : Option Addr) (ds : List D) : Prop := ∀ (F : Addr → Prop) (σ : L2.St) (W : Wd) (Q : List V → Hp → Prop), SR F Γ σ W → ExHeld W x ed → (∀ vs H, Same W.H H → RepL (W.at H) ds vs → Q vs H) → t σ W.H Q
section
variable {Γ : Gam} {x : Exn} {ed : Option Addr} {t tr : TA} {te ta tb : TE} {d : D} {ds es : List D} {K : PySem.W.Frag}
theorem evha_nil : EvHA tNil Γ x ed [] := fun F σ W Q g hx k => k [] W.H (Same.refl _) rfl
theorem evha_cons (h : EvH te Γ x ed d) (hr : EvHA tr Γ x ed ds) : EvHA (tCons te tr) Γ x ed (d :: ds) := fun F σ W Q g hx k =>
  h F σ W _ g hx fun v H s r => hr F σ (W.at H) _ (g.same s) (hx.same s) fun vs H' s' l => k (v :: vs) H' (Same.trans s s') ⟨v, vs, rfl, Rep.same (W := W.at H) s' r, l⟩
theorem evh_lst (h : EvHA t Γ x ed ds) (hz : ds.length ≤ sizeLine) : EvH (tLst t) Γ x ed (.lst ds) := fun F σ W Q g hx k => h F σ W _ g hx fun vs H s l => ⟨by rw [← l.length]; exact hz, fun p hp =>
  k _ _ (Same.trans s (same_upd hp)) (rep_new_lst (W := W.at H) (g.same s).ok.dom hp l)⟩
theorem fs_look {W : Wd} {f : Str} {d : D} : ∀ {fs : List (Str × D)} {vs : List V}, fs.lookup f = some d → RepL W (fs.map fun z => z.2) vs → ∃ v, ((fs.map fun z => z.1).zip vs).lookup f = some v ∧ Rep W d v
  | [], _, h, _ => by cases h
  | (g, e) :: fs, vs, h, r => by
    obtain ⟨v, ws, rfl, rv, rw'⟩ := r
    simp only [List.map_cons, List.zip_cons_cons, List.lookup_cons] at h ⊢
    cases q : f == g with
    | true =>
      rw [q] at h
      cases h
      exact ⟨v, rfl, rv⟩
    | false =>
      rw [q] at h
      exact fs_look h rw'
/-- e.f -/
theorem evh_xf {a : Addr} {f : Str} (h : Ev te Γ (.raw (.ref a))) (hf : x.fs.lookup f = some d) : EvH (tXf a (.ref x.C) ed x.C f te) Γ x ed d := fun F σ W Q g hx k =>
  h F σ W _ g fun v H s r => by
    have hx' : ExHeld (W.at H) x ed := hx.same s
    obtain ⟨C, fs⟩ := x
    cases fs with
    | nil => cases hf
    | cons f0 fs =>
      obtain ⟨dd, vs, e, _, hd, r2⟩ := hx'
      obtain ⟨v1, l, rv⟩ := fs_look hf r2
      exact ⟨r, rfl, dd, _, v1, e, hd, l, k v1 H s rv⟩
theorem rep_reprX {W : Wd} {k : Nat} {v : V} {Q : VK} (r : Rep W d v) (h1 : dOk k d = true) (hk : k ≤ 64) (h2 : shOk d = true) (h3 : shB d ≤ sizeLine) (q : Q (.str (PyData.shown (py d))) W.H) : rReprX K [v] W.H Q := by
  obtain ⟨p1, _, p3⟩ := dOk_py k _ h1
  obtain ⟨s1, s2⟩ := shOk_py _ h2
  exact ⟨v, _, rfl, dp_of d v p1 r, s1, s2, Nat.le_trans p3 hk, Nat.le_trans (shB_le k d h1) h3, q⟩
end
end Dw

/-! x -= e; a = b = e. -/
namespace Dw
open PySem PySem.Spec PyProof.Rows L2
variable [Tabs0]
section
variable {Γ : Gam} {te : TE} {De : DE} {d : D}
end
end Dw

/-! A tuple of whole numbers in a list of such: in, index. -/
namespace Dw
open PySem PySem.Spec PyProof.Rows L2
variable [Tabs0]
def tupsD (l : List (List Nat)) : List D := l.map fun p => D.tup (ordN p)
theorem plain_ordN : ∀ o : List Nat, PyData.plainAll (pys (ordN o)) = true
  | [] => rfl
  | k :: o => by
    show (PyData.plain (.int k) && PyData.plainAll (pys (ordN o))) = true
    rw [plain_ordN o]; rfl
@[reducible] def dtT : PySem.W.Datum (List Nat) where
  toD o := py (.tup (ordN o))
  plain o := plain_ordN o
  eqv a b := eqv_ints a b
  depth := 1
  depth_le o := (dOk_py 1 (.tup (ordN o)) (dOks_map fun _ _ => rfl)).2.2
end Dw

/-! sorted of a list of tuples of whole numbers that stands in order; an expression read in one of two ways. -/
namespace Dw
open PySem PySem.Spec PyProof.Rows L2
variable [Tabs0]
def intN (o : List Nat) : List Int := o.map fun k : Nat => (k : Int)
theorem ordN_ints (o : List Nat) : ordN o = (intN o).map D.int := by unfold ordN intN; rw [List.map_map]; rfl
theorem rep_key {W : Wd} {o : List Nat} {v : V} (h : Rep W (.tup (ordN o)) v) : ∃ p, v = .ref p ∧ TupAt W.H p ((intN o).map V.int) := by
  obtain ⟨p, vs, eu, e, nu, l⟩ := h
  rw [ordN_ints] at l
  rw [RepL.ints.mp l] at e
  exact ⟨p, eu, e⟩
end Dw

/-! x, ys, zs = e, [..], [..] where ys and zs are one's own. -/
namespace Dw
open PySem PySem.Spec PyProof.Rows L2
variable [Tabs0]
end Dw

/-! sorted of alike data; sorted(xs, key=lambda x: (len(x), x)) of tuples of whole numbers. -/
namespace Dw
open PySem PySem.Spec PyProof.Rows L2 LamX
section
variable {X : Cx} {pins : List (Addr × Obj)} {σ : L2.St} {H : Hp} {s : Shared} {β : Type}
theorem each_vals {g : β → V} : ∀ {bs : List β} {its : List Value}, Vals (bs.map g) its → PySem.W.EachIs (fun v b => RelV (g b) v) its bs
  | [], _, .nil => .nil
  | _ :: _, _, .cons r rs => .cons r (each_vals rs)
theorem vals_each {g : β → V} : ∀ {bs : List β} {its : List Value}, PySem.W.EachIs (fun v b => RelV (g b) v) its bs → Vals (bs.map g) its
  | _, _, .nil => .nil
  | _, _, .cons r rs => .cons r (vals_each rs)
end
/-! ### key=lambda x: (len(x), x) -/
def lenKey (ns : List Int) : PyData := .tuple [.int ns.length, .tuple (ns.map .int)]
theorem reads_ints {h : Heap} : ∀ {ns : List Int} {us : List Value}, Vals (ns.map V.int) us → ReadsAll h us (ns.map .int) []
  | [], _, .nil => .nil
  | n :: ns, _, .cons ⟨t, e⟩ rs => by
    subst e
    exact .cons (as := []) (bs := []) (.int n t) (reads_ints rs)
section
variable {X : Cx} {pins : List (Addr × Obj)} {σ : L2.St} {H : Hp} {s : Shared}
theorem lam_key_run {a qual : Str} {params : Arguments} {scope : Scope} {p1 p2 p3 p4 p5 : Pos} {cx : Nat} {f c' p : Addr} {pm ctv : Value} {A : Around} {ns : List Int} (I : Inv X pins σ H s)
    (hA : A.depth < recursionLimit)
    (hf : s.heap.get? f = some (PySem.W.kla_obj "<lambda>" qual params (.Tuple [.Call (.Name "len" p1) [.Name a p2] [] p3, .Name a p4] cx p5) scope [] pm c' ctv)) (hco : H c' = some (CodeO c' qual)) (ht : SqT X.K H p (ns.map V.int))
    (hbind : ∀ v, bindArgs (PySem.W.kla_fn "<lambda>" qual params (.Tuple [.Call (.Name "len" p1) [.Name a p2] [] p3, .Name a p4] cx p5) scope [] pm (.ref c') ctv) ⟨[v], []⟩ = pure [(a, v)])
    (kd : scope.kind = .function) (co : scope.isCoroutine = false) (gen : scope.isGenerator = false) (hcell : ∀ y ∈ scope.names, y.2 ≠ .cell) (hloc : scope.names.lookup a = some .local) (hlen : scope.names.lookup ("len" : Str) = some NameKind.globalImplicit) (hml : X.mg "len" = none)
    (hd : (a == ("__debug__" : Str)) = false := by decide) :
    wpAny (model X.prog X.w) A (call (.ref f) [.ref p]) (PySem.W.KeyPure (lenKey ns) s) (fun _ _ => False) s := by
  obtain ⟨⟨oc, vs, t, hoc, hdc, hvc⟩, _, _⟩ := I.hok c' _ hco
  obtain ⟨its, rv, hT, hz⟩ := I.tuple ht
  have hlen' := rv.length
  rw [List.length_map] at hlen' hz
  have hn := line63
  refine wpAny_call (PySem.W.kla_callFunE hA hf rfl co gen rfl ⟨c', oc, vs, t, rfl, hoc, hdc, hvc⟩ ?_)
  rw [hbind]
  refine wpAny_pure (wpAny_newFunctionEnv hcell (fun y hy => by rw [List.mem_singleton.mp hy]; exact hloc) (fun h₁ hns hsb => ⟨I.nolimit.fresh _ hsb, ?_⟩) kd)
  show codeAny _ _ (.expr _ (PySem.W.envX qual scope s.heap.objs.size f (.ref c') [])) _ _
  have kp : ∀ b o, s.heap.get? b = some o → h₁.get? b = some o := fun b o e => hsb.extBut b o (Nat.ne_of_lt (Heap.lt_size e)) (Heap.get?_push_of_some _ e)
  have hT1 : IsTup h₁ p its.toArray := let ⟨o, ho, r⟩ := hT; ⟨o, kp _ _ ho, r⟩
  have nm : ∀ {E : Value → Shared → Prop} {Q : Value → Shared → Prop} {A : Around} {tk : Nat} {g : Heap} {pz : Pos}, g.Ns s.heap.objs.size (fun x => [(a, Value.ref p)].reverse.lookup x) → Q (.ref p) { s with heap := g, toks := tk } →
      wpAny (model X.prog X.w) A (eval (.Name a pz) (PySem.W.envX qual scope s.heap.objs.size f (.ref c') [])) Q E { s with heap := g, toks := tk } := fun {E Q A tk g pz} hg hq =>
    wpAny_Name (wpAny_loadName_local kd hloc hg (by simp) hq) hd
  obtain ⟨mb, b1, b2⟩ := I.mod.blt
  have old : ∀ b o, X.base.get? b = some o → h₁.get? b = some o := fun b o e => kp _ _ (I.bk b o e)
  refine PySem.W.kla_codeExpr (wpAny_Tuple_spliced ?_)
  show wpAny _ _ (spliced ((false, eval (.Call (.Name "len" p1) [.Name a p2] [] p3) _) :: (false, eval (.Name a p4) _) :: [])) _ _ _
  refine Calls.spliced_cons (wpAny_Call_Name_kw (Calls.Name_function_global kd hlen (Calls.loadGlobal_builtin (I.mod.glob.keeps old) hml (b1.keeps old) ((b2 "len" (by decide)).trans rfl) ?_) (by decide)))
  refine PyProof.Rows.callWith_builtin1 (e := .Name a p2) (rest := []) (Calls.spliced_cons (nm hns (Calls.spliced_nil ?_))) rfl rfl
  refine PyProof.Rows.len_tuple hT1 (by simp only [List.size_toArray] <;> omega) ?_
  refine Calls.spliced_cons (nm hns (Calls.spliced_nil ⟨show 2 ≤ sizeLine by decide, ?_⟩))
  refine ⟨_, _, rfl, fun b o e => Heap.get?_push_of_some _ (kp b o e), ?_⟩
  obtain ⟨o, ho, hc, n, hdt⟩ := hT1
  refine Reads.tuple (as := []) (Heap.get?_push_size _ rfl) rfl rfl (ReadsAll.cons (as := []) (bs := []) ?_ (ReadsAll.cons (as := []) (bs := []) ?_ .nil))
  · rw [show its.toArray.size = ns.length by rw [List.size_toArray, hlen']]
    exact .int _ _
  · exact Reads.tuple (Heap.get?_push_of_some _ ho) hc hdt (by simpa using reads_ints rv)
end

theorem sqt_ext {K : PySem.W.Frag} {H H1 : Hp} {p : Addr} {xs : List V} (e : ExtN H H1) (h : SqT K H p xs) : SqT K H1 p xs := by
  rcases h with (h | ⟨o, h⟩) | h
  · exact .inl (.inl (e _ _ h fun _ z => nomatch z))
  · exact .inl (.inr ⟨o, e _ _ h fun _ z => nomatch z⟩)
  · exact .inr h
theorem sql_ext {K : PySem.W.Frag} {H H1 : Hp} {p : Addr} {xs : List V} (e : ExtN H H1) (h : SqL K H p xs) : SqL K H1 p xs := by
  rcases h with (h | ⟨o, h⟩) | h
  · exact .inl (.inl (e _ _ h fun _ z => nomatch z))
  · exact .inl (.inr ⟨o, e _ _ h fun _ z => nomatch z⟩)
  · exact .inr h
/-- sorted(xs, key=lambda x: (len(x), x)) -/
def tSortKL (K : PySem.W.Frag) (T : List (Addr × Str)) (P : Addr) (q : Str) (t : TE) : TE := fun σ H Q => t σ H fun v H0 => ∃ (a : Addr) (bs : List (V × List Int)), v = .ref a ∧ SqL K H0 a (bs.map (·.1)) ∧ (∀ b ∈ bs, ∃ p, b.1 = .ref p ∧ SqT K H0 p (b.2.map V.int)) ∧ Tabs T H0 ∧
  ∀ H1, Chg P q H0 H1 → Tabs T H1 → ∀ p, H1 p = none → Q (.ref p) (upd H1 p (.lst ((bs.mergeSort (PySem.W.dataLe false (fun b : V × List Int => lenKey b.2))).map (·.1))))
theorem key_alike (bs : List (V × List Int)) : PySem.W.AllAlike (bs.map fun b => lenKey b.2) := by
  refine PySem.W.AllAlike.of fun b b' => ?_
  have e := PySem.W.alike_ints b.2 b'.2
  show PySem.W.alike (.tuple [.int _, .tuple _]) (.tuple [.int _, .tuple _]) = true
  simp [PySem.W.alike, PySem.W.alikeAll, e]
theorem pe_sortKL {X : Cx} {T : List (Addr × Str)} {te : TE} {e : Expr} {a : Str} {c P : Addr} {params : Arguments} {scope : Scope} {p pos lpos kpos p1 p2 p3 p4 p5 : Pos} {cx : Nat} (he : PE X e te) (hg : Gl X "sorted") (hm : X.mg "sorted" = none) (hml : X.mg "len" = none)
    (TB : TabB X.base X.mg c P) (hcode : X.env.code = .ref c) (hmT : (P, X.env.qual ++ "<lambda>") ∈ T) (hu : ∀ p ∈ T, p.1 = P → p.2 = X.env.qual ++ "<lambda>") (hr : Room 1 X.A) (hdef : defaultsOf params X.env = ([], []))
    (hclo : cloFrom X.env.cells scope.names [] = []) (hfree : ∀ y ∈ scope.names, y.2 ≠ .free)
    (hbind : ∀ (q : Str) (cl : List (Str × Addr)) (pm cv ctv v : Value), bindArgs (PySem.W.kla_fn "<lambda>" q params (.Tuple [.Call (.Name "len" p1) [.Name a p2] [] p3, .Name a p4] cx p5) scope cl pm cv ctv) ⟨[v], []⟩ = pure [(a, v)])
    (kd : scope.kind = .function) (co : scope.isCoroutine = false) (gen : scope.isGenerator = false) (hcell : ∀ y ∈ scope.names, y.2 ≠ .cell) (hloc : scope.names.lookup a = some .local) (hlen : scope.names.lookup ("len" : Str) = some NameKind.globalImplicit)
    (hd : (a == ("__debug__" : Str)) = false := by decide) (hse : starEach [e] X.env = [(false, eval e X.env)] := by rfl) :
    PE X (.Call (.Name "sorted" p) [e] [⟨some "key", .Lambda params (.Tuple [.Call (.Name "len" p1) [.Name a p2] [] p3, .Name a p4] cx p5) scope lpos, kpos⟩] pos) (tSortKL X.K T P (X.env.qual ++ "<lambda>") te) := by
  refine ⟨fun pins s σ H Q I h => ?_⟩
  refine wpAny_Call_Name_kw (ld_blt (u := .builtin "sorted") I hg hm (by decide +kernel) ?_)
  refine PyProof.Rows.callWith_kw (e := e) (rest := []) ?_ (by rw [hse]; rfl) (by rw [hse]; rfl) rfl rfl
  rw [hse]
  show wpAny _ _ (spliced [(false, eval e X.env)]) _ _ s
  refine Calls.spliced_cons (thn (he.run pins s σ H _ I h) fun u s1 ⟨v, H0, I1, r1, q1⟩ => Calls.spliced_nil ?_)
  obtain ⟨l, bs, rfl, hs, hb, hT, q⟩ := q1
  obtain rfl : u = Value.ref l := r1
  show wpAny _ _ (evalAll [do let v ← eval (.Lambda params _ scope lpos) X.env; standAt pos; pure v]) _ _ s1
  refine wpAny_evalAll_cons (wpAny_bind (lam_make3 I1 TB hcode hmT hu hT hdef (fun y hy z => absurd z (hfree y hy)) fun f c' pm ctv H1 s2 I2 cg T1 hf hfn hfr hco => wpAny_bind (wpAny_standAt (wpAny_pure (wpAny_evalAll_nil ?_)))))
  rw [hclo] at hf
  show wpAny _ _ (call (.builtin "sorted") [.ref l] [(Str.ofString "key", .ref f)]) _ _ s2
  have ext := cg.ext
  obtain ⟨its, rv, hl, hz⟩ := I2.list (sql_ext ext hs)
  have hz' : bs.length ≤ sizeLine := by rw [List.length_map] at hz; exact hz
  have ee := each_vals (g := fun b : V × List Int => b.1) rv
  have hu2 := hr.un
  refine PySem.W.sorted_key_data (b := false) (fun b : V × List Int => lenKey b.2) hl.isList ee (key_alike bs) (PySem.W.Sortable.tuples fun _ => ⟨_, _, rfl⟩) hz' (fun b _ => ?_) (PyProof.Rows.ksk_s1 _ _) (fun _ => PyProof.Rows.ksk_l1 _ _) (fun _ => PyProof.Rows.ksk_t1 _ _) (fun v b hR hbm h tk kp => ?_) fun out c h' tk kp hnone hD hol eo => ?_
  · have hd : (lenKey b.2).depth ≤ 2 := by
      have := PySem.W.depth_ints b.2
      simp only [lenKey, PyData.depth, PyData.depthAll]
      omega
    omega
  · obtain ⟨p, ep, hp⟩ := hb b hbm
    rw [ep] at hR
    obtain rfl : v = Value.ref p := hR
    exact lam_key_run (I2.kept (t' := tk) kp) (show X.A.depth < _ from hr.depth) (kp f _ hf) hco (sqt_ext ext hp) (fun v => hbind _ _ _ _ _ v) kd co gen hcell hloc hlen hml hd
  · have hlen2 : ((bs.mergeSort (PySem.W.dataLe false (fun b : V × List Int => lenKey b.2))).map (·.1)).length ≤ sizeLine := by
      rw [List.length_map, List.length_mergeSort]; exact hz'
    exact ⟨.ref _, upd H1 (s2.heap.objs.size + 1) (.lst ((bs.mergeSort (PySem.W.dataLe false (fun b : V × List Int => lenKey b.2))).map (·.1))), I2.laid (t' := tk) kp (Nat.le_succ _) ⟨hlen2, out, c, vals_each eo, hD⟩, rfl, q H1 cg T1 _ (I2.hok.fresh (Nat.le_succ _))⟩
end Dw

/-! Tagged data (what stands beside it: all tables may change); sorted lots by data. -/
namespace Dw
open PySem PySem.Spec PyProof.Rows L2 LamX
variable [Tabs0]
/-! ### tags -/
section
variable {Γ : Gam} {t : TE} {d e : D} {i : Nat} {Q : D → Gam → Prop}
def TabIn (W : Wd) : Prop := ∀ p q, Tabs0.nm p = some q → W.P p
/-- a slot that knows of the tables -/
def TgS (s : Sl) : Prop := s = .val .purse ∨ ∃ d, s = .val (.tag d)
theorem TgS.purse : TgS (.val .purse) := .inl rfl
theorem TgS.tag {d : D} : TgS (.val (.tag d)) := .inr ⟨d, rfl⟩
theorem SR.tabs {F : Addr → Prop} {Γ : Gam} {σ : L2.St} {W : Wd} {s : Sl} (g : SR F Γ σ W) (h : Γ[i]? = some s) (ht : TgS s) : TabIn W := by
  rcases ht with rfl | ⟨d, rfl⟩
  · obtain ⟨_, _, _, _, _, _, t⟩ := g.val i .purse h
    exact t
  · obtain ⟨_, _, _, t⟩ := g.val i (.tag d) h
    exact t
theorem ev_untag (h : Ev t Γ (.tag d)) : Ev t Γ d := fun F σ W Q g k => h F σ W Q g fun v H s r => k v H s r.1
theorem ev_tag {s : Sl} (hs : Γ[i]? = some s) (ht : TgS s) (h : Ev t Γ d) : Ev t Γ (.tag d) := fun F σ W Q g k => h F σ W Q g fun v H s r => k v H s ⟨r, g.tabs hs ht⟩
end
/-! ### the order of lots -/
def lotLe (a b : List Nat) : Bool := decide (a.length < b.length ∨ (a.length = b.length ∧ a ≤ b))
theorem intN_lt : ∀ a b : List Nat, intN a < intN b ↔ a < b
  | [], [] => by constructor <;> intro h <;> exact absurd h (List.lt_irrefl _)
  | [], y :: ys => by
    show (([] : List Int) < (y : Int) :: intN ys) ↔ _
    simp
  | x :: xs, [] => by
    show ((x : Int) :: intN xs < []) ↔ _
    simp
  | x :: xs, y :: ys => by
    show ((x : Int) :: intN xs < (y : Int) :: intN ys) ↔ _
    rw [List.cons_lt_cons_iff, List.cons_lt_cons_iff, intN_lt xs ys, Int.ofNat_lt, Int.ofNat_inj]
theorem intN_len (a : List Nat) : (intN a).length = a.length := List.length_map ..
theorem pys_intN : ∀ a : List Nat, (intN a).map PyData.int = pys (ordN a)
  | [] => rfl
  | x :: xs => congrArg (PyData.int (x : Int) :: ·) (pys_intN xs)
theorem key_le (v w : V) (a b : List Nat) : PySem.W.dataLe false (fun b : V × List Int => lenKey b.2) (v, intN a) (w, intN b) = lotLe a b := by
  show (!PySem.W.dataLt (.tuple [.int (intN b).length, .tuple ((intN b).map .int)]) (.tuple [.int (intN a).length, .tuple ((intN a).map .int)])) = _
  rw [PySem.W.dataLt_pair (by simp [PySem.W.alike]) (by rw [PySem.W.alike]; exact PySem.W.alike_ints _ _), PySem.W.dataLt_int, PySem.W.dataLt_tuple]
  have e1 : PyData.eqv (.int (intN b).length) (.int (intN a).length) = decide (b.length = a.length) := by
    show (((intN b).length : Int) == ((intN a).length : Int)) = _
    rw [intN_len, intN_len, Bool.eq_iff_iff, beq_iff_eq, decide_eq_true_eq, Int.ofNat_inj]
  have e2 : PyData.eqv (.tuple ((intN b).map .int)) (.tuple ((intN a).map .int)) = decide (b = a) := by
    show PyData.eqvAll _ _ = _
    rw [pys_intN, pys_intN, eqv_ints]
  rw [e1, e2]
  have e3 : PyProof.Rows.lexLt itemOrd (PySem.W.keyToksAll ((intN b).map .int)) (PySem.W.keyToksAll ((intN a).map .int)) = decide (b < a) := by
    rw [show PyProof.Rows.lexLt itemOrd (PySem.W.keyToksAll ((intN b).map .int)) (PySem.W.keyToksAll ((intN a).map .int)) = PySem.W.rowLt ((intN b).map .int) ((intN a).map .int) from rfl, PySem.W.dataLt_ints]
    exact decide_eq_decide.mpr (intN_lt b a)
  rw [e3]
  unfold lotLe
  rw [intN_len, intN_len]
  by_cases h1 : b.length = a.length
  · rw [if_pos (decide_eq_true h1)]
    by_cases h2 : b = a
    · rw [if_pos (decide_eq_true h2), h2]
      simp
    · rw [if_neg (by simpa using h2)]
      by_cases h3 : b < a
      · have : ¬ a ≤ b := fun z => List.not_lt.mpr z h3
        simp [h1, h3, this]
      · have : a ≤ b := List.not_lt.mp h3
        simp [h1, h3, this]
  · rw [if_neg (by simpa using h1)]
    have e4 : PySem.W.dataLt (.int b.length) (.int a.length) = decide (b.length < a.length) := by
      rw [PySem.W.dataLt_int]
      exact decide_eq_decide.mpr Int.ofNat_lt
    rw [Bool.eq_iff_iff]
    simp only [Bool.not_eq_true', decide_eq_false_iff_not, decide_eq_true_eq]
    omega
/-! ### what is sorted, as data -/
theorem repL_pairs {α : Type} {W : Wd} {c : α → D} : ∀ {zs : List (V × α)}, (∀ z ∈ zs, Rep W (c z.2) z.1) → RepL W (zs.map fun z => c z.2) (zs.map fun z => z.1)
  | [], _ => rfl
  | z :: zs, h => ⟨z.1, _, rfl, h z List.mem_cons_self, repL_pairs fun y hy => h y (List.mem_cons_of_mem _ hy)⟩
theorem pairs_rep {α : Type} {W : Wd} {c : α → D} : ∀ {l : List α} {vs : List V}, RepL W (l.map c) vs → ∀ z ∈ vs.zip l, Rep W (c z.2) z.1
  | [], _, _, z, hz => by simp at hz
  | a :: l, _, ⟨v, r, e, h1, h2⟩, z, hz => by
    rw [e, List.zip_cons_cons] at hz
    rcases List.mem_cons.mp hz with rfl | hz
    · exact h1
    · exact pairs_rep h2 z hz
theorem zip_fst {α : Type} {W : Wd} {c : α → D} {l : List α} {vs : List V} (h : RepL W (l.map c) vs) : (vs.zip l).map (·.1) = vs ∧ (vs.zip l).map (·.2) = l := by
  have e := h.length
  rw [List.length_map] at e
  exact ⟨List.map_fst_zip (by omega), List.map_snd_zip (by omega)⟩
/-- a list of pairs sorted by what stands for the second -/
theorem sort_rep {α β : Type} {W : Wd} {c : α → D} {l : List α} {vs : List V} {f : α → β} {r : V × β → V × β → Bool} {le : α → α → Bool} (h : RepL W (l.map c) vs) (hr : ∀ v w a b, r (v, f a) (w, f b) = le a b) :
    RepL W ((l.mergeSort le).map c) ((((vs.zip l).map fun z => (z.1, f z.2)).mergeSort r).map (·.1)) := by
  have e1 : ((vs.zip l).map fun z => (z.1, f z.2)).mergeSort r = ((vs.zip l).mergeSort fun y z => le y.2 z.2).map fun z => (z.1, f z.2) :=
    (List.map_mergeSort (f := fun z : V × α => (z.1, f z.2)) (s := r) (r := fun y z => le y.2 z.2) fun a _ b _ => (hr _ _ _ _).symm).symm
  have e2 : ((vs.zip l).mergeSort fun y z => le y.2 z.2).map (·.2) = l.mergeSort le := by
    rw [List.map_mergeSort (s := le) fun a _ b _ => rfl, (zip_fst h).2]
  rw [e1, List.map_map, ← e2, List.map_map]
  exact repL_pairs fun z hz => pairs_rep h z ((List.mergeSort_perm _ _).mem_iff.mp hz)
section
variable {K : PySem.W.Frag} {Γ : Gam} {Tt : List (Addr × Str)} {P : Addr} {q : Str} {i : Nat} {te : TE} {l : List (List Nat)} {Q : D → Gam → Prop}
/-- sorted(lots, key=lambda lot: (len(lot), lot)) -/
theorem dl_sortKL {s : Sl} (T : TabsOk Tt) (hP : (P, q) ∈ Tt) (hs : Γ[i]? = some s) (ht : TgS s) (h : EvB te Γ (tupsD l)) (hq : Q (.lst (tupsD (l.mergeSort lotLe))) Γ) : Dl (tSortKL K Tt P q te) Γ Q := fun F σ W R g k =>
  h F σ W _ g fun a vs H st e r => by
    have g0 : SR F Γ σ (W.at H) := g.same st
    have tb : TabIn (W.at H) := g.tabs hs ht
    refine ⟨a, (vs.zip l).map fun z => (z.1, intN z.2), rfl, .of ?_, fun b hb => ?_, tabs_of g0.ok T tb, fun H1 c T1 p hp => ?_⟩
    · rw [List.map_map]
      exact ((zip_fst r).1.symm ▸ e : H a = some (.lst ((vs.zip l).map (·.1))))
    · obtain ⟨z, hz, rfl⟩ := List.mem_map.mp hb
      obtain ⟨p, ep, hp⟩ := rep_key (pairs_rep r z hz)
      exact ⟨p, ep, hp.sq⟩
    · obtain ⟨st1, g1⟩ := g0.chg T hP tb c T1
      have g1 : SR F Γ σ (W.at H1) := g1
      have r1 : RepL (W.at H1) (tupsD l) vs := r.stp st1
      have r2 := sort_rep (f := intN) (r := PySem.W.dataLe false (fun b : V × List Int => lenKey b.2)) (le := lotLe) r1 key_le
      have sm := same_upd (H := H1) (o := .lst ((((vs.zip l).map fun z => (z.1, intN z.2)).mergeSort (PySem.W.dataLe false (fun b : V × List Int => lenKey b.2))).map (·.1))) hp
      exact k (.ref p) (W.at (upd H1 p _)) _ Γ (((Stp.of_same g.ok st).trans st1).trans (Stp.of_same (W := W.at H1) g1.ok sm)) (SR.same (W := W.at H1) sm g1) (rep_new_lst (W := W.at H1) g1.ok.dom hp r2) hq
end
/-! ### sorted of alike data -/
end Dw

/-! A def that makes a lambda for sorted. -/
namespace Dw
open PySem PySem.Spec PyProof.Rows L2 LamX
variable [Tabs0]
section
variable {P : Program} {w : World} {K : PySem.W.Frag} {mg : Str → Option Value} {base : Heap}
theorem fnC_ok {x qual : Str} {st : Stmt} {f c : Addr} {fd : FuncData} {N ps : List Str} {k : Nat} {s : Spc} (F : FunC K x qual st f fd c) (S : FnScope N ps (defScope st)) (len : ∀ x, (s.args x).length = ps.length)
    (hbody : ∀ (A : Around) (outer : List Env) (s' : Shared) (H : Hp) (E : XK), Room k (A.deeper (envOfC qual (defScope st) s'.heap.objs.size f (.ref c))) →
      ∃ t, PSs (cxOf CX0 P w K mg base N qual (defScope st) f (.ref c) A outer s' H E).nox (defBody st) t ∧ ∀ x, s.ok x → Ds t (Gz0 N.length (s.args x)) ⟨fun _ => s.rel x .non, s.rel x, fun _ => False, fun _ => False⟩) :
    FnOk P w K mg base CX0 (k + 1) f fd ps (toSp s) := by
  obtain ⟨oc, od, kV, doc, pm, an, ct, osl, rfl, lk, hcd⟩ := F.ex
  refine fn_of lk hcd S (spc_len len) fun A outer sh H vs Q E hr hsp => ?_
  obtain ⟨t, p, hb⟩ := hbody A outer sh H E hr
  exact ⟨t, p.nox, body_of hsp hb⟩
end
end Dw
namespace Dw
open PySem PySem.Spec PyProof.Rows L2
variable [Tabs0]
/-- an own list, lent for the time of a test -/
theorem evt_lend {Γ : Gam} {t : TT} {b : Bool} (i : Nat) {ds : List D} (hi : Γ[i]? = some (.own ds)) (h : EvT t (Γ.set i (.val (.lst ds))) b) : EvT t Γ b := fun F σ W Q g k => by
  obtain ⟨a, vs, hs, _⟩ := g.own i ds hi
  obtain ⟨st, g2⟩ := g.freeze hi hs
  exact h F σ ⟨W.H, fun b => W.U b ∧ b ≠ a, W.P⟩ Q g2 k
end Dw
namespace Dw
open PySem PySem.Spec PyProof.Rows L2
variable [Tabs0]
end Dw

/-! told of what changes tables; several tables. -/
namespace Dw
open PySem PySem.Spec PyProof.Rows L2 LamX
variable [Tabs0]
section
variable {K : PySem.W.Frag} {Γ : Gam} {Tt : List (Addr × Str)} {P : Addr} {q wd : Str} {c1 c2 : Value} {n ie i : Nat} {ts : Addr → Value → Option Addr → TS} {t : XK → TE} {Q Q1 : D → Gam → Prop}
end
section
variable {Γ : Gam} {s : Spc} {sp : Sp} {ta tk : TA} {E : XK} {ds es : List D} {Q : D → Gam → Prop}
theorem dl_call_or (h : DlA ta Γ fun ds Γ1 => ∃ x, ds = s.args x ∧ s.ok x ∧ ∀ d, s.rel x d → Q d Γ1) : Dl (tCall (spOr (toSp s) sp) [] E ta) Γ Q := fun F σ W R g k => h F σ W _ g fun vs W1 ds Γ1 st g1 r ⟨x, e, ok, q⟩ => by
  subst e
  rw [List.append_nil]
  exact .inl ⟨x, _, W1, rfl, g1.callOk, r, ok, fun d v W' hd st' ok' r' => k v W' d Γ1 (st.trans (st'.sub fun _ z => .inl z)) (g1.call st' ok') r' (q d hd)⟩
end
end Dw
namespace Dw
open PySem
theorem mem_lk {p : Addr} {q : Str} : ∀ {l : List (Addr × Str)}, l.lookup p = some q → (p, q) ∈ l
  | [], h => by cases h
  | a :: l, h => by
    cases e : p == a.1 with
    | true =>
      rw [List.lookup, e] at h
      have h : some a.2 = some q := h
      have e1 : p = a.1 := by simpa using e
      rw [e1, ← Option.some.inj h]
      exact List.mem_cons_self
    | false =>
      rw [List.lookup, e] at h
      exact List.mem_cons_of_mem _ (mem_lk h)
/-- tables by their list -/
theorem tabsOk_of {l : List (Addr × Str)} (nd : (l.map (·.1)).Nodup) : @TabsOk ⟨fun a => l.lookup a⟩ l := by
  refine @TabsOk.mk ⟨fun a => l.lookup a⟩ l (fun p hp => ?_) fun p q z => mem_lk z
  show l.lookup p.1 = some p.2
  induction l with
  | nil => cases hp
  | cons a l ih =>
    obtain ⟨n1, n2⟩ := List.nodup_cons.mp nd
    rcases List.mem_cons.mp hp with rfl | hp
    · simp [List.lookup]
    · have : p.1 ≠ a.1 := fun z => n1 (List.mem_map.mpr ⟨p, hp, z⟩)
      have e : (p.1 == a.1) = false := by simpa using this
      rw [List.lookup, e]
      exact ih n2 hp
theorem f_cons {α : Type} {P : α → Prop} {a : α} {l : List α} (h : P a) (t : ∀ p ∈ l, P p) : ∀ p ∈ a :: l, P p := fun p hp => (List.mem_cons.mp hp).elim (fun e => e ▸ h) (t p)
theorem f_nil {α : Type} {P : α → Prop} : ∀ p ∈ ([] : List α), P p := fun _ h => absurd h (by simp)
end Dw

/-! sorted(set(xs)), xs a list of whole numbers. -/
namespace Dw
open PySem PySem.Spec PyProof.Rows L2
variable [Tabs0]
section
variable {P : Program} {w : World} {A : Around} {E : Value → Shared → Prop} {s : Shared}
end
def rSetL (K : PySem.W.Frag) (w : World) : List V → Hp → VK → Prop := fun vs H Q => ∃ (a : Addr) (ns : List Int), vs = [V.ref a] ∧ SqL K H a (ns.map V.int) ∧ ns.length < 64 ∧
  ∀ (p : Addr) (c : Nat), H p = none → c ≤ ns.length → Q (.ref p) (upd H p (SetO w p (fun j => decide (j ∈ ns)) c))
end Dw

/-! own dicts: d = {}, d[k] = v, d[k] -/
namespace Dw
open PySem PySem.Spec PyProof.Rows L2
variable [Tabs0]
section
variable {K : PySem.W.Frag} {Γ : Gam} {ta tb te tk ty : TE} {De : DE} {ds : List D} {d : D}
end
end Dw

/-! str, repr, bool, == and != of objects whose class has its own __str__, __repr__, __eq__ (and no __bool__, __len__, __ne__). -/
namespace Dw
open PySem PySem.Spec PyProof.Rows L2
section
variable {X : Cx}
/-- a def of the text, called somewhere below the running body -/
theorem run_below {k : Nat} {f : Addr} {fd : FuncData} {ps : List Str} {sp : Sp} (F : FnOk X.prog X.w X.K X.mg X.base CX0 k f fd ps sp) {A : Around} (hr : Room k A) (fr : A.frames = X.A.frames) (hb : Binds X.K fd ps [])
    {pins : List (Addr × Obj)} {σ : L2.St} {H : Hp} {s : Shared} {us : List Value} {vs : List V} {Q : VK} {E1 : Value → Shared → Prop} (I : Inv X pins σ H s) (r : Vals vs us) (hsp : sp vs H Q E0) {R : Value → Shared → Prop}
    (hR : ∀ u s', EP X pins σ Q u s' → R u s') : wpAny (model X.prog X.w) A (call (.ref f) us) R E1 s := by
  have e0 : Env0 X.prog X.w X.K X.mg X.base A X.stack s H := by
    have e := I.env0
    exact ⟨by rw [fr]; exact e.frames, e.mod, e.bs, e.bsz, e.funs, e.frf, e.hok, e.bare⟩
  have hl : us.length = ps.length := by rw [← r.length]; exact F.len _ _ _ _ hsp
  have b := hb s us I.kIn (by rw [List.append_nil]; exact hl)
  rw [List.append_nil] at b
  refine wpAny_call (codeAny_mono (F.run A X.stack s H ⟨us, []⟩ us vs Q E0 hr e0 b r hsp) fun r s' hq => ?_)
  match r, hq with
  | .error e, hq => exact (show False from hq).elim
  | .ok .next, hq => exact (show False from hq).elim
  | .ok .brk, hq => exact (show False from hq).elim
  | .ok .cont, hq => exact (show False from hq).elim
  | .ok (.ret u), hq => exact hR _ _ (I.after hq)
/-- str(x), repr(x): the own def gives a text -/
def rOwn1 (C : Addr) (sp : Sp) : List V → Hp → VK → Prop := fun xs H Q => ∃ (a dx : Addr) (fs : List (Str × V)), xs = [.ref a] ∧ H a = some (.ins C dx fs) ∧ sp [.ref a] H (fun v H' => (∃ x, v = .str x) ∧ Q v H') E0
theorem str_back {pins : List (Addr × Obj)} {σ : L2.St} {Q : VK} {u : Value} {s' : Shared} (h : EP X pins σ (fun v H' => (∃ x, v = .str x) ∧ Q v H') u s') : PySem.W.StrBack (EP X pins σ Q) u s' := by
  obtain ⟨v, H', I', r, ⟨x, rfl⟩, q⟩ := h
  obtain ⟨t, rfl⟩ := r
  exact ⟨.str x, H', I', ⟨t, rfl⟩, q⟩
variable {C f : Addr} {fd : FuncData} {p : Str} {n : Nat} {sp : Sp}
theorem cr_strOwn (F : FnOk X.prog X.w X.K X.mg X.base CX0 n f fd [p] sp) (hr : Room (n + 2) X.A) (hs : PySem.W.findIn X.K (.ref C) "__str__" = some (some (.ref f))) (hf : PySem.W.isFn X.K (.ref f) = true) (hb : Binds X.K fd [p] []) : CallR X (.type "str") (rOwn1 C sp) := by
  intro pins s σ H xs us Q I r h
  obtain ⟨a, dx, fs, rfl, ha, hsp⟩ := h
  obtain ⟨u, rfl, ru⟩ := vals1 r
  cases ru
  obtain ⟨mA, J, _⟩ := ins_get I.hok ha
  obtain ⟨od, J, _⟩ := J.look
  refine PySem.W.kso_call (by have := hr.un; show X.A.units + 1 + 1 < cLine; omega) I.kIn J hs hf ?_
  exact run_below F hr.in1.in1 rfl hb I (vs := [V.ref a]) (us := [Value.ref a]) (.cons rfl .nil) hsp fun u s' h => str_back h
/-! ### == and != -/
variable {p2 : Str}
open Builtin in
open Builtin in
/-! ### bool(x) -/
end
end Dw

/-! try .. except C: suite, within a def, by data. -/
namespace Dw
open PySem PySem.Spec PyProof.Rows L2
variable [Tabs0]
section
variable {K : PySem.W.Frag} {c : Value} {ts : Addr → Value → Option Addr → TS} {tb : WX → TS} {Γ : Gam} {De : DE} {x : Exn} {d : D}
end
end Dw

/-! An __init__ that stores its fields, or raises; str, repr, bool, == and != of objects, by data. -/
namespace Dw
open PySem PySem.Spec PyProof.Rows L2 LamX
variable [Tabs0]
section
variable {P : Program} {w : World} {K : PySem.W.Frag} {mg : Str → Option Value} {base : Heap} {C : Addr} {s : Spc} {sx : SpcX}
end
section
variable {Γ : Gam} {s : Spc} {sx : SpcX} {sp : Sp} {C : Addr} {ta : TA} {E : XK} {ns : List Str} {R : Option Addr → Hp → Prop}
end
/-! ### str(x), repr(x), bool(x), x == y, x != y -/
section
variable {Γ : Gam} {s : Spc} {C : Addr} {ta tb : TE} {K : PySem.W.Frag} {ns : List Str} {ds : List D} {dy : D} {b : Bool} {z : Str}
theorem ev_own1 {x : s.ty} (h : Ev ta Γ (.obj C ns ds)) (ha : s.args x = [.obj C ns ds]) (np : noPs (s.args x) = true) (ok : s.ok x) (hd : ∀ d', s.rel x d' → d' = .str z) : Ev (tCB (rOwn1 C (toSp s)) (tCons ta tNil)) Γ (.str z) := fun F σ W Q g k => h F σ W _ g fun v H st r => by
  obtain ⟨a, dx, vs, rfl, hH, nu, l, rr⟩ := r
  refine ⟨a, dx, _, rfl, hH, ?_⟩
  have r0 : RepL (W.at H) (s.args x) [.ref a] := by rw [ha]; exact RepL.one ⟨a, dx, vs, rfl, hH, nu, l, rr⟩
  exact pure_call (W := W.at H) (g.same st) (fun _ z => z) (RepL.delP _ _ np r0) ok fun d' v H' hd' s' r' => by
    rw [hd d' hd'] at r'
    exact ⟨⟨z, r'⟩, k v H' (Same.trans st s') (Rep.addP (W := W) r')⟩
end
end Dw

/-! repr of any data, and of {}. -/
namespace Dw
open PySem PySem.Spec PyProof.Rows L2 LamX
def rReprE : List V → Hp → VK → Prop := fun xs H Q => ∃ a : Addr, xs = [.ref a] ∧ H a = some (.dK []) ∧ Q (.str "{}") H
theorem cr_reprE {X : Cx} (hu : X.A.units + 66 < PySem.cLine) (hG : X.A.guards = some []) : CallR X (.builtin "repr") rReprE := by
  intro pins s σ H xs us Q I r h
  obtain ⟨a, rfl, ha, q⟩ := h
  obtain ⟨u, rfl, ru⟩ := vals1 r
  cases ru
  obtain ⟨_, hsys, vs, hv, o, es, ep, he, hx, hd, _, hp, _⟩ := (show ObjOk X.prog X.w H s.heap a (.dK []) from I.hok a _ ha)
  have e0 : vs = [] := by cases hv; rfl
  subst e0
  have e1 : es.toList = [] := by cases q : es.toList with
    | nil => rfl
    | cons x l => rw [q] at hp; cases hp
  have rd : Reads s.heap (.ref a) (.dict []) (a :: [] ++ []) := .dict he hx.1 hd (by rw [e1]; exact .nil) (by rw [e1]; exact .nil)
  refine repr_of_reads' rd rfl (fun _ hm => ?_) hG (by have d1 : PyData.depth (.dict []) ≤ 1 := (by decide); omega) (fun _ _ e => e) (fun h' u tk hk => ⟨.str "{}", H, I.kept (t' := tk) hk, ⟨_, rfl⟩, q⟩) (by decide)
  rw [List.append_nil] at hm
  have := List.mem_singleton.mp hm
  rw [← this, beq_self_eq_true] at hsys
  cases hsys
variable [Tabs0]
def rReprY (K : PySem.W.Frag) : List V → Hp → VK → Prop := fun xs H Q => rReprX K xs H Q ∨ rReprE xs H Q
theorem cr_reprY {X : Cx} (hu : X.A.units + 66 < PySem.cLine) (hG : X.A.guards = some []) : CallR X (.builtin "repr") (rReprY X.K) := fun pins s σ H xs us Q I r h => h.elim (cr_reprX hu hG pins s σ H xs us Q I r) (cr_reprE hu hG pins s σ H xs us Q I r)
theorem reprY {X : Cx} {k : Nat} (K : PySem.W.Frag) (hr : Room k X.A) (hG : X.A.guards = some []) (hK : X.K = K := by rfl) : CallR X (.builtin "repr") (rReprY K) := hK ▸ cr_reprY (by have := hr.un; omega) hG
theorem reprHY {X : Cx} {k : Nat} (K : PySem.W.Frag) (hr : L2H.RoomH k X.A) (hG : X.A.guards = some []) (hK : X.K = K := by rfl) : CallR X (.builtin "repr") (rReprY K) := hK ▸ cr_reprY (by have := hr.un; omega) hG
/-- the text that repr gives of a datum -/
def RpD (d : D) (z : Str) : Prop := (∃ k, k ≤ 64 ∧ dOk k d = true ∧ shOk d = true ∧ shB d ≤ sizeLine ∧ z = PyData.shown (py d)) ∨ (d = .dct [] [] ∧ z = "{}")
theorem rep_reprY {K : PySem.W.Frag} {W : Wd} {v : V} {d : D} {z : Str} {Q : VK} (r : Rep W d v) (h : RpD d z) (q : Q (.str z) W.H) : rReprY K [v] W.H Q := by
  rcases h with ⟨k, hk, h1, h2, h3, rfl⟩ | ⟨rfl, rfl⟩
  · exact .inl (rep_reprX r h1 hk h2 h3 q)
  · obtain ⟨a, vs, rfl, h, _⟩ := r
    exact .inr ⟨a, rfl, h, q⟩
section
variable {K : PySem.W.Frag} {Γ : Gam} {te : TE} {d : D} {z : Str} {x : Exn} {ed : Option Addr}
end
end Dw

/-! f(lambda: body, y): a def that calls what it got, in a try, and reads its second argument where it catches. -/
namespace Dw
open PySem PySem.Spec PyProof.Rows L2 LamX
section
variable {X : Cx} {pins : List (Addr × Obj)} {σ : L2.St} {H : Hp} {s : Shared}
end
section
variable {X : Cx} {pins : List (Addr × Obj)} {σ : L2.St} {H : Hp} {s : Shared}
end
section
variable {X : Cx}
end
end Dw

/-! f(lambda: body, y): try: return a() / except C as e: suite, that reads e and y. -/
namespace Dw
open PySem PySem.Spec PyProof.Rows L2 LamX
variable [Tabs0]
section
variable {K : PySem.W.Frag} {Γ : Gam} {Tt : List (Addr × Str)} {P : Addr} {q : Str} {c1 : Value} {ie i j : Nat} {Ng : List Str} {sl : Sl} {ts : Addr → Value → Option Addr → TS} {t : XK → TE} {Q : D → Gam → Prop} {d dj : D} {x : Exn}
end
end Dw

/-! C(name=value), f'..{i}..', x == C(..), xs[k], xs[j] = xs[j], xs[k]. -/
namespace Dw
open PySem PySem.Spec PyProof.Rows L2 LamX HT
variable [Tabs0]
section
variable {Γ : Gam} {s : Spc} {sp : Sp} {C : Addr} {tk : TA} {E : XK} {ns : List Str} {e : D}
end
/-- f'a{i}b' -/
theorem ev_fstrI {Γ : Gam} {te : TE} {i : Int} {a b : Str} (h : Ev te Γ (.int i)) (hz : i.natAbs.log2 < 1920) (h1 : (Str.empty ++ a).length ≤ sizeLine) (h2 : (Str.empty ++ a ++ Str.ofString (toString i)).length ≤ sizeLine) (h3 : (Str.empty ++ a ++ Str.ofString (toString i) ++ b).length ≤ sizeLine) :
    Ev (fun σ H Q => tJs [tC (.str a), tFmt te, tC (.str b)] Str.empty σ H fun out H1 => Q (.str out) H1) Γ (.str (Str.empty ++ a ++ Str.ofString (toString i) ++ b)) := fun F σ W Q g k => by
  refine ⟨a, rfl, h1, h F σ W _ g fun v H s r => ?_⟩
  have r : v = .int i := r
  exact .inr ⟨i, r, hz, _, rfl, h2, b, rfl, h3, k _ H s rfl⟩
section
variable {Γ : Gam} {s : Spc} {C : Addr} {ta tb : TE} {K : PySem.W.Frag} {ns : List Str} {ds : List D} {b : Bool}
end
end Dw
namespace Dw
open PySem PySem.Spec PyProof.Rows L2
variable [Tabs0]
/-- str(text) -/
theorem ev_strS {Γ : Gam} {ta : TE} {a : Str} (h : Ev ta Γ (.str a)) : Ev (tCB (fun xs H Q => ∃ a, xs = [.str a] ∧ Q (.str a) H) (tCons ta tNil)) Γ (.str a) := fun F σ W Q g k => h F σ W _ g fun v H s r => ⟨a, by rw [show v = V.str a from r], k _ H s rfl⟩
end Dw

/-! x == y, where y may be of another own class; not in a tuple of pairs; readings of one kind or the other. -/
namespace Dw
open PySem PySem.Spec PyProof.Rows L2
section
variable {X : Cx}
variable {C f : Addr} {fd : FuncData} {p p2 : Str} {n : Nat} {sp : Sp}
end
variable [Tabs0]
section
variable {Γ : Gam} {t u : TE} {r r' : R2} {x y d : D}
end
section
variable {Γ : Gam} {s : Spc} {C : Addr} {ta tb : TE} {K : PySem.W.Frag} {ns : List Str} {ds : List D} {dy : D} {b : Bool}
end
end Dw

/-! str(C(..)): of an object that is made, or not. -/
namespace Dw
open PySem PySem.Spec PyProof.Rows L2 LamX
variable [Tabs0]
section
variable {Γ : Gam} {s : Spc} {C : Addr} {ta : TE} {x : Exn} {R : Option Addr → Hp → Prop} {r : List V → Hp → VK → Prop}
end
end Dw

/-! e.replace of written texts in a list, behind an item that gives a token out. -/
namespace Dw
open PySem PySem.Spec PyProof.Rows L2 CwR
section
variable {X : Cx} {e f : Expr} {es : List Expr} {ta tb : TE} {tr : TA} {pos : Pos}
end
variable [Tabs0]
end Dw

/-! set(xs), sorted(set(xs)), len(set(xs)) of a list of texts. -/
namespace Dw
open PySem PySem.Spec PyProof.Rows L2 PySem.Froz
variable [Tabs0]
/-- the set at a holds the texts l -/
def TxS (P : Program) (w : World) (h : Heap) (a : Addr) (l : List Str) : Prop :=
  ∃ D : SD, h.get? a = some (sObj "set" D) ∧ TxOk P w D l ∧ l.Nodup ∧ Ris D.2.2.place.toList ∧ (w.params.followText "set-order" = true ∨ D.2.2.led = true)
section
variable {P : Program} {w : World} {A : Around} {E : Value → Shared → Prop} {s : Shared}
theorem TxS.at {h h' : Heap} {a : Addr} {l : List Str} (R : TxS P w h a l) (k : ∀ o, h.get? a = some o → h'.get? a = some o) : TxS P w h' a l := by
  obtain ⟨D, e, r⟩ := R
  exact ⟨D, k _ e, r⟩
end
end Dw

/-! repr([x]), repr((x,)): x an object of an own class with its own __repr__. -/
namespace Dw
open PySem PySem.Spec PyProof.Rows L2
open Builtin Builtin.List
section
variable {P : Program} {w : World} {A : Around} {E : Value → Shared → Prop} {s : Shared} {K : PySem.W.Frag} {C f : Addr}
/-- an own object within a container's repr -/
theorem under_own {n : Nat} {x : Addr} {ox : Obj} {od : Option Obj} {Q : Str → Shared → Prop} (hn : n ≤ sizeLine) (hu : A.units < cLine) (X : K.In s.heap) (I : PySem.W.InstAt s.heap x ox C od) (hs : PySem.W.findIn K (.ref C) "__repr__" = some (some (.ref f))) (hf : PySem.W.isFn K (.ref f) = true)
    (h : wpAny (model P w) A (call (.ref f) [.ref x]) (fun v z => ∃ t u, v = .str t u ∧ Q t z) E s) : wpAny (model P w) A (pyReprUnder n (.ref x)) Q E s := by
  refine wpAny_pyReprUnder_ref hn ?_
  unfold pyReprObjUnder pyReprObjBy
  refine wpAny_bind (wpAny_cRoomFor hu ?_)
  refine wpAny_bind (wpAny_bind (I.type.here ((PySem.W.looks_findIn X hs).here ?_)))
  show wpAny _ _ (if (some (Value.ref f)).isNone = true then _ else _) _ _ _
  rw [if_neg (by simp)]
  have fin : wpAny (model P w) A (call (.ref f) ([.ref x] ++ []) >>= fun v => pure (some v)) (fun r z => ∃ t u, r = some (Value.str t u) ∧ Q t z) E s :=
    wpAny_bind (wpAny_mono h (fun v z ⟨t, u, e, q⟩ => wpAny_pure ⟨t, u, congrArg some e, q⟩) fun _ _ y => y)
  refine wpAny_bind (m := callSpecialIfBoundBy? _ (.ref x) (Str.ofString "__repr__")) (wpAny_mono (Q := fun r z => ∃ t u, r = some (Value.str t u) ∧ Q t z) ?_ (fun r z ⟨t, u, e, q⟩ => ?_) fun _ _ y => y)
  · simp only [callSpecialIfBoundBy?, bindSpecialIfBound?]
    refine wpAny_holding (wpAny_bind (wpAny_bind (wpAny_bind (I.type.here ((PySem.W.looks_findIn X hs).here ?_)))))
    refine wpAny_bind (wpAny_askSetting (wpAny_ite ?_))
    split
    · exact wpAny_bind ((PySem.W.bind_fn X _ (beq_iff_eq.mp hf)).here (wpAny_pure (by exact fin)))
    · exact wpAny_tryCatch (wpAny_bind ((PySem.W.bind_fn X _ (beq_iff_eq.mp hf)).here (wpAny_pure (by exact fin))))
  · subst e
    refine wpAny_bind (wpAny_isInstance (typeIs_str _ _ _) isSubtype_str_str ?_)
    first
      | exact wpAny_pure ⟨_, _, rfl, q⟩
      | (simp only [if_true]; exact wpAny_pure ⟨_, _, rfl, q⟩)
abbrev emptyO : Obj := { cls := .type "list", data := .seq ([] : List Value).toArray }
/-- what the one item gives: whatever stands around, its text; R holds behind it, and the container stays -/
def OneItem (P : Program) (w : World) (A : Around) (E : Value → Shared → Prop) (x : Value) (t : Str) (s1 : Shared) (R : Shared → Prop) : Prop :=
  ∀ (A' : Around) (n : Nat) (Q' : Str → Shared → Prop), A'.handled = A.handled → A'.frames = A.frames → A'.depth ≤ A.depth + 3 → A'.units ≤ A.units + 3 → n ≤ sizeLine → (∀ z, R z → Q' t z) → wpAny (model P w) A' (pyReprUnder n x) Q' E s1
theorem wt_loop (args : Args) : (Code.builtin "list.__repr__.loop" args).weight = 1 := by kernel_rfl
theorem wt_tup (args : Args) : (Code.builtin "tuple.__repr__" args).weight = 1 := by kernel_rfl
theorem listText1 (t : Str) : listText [t] = ("[" : Str) ++ ("" : String) ++ t ++ "]" := rfl
theorem list_one {a : Addr} {oa : Obj} {na : Nat} {x : Value} {t : Str} {R : Shared → Prop} {Q : Value → Shared → Prop} (hg : A.guards = some []) (hu : A.units + 10 < cLine) (ha : s.heap.get? a = some oa) (hc : oa.cls = .type "list") (hd : oa.data = .seq #[x] na) (hz : (listText [t]).length ≤ 100000)
    (item : OneItem P w A E x t { s with heap := s.heap.push emptyO } R) (hR : ∀ z, R z → (∃ (o : Obj) (n : Nat) (y : Value), z.heap.get? a = some o ∧ o.data = .seq #[y] n) ∧ z.heap.get? s.heap.objs.size = some emptyO)
    (k : ∀ z g u tk, R z → (∀ b o, b ≠ s.heap.objs.size → z.heap.get? b = some o → g.get? b = some o) → Q (.str (listText [t]) u) { z with heap := g, toks := tk }) : wpAny (model P w) A (call (.builtin "repr") [.ref a]) Q E s := by
  have sz : sizeLine = 16777216 := sizeLine_eq
  have ht : t.length ≤ 100000 := by
    have := piled_le_listText [t]
    rw [piled_cons, piled_nil] at this; omega
  have ty : s.TypeIs (.ref a) "list" := ⟨oa, ha, hc⟩
  refine Calls.call_function_entry PySem.F.kind_repr PySem.F.plain_repr PySem.F.entry_repr (PySem.F.args_repr1 _) ?_
  unfold Builtin.«repr»
  refine wpAny_bind (m := oneArg "repr" _) (wpAny_pure ?_)
  refine wpAny_bind (wpAny_cRoomFor (by show A.units + 1 < cLine; omega) ?_)
  refine wpAny_bind (wpAny_specialOf (name := Str.ofString "__repr__") ty F.slot_list_repr.lookup ?_)
  refine wpAny_bind (m := callSpecialIfBound? (.ref a) (Str.ofString "__repr__")) (wpAny_callSpecialIfBound?_slot (name := Str.ofString "__repr__") ty F.slot_list_repr (wpAny_mono (Q := fun v z => ∃ u, v = Value.str (listText [t]) u ∧ Q v z) ?_ (fun v z ⟨u, e, q⟩ => ?ps) fun _ _ y => y))
  case ps =>
    subst e
    refine wpAny_bind (wpAny_isInstance (typeIs_str _ _ _) isSubtype_str_str ?_)
    first
      | exact wpAny_pure ⟨_, rfl, q⟩
      | (simp only [if_true]; exact wpAny_pure ⟨_, rfl, q⟩)
  refine wpAny_call (codeAny_call_builtin F.slot_list_repr.plain F.entry_list_repr (F.slot_list_repr.check _ _ _ _ _ _ _ _ ty (F.args_list_repr_1 _) ?_))
  refine wpAny_list_repr_head (b := 0) (g := []) (l := []) hg (fun _ _ _ m => nomatch m) ha hd ?_
  refine wpAny_bind (wpAny_newList ?_ (by decide))
  have o1 : (s.heap.push emptyO).get? a = some oa := Heap.get?_push_of_some _ ha
  refine wpAny_pure ⟨F.quiet_list_repr_loop _, codeAny_builtin F.entry_list_repr_loop ?_⟩
  show wpAny _ _ («list.__repr__.loop» ⟨[.ref a, .int ((0 : Nat) : Int) 0, .ref s.heap.objs.size, .int ((0 : Nat) : Int) 0], []⟩) _ _ _
  rw [repr_loop_tree]
  refine wpAny_bind (wpAny_listItems o1 hd ?_)
  simp only [Int.toNat_natCast]
  show wpAny _ _ (do let v ← holding [x] (pyReprUnder (0 + 1) x); _) _ _ _
  refine wpAny_bind (wpAny_holding (wpAny_mono (item _ 1 (fun v z => v = t ∧ R z) (by first | rfl | simp [Around.under]) (by first | rfl | simp [Around.under, Code.envs, pushEnvs]) (by show A.in1.in1.depth + _ ≤ _; rw [wt_loop]; simp) (Nat.le_trans (Nat.le_of_eq (units_under_list_loop _ _)) (by simp; try omega)) (by rw [sz]; omega) fun z r => ⟨rfl, r⟩) (fun v z ⟨ev, r⟩ => ?_) fun _ _ y => y))
  have ev := ev.symm
  subst ev
  obtain ⟨⟨o2, n2, y2, h1, hd2⟩, h2⟩ := hR z r
  refine wpAny_bind (wpAny_mkStr ?_ (by rw [sz]; omega))
  refine wpAny_bind ?_
  show wpAny _ _ (updateSeq s.heap.objs.size _) _ _ _
  refine wpAny_updateSeq h2 rfl (wpAny_pure ⟨F.quiet_list_repr_loop _, codeAny_builtin F.entry_list_repr_loop ?_⟩) (by decide)
  have na2 : s.heap.objs.size ≠ a := fun e => absurd (Heap.lt_size ha) (by rw [e]; exact Nat.lt_irrefl _)
  have g2 := Heap.get?_update_self (Obj.mapSeq (·.push (Value.str t z.toks))) h2 rfl
  show wpAny _ _ («list.__repr__.loop» ⟨[.ref a, .int ((0 : Nat) + 1 : Int) 0, .ref s.heap.objs.size, .int (((0 : Nat) : Int).toNat + (t.length + 2) : Nat) 0], []⟩) _ _ _
  rw [repr_loop_tree]
  refine wpAny_bind (wpAny_listItems ((Heap.get?_update_other _ _ na2).trans h1) hd2 ?_)
  show wpAny _ _ (reprEnd (.ref s.heap.objs.size)) _ _ _
  unfold reprEnd
  refine wpAny_bind (wpAny_listItems g2 rfl ?_)
  have fold := repr_fold [(t, z.toks)] 0 "["
  have fold' : (forIn (((([] : List Value).toArray).push (Value.str t z.toks)).toList.zipIdx) ("[" : Str) reprBody : Sem Str) = pure (textFrom 0 "[" [t]) := fold
  rw [fold']
  refine wpAny_bind (wpAny_pure ?_)
  exact wpAny_bind (wpAny_mkStr (wpAny_pure ⟨_, rfl, k z _ _ _ r fun b o nb e => (Heap.get?_update_other _ _ (Ne.symm nb)).trans e⟩) (by show (listText [t]).length ≤ sizeLine; omega))
theorem tup_one {a : Addr} {oa : Obj} {na : Nat} {x : Value} {t : Str} {R : Shared → Prop} {Q : Value → Shared → Prop} (hg : A.guards = some []) (hu : A.units + 10 < cLine) (ha : s.heap.get? a = some oa) (hc : oa.cls = .type "tuple") (hd : oa.data = .seq #[x] na) (hz : (tupleText [t]).length ≤ 100000)
    (item : OneItem P w A E x t s R) (k : ∀ z u tk, R z → Q (.str (tupleText [t]) u) { z with toks := tk }) : wpAny (model P w) A (call (.builtin "repr") [.ref a]) Q E s := by
  have sz : sizeLine = 16777216 := sizeLine_eq
  have ty : s.TypeIs (.ref a) "tuple" := ⟨oa, ha, hc⟩
  refine Calls.call_function_entry PySem.F.kind_repr PySem.F.plain_repr PySem.F.entry_repr (PySem.F.args_repr1 _) ?_
  unfold Builtin.«repr»
  refine wpAny_bind (m := oneArg "repr" _) (wpAny_pure ?_)
  refine wpAny_bind (wpAny_cRoomFor (by show A.units + 1 < cLine; omega) ?_)
  refine wpAny_bind (wpAny_specialOf (name := Str.ofString "__repr__") ty F.slot_tuple_repr.lookup ?_)
  refine wpAny_bind (m := callSpecialIfBound? (.ref a) (Str.ofString "__repr__")) (wpAny_callSpecialIfBound?_slotG (name := Str.ofString "__repr__") ty F.slot_tuple_repr (wpAny_mono (Q := fun v z => ∃ u, v = Value.str (tupleText [t]) u ∧ Q v z) ?_ (fun v z ⟨u, e, q⟩ => ?ps) fun _ _ y => y))
  case ps =>
    subst e
    refine wpAny_bind (wpAny_isInstance (typeIs_str _ _ _) isSubtype_str_str ?_)
    first
      | exact wpAny_pure ⟨_, rfl, q⟩
      | (simp only [if_true]; exact wpAny_pure ⟨_, rfl, q⟩)
  refine wpAny_call (codeAny_call_builtin_own (Code.quiet_builtin _ (by decide +kernel)) F.entry_tuple_repr (F.slot_tuple_repr.check _ _ _ _ _ _ _ _ ty (F.args_tuple_repr_1 _) ?_))
  show wpOwn _ _ _ (Builtin.tupleReprAt 0 ⟨[.ref a], []⟩) _ _ _
  rw [tuple_repr_tree, tupleReprUnderWay_eq]
  refine wpOwn_bind (wpOwn_stackTailAny (g := []) hg (tupGuardF_off _) (tupGuardF_pos _) ?_)
  refine wpOwn_of_wpAny ?_
  show wpAny _ _ (if false = true then _ else _) _ _ _
  rw [if_neg Bool.false_ne_true]
  unfold tupleReprRest Builtin.Tuple.tupleItemsOf
  refine wpAny_bind (wpAny_bind (wpAny_seqItems ha hd (wpAny_pure ?_)))
  rw [← Array.forIn_toList]
  show wpAny _ _ (forIn [x] _ tupBody >>= _) _ _ _
  rw [List.forIn_cons]
  refine wpAny_bind (wpAny_bind (wpAny_bind (wpAny_mono (item _ 1 (fun v z => v = t ∧ R z) (by first | rfl | simp [Around.under]) (by first | rfl | simp [Around.under, Code.envs, pushEnvs]) (by show A.in1.depth + _ ≤ _; rw [wt_tup]; show A.depth + 1 ≤ _; omega) (Nat.le_trans (Nat.le_of_eq (units_under_tuple_repr _ _)) (by simp; try omega)) (by rw [sz]; omega) fun z r => ⟨rfl, r⟩) (fun v z ⟨ev, r⟩ => ?_) fun _ _ y => y)))
  have ev := ev.symm
  subst ev
  refine wpAny_pure ?_
  show wpAny _ _ (forIn ([] : List Value) _ tupBody) _ _ _
  rw [List.forIn_nil]
  refine wpAny_pure ?_
  exact wpAny_bind (wpAny_mkStr (wpAny_pure ⟨_, rfl, k z _ _ r⟩) (by show (tupleText [t]).length ≤ sizeLine; omega))
end
abbrev rOr1 (r r' : List V → Hp → VK → Prop) : List V → Hp → VK → Prop := fun xs H Q => r xs H Q ∨ r' xs H Q
/-- repr([x]), repr((x,)) -/
def rReprO (K : PySem.W.Frag) (C : Addr) (sp : Sp) : List V → Hp → VK → Prop := fun xs H Q => ∃ (l a dx : Addr) (fs : List (Str × V)) (t : Str), xs = [.ref l] ∧ H a = some (.ins C dx fs) ∧ t.length ≤ 1000 ∧
  ((SqL K H l [.ref a] ∧ sp [.ref a] H (fun v H' => v = .str t ∧ SqL K H' l [.ref a] ∧ Q (.str (listText [t])) H') E0) ∨ (SqT K H l [.ref a] ∧ sp [.ref a] H (fun v H' => v = .str t ∧ Q (.str (tupleText [t])) H') E0))
/-- what calls the def below the running body -/
abbrev Runs (X : Cx) (f : Addr) (sp : Sp) : Prop := ∀ (A : Around) (pins : List (Addr × Obj)) (σ : L2.St) (H : Hp) (s : Shared) (us : List Value) (vs : List V) (Q : VK) (E1 : Value → Shared → Prop) (R : Value → Shared → Prop), A.handled = X.A.handled → A.frames = X.A.frames → A.depth ≤ X.A.depth + 3 → A.units ≤ X.A.units + 3 →
  Inv X pins σ H s → Vals vs us → sp vs H Q E0 → (∀ u s', EP X pins σ Q u s' → R u s') → wpAny (model X.prog X.w) A (call (.ref f) us) R E1 s
theorem one_its {vs : List Value} {a : Addr} (r : Vals [V.ref a] vs) : vs = [.ref a] := by
  cases r with
  | cons r1 r2 => cases r2; cases r1; rfl
theorem text1_len {t : Str} (h : t.length ≤ 1000) : (listText [t]).length ≤ 100000 ∧ (tupleText [t]).length ≤ 100000 := by
  constructor
  · rw [listText1, strLen_append, strLen_append, strLen_append]
    have e1 : ((("[" : String) : Str)).length = 1 := rfl
    have e2 : ((("" : String) : Str)).length = 0 := rfl
    have e3 : ((("]" : String) : Str)).length = 1 := rfl
    omega
  · show ((("(" : Str) ++ t) ++ (",)" : Str)).length ≤ _
    rw [strLen_append, strLen_append]
    have e1 : ((("(" : String) : Str)).length = 1 := rfl
    have e2 : (((",)" : String) : Str)).length = 2 := rfl
    omega
theorem cr_reprO_of {X : Cx} {C f : Addr} {sp : Sp} (run : Runs X f sp) (hG : X.A.guards = some []) (hu : X.A.units + 10 < PySem.cLine) (hs : PySem.W.findIn X.K (.ref C) "__repr__" = some (some (.ref f))) (hf : PySem.W.isFn X.K (.ref f) = true) : CallR X (.builtin "repr") (rReprO X.K C sp) := by
  intro pins s σ H xs us Q I r h
  obtain ⟨l, a, dx, fs, t, rfl, ha, ht, h⟩ := h
  obtain ⟨u, rfl, ru⟩ := vals1 r
  cases ru
  obtain ⟨z1, z2⟩ := text1_len ht
  rcases h with ⟨hl, hsp⟩ | ⟨hl, hsp⟩
  · obtain ⟨its, rv, pl, _⟩ := I.list hl
    have ei := one_its rv
    subst ei
    obtain ⟨o, ho, hc, nn, hd⟩ := pl.isList
    have np : H s.heap.objs.size = none := I.hok.fresh (Nat.le_refl _)
    have fp : FpOk X pins H s.heap.objs.size := I.fpOk (Nat.le_refl _) np
    have I1 : Inv X pins σ H { s with heap := s.heap.push emptyO } := I.kept (t' := s.toks) fun b u e => Heap.get?_push_of_some _ e
    have I2 : Inv X ((s.heap.objs.size, emptyO) :: pins) σ H { s with heap := s.heap.push emptyO } := I1.pins_of fun p hp => by
      rcases List.mem_cons.mp hp with rfl | hp
      · exact ⟨Heap.get?_push_size _ rfl, np, fp.2.1, fp.2.2.1, fun v e => by cases e⟩
      · exact I1.pin p (List.mem_append_right _ hp)
    refine list_one (R := fun z => ∃ H', Inv X ((s.heap.objs.size, emptyO) :: pins) σ H' z ∧ SqL X.K H' l [.ref a] ∧ Q (.str (listText [t])) H') hG hu ho hc hd z1 (fun A' n Q' h1 h2 h3 h4 hn hQ => ?_) (fun z ⟨H', I', hs', _⟩ => ?_) fun z g u tk ⟨H', I', hs', q⟩ kp => ?_
    · obtain ⟨mA, J, _⟩ := ins_get I2.hok ha
      obtain ⟨od, J, _⟩ := J.look
      refine under_own hn (by omega) I2.kIn J hs hf (run A' _ σ H _ [.ref a] [.ref a] _ _ _ h1 h2 h3 h4 I2 (.cons rfl .nil) hsp fun v z ⟨x, H', I', rv', ex, hs', q⟩ => ?_)
      subst ex
      obtain ⟨tk, rfl⟩ := rv'
      exact ⟨t, tk, rfl, hQ z ⟨H', I', hs', q⟩⟩
    · obtain ⟨its', rv', pl', _⟩ := I'.list hs'
      have ei := one_its rv'
      subst ei
      obtain ⟨o', ho', _, n', hd'⟩ := pl'.isList
      exact ⟨⟨o', n', .ref a, ho', hd'⟩, (I'.pin _ (List.mem_append_right _ List.mem_cons_self)).1⟩
    · have np' := (I'.pin _ (List.mem_append_right _ List.mem_cons_self)).2.1
      have I3 : Inv X pins σ H' z := I'.pins_of fun p hp => I'.pin p (List.mem_append_right _ (List.mem_cons_of_mem _ hp))
      exact ⟨.str _, H', I3.turned (t' := tk) kp np' fp.2.1 fp.2.2.2.1 fp.2.2.2.2.1 fp.2.2.2.2.2, ⟨_, rfl⟩, q⟩
  · obtain ⟨its, rv, pt, _⟩ := I.tuple hl
    have ei := one_its rv
    subst ei
    obtain ⟨o, ho, hc, nn, hd⟩ := pt
    refine tup_one (R := fun z => ∃ H', Inv X pins σ H' z ∧ Q (.str (tupleText [t])) H') hG hu ho hc hd z2 (fun A' n Q' h1 h2 h3 h4 hn hQ => ?_) fun z u tk ⟨H', I', q⟩ => ?_
    · obtain ⟨mA, J, _⟩ := ins_get I.hok ha
      obtain ⟨od, J, _⟩ := J.look
      refine under_own hn (by omega) I.kIn J hs hf (run A' _ σ H _ [.ref a] [.ref a] _ _ _ h1 h2 h3 h4 I (.cons rfl .nil) hsp fun v z ⟨x, H', I', rv', ex, q⟩ => ?_)
      subst ex
      obtain ⟨tk, rfl⟩ := rv'
      exact ⟨t, tk, rfl, hQ z ⟨H', I', q⟩⟩
    · exact ⟨.str _, H', I'.tok tk, ⟨_, rfl⟩, q⟩
/-- in a def's own body -/
theorem runs_ok {X : Cx} {f : Addr} {fd : FuncData} {p : Str} {n : Nat} {sp : Sp} (F : FnOk X.prog X.w X.K X.mg X.base CX0 n f fd [p] sp) (hr : Room (n + 1) X.A) (hb : Binds X.K fd [p] []) : Runs X f sp := fun A pins σ H s us vs Q E1 R h1 h2 h3 h4 I r hsp hR =>
  run_below F ⟨h1.trans hr.hd, by have := hr.dp; omega, by have := hr.un; omega⟩ h2 hb I r hsp hR
variable [Tabs0]
end Dw

/-! repr([x]), repr((x,)) while an error is held; what they say of data; a body's end that is never reached. -/
namespace Dw
open PySem PySem.Spec PyProof.Rows L2
open L2H (RoomH PinOk cxH inv_startH)
variable [Tabs0]
section
variable {P : Program} {w : World} {K : PySem.W.Frag} {mg : Str → Option Value} {base : Heap} {k : Nat} {f : Addr} {fd : FuncData} {ps : List Str}
/-- the promise of a def that asks nothing of what is held, nor of what is guarded -/
structure FnT (P : Program) (w : World) (K : PySem.W.Frag) (mg : Str → Option Value) (base : Heap) (k : Nat) (f : Addr) (fd : FuncData) (ps : List Str) (sp : Sp) : Prop where
  len : ∀ vs H Q E, sp vs H Q E → vs.length = ps.length
  run : ∀ (A : Around) (outer : List Env) (s : Shared) (H : Hp) (args : Args) (us : List Value) (vs : List V) (Q : VK) (E : XK) (p : Addr × Obj), RoomH k A → PinOk outer H s p → Env0 P w K mg base A outer s H → BindsTo s fd args (ps.zip us) → Vals vs us → sp vs H Q E →
    codeAny (model P w) A (.call (.ref f) args) (CR CX0 outer P w H s Q E) s
theorem fn_ofT {sp : Sp} {name qual : Str} {params : Arguments} {body : List Stmt} {scope : Scope} {dV kV doc pm cdv ct oc : Value} {an od : Option Addr} {osl : Array (Option Value)} {N : List Str}
    (lk : K.lookup f = some ⟨oc, od, .func (PySem.W.fnOf name qual params body scope dV kV doc pm an cdv ct), osl⟩) (hcd : PySem.W.codeIn K cdv qual = true) (S : FnScope N ps scope) (len : ∀ vs H Q E, sp vs H Q E → vs.length = ps.length)
    (hbody : ∀ (A : Around) (outer : List Env) (s : Shared) (H : Hp) (vs : List V) (Q : VK) (E : XK) (p : Addr × Obj), RoomH k (A.deeper (envOfC qual scope s.heap.objs.size f cdv)) → sp vs H Q E →
      ∃ t, PSs (cxH CX0 P w K mg base N qual scope f cdv A outer s H E p) body t ∧ t { nx := fun _ H' => Q .non H', rt := Q } (L2.start N vs) H) :
    FnT P w K mg base (k + 1) f (PySem.W.fnOf name qual params body scope dV kV doc pm an cdv ct) ps sp := by
  refine ⟨len, fun A outer s H args us vs Q E p hr hpin e0 hb r hsp => ?_⟩
  have hl := len _ _ _ _ hsp
  have KX : K.In s.heap := e0.mod.kin.keeps fun b o e => (e0.bs b o e).1
  have lim : s.heap.NoLimit := e0.mod.nolimit.keeps fun b o e => (e0.bs b o e).1
  have hkind : ∀ y ∈ ps.zip us, scope.names.lookup y.1 = some .local ∨ (scope.names.lookup y.1 = some .cell ∧ ((cellsFrom (s.heap.objs.size + 1) scope.names []).lookup y.1).isSome = true) := fun ⟨n, v⟩ hy =>
    (S.par n (List.of_mem_zip hy).1).elim .inl fun q => .inr ⟨q, PySem.W.cellsFrom_some _ _ _ (.inl q)⟩
  refine codeAny_call_function hr.depth (KX _ _ lk) rfl S.co S.gen rfl (PySem.W.codeRec_of KX hcd) (hb _ _ _ _ ?_)
  refine wpAny_newFunctionEnv_cells S.kind hkind fun env he s1 x => ?_
  subst he
  obtain ⟨t, ht, hq⟩ := hbody A outer s H vs Q E p (hr.deeper _) hsp
  have I := inv_startH (CX := CX0) (P := P) (w := w) (K := K) (mg := mg) (base := base) (qual := qual) (f := f) (cd := cdv) (A := A) (E := E) S hpin e0 hl r x
  refine ⟨lim.keeps x.toInCall.keep, codeAny_func (wpAny_mono (ht.run [] s1 (L2.start N vs) H _ I hq) (fun fl s' hs => ?_) fun e s' hs => hs)⟩
  match fl, hs with
  | .ret u, ⟨v, _, H', J, rv, q⟩ => exact ⟨v, H', J.os, J.bare, J.base, J.hok, rv, q⟩
  | .next, ⟨_, H', J, q⟩ => exact ⟨V.non, H', J.os, J.bare, J.base, J.hok, rfl, q⟩
  | .brk, ⟨_, _, _, q⟩ => exact False.elim q
  | .cont, ⟨_, _, _, q⟩ => exact False.elim q
theorem fnT_ok {x qual : Str} {st : Stmt} {N : List Str} {s : Spc} (F : Fun K x qual st f fd) (S : FnScope N ps (defScope st)) (len : ∀ x, (s.args x).length = ps.length)
    (hbody : ∀ (cdv : Value) (A : Around) (outer : List Env) (s' : Shared) (H : Hp) (E : XK) (p : Addr × Obj), RoomH k (A.deeper (envOfC qual (defScope st) s'.heap.objs.size f cdv)) →
      ∃ t, PSs (cxH CX0 P w K mg base N qual (defScope st) f cdv A outer s' H E p) (defBody st) t ∧ ∀ x, s.ok x → Ds t (Gz0 N.length (s.args x)) ⟨fun _ => s.rel x .non, s.rel x, fun _ => False, fun _ => False⟩) : FnT P w K mg base (k + 1) f fd ps (toSp s) := by
  obtain ⟨oc, od, kV, doc, pm, an, cdv, ct, osl, rfl, lk, hcd⟩ := F.ex
  refine fn_ofT lk hcd S (spc_len len) fun A outer s' H vs Q E p hr h => ?_
  obtain ⟨t, ht, hb⟩ := hbody cdv A outer s' H E p hr
  exact ⟨t, ht, body_of h hb⟩
end
theorem runs_held {X : Cx} {f : Addr} {fd : FuncData} {q : Str} {n : Nat} {sp : Sp} {p : Addr × Obj} (F : FnT X.prog X.w X.K X.mg X.base n f fd [q] sp) (hr : RoomH (n + 1) X.A) (hp : p ∈ X.pn) (hb : Binds X.K fd [q] []) : Runs X f sp := fun A pins σ H s us vs Q E1 R h1 h2 h3 h4 I r hsp hR => by
  have e0 : Env0 X.prog X.w X.K X.mg X.base A X.stack s H := by
    have e := I.env0
    exact ⟨by rw [h2]; exact e.frames, e.mod, e.bs, e.bsz, e.funs, e.frf, e.hok, e.bare⟩
  have hl : us.length = [q].length := by rw [← r.length]; exact F.len _ _ _ _ hsp
  have b := hb s us I.kIn (by rw [List.append_nil]; exact hl)
  rw [List.append_nil] at b
  have P1 := I.pin p (List.mem_append_left _ hp)
  have hpin : PinOk X.stack H s p := ⟨P1.1, P1.2.1, fun hm => (List.mem_cons.mp (I.stkSub p.1 hm)).elim P1.2.2.1 P1.2.2.2.1, P1.2.2.2.2⟩
  refine wpAny_call (codeAny_mono (F.run A X.stack s H ⟨us, []⟩ us vs Q E0 p ⟨by have := hr.dp; omega, by have := hr.un; omega⟩ hpin e0 b r hsp) fun r s' hq => ?_)
  match r, hq with
  | .error e, hq => exact (show False from hq).elim
  | .ok .next, hq => exact (show False from hq).elim
  | .ok .brk, hq => exact (show False from hq).elim
  | .ok .cont, hq => exact (show False from hq).elim
  | .ok (.ret u), hq => exact hR _ _ (I.after hq)
/-! ### of data -/
section
variable {K : PySem.W.Frag} {C : Addr} {sp : Spc} {Γ : Gam} {te : TE} {ns : List Str} {ds : List D} {t : Str} {x : sp.ty} {F : Addr → Prop} {σ : L2.St} {W : Wd}
theorem rep_reprOL {v : V} {Q : VK} (g : SR F Γ σ W) (r : Rep W (.lst [.obj C ns ds]) v) (ha : sp.args x = [.obj C ns ds]) (np : noPs (sp.args x) = true) (ok : sp.ok x) (hd : ∀ d, sp.rel x d → d = .str t) (ht : t.length ≤ 1000) (q : ∀ H, Same W.H H → Q (.str (listText [t])) H) : rReprO K C (toSp sp) [v] W.H Q := by
  obtain ⟨p, vs, rfl, e, nu, u, _, rfl, r1, rfl⟩ := r
  obtain ⟨a, dx, ws, rfl, hH, nu1, l1, rr⟩ := r1
  refine ⟨p, a, dx, _, t, rfl, hH, ht, .inl ⟨.of e, ?_⟩⟩
  have r0 : RepL W (sp.args x) [.ref a] := by rw [ha]; exact RepL.one ⟨a, dx, ws, rfl, hH, nu1, l1, rr⟩
  exact pure_call g (fun _ z => z) (RepL.delP _ _ np r0) ok fun d' v H' hd' s' r' => by
    rw [hd d' hd'] at r'
    exact ⟨r', .of (s' _ _ e), q H' s'⟩
theorem rep_reprOT {v : V} {Q : VK} (g : SR F Γ σ W) (r : Rep W (.tup [.obj C ns ds]) v) (ha : sp.args x = [.obj C ns ds]) (np : noPs (sp.args x) = true) (ok : sp.ok x) (hd : ∀ d, sp.rel x d → d = .str t) (ht : t.length ≤ 1000) (q : ∀ H, Same W.H H → Q (.str (tupleText [t])) H) : rReprO K C (toSp sp) [v] W.H Q := by
  obtain ⟨p, vs, rfl, e, nu, u, _, rfl, r1, rfl⟩ := r
  obtain ⟨a, dx, ws, rfl, hH, nu1, l1, rr⟩ := r1
  refine ⟨p, a, dx, _, t, rfl, hH, ht, .inr ⟨e.sq, ?_⟩⟩
  have r0 : RepL W (sp.args x) [.ref a] := by rw [ha]; exact RepL.one ⟨a, dx, ws, rfl, hH, nu1, l1, rr⟩
  exact pure_call g (fun _ z => z) (RepL.delP _ _ np r0) ok fun d' v H' hd' s' r' => by
    rw [hd d' hd'] at r'
    exact ⟨r', q H' s'⟩
end
section
variable {K : PySem.W.Frag} {C : Addr} {sp : Spc} {Γ : Gam} {te : TE} {d : D} {z : Str} {x : Exn} {ed : Option Addr}
end
section
variable {K : PySem.W.Frag} {C : Addr} {sx : SpcX} {sp : Sp} {Γ : Gam} {ta : TE} {t : TA} {ds es : List D} {E : XK} {R : Option Addr → Hp → Prop}
end
section
open LamX
variable {K : PySem.W.Frag} {Γ : Gam} {Tt : List (Addr × Str)} {P : Addr} {q wd : Str} {c1 c2 : Value} {n ie i : Nat} {sl : Sl} {ts : Addr → Value → Option Addr → TS} {t : XK → TE} {d : D} {Q : D → Gam → Prop} {x : Exn}
end
/-! ### a body's end that is never reached -/
end Dw

/-! list(x), x a text. -/
namespace Dw
open PySem PySem.Spec PyProof.Rows L2
variable [Tabs0]
section
variable {K : PySem.W.Frag} {Γ : Gam} {ta : TE} {ds : List D}
end
end Dw

/-! an own class over ArithmeticError whose __init__ stores its fields -/
namespace PySem
namespace AeX
open PySem.W PySem.Calls PyProof.Rows PySem.HandSPX Builtin Builtin.ObjectAttr
abbrev aeEnd : List Value := [.type "ArithmeticError", .type "Exception", .type "BaseException", .type "object"]
section
variable {prog : Program} {w : World} {A : Around} {R : Result → Shared → Prop} {hp : Heap} {g : Array GenState} {d : Drawn} {t : Nat} {os : OsState}
theorem ae_store {K : W.Frag} {name : Str} {tk : Tok} {v : Value} {x C : Addr} {fv : Array Value} {cd : ClassData}
    (inK : K.In hp) (atx : hp.get? x = some { cls := .ref C, data := .fields fv }) (cdC : W.clsIn K C = some cd) (ov : excOver K C aeEnd = true) (hasD : cd.hasDict = true) (no : W.findIn K (.ref C) name = some none)
    (go : ∀ (h2 : Heap) (tk2 : Nat) (dx : Addr), (∀ b o, b ≠ x → hp.get? b = some o → h2.get? b = some o) → hp.objs.size ≤ dx → dx ≠ x → h2.get? x = some { cls := .ref C, dict := some dx, data := .fields fv } →
      h2.Ns1 dx (fun y => if y = name then some v else none) → R (.ok (.ret .none)) ⟨h2, g, d, tk2, os⟩) : codeAny (model prog w) A (.call (.builtin "object.__setattr__") ⟨[.ref x, .str name tk, v], []⟩) R ⟨hp, g, d, t, os⟩ := by
  have inst : W.InstAt hp x { cls := .ref C, data := .fields fv } C none := ⟨atx, rfl, rfl, trivial⟩
  have far : x ≠ hp.objs.size := Nat.ne_of_lt (Heap.lt_size atx)
  refine osa_openX (r := none) F.store_ArithmeticError inK inst ov (by unfold takerIn; rw [no]; rfl) fun b => ?_
  have looks : W.Looks (model prog w) hp (classData C) cd := W.looks_clsIn inK cdC
  obtain ⟨n0, bs, mr, ns, qn, hd, sn, sb, ab, co, dl⟩ := cd
  replace hasD : hd = true := hasD
  subst hasD
  show wpAny _ _ (storeInOwnDict (.ref x) (.ref C) (.str name tk) name v b) _ _ _
  unfold storeInOwnDict
  unfold ownDictForStores
  repeat (first | with_reducible refine store_in_new ?_ ?_ | with_reducible refine wpAny_loadPart_at atx ?_ | with_reducible refine looks.at ?_ | wp_step)
  · exact ⟨_, #[], _, (Heap.get?_update_ne _ _ _ _ (Ne.symm far)).trans (Heap.get?_push_at rfl rfl), rfl, fun e he => (by simp at he), fun _ => rfl⟩
  · intro h2 tk2 named same
    have old : (hp.push { cls := .type "dict", data := .dict #[] }).get? x = some { cls := .ref C, data := .fields fv } := Heap.get?_push_of_some _ atx
    refine go h2 tk2 hp.objs.size (fun c o hc ho => ?_) (Nat.le_refl _) (Ne.symm far) ((same.2 x far).trans (Heap.get?_update_self _ old rfl)) named
    have before : c ≠ hp.objs.size := Nat.ne_of_lt (Heap.lt_size ho)
    rw [same.2 c before]
    exact (Heap.get?_update_ne _ _ _ _ hc).trans (Heap.get?_push_of_some _ ho)
end
end AeX
end PySem

namespace L2
open PySem PySem.Spec PyProof.Rows PySem.AeX
/-- what is told of such a class -/
structure OaxC (K : PySem.W.Frag) (C : Addr) : Prop where
  def_ : ∃ nm q N bs bm sn sub ab col dd k0 k1 k2 k3 k5, K.lookup C = some (excClassObj nm q C N bs bm true sn sub ab col dd k0 k1 k2 k3 k5 "ArithmeticError.__new__") ∧ PySem.W.excTail aeEnd bm = true
  over : PySem.W.excOver K C aeEnd = true
  puts : PySem.W.findIn K (.ref C) "__setattr__" = some (some (.builtin "object.__setattr__"))
  base : PySem.W.subIn K (.ref C) (.type "BaseException") = some true
  meta_ : PySem.W.typeIn K (.ref C) = some (.type "type")
  kept : PySem.W.keepIn K (.ref C) = true
section
variable {X : Cx} {pins : List (Addr × Obj)} {σ : St} {H : Hp} {s : Shared} {a C dx : Addr} {f : Str} {y : V} {u : Value} {Q : Unit → Shared → Prop} {E : Value → Shared → Prop} {A : Around}
theorem oax_first (T : OaxC X.K C) (I : Inv X pins σ H s) (ea : H a = some (exo a C none)) (none_ : PySem.W.findIn X.K (.ref C) f = some none) (r : RelV y u)
    (go : ∀ dx s2, H dx = none → dx ≠ a → Inv X pins σ (upd (upd H dx (exd dx [(f, y)])) a (exo a C (some dx))) s2 → Q () s2) : wpAny (model X.prog X.w) A (setAttr (.ref a) f u) Q E s := by
  obtain ⟨nm, q, N, bs, bm, sn, sub, ab, col, dd, k0, k1, k2, k3, k5, look, tail⟩ := T.def_
  have cls : PySem.W.clsIn X.K C = some { name := nm, bases := bs, mro := .ref C :: bm, ns := N, qualname := q, hasDict := true, slotNames := sn, subclasses := sub, abstract := ab, collection := col, hasDel := false } := by
    unfold PySem.W.clsIn
    rw [look]
  obtain ⟨t1, obj⟩ := exo_at I.hok ea
  obtain ⟨h0, g, d, t, os⟩ := s
  refine PySem.W.set_plain I.kIn (ox := { cls := .ref C, dict := none, data := .fields #[.ref t1, .none, .none, .none, .bool false, .none] }) (od := none) ⟨obj, rfl, rfl, trivial⟩ T.puts ?_
  refine ae_store I.kIn obj cls T.over rfl none_ fun h2 tk2 dx keep beyond other now named => ?_
  have free : H dx = none := I.hok.fresh beyond
  have ndx : ∀ {b : Addr} {o : Obj}, h0.get? b = some o → b ≠ dx := fun {b o} z => fun e => absurd (Heap.lt_size z) (by rw [e]; exact Nat.not_lt.mpr beyond)
  have nea : ∀ {b : Addr}, H b = none → b ≠ a := fun {b} z e => by rw [e, ea] at z; exact nomatch z
  have step : Un X.fs [] H (upd (upd H dx (exd dx [(f, y)])) a (exo a C (some dx))) h0 h2 := {
    keep := fun b o z n _ _ => keep b o (nea n) z
    slot := fun b o z n _ _ => ⟨_, keep b o (nea n) z⟩
    free := fun b o z n _ => (upd_ne (nea n)).trans ((upd_ne (ndx z)).trans n)
    there := fun b o z _ => if e : b = a then ⟨_, e ▸ now⟩ else ⟨o, keep b o e z⟩
    tups := fun b xs z => (upd_ne (at_ne ea z exo_tup)).trans ((upd_ne (ne_of_none z free)).trans z)
    frzs := fun b o v z => (upd_ne (at_ne ea z exo_frz)).trans ((upd_ne (ne_of_none z free)).trans z)
    tbls := fun b ps z => ⟨#[], ((upd_ne (at_ne ea z exo_tbl)).trans ((upd_ne (ne_of_none z free)).trans z)).trans (by simp)⟩ }
  refine go dx _ free other (I.un (t' := tk2) step fun b o z => ?_)
  by_cases e : b = a
  · rw [e, upd_same] at z
    cases z
    rw [e]
    exact exo_ok now
  · rw [upd_ne e] at z
    by_cases e2 : b = dx
    · rw [e2, upd_same] at z
      cases z
      rw [e2]
      exact exd_ok named (relO_put (fs := []) r fun _ => True.intro)
    · rw [upd_ne e2] at z
      refine (I.hok b o z).stay (fun c v hc old => keep c v ?_ old) (fun c hc => (upd_ne (at_ne ea hc exo_own)).trans ((upd_ne (ne_of_none hc free)).trans hc)) fun c xs hc => (upd_ne (at_ne ea hc exo_tup)).trans ((upd_ne (ne_of_none hc free)).trans hc)
      rcases hc with hc | hc
      · exact fun z2 => e (hc ▸ z2)
      · exact at_ne ea hc exo_own
end
section
variable {X : Cx} {o e : Expr} {es : List Expr} {to te : TE} {ta : TA} {f : Str} {p p' pos : Pos}
/-- self.f = e, f the first and only field -/
def tOaf (K : PySem.W.Frag) (f : Str) (to te : TE) : TS := fun D σ H => te σ H fun y H1 => to σ H1 fun x H2 => ∃ a C : Addr, x = .ref a ∧ OaxC K C ∧ PySem.W.findIn K (.ref C) f = some none ∧
  H2 a = some (exo a C none) ∧ ∀ dx, H2 dx = none → dx ≠ a → D.nx σ (upd (upd H2 dx (exd dx [(f, y)])) a (exo a C (some dx)))
theorem ps_oaf (ho : PE X o to) (he : PE X e te) (hs : swapsWith e (some (.Attribute o f p')) pos.line X.env = pure false := by rfl) : PS X (.Assign [.Attribute o f p'] e pos) (tOaf X.K f to te) :=
  ⟨fun pins s σ H D I h => plainObj_wpAny_Assign_Attribute (thn (he.run pins s σ H _ I h) fun v s1 ⟨y, H1, I1, ry, q1⟩ => thn (ho.run pins s1 σ H1 _ I1 q1) fun u s2 ⟨x, H2, I2, rx, a, C, ex, T, none_, ea, q⟩ => by
    subst ex
    cases rx
    exact oax_first T I2 ea none_ ry fun dx s3 free ne J => ⟨σ, _, J, q dx free ne⟩) hs⟩
theorem pmk_oax {CX : CXT} {x : Str} {C fI : Addr} {k : Nat} {fd : FuncData} {ps : List Str} {sp : Sp} {ds : List Value} {dvs : List V} (T : OaxC X.K C) (ini : PySem.W.findIn X.K (.ref C) "__init__" = some (some (.ref fI)))
    (tyI : PySem.W.typeIn X.K (.ref fI) = some (.type "function")) (Fi : FnOk X.prog X.w X.K X.mg X.base CX k fI fd ps sp) (room : Room (k + 1) X.A) (bi : Binds X.K fd ps ds) (vd : Vals dvs ds) (pass : Passes CX X (fun _ _ _ => False))
    (gl : Gl X x) (mgC : X.mg x = some (.ref C)) (args : PA X (e :: es) ta) (deb : (x == ("__debug__" : Str)) = false := by decide)
    (st : starEach (e :: es) X.env = (false, eval e X.env) :: starEach es X.env := by rfl) (pl : (backTo pos (starEach es X.env)).any (·.1) = false := by rfl) :
    PMk X (.Call (.Name x p) (e :: es) [] pos) (tMkO C sp dvs ta) := fun pins s σ H Q I h => by
  obtain ⟨nm, q, N, bs, bm, sn, sub, ab, col, dd, k0, k1, k2, k3, k5, look, tail⟩ := T.def_
  refine wpAny_Call_Name_kw (ld_glob I gl mgC (PySem.W.callWith_K (h₀ := X.base) I.ok.mod.kin T.kept (thn (args.run pos pins s σ H _ I h) fun us s1 ⟨vs, H1, J, r1, few, made⟩ => ⟨J.kIn, ?_⟩) st pl) deb)
  show wpAny _ _ (PySem.call (Value.ref C) us) _ _ _
  obtain ⟨h1, g, dr, tk, os⟩ := s1
  obtain ⟨at_, eat⟩ : ∃ b, b = h1.objs.size + 1 := ⟨_, rfl⟩
  have above : h1.objs.size ≤ at_ := by rw [eat]; exact Nat.le_succ _
  have free : H1 at_ = none := J.hok.fresh above
  have runs := made at_ free
  obtain ⟨h2, eh2⟩ : ∃ z, z = (h1.push (PySem.W.kdv_tup us)).push (PySem.HandSPX.excO C h1.objs.size) := ⟨_, rfl⟩
  have keep : ∀ b o, h1.get? b = some o → h2.get? b = some o := fun b o z => by rw [eh2]; exact Heap.get?_push_of_some _ (Heap.get?_push_of_some _ z)
  have there : h2.get? at_ = some (PySem.HandSPX.excO C h1.objs.size) := by rw [eh2, eat]; heap_get
  have J2 : Inv X pins σ (upd H1 at_ (exo at_ C none)) ⟨h2, g, dr, tk, os⟩ := J.laid (t' := tk) (a := at_) (o := exo at_ C none) (h' := h2) keep above (exo_ok there)
  have vals : Vals (V.ref at_ :: (vs ++ dvs)) (Value.ref at_ :: (us ++ ds)) := .cons rfl (r1.append vd)
  have long : (Value.ref at_ :: us ++ ds).length = ps.length := (vals.length).symm.trans (Fi.len _ _ _ _ runs)
  have line : us.length ≤ sizeLine := Nat.le_trans (Nat.le_of_eq (Paired.length r1).symm) (by rw [sizeLine_eq]; omega)
  subst eat
  subst eh2
  refine wpAny_call (PySem.HandSPX.call_own PySem.F.excBase_ArithmeticError (fun Y => PySem.W.excTail_contains Y bm tail) (J.kIn _ _ look) (PySem.W.looks_findIn J.kIn ini) (fun self => PySem.W.bind_fn J.kIn self tyI) line
    (codeAny_mono (Fi.run _ X.stack _ _ ⟨Value.ref (h1.objs.size + 1) :: us, []⟩ _ _ _ (fun _ _ _ => False) (room.make C us []) (J2.env0.make C us []) (bi _ (Value.ref (h1.objs.size + 1) :: us) J2.kIn long) vals runs) fun r s2 back => ?_))
  cases r with
  | error er => exact pass pins σ _ _ er s2 J2 back
  | ok fl =>
    cases fl with
    | ret u =>
      obtain ⟨v, H2, os2, bare2, un2, hok2, rv, ev, d, fs, ea, ed, hd1, last⟩ := back
      obtain ⟨h3, g2, d2, t2, os3⟩ := s2
      rw [ev] at rv
      exact ⟨rv, mk_end (raises_own T.base T.meta_) J above keep un2 hok2 os2 bare2 ea ed hd1 last⟩
    | _ => exact False.elim back
end
end L2
namespace Dw
open PySem PySem.Spec PyProof.Rows L2 LamX
variable [Tabs0]
section
variable {P : Program} {w : World} {K : PySem.W.Frag} {mg : Str → Option Value} {base : Heap}
/-- the __init__ of such a class, of one field -/
theorem fn_ainit {qual x f : Str} {st : Stmt} {fa C : Addr} {fd : FuncData} {N ps : List Str} {k : Nat} (F : Fun K x qual st fa fd) (S : FnScope N ps (defScope st)) (two : ps.length = 2) (T : OaxC K C) (none_ : PySem.W.findIn K (.ref C) f = some none) (nN : N.length = 2)
    (body : ∀ (cdv : Value) (A : Around) (outer : List Env) (s1 : Shared) (H : Hp) (E : XK), PSs (cxOf CX0 P w K mg base N qual (defScope st) fa cdv A outer s1 H E).nox (defBody st) (tOaf K f (tVar 0) (tVar 1))) :
    FnOk P w K mg base CX0 (k + 1) fa fd ps (spXI C f) := by
  refine F.ok S (fun vs H Q E ⟨a, y, e, _⟩ => by rw [e, two]; rfl) fun cdv A outer s1 H vs Q E hr ⟨a, y, e, ha, q⟩ => ?_
  subst e
  exact ⟨_, body cdv A outer s1 H E, y, by unfold L2.start; simp, .ref a, by unfold L2.start; simp, a, C, rfl, T, none_, ha, q⟩
end
end Dw

/-! zip of three lists; o.m(k = v); methods that return or raise. -/
namespace RZ
open PySem PySem.Spec PyProof.Rows L2
end RZ
namespace Dw
open PySem PySem.Spec PyProof.Rows L2 LamX
variable [Tabs0]
section
variable {K : PySem.W.Frag} {Γ : Gam} {ta tb tc : TE} {xs ys zs : List D} {Q : List D → Gam → Prop}
end
end Dw
namespace L2
open PySem PySem.Spec PyProof.Rows
section
variable {X : Cx} {CX : CXT} {k : Nat} {f C : Addr} {fd : FuncData} {ps ks : List Str} {sp : Sp} {E : XK} {m : Str} {pos apos : Pos} {o : Expr} {kws : List Keyword} {ta : TE} {tk : TA} {g : List Value → List Value → List Value} {gV : List V → List V → List V}
end
end L2
namespace Dw
open PySem PySem.Spec PyProof.Rows L2 LamX
variable [Tabs0]
section
variable {K : PySem.W.Frag} {Γ : Gam} {ta : TE} {t tk : TA} {ds es : List D} {d : D} {C : Addr} {s : Spc} {sx : SpcX} {sp : Sp} {E : XK} {ns : List Str} {m : Str} {gV : List V → List V → List V} {R : Option Addr → Hp → Prop} {Q : D → Gam → Prop}
end
end Dw
namespace Dw
open PySem PySem.Spec PyProof.Rows L2
variable [Tabs0]
section
variable {Γ : Gam} {wi : TI} {g : TG} {tt : TT} {te : TE} {vs : List Nat} {De : DE} {j : Nat}
end
end Dw
namespace Dw
open PySem PySem.Spec PyProof.Rows L2
section
variable {X : Cx} {C f : Addr} {fd : FuncData} {n : Nat} {p p2 : Str} {sp : Sp}
end
end Dw
namespace Dw
open PySem PySem.Spec PyProof.Rows L2
theorem over_of {K : PySem.W.Frag} {C N : Addr} {nm q newId : _} {bs bm sn sub ab col dd k0 k1 k2 k3 k5} {ae : List Value} (look : K.lookup C = some (excClassObj nm q C N bs bm true sn sub ab col dd k0 k1 k2 k3 k5 newId)) (tail : PySem.W.excTail ae bm = true) : PySem.W.excOver K C ae = true := by
  have cls : PySem.W.clsIn K C = some { name := nm, bases := bs, mro := .ref C :: bm, ns := N, qualname := q, hasDict := true, slotNames := sn, subclasses := sub, abstract := ab, collection := col, hasDel := false } := by
    unfold PySem.W.clsIn
    rw [look]
  unfold PySem.W.excOver
  rw [cls]
  show ((C == C) && PySem.W.excTail ae bm) = true
  rw [tail, beq_self_eq_true]; rfl
end Dw

/-! Lambdas as values: made, kept, called by a def that got them. -/
namespace Dw
open PySem PySem.Spec PyProof.Rows L2 LamX
/-! ### the heap without the cells, and with them again -/
def cutH (H : Hp) (cs : List Addr) : Hp := fun b => if b ∈ cs then none else H b
def pasteH (H H2 : Hp) (cs : List Addr) : Hp := fun b => if b ∈ cs then H b else H2 b
theorem cut_in {H : Hp} {cs : List Addr} {b : Addr} (h : b ∈ cs) : cutH H cs b = none := if_pos h
theorem cut_out {H : Hp} {cs : List Addr} {b : Addr} (h : b ∉ cs) : cutH H cs b = H b := if_neg h
theorem paste_in {H H2 : Hp} {cs : List Addr} {b : Addr} (h : b ∈ cs) : pasteH H H2 cs b = H b := if_pos h
theorem paste_out {H H2 : Hp} {cs : List Addr} {b : Addr} (h : b ∉ cs) : pasteH H H2 cs b = H2 b := if_neg h
/-- at cs stand known cells -/
def CellsAt (H : Hp) (cs : List Addr) : Prop := ∀ b ∈ cs, ∃ (o : Obj) (u : Option Value), o.data = .cell u ∧ H b = some (CellO b o)
theorem cell_o {P : Program} {w : World} {H : Hp} {h : Heap} {b : Addr} {o : Obj} (hok : HOk P w H h) (e : H b = some (CellO b o)) : h.get? b = some o := (hok b _ e).1
theorem cellO_ok {P : Program} {w : World} {H : Hp} {h : Heap} {b : Addr} {o : Obj} (e : h.get? b = some o) : ObjOk P w H h b (CellO b o) := ⟨e, ⟨o, e⟩, fun h1 h2 p st => st o p⟩
section
variable {P : Program} {w : World} {H H' : Hp} {h h' B : Heap} {cs : List Addr} {fs : List Addr}
theorem hok_cut (hc : CellsAt H cs) (x : HOk P w H h) : HOk P w (cutH H cs) h := fun b u e => by
  by_cases hb : b ∈ cs
  · rw [cut_in hb] at e; cases e
  · rw [cut_out hb] at e
    refine (x b u e).stay (fun _ _ _ q => q) (fun c q => ?_) fun c xs q => ?_
    · rw [cut_out fun z => ?_]
      · exact q
      · obtain ⟨o, u, _, e⟩ := hc c z
        rw [q] at e; cases e
    · rw [cut_out fun z => ?_]
      · exact q
      · obtain ⟨o, u, _, e⟩ := hc c z
        rw [q] at e; cases e
theorem hok_paste (hc : CellsAt H cs) (x : HOk P w H' h') (n : ∀ b ∈ cs, H' b = none) (k : ∀ b o, b ∈ cs → H b = some (CellO b o) → h'.get? b = some o) : HOk P w (pasteH H H' cs) h' := fun b u e => by
  by_cases hb : b ∈ cs
  · rw [paste_in hb] at e
    obtain ⟨o, _, _, e'⟩ := hc b hb
    rw [e'] at e; cases e
    exact cellO_ok (k b o hb e')
  · rw [paste_out hb] at e
    refine (x b u e).stay (fun _ _ _ q => q) (fun c q => ?_) fun c xs q => ?_
    · rw [paste_out fun z => by rw [n c z] at q; cases q]; exact q
    · rw [paste_out fun z => by rw [n c z] at q; cases q]; exact q
theorem un_paste (hc : CellsAt H cs) (U : Un fs [] (cutH H cs) H' h h') (n : ∀ b ∈ cs, H' b = none) : Un fs [] H (pasteH H H' cs) h h' where
  keep := fun b o e z f x => U.keep b o e (by
    by_cases hb : b ∈ cs
    · exact cut_in hb
    · rw [cut_out hb]; exact z) f x
  slot := fun b o e z f x => U.slot b o e (by
    by_cases hb : b ∈ cs
    · exact cut_in hb
    · rw [cut_out hb]; exact z) f x
  free := fun b o e z x => by
    have hb : b ∉ cs := fun hb => by
      obtain ⟨o, _, _, e'⟩ := hc b hb
      rw [z] at e'; cases e'
    rw [paste_out hb]
    exact U.free b o e (by rw [cut_out hb]; exact z) x
  there := U.there
  tups := fun b xs e => by
    have hb : b ∉ cs := fun hb => by
      obtain ⟨o, _, _, e'⟩ := hc b hb
      rw [e] at e'; cases e'
    rw [paste_out hb]
    exact U.tups b xs (by rw [cut_out hb]; exact e)
  frzs := fun b o u e => by
    have hb : b ∉ cs := fun hb => by
      obtain ⟨o, _, _, e'⟩ := hc b hb
      rw [e] at e'; cases e'
    rw [paste_out hb]
    exact U.frzs b o u (by rw [cut_out hb]; exact e)
  tbls := fun b ps e => by
    have hb : b ∉ cs := fun hb => by
      obtain ⟨o, _, _, e'⟩ := hc b hb
      rw [e] at e'; cases e'
    rw [paste_out hb]
    exact U.tbls b ps (by rw [cut_out hb]; exact e)
theorem ub_paste (hc : CellsAt H cs) (U : UB fs (cutH H cs) H' h B h') : UB fs H (pasteH H H' cs) h B h' where
  keep := fun b o e z f => U.keep b o e (by
    by_cases hb : b ∈ cs
    · exact cut_in hb
    · rw [cut_out hb]; exact z) f
  slot := U.slot
  free := fun b o e z => by
    have hb : b ∉ cs := fun hb => by
      obtain ⟨o, _, _, e'⟩ := hc b hb
      rw [z] at e'; cases e'
    rw [paste_out hb]
    exact U.free b o e (by rw [cut_out hb]; exact z)
  there := U.there
  tups := fun b xs e => by
    have hb : b ∉ cs := fun hb => by
      obtain ⟨o, _, _, e'⟩ := hc b hb
      rw [e] at e'; cases e'
    rw [paste_out hb]
    exact U.tups b xs (by rw [cut_out hb]; exact e)
  frzs := fun b o u e => by
    have hb : b ∉ cs := fun hb => by
      obtain ⟨o, _, _, e'⟩ := hc b hb
      rw [e] at e'; cases e'
    rw [paste_out hb]
    exact U.frzs b o u (by rw [cut_out hb]; exact e)
  tbls := fun b ps e => by
    have hb : b ∉ cs := fun hb => by
      obtain ⟨o, _, _, e'⟩ := hc b hb
      rw [e] at e'; cases e'
    rw [paste_out hb]
    exact U.tbls b ps (by rw [cut_out hb]; exact e)
end
section
variable {P : Program} {w : World} {H : Hp} {s : Shared} {cs : List Addr} {outer : List Env}
/-- an exception's way out, with the cells again -/
theorem cx_paste {E : XK} {u : Value} {s' : Shared} (hc : CellsAt H cs) (hok : HOk P w H s.heap) (frf : ∀ b ∈ frs outer, H b = none)
    (x : L2.CX P w outer (cutH H cs) s (fun cls d H' => (∀ b ∈ cs, H' b = none) → E cls d (pasteH H H' cs)) u s') : L2.CX P w outer H s E u s' := by
  obtain ⟨a, B, H', cls, d, rfl, fl, hB, ub, na, os, ag, hE⟩ := x
  have nf : ∀ b ∈ cs, b ∉ frs outer := fun b hb z => by
    obtain ⟨o, _, _, e⟩ := hc b hb
    rw [frf b z] at e; cases e
  have n : ∀ b ∈ cs, H' b = none := fun b hb => by
    obtain ⟨o, _, _, e⟩ := hc b hb
    exact ub.free b o (cell_o hok e) (cut_in hb)
  have kB : ∀ b o, b ∈ cs → H b = some (CellO b o) → B.get? b = some o := fun b o hb e => ub.keep b o (cell_o hok e) (cut_in hb) (nf b hb)
  refine ⟨a, B, pasteH H H' cs, cls, d, rfl, fl, hok_paste hc hB n kB, ub_paste hc ub, ?_, os, ag, hE n⟩
  have ha : a ∉ cs := fun hb => by
    obtain ⟨o, u, hd, e⟩ := hc a hb
    obtain ⟨f1, f2, f3, oe, vs, T, oT, ts, he, hz, hd', _⟩ := id fl
    have := (f1 a o (kB a o hb e)).symm.trans he
    cases this
    rw [hd] at hd'; cases hd'
  rw [paste_out ha]; exact na
theorem ce_paste {Q : VK} {u : Value} {s' : Shared} (hc : CellsAt H cs) (hok : HOk P w H s.heap) (frf : ∀ b ∈ frs outer, H b = none)
    (x : CE outer P w (cutH H cs) s (fun v H' => (∀ b ∈ cs, H' b = none) → Q v (pasteH H H' cs)) u s') : CE outer P w H s Q u s' := by
  obtain ⟨v, H', os, ag, un, hB, rv, q⟩ := x
  have nf : ∀ b ∈ cs, b ∉ frs outer := fun b hb z => by
    obtain ⟨o, _, _, e⟩ := hc b hb
    rw [frf b z] at e; cases e
  have n : ∀ b ∈ cs, H' b = none := fun b hb => by
    obtain ⟨o, _, _, e⟩ := hc b hb
    exact un.free b o (cell_o hok e) (cut_in hb) (by simp)
  have kB : ∀ b o, b ∈ cs → H b = some (CellO b o) → s'.heap.get? b = some o := fun b o hb e => un.keep b o (cell_o hok e) (cut_in hb) (nf b hb) (by simp)
  exact ⟨v, pasteH H H' cs, os, ag, un_paste hc un n, hok_paste hc hB n kB, rv, q n⟩
end
/-! ### the lambda's body -/
/-- the names of a lambda that captures ns -/
structure CloS (scope : Scope) (ns : List Str) : Prop where
  kind : scope.kind = .function
  co : scope.isCoroutine = false
  gen : scope.isGenerator = false
  own : ∀ y ∈ scope.names, y.2 ≠ .local ∧ y.2 ≠ .cell
  free : ∀ y ∈ scope.names, y.2 = .free → y.1 ∈ ns
  nd : ns.Nodup
  is : ∀ n ∈ ns, scope.names.lookup n = some .free
def cloSB (scope : Scope) (ns : List Str) : Bool :=
  decide (scope.kind = .function) && !scope.isCoroutine && !scope.isGenerator && (scope.names.all fun y => !decide (y.2 = .local) && !decide (y.2 = .cell) && (!decide (y.2 = .free) || decide (y.1 ∈ ns))) && decide ns.Nodup && ns.all fun n => decide (scope.names.lookup n = some .free)
theorem cloS_by {scope : Scope} {ns : List Str} (h : cloSB scope ns = true) : CloS scope ns := by
  unfold cloSB at h
  simp only [Bool.and_eq_true, Bool.or_eq_true, Bool.not_eq_true', decide_eq_true_eq, decide_eq_false_iff_not, List.all_eq_true] at h
  obtain ⟨⟨⟨⟨⟨h1, h2⟩, h3⟩, h4⟩, h5⟩, h6⟩ := h
  exact ⟨h1, h2, h3, fun y hy => (h4 y hy).1, fun y hy e => (h4 y hy).2.resolve_left fun z => z e, h5, h6⟩
abbrev cloEnv (L : LamK) (cl : List (Str × Addr)) (l f c : Addr) : Env := PySem.W.envX L.qual L.scope l f (.ref c) cl
/-- the context of the body, entered at s from the frames outer -/
def cloCx (P : Program) (w : World) (K : PySem.W.Frag) (mg : Str → Option Value) (base : Heap) (N : List Str) (L : LamK) (cl : List (Str × Addr)) (f c : Addr) (A : Around) (outer : List Env) (s : Shared) (H : Hp) (E : XK) : Cx where
  prog := P
  w := w
  K := K
  mg := mg
  base := base
  A := A.deeper (cloEnv L cl s.heap.objs.size f c)
  N := N
  s_0 := s
  H_0 := H
  env := cloEnv L cl s.heap.objs.size f c
  outer := outer
  stack := cloEnv L cl s.heap.objs.size f c :: outer
  ex := []
  fn := fun _ => false
  calm := true
  pn := []
  xe := fun e s' => wpAny (model P w) (A.deeper (cloEnv L cl s.heap.objs.size f c)) (leaving (cloEnv L cl s.heap.objs.size f c) e) (fun _ s'' => L2.CX P w outer H s E e s'') (fun e' s'' => L2.CX P w outer H s E e' s'') s'
theorem look_map {cl : List (Str × Addr)} (nd : (cl.map (·.1)).Nodup) : ∀ {i : Nat} {y : Str} {a : Addr}, cl[i]? = some (y, a) → cl.lookup y = some a := by
  induction cl with
  | nil => intro i y a e; simp at e
  | cons p r ih =>
    intro i y a e
    obtain ⟨n1, n2⟩ := List.nodup_cons.mp (show (p.1 :: r.map (·.1)).Nodup from nd)
    cases i with
    | zero =>
      have e : p = (y, a) := by simpa using e
      rw [e, List.lookup_cons, beq_self_eq_true]
    | succ i =>
      have e : r[i]? = some (y, a) := by simpa using e
      have hm : y ∈ r.map (·.1) := List.mem_map.mpr ⟨(y, a), List.mem_of_getElem? e, rfl⟩
      have hn : (y == p.1) = false := by
        cases q : y == p.1 with
        | false => rfl
        | true => exact absurd (eq_of_beq q ▸ hm) n1
      obtain ⟨p1, p2⟩ := p
      rw [List.lookup_cons, hn]
      exact ih n2 e
theorem look_mem {cl : List (Str × Addr)} {y : Str} {a : Addr} (h : cl.lookup y = some a) : (y, a) ∈ cl := PySem.mem_of_lookup h
theorem CellsO.get {H : Hp} {U : Addr → Prop} : ∀ {cl : List (Str × Addr)} {vs : List V} {i : Nat} {y : Str} {a : Addr}, CellsO H U cl vs → cl[i]? = some (y, a) → ∃ (v : V) (o : Obj) (u : Value), vs[i]? = some v ∧ o.data = .cell (some u) ∧ RelV v u ∧ H a = some (CellO a o)
  | [], _, _, _, _, _, e => by simp at e
  | p :: r, _, 0, y, a, ⟨v, ws, o, u, e1, hd, hr, ha, nu, t⟩, e => by
    have e : p = (y, a) := by simpa using e
    subst e
    exact ⟨v, o, u, by rw [e1]; rfl, hd, hr, ha⟩
  | p :: r, _, i + 1, y, a, ⟨v, ws, o, u, e1, hd, hr, ha, nu, t⟩, e => by
    obtain ⟨v', o', u', q1, q2, q3, q4⟩ := CellsO.get (i := i) t (by simpa using e)
    exact ⟨v', o', u', by rw [e1]; simpa using q1, q2, q3, q4⟩
theorem CellsO.len {H : Hp} {U : Addr → Prop} : ∀ {cl : List (Str × Addr)} {vs : List V}, CellsO H U cl vs → vs.length = cl.length
  | [], _, h => by rw [show _ = [] from h]; rfl
  | _ :: r, _, ⟨v, ws, o, u, e1, _, _, _, _, t⟩ => by rw [e1, List.length_cons, List.length_cons, CellsO.len t]
theorem CellsO.at {H : Hp} {U : Addr → Prop} : ∀ {cl : List (Str × Addr)} {vs : List V}, CellsO H U cl vs → CellsAt H (cl.map (·.2))
  | [], _, h => fun b hb => absurd hb (by simp)
  | p :: r, _, ⟨v, ws, o, u, e1, hd, hr, ha, nu, t⟩ => fun b hb => by
    rcases List.mem_cons.mp (show b ∈ p.2 :: r.map (·.2) from hb) with rfl | hb
    · exact ⟨o, some u, hd, ha⟩
    · exact CellsO.at t b hb
theorem snd_inj {cl : List (Str × Addr)} (nd : (cl.map (·.2)).Nodup) {x y : Str} {c : Addr} (h1 : (x, c) ∈ cl) (h2 : (y, c) ∈ cl) : x = y := by
  induction cl with
  | nil => cases h1
  | cons p r ih =>
    obtain ⟨n1, n2⟩ := List.nodup_cons.mp (show (p.2 :: r.map (·.2)).Nodup from nd)
    rcases List.mem_cons.mp h1 with e1 | h1 <;> rcases List.mem_cons.mp h2 with e2 | h2
    · rw [← e1] at e2; cases e2; rfl
    · exact absurd (List.mem_map.mpr ⟨(y, c), h2, by rw [← e1]⟩) n1
    · exact absurd (List.mem_map.mpr ⟨(x, c), h1, by rw [← e2]⟩) n1
    · exact ih n2 h1 h2
section
variable {P : Program} {w : World} {K : PySem.W.Frag} {mg : Str → Option Value} {base : Heap}
theorem clo_start {L : LamK} {ns : List Str} {cl : List (Str × Addr)} {f c : Addr} {A : Around} {outer : List Env} {s : Shared} {H : Hp} {E : XK} {vs : List V} {U : Addr → Prop} {h₁ : Heap} {tk : Nat} (S : CloS L.scope ns) (e0 : Env0 P w K mg base A outer s H) (hd : A.handled = none)
    (hn : cl.map (·.1) = ns) (nd : (cl.map (·.2)).Nodup) (hcl : CellsO H U cl vs) (hns : h₁.Ns s.heap.objs.size fun y => ([] : List (Str × Value)).reverse.lookup y) (kp : ∀ b o, s.heap.get? b = some o → h₁.get? b = some o) :
    Inv (cloCx P w K mg base ns L cl f c A outer s (cutH H (cl.map (·.2))) E) [] (vs.map some) (cutH H (cl.map (·.2))) { s with heap := h₁, toks := tk } := by
  have cat := hcl.at
  have ndn : (cl.map (·.1)).Nodup := by rw [hn]; exact S.nd
  have inC : ∀ {y a}, cl.lookup y = some a → a ∈ cl.map (·.2) := fun {y a} e => List.mem_map.mpr ⟨(y, a), look_mem e, rfl⟩
  have noA : ∀ b : Addr, b ∉ (cloCx P w K mg base ns L cl f c A outer s (cutH H (cl.map (·.2))) E).ex := fun b z => absurd (show b ∈ ([] : List Addr) from z) (by simp)
  have look : ∀ {y}, L.scope.names.lookup y = some .free → ∃ a, cl.lookup y = some a := fun {y} hl => by
    have hy : y ∈ ns := S.free (y, .free) (PySem.mem_of_lookup hl) rfl
    rw [← hn] at hy
    obtain ⟨⟨y', a⟩, hm, e⟩ := List.mem_map.mp hy
    have e : y' = y := e
    subst e
    obtain ⟨i, hi⟩ := List.getElem?_of_mem hm
    exact ⟨a, look_map ndn hi⟩
  have bsC : ∀ b o, base.get? b = some o → b ∉ cl.map (·.2) := fun b o e hb => by
    obtain ⟨o', _, _, e'⟩ := cat b hb
    rw [(e0.bs b o e).2] at e'; cases e'
  have frC : ∀ b ∈ frs outer, cutH H (cl.map (·.2)) b = none := fun b hb => by
    by_cases h : b ∈ cl.map (·.2)
    · exact cut_in h
    · rw [cut_out h]; exact e0.frf b hb
  have hokC := hok_cut cat e0.hok
  refine ⟨⟨e0.mod, S.kind, rfl, rfl, Nat.le_refl _, fun y z a e1 e2 => snd_inj nd (look_mem e1) (look_mem e2), fun y hy => ?_, fun y a z _ => ?_, fun _ => hd, Around.frames_deeper e0.frames, .inr ⟨rfl, rfl⟩, fun b z => absurd z (noA b), fun b o e => ⟨(e0.bs b o e).1, (cut_out (bsC b o e)).trans (e0.bs b o e).2⟩, e0.bsz, fun b _ _ => noA b,
      fun b z => absurd z (noA b), e0.funs, frC⟩,
    rfl, e0.bare, Un.kept kp, ⟨_, hns, fun i y v e1 e2 e3 => ?_⟩, fun y a e => ?_, hokC.fresh (Nat.le_refl _), fun y a e => cut_in (inC e), fun q hq => absurd (show q ∈ ([] : List (Addr × Obj)) ++ [] from hq) (by simp), hokC.kept kp, ?_⟩
  · have hy : L.scope.names.lookup y = some .cell ∨ L.scope.names.lookup y = some .free := hy
    rcases hy with hy | hy
    · exact absurd rfl (S.own _ (PySem.mem_of_lookup hy)).2
    · exact look hy
  · have z : false = true := z
    cases z
  · have e1 : ns[i]? = some y := e1
    have hf : L.scope.names.lookup y = some .free := S.is y (List.mem_of_getElem? e1)
    rw [← hn, List.getElem?_map] at e1
    obtain ⟨a, ha⟩ : ∃ a, cl[i]? = some (y, a) := by
      cases q : cl[i]? with
      | none => rw [q] at e1; cases e1
      | some p => rw [q] at e1; cases e1; exact ⟨p.2, rfl⟩
    obtain ⟨v', o, u, q1, q2, q3, q4⟩ := hcl.get ha
    have e2 : (vs.map some)[i]? = some (some v) := e2
    rw [List.getElem?_map, q1] at e2
    cases e2
    exact ⟨u, q3, .inr ⟨.inr hf, a, look_map ndn ha, o, kp _ _ (cell_o e0.hok q4), q2⟩⟩
  · obtain ⟨i, hi⟩ := List.getElem?_of_mem (look_mem e)
    obtain ⟨v', o, u, q1, q2, q3, q4⟩ := hcl.get hi
    exact ⟨some u, o, kp _ _ (cell_o e0.hok q4), q2⟩
  · show (vs.map some).length = ns.length
    rw [List.length_map, hcl.len, ← hn, List.length_map]
/-- a lambda, and what its body does -/
structure LamP (P : Program) (w : World) (K : PySem.W.Frag) (mg : Str → Option Value) (base : Heap) (k : Nat) where
  L : LamK
  ns : List Str
  t : XK → TE
  S : CloS L.scope ns
  bind : ∀ (cl : List (Str × Addr)) (pm cv ctv : Value), bindArgs (PySem.W.kla_fn "<lambda>" L.qual L.params L.body L.scope cl pm cv ctv) ⟨[], []⟩ = pure []
  body : ∀ (cl : List (Str × Addr)) (A : Around) (outer : List Env) (s : Shared) (H : Hp) (E : XK) (f c : Addr), Room k (A.deeper (cloEnv L cl s.heap.objs.size f c)) → PE (cloCx P w K mg base ns L cl f c A outer s H E) L.body (t E)
/-- what is known of a closure at f -/
structure CloAt (H : Hp) (L : LamK) (ns : List Str) (f : Addr) (cl : List (Str × Addr)) (vs : List V) : Prop where
  code : ∃ c, H f = some (LamO L cl f c) ∧ H c = some (CodeO c L.qual) ∧ f ∉ cl.map (·.2) ∧ c ∉ cl.map (·.2)
  names : cl.map (·.1) = ns
  nd : (cl.map (·.2)).Nodup
  cells : ∃ U, CellsO H U cl vs
/-- calling it -/
def tActC {P : Program} {w : World} {K : PySem.W.Frag} {mg : Str → Option Value} {base : Heap} {k : Nat} (i : Nat) (E : XK) : TE := fun σ H Q => ∃ (l : LamP P w K mg base k) (f : Addr) (cl : List (Str × Addr)) (vs : List V), σ[i]? = some (some (.ref f)) ∧ CloAt H l.L l.ns f cl vs ∧
  l.t (fun cls d H' => (∀ b ∈ cl.map (·.2), H' b = none) → E cls d (pasteH H H' (cl.map (·.2)))) (vs.map some) (cutH H (cl.map (·.2))) (fun v H' => (∀ b ∈ cl.map (·.2), H' b = none) → Q v (pasteH H H' (cl.map (·.2))))
theorem run_clo {k : Nat} (l : LamP P w K mg base k) {f : Addr} {cl : List (Str × Addr)} {vs : List V} {A : Around} {outer : List Env} {s : Shared} {H : Hp} {Q : VK} {E : XK} (hr : Room (k + 1) A) (e0 : Env0 P w K mg base A outer s H) (nl : s.heap.NoLimit) (ca : CloAt H l.L l.ns f cl vs)
    (ht : l.t (fun cls d H' => (∀ b ∈ cl.map (·.2), H' b = none) → E cls d (pasteH H H' (cl.map (·.2)))) (vs.map some) (cutH H (cl.map (·.2))) (fun v H' => (∀ b ∈ cl.map (·.2), H' b = none) → Q v (pasteH H H' (cl.map (·.2))))) :
    codeAny (model P w) A (.call (.ref f) ⟨[], []⟩) (CR (L2.CX P w) outer P w H s Q E) s := by
  obtain ⟨c, hf, hc, _, _⟩ := ca.code
  obtain ⟨U, hcl⟩ := ca.cells
  have cat := hcl.at
  obtain ⟨⟨pm, ctv, of1⟩, _, _⟩ := e0.hok f _ hf
  obtain ⟨⟨oc, vsc, t, hoc, hdc, hvc⟩, _, _⟩ := e0.hok c _ hc
  refine PySem.W.kla_callFunE hr.depth of1 rfl l.S.co l.S.gen rfl ⟨c, oc, vsc, t, rfl, hoc, hdc, hvc⟩ ?_
  rw [l.bind]
  refine wpAny_pure (wpAny_newFunctionEnv (fun y hy => (l.S.own y hy).2) (fun y hy => absurd hy (by simp)) (fun h₁ hns hsb => ⟨nl.fresh _ hsb, ?_⟩) l.S.kind)
  show codeAny _ _ (.expr l.L.body (cloEnv l.L cl s.heap.objs.size f c)) _ _
  have kp : ∀ b o, s.heap.get? b = some o → h₁.get? b = some o := fun b o e => hsb.extBut b o (Nat.ne_of_lt (Heap.lt_size e)) (Heap.get?_push_of_some _ e)
  have J := clo_start (f := f) (c := c) (E := fun cls d H' => (∀ b ∈ cl.map (·.2), H' b = none) → E cls d (pasteH H H' (cl.map (·.2)))) (tk := s.toks + ([] : List (Str × Value)).length) l.S e0 hr.hd ca.names ca.nd hcl hns kp
  refine PySem.W.kla_codeExpr (wpAny_mono ((l.body cl A outer s _ _ f c (hr.deeper _)).run [] _ _ _ _ J ht) (fun v s' hq => ?_) fun e s' hq => ?_)
  · obtain ⟨w', H', J', rv, q⟩ := hq
    exact ce_paste cat e0.hok e0.frf ⟨w', H', J'.os, J'.bare, J'.base, J'.hok, rv, q⟩
  · exact wpAny_mono hq (fun _ s'' h => cx_paste cat e0.hok e0.frf h) fun e' s'' h => cx_paste cat e0.hok e0.frf h
/-- x(), where x is a closure -/
theorem pe_actC {X : Cx} {k i : Nat} {a : Str} {W : WX} {E : XK} {p1 p2 : Pos} (tk : Takes X W) (hW : ∀ cls d σ' H', E cls d H' → W cls d σ' H') (hr : Room (k + 1) X.A) (hN : X.N[i]? = some a) (hv : Vis X.env.scope a) (hd : (a == ("__debug__" : Str)) = false := by decide) (hcd : (a == ("__classdict__" : Str)) = false := by decide) :
    PE X (.Call (.Name a p1) [] [] p2) (tActC (P := X.prog) (w := X.w) (K := X.K) (mg := X.mg) (base := X.base) (k := k) i E) := by
  refine ⟨fun pinsZ sZ σZ HZ Q IZ h => ?_⟩
  obtain ⟨l, f, cl, vs, hs, ca, ht⟩ := h
  refine wpAny_Call_Name_kw (thn ((pe_var (pos := p1) (i := i) hN hv hd hcd).run pinsZ sZ σZ HZ (fun v H1 => v = .ref f ∧ H1 = HZ) IZ ⟨.ref f, hs, rfl, rfl⟩) fun u s1 ⟨v, H1, I1, r1, q1⟩ => ?_)
  obtain ⟨ev, eH⟩ := q1
  subst ev
  rw [eH] at I1
  obtain rfl : u = Value.ref f := r1
  obtain ⟨c, hf, hc, _⟩ := ca.code
  obtain ⟨⟨pm, ctv, of1⟩, _, _⟩ := I1.hok f _ hf
  refine PySem.W.callWith_F0 ⟨_, _, _, _, of1⟩ ?_
  have hx : Passes (L2.CX X.prog X.w) X E := passes_call tk hW
  refine wpAny_call (codeAny_mono (run_clo l hr I1.env0 I1.nolimit ca ht) fun r s' hq => ?_)
  cases r with
  | error e => exact hx pinsZ σZ HZ s1 e s' I1 hq
  | ok fl =>
    cases fl with
    | ret u => exact I1.after hq
    | next => exact False.elim hq
    | brk => exact False.elim hq
    | cont => exact False.elim hq
end
end Dw

/-! A lambda made and kept; a call that lends the def's cells. -/
namespace Dw
open PySem PySem.Spec PyProof.Rows L2 LamX
section
variable {X : Cx} {pins : List (Addr × Obj)} {σ : L2.St} {H : Hp} {s : Shared}
theorem lam_make4 {T : List (Addr × Str)} {c P : Addr} {params : Arguments} {body : Expr} {scope : Scope} {pos : Pos} {E Q : Value → Shared → Prop} (I : Inv X pins σ H s) (TB : TabB X.base X.mg c P) (hcode : X.env.code = .ref c)
    (hm : (P, X.env.qual ++ "<lambda>") ∈ T) (hu : ∀ p ∈ T, p.1 = P → p.2 = X.env.qual ++ "<lambda>") (hT : Tabs T H) (hdef : defaultsOf params X.env = ([], [])) (hfree : ∀ y ∈ scope.names, y.2 = .free → ∃ c, X.env.cells.lookup y.1 = some c)
    (h : ∀ (f c' : Addr) (pm ctv : Value) (H1 : Hp) (s' : Shared), Inv X pins σ H1 s' → Chg P (X.env.qual ++ "<lambda>") H H1 → Tabs T H1 →
      s'.heap.get? f = some (PySem.W.kla_obj "<lambda>" (X.env.qual ++ "<lambda>") params body scope (cloFrom X.env.cells scope.names []) pm c' ctv) → H1 f = none → s.heap.objs.size ≤ f → f ≠ c' → H1 c' = some (CodeO c' (X.env.qual ++ "<lambda>")) →
      (H c' = none ∨ ∃ (ps : Array Value) (pos : Pos), H P = some (.tbl ps) ∧ codeAmong pos ps.toList = some (.ref c')) → Q (.ref f) s') :
    wpAny (model X.prog X.w) X.A (eval (.Lambda params body scope pos) X.env) Q E s := by
  obtain ⟨ps, hP, ht, ha⟩ := hT _ hm
  have hP' : s.heap.get? P = some { cls := .none, data := .fields ps } := I.hok P _ hP
  have bP := TB.bm.keeps I.bk
  refine PySem.W.kla_eval hdef ?_
  cases hc : codeAmong pos ps.toList with
  | some cv =>
    obtain ⟨c', rfl, hco⟩ := ha pos cv hc
    refine PySem.W.kla_makeFunctionHit (mg := X.mg) (c := c) (P := P) (ps := ps) (closure_ok hfree) I.ok.glob (I.mod.glob.keeps I.bk) hcode (TB.code.keeps I.bk) hP' ht hc bP fun ctv h' tk hx hsz => ?_
    have hcl : c' < s.heap.objs.size := (I.hok c' _ hco).lt
    exact h h'.objs.size c' _ ctv H _ (I.kept (t' := tk) fun b o e => Heap.get?_push_of_some _ (hx b o e)) (.inl rfl) hT (Heap.get?_push_size _ rfl) (I.hok.fresh hsz) hsz (fun e => absurd (Nat.lt_of_lt_of_le hcl hsz) (by rw [e]; exact Nat.lt_irrefl _)) hco (.inr ⟨ps, pos, hP, hc⟩)
  | none =>
    refine PySem.W.kla_makeFunction (mg := X.mg) (c := c) (P := P) (ps := ps) (closure_ok hfree) I.ok.glob (I.mod.glob.keeps I.bk) hcode (TB.code.keeps I.bk) hP' ht hc TB.gP bP fun c' ctv h' tk hx hge hlt hrec htb => ?_
    obtain ⟨c2, oc, vs, t, e2, hoc, hd, hv⟩ := hrec
    cases e2
    have nC : H c' = none := I.hok.fresh hge
    have hsz : s.heap.objs.size ≤ h'.objs.size := Nat.le_trans hge (Nat.le_of_lt hlt)
    have I1 := inv_table (t' := tk) (more := #[rawInt pos.line, rawInt pos.col, .ref c']) (h' := h'.push (PySem.W.kla_obj "<lambda>" (X.env.qual ++ "<lambda>") params body scope (cloFrom X.env.cells scope.names []) ((X.mg "__name__").getD .none) c' ctv)) I hP
      (fun b o hb e => Heap.get?_push_of_some _ (hx b o hb e)) (Heap.get?_push_of_some _ htb) hge ⟨oc, vs, t, Heap.get?_push_of_some _ hoc, hd, hv⟩
    refine h h'.objs.size c' _ ctv _ _ I1 (.inr ⟨c', ps, pos, hP, nC, rfl⟩) (tabs_grow hT hu hP ht ha nC) (Heap.get?_push_size _ rfl) ?_ hsz (Nat.ne_of_gt hlt) upd_same (.inl nC)
    rw [upd_ne (Nat.ne_of_gt hlt), upd_ne (Nat.ne_of_gt (Nat.lt_of_lt_of_le (Heap.lt_size hP') hsz))]
    exact I.hok.fresh hsz
/-- something more is known of a new object -/
theorem inv_learn {H1 : Hp} {s1 : Shared} {a : Addr} {o : HO} (I : Inv X pins σ H s) (I1 : Inv X pins σ H1 s1) (hn : H1 a = none) (ha : s.heap.objs.size ≤ a) (kp : ∀ p ∈ X.pn ++ pins, p.1 ≠ a) (new : ObjOk X.prog X.w (upd H1 a o) s1.heap a o) : Inv X pins σ (upd H1 a o) s1 := by
  have lt : ∀ b u, X.s_0.heap.get? b = some u → b ≠ a := fun b u e z => absurd (Nat.lt_of_lt_of_le (Heap.lt_size e) (Nat.le_trans I.sz ha)) (by rw [z]; exact Nat.lt_irrefl _)
  have ne : ∀ b u, H1 b = some u → b ≠ a := fun b u e => ne_of_none e hn
  have B := I1.base
  refine ⟨I1.ok, I1.os, I1.bare, ⟨B.keep, B.slot, fun b u e n x => ?_, B.there, fun b xs e => ?_, fun b u v e => ?_, fun b ps e => ?_⟩, I1.loc, I1.cell, ?_, fun x c e => ?_, fun p hp => ?_, fun b u e => ?_, I1.len⟩
  · rw [upd_ne (lt b u e)]; exact B.free b u e n x
  · have := B.tups b xs e
    rw [upd_ne (ne b _ this)]; exact this
  · have := B.frzs b u v e
    rw [upd_ne (ne b _ this)]; exact this
  · obtain ⟨more, this⟩ := B.tbls b ps e
    exact ⟨more, by rw [upd_ne (ne b _ this)]; exact this⟩
  · rw [upd_ne fun z => ?_]
    · exact I1.free
    · have := I.lt
      rw [z] at this
      exact absurd (Nat.lt_of_lt_of_le this ha) (Nat.lt_irrefl _)
  · rw [upd_ne fun z => ?_]
    · exact I1.freeC x c e
    · obtain ⟨v, ob, ho, _⟩ := I.cell x c e
      have := Heap.lt_size ho
      rw [z] at this
      exact absurd (Nat.lt_of_lt_of_le this ha) (Nat.lt_irrefl _)
  · obtain ⟨h1, h2, h3⟩ := I1.pin p hp
    exact ⟨h1, by rw [upd_ne (kp p hp)]; exact h2, h3⟩
  · by_cases hb : b = a
    · subst hb
      rw [upd_same] at e; cases e
      exact new
    · rw [upd_ne hb] at e
      exact (I1.hok b u e).stay (fun _ _ _ q => q) (fun c q => by rw [upd_ne (ne c _ q)]; exact q) fun c xs q => by rw [upd_ne (ne c _ q)]; exact q
/-- a lambda, made -/
def tLamV (T : List (Addr × Str)) (P : Addr) (L : LamK) (cl : List (Str × Addr)) : TE := fun σ H Q => Tabs T H ∧ ∀ H1, Chg P L.qual H H1 → Tabs T H1 → ∀ f c, H1 f = none → f ≠ c → H1 c = some (CodeO c L.qual) →
  (H c = none ∨ ∃ (ps : Array Value) (pos : Pos), H P = some (.tbl ps) ∧ codeAmong pos ps.toList = some (.ref c)) → Q (.ref f) (upd H1 f (LamO L cl f c))
theorem pe_lamV {T : List (Addr × Str)} {c P : Addr} {params : Arguments} {body : Expr} {scope : Scope} {lpos : Pos} (TB : TabB X.base X.mg c P) (hcode : X.env.code = .ref c) (hm : (P, X.env.qual ++ "<lambda>") ∈ T) (hu : ∀ p ∈ T, p.1 = P → p.2 = X.env.qual ++ "<lambda>") (L : LamS X.env.scope scope) (hdef : defaultsOf params X.env = ([], [])) :
    PE X (.Lambda params body scope lpos) (tLamV T P ⟨params, body, scope, X.env.qual ++ "<lambda>"⟩ (cloFrom X.env.cells scope.names [])) := by
  refine ⟨fun pins s σ H Q I h => ?_⟩
  obtain ⟨hT, h⟩ := h
  refine lam_make4 I TB hcode hm hu hT hdef (L.has I.ok) fun f c' pm ctv H1 s' I1 chg T1 hf hn hge ne hco hor => ?_
  have new : ObjOk X.prog X.w (upd H1 f (LamO ⟨params, body, scope, X.env.qual ++ "<lambda>"⟩ (cloFrom X.env.cells scope.names []) f c')) s'.heap f (LamO ⟨params, body, scope, X.env.qual ++ "<lambda>"⟩ (cloFrom X.env.cells scope.names []) f c') :=
    ⟨⟨pm, ctv, hf⟩, ⟨_, hf⟩, fun h1 h2 ⟨pm, ctv, e⟩ st => ⟨pm, ctv, st _ e⟩⟩
  exact ⟨.ref f, _, inv_learn I I1 hn hge (fun p hp z => by
    have := Heap.lt_size (I.pin p hp).1
    rw [z] at this
    exact absurd (Nat.lt_of_lt_of_le this hge) (Nat.lt_irrefl _)) new, rfl, h H1 chg T1 f c' hn ne hco hor⟩
end
/-! ### a call that lends the cells -/
/-- the cells cs, as g tells, are known too -/
def addH (H : Hp) (cs : List Addr) (g : Addr → Obj) : Hp := fun b => if b ∈ cs then some (CellO b (g b)) else H b
theorem add_in {H : Hp} {cs : List Addr} {g : Addr → Obj} {b : Addr} (h : b ∈ cs) : addH H cs g b = some (CellO b (g b)) := if_pos h
theorem add_out {H : Hp} {cs : List Addr} {g : Addr → Obj} {b : Addr} (h : b ∉ cs) : addH H cs g b = H b := if_neg h
/-- the cell of a name -/
abbrev adX (X : Cx) (y : Str) : Addr := (X.env.cells.lookup y).getD 0
/-- names of the def, by slot, that are cells: ws what they hold -/
def CapN (X : Cx) (σ : L2.St) : List (Nat × Str) → List V → Prop
  | [], ws => ws = []
  | (i, y) :: r, ws => ∃ (v : V) (us : List V), ws = v :: us ∧ X.N[i]? = some y ∧ σ[i]? = some (some v) ∧ X.env.scope.names.lookup y = some .cell ∧ CapN X σ r us
/-- g tells the cells' contents -/
def CapG (X : Cx) (g : Addr → Obj) : List (Nat × Str) → List V → Prop
  | [], ws => ws = []
  | (_, y) :: r, ws => ∃ (v : V) (us : List V) (u : Value), ws = v :: us ∧ (g (adX X y)).data = .cell (some u) ∧ RelV v u ∧ CapG X g r us
abbrev capA (X : Cx) (caps : List (Nat × Str)) : List Addr := caps.map fun p => adX X p.2
section
variable {X : Cx} {pins : List (Addr × Obj)} {σ : L2.St} {H : Hp} {s : Shared}
theorem cap_look (I : Inv X pins σ H s) {y : Str} (h : X.env.scope.names.lookup y = some .cell) : X.env.cells.lookup y = some (adX X y) := by
  obtain ⟨c, hc⟩ := I.ok.has y (.inl h)
  unfold adX
  rw [hc]; rfl
theorem capN_k : ∀ {caps : List (Nat × Str)} {ws : List V}, CapN X σ caps ws → ∀ p ∈ caps, X.env.scope.names.lookup p.2 = some .cell
  | [], _, _ => fun p hp => absurd hp (by simp)
  | (i, y) :: r, _, ⟨v, us, e, hN, hs, hk, t⟩ => fun p hp => by
    rcases List.mem_cons.mp hp with rfl | hp
    · exact hk
    · exact capN_k t p hp
theorem cap_g (I : Inv X pins σ H s) : ∀ {caps : List (Nat × Str)} {ws : List V}, CapN X σ caps ws → CapG X (fun b => (s.heap.get? b).getD { cls := .none, data := .fields #[] }) caps ws ∧ ∀ b ∈ capA X caps, s.heap.get? b = some ((s.heap.get? b).getD { cls := .none, data := .fields #[] })
  | [], _, h => ⟨h, fun b hb => absurd hb (by simp [capA])⟩
  | (i, y) :: r, _, ⟨v, us, e, hN, hs, hk, t⟩ => by
    obtain ⟨hg, ha⟩ := cap_g I t
    obtain ⟨m, _, hl⟩ := I.loc
    obtain ⟨u, ru, lk⟩ := hl i y v hN hs (.inr (.inl hk))
    have hc := cap_look I hk
    have cell : ∃ o : Obj, s.heap.get? (adX X y) = some o ∧ o.data = .cell (some u) := by
      rcases lk with ⟨k', _⟩ | ⟨_, c3, e', o, ho, hd⟩
      · have k' : X.env.scope.names.lookup y = some .local := k'
        rw [hk] at k'; cases k'
      · rw [hc] at e'; cases e'
        exact ⟨o, ho, hd⟩
    obtain ⟨o, ho, hd⟩ := cell
    refine ⟨⟨v, us, u, e, ?_, ru, hg⟩, fun b hb => ?_⟩
    · show ((s.heap.get? (adX X y)).getD _).data = _
      rw [ho]; exact hd
    · rcases List.mem_cons.mp (show b ∈ adX X y :: capA X r from hb) with rfl | hb
      · rw [ho]; rfl
      · exact ha b hb
/-- the callee's frame, the cells known -/
theorem env0_add {cs : List Addr} {g : Addr → Obj} (I : Inv X pins σ H s) (hfn : ∀ y, X.env.scope.names.lookup y = some .cell → X.fn y = true) (hc : ∀ b ∈ cs, ∃ y, X.env.cells.lookup y = some b ∧ X.env.scope.names.lookup y = some .cell) (hg : ∀ b ∈ cs, s.heap.get? b = some (g b)) :
    Env0 X.prog X.w X.K X.mg X.base X.A X.stack s (addH H cs g) ∧ ∀ b ∈ cs, b ∉ frs X.stack := by
  have e0 := I.env0
  have up : ∀ b ∈ cs, X.s_0.heap.objs.size ≤ b := fun b hb => let ⟨y, h1, h2⟩ := hc b hb; I.ok.cab y b (hfn y h2) h1
  have hn : ∀ b ∈ cs, H b = none := fun b hb => let ⟨y, h1, _⟩ := hc b hb; I.freeC y b h1
  have nf : ∀ b ∈ cs, b ∉ frs X.stack := fun b hb z => by
    obtain ⟨y, h1, _⟩ := hc b hb
    rcases List.mem_cons.mp (I.stkSub b z) with e | z
    · exact I.cne y b h1 e
    · obtain ⟨_, o, ho, _⟩ := I.ok.funs.mem z
      exact absurd (Nat.lt_of_lt_of_le (Heap.lt_size ho) (up b hb)) (Nat.lt_irrefl _)
  refine ⟨⟨e0.frames, e0.mod, fun b o e => ⟨(e0.bs b o e).1, ?_⟩, e0.bsz, e0.funs, fun b hb => ?_, fun b u e => ?_, e0.bare⟩, nf⟩
  · rw [add_out fun hb => ?_]
    · exact (e0.bs b o e).2
    · exact absurd (Nat.lt_of_lt_of_le (Heap.lt_size e) (Nat.le_trans I.ok.bsz (up b hb))) (Nat.lt_irrefl _)
  · rw [add_out fun h => nf b h hb]
    exact e0.frf b hb
  · by_cases hb : b ∈ cs
    · rw [add_in hb] at e; cases e
      exact cellO_ok (hg b hb)
    · rw [add_out hb] at e
      exact (e0.hok b u e).stay (fun _ _ _ q => q) (fun c q => by rw [add_out fun z => by rw [hn c z] at q; cases q]; exact q) fun c xs q => by rw [add_out fun z => by rw [hn c z] at q; cases q]; exact q
/-- behind the call: the cells are the def's own again -/
theorem ce_strip {cs : List Addr} {g : Addr → Obj} {Q : VK} {u : Value} {s' : Shared} (hn : ∀ b ∈ cs, H b = none) (hg : ∀ b ∈ cs, s.heap.get? b = some (g b)) (nf : ∀ b ∈ cs, b ∉ frs X.stack)
    (x : CE X.stack X.prog X.w (addH H cs g) s (fun v H' => (∀ b ∈ cs, H' b = some (CellO b (g b))) ∧ Q v (cutH H' cs)) u s') : CE X.stack X.prog X.w H s Q u s' := by
  obtain ⟨v, H', os, ag, un, hok, rv, hc, q⟩ := x
  have ks : ∀ b ∈ cs, s'.heap.get? b = some (g b) := fun b hb => cell_o hok (hc b hb)
  refine ⟨v, cutH H' cs, os, ag, ⟨fun b o e z f x => ?_, fun b o e z f x => ?_, fun b o e z x => ?_, un.there, fun b xs e => ?_, fun b o w e => ?_, fun b ps e => ?_⟩, fun b w e => ?_, rv, q⟩
  · by_cases hb : b ∈ cs
    · rw [hg b hb] at e; cases e
      exact ks b hb
    · exact un.keep b o e (by rw [add_out hb]; exact z) f x
  · exact un.slot b o e (by rw [add_out fun hb => nf b hb f]; exact z) f x
  · by_cases hb : b ∈ cs
    · exact cut_in hb
    · rw [cut_out hb]; exact un.free b o e (by rw [add_out hb]; exact z) x
  · have hb : b ∉ cs := fun hb => by rw [hn b hb] at e; cases e
    rw [cut_out hb]; exact un.tups b xs (by rw [add_out hb]; exact e)
  · have hb : b ∉ cs := fun hb => by rw [hn b hb] at e; cases e
    rw [cut_out hb]; exact un.frzs b o w (by rw [add_out hb]; exact e)
  · have hb : b ∉ cs := fun hb => by rw [hn b hb] at e; cases e
    rw [cut_out hb]; exact un.tbls b ps (by rw [add_out hb]; exact e)
  · by_cases hb : b ∈ cs
    · rw [cut_in hb] at e; cases e
    · rw [cut_out hb] at e
      refine (hok b w e).stay (fun _ _ _ q => q) (fun c q => ?_) fun c xs q => ?_
      · rw [cut_out fun z => by rw [hc c z] at q; cases q]; exact q
      · rw [cut_out fun z => by rw [hc c z] at q; cases q]; exact q
end
/-- f(..), the def's cells lent -/
def tCallC (X : Cx) (sp : Sp) (E : XK) (t : TA) : TE := fun σ H Q => t σ H fun vs H1 => ∃ (caps : List (Nat × Str)) (ws : List V), CapN X σ caps ws ∧ ∀ g : Addr → Obj, CapG X g caps ws → (∀ b ∈ capA X caps, H1 b = none) → (∀ p ∈ caps, ∀ q ∈ caps, adX X p.2 = adX X q.2 → p.2 = q.2) →
  sp vs (addH H1 (capA X caps) g) (fun v H' => (∀ b ∈ capA X caps, H' b = some (CellO b (g b))) ∧ Q v (cutH H' (capA X caps))) E
section
variable [Tabs0] {X : Cx} {k : Nat} {f : Addr} {fd : FuncData} {ps : List Str} {s : Spc} {E : XK} {x : Str} {p pos : Pos} {e : Expr} {es : List Expr} {t : TA}
theorem pe_callGC (F : FnG X.prog X.w X.K X.mg X.base k f fd ps s) (hr : Room k X.A) (hG : X.A.guards = some []) (hfn : ∀ y, X.env.scope.names.lookup y = some .cell → X.fn y = true) (hg : Gl X x) (hm : X.mg x = some (.ref f)) (hk : PySem.W.keepIn X.K (.ref f) = true) (hb : Binds X.K fd ps []) (ha : PA X (e :: es) t)
    (hdb : (x == ("__debug__" : Str)) = false := by decide) (he : starEach (e :: es) X.env = (false, eval e X.env) :: starEach es X.env := by rfl) (hpl : (backTo pos (starEach es X.env)).any (·.1) = false := by rfl) : PE X (.Call (.Name x p) (e :: es) [] pos) (tCallC X (toSp s) E t) := by
  refine ⟨fun pins s1 σ H Q I h => wpAny_Call_Name_kw (ld_glob I hg hm (PySem.W.callWith_K (h₀ := X.base) I.ok.mod.kin hk (thn (ha.run pos pins s1 σ H _ I h) fun us s2 ⟨vs, H1, I1, r, q⟩ => ⟨I1.kIn, ?_⟩) he hpl) hdb)⟩
  obtain ⟨caps, ws, hcap, q⟩ := q
  have hkk := capN_k hcap
  obtain ⟨hG1, hG2⟩ := cap_g I1 hcap
  have hc : ∀ b ∈ capA X caps, ∃ y, X.env.cells.lookup y = some b ∧ X.env.scope.names.lookup y = some .cell := fun b hb => by
    obtain ⟨p, hp, e⟩ := List.mem_map.mp hb
    have e : adX X p.2 = b := e
    rw [← e]
    exact ⟨p.2, cap_look I1 (hkk p hp), hkk p hp⟩
  have hn : ∀ b ∈ capA X caps, H1 b = none := fun b hb => let ⟨y, h1, _⟩ := hc b hb; I1.freeC y b h1
  obtain ⟨e0, nf⟩ := env0_add I1 hfn hc hG2
  have q := q _ hG1 hn fun p hp q hq e => I1.ok.inj p.2 q.2 (adX X p.2) (cap_look I1 (hkk p hp)) (by rw [e]; exact cap_look I1 (hkk q hq))
  have hb := hb s2 us I1.kIn (by rw [List.append_nil, ← r.length]; exact spc_len F.1 _ _ _ _ q)
  rw [List.append_nil] at hb
  refine wpAny_call (codeAny_mono (F.2 X.A X.stack s2 _ ⟨us, []⟩ us vs _ E hr hG e0 hb r q) fun res s3 hq => ?_)
  match res, hq with
  | .error _, hq => exact (show False from hq).elim
  | .ok (.ret _), hq => exact I1.after (ce_strip hn hG2 nf hq)
  | .ok .next, hq => exact (show False from hq).elim
  | .ok .brk, hq => exact (show False from hq).elim
  | .ok .cont, hq => exact (show False from hq).elim
end
/-! ### by data -/
section
variable [Tabs0]
theorem dl_lamV {Γ : Gam} {Tt : List (Addr × Str)} {P : Addr} {L : LamK} {cl : List (Str × Addr)} {i : Nat} {sl : Sl} {Q : D → Gam → Prop} (T : TabsOk Tt) (hP : (P, L.qual) ∈ Tt) (h0 : Γ[i]? = some sl) (tg : TgS sl) (hq : Q (.fnv L cl) Γ) : Dl (tLamV Tt P L cl) Γ Q := fun F σ W R g k => by
  have tb := g.tabs h0 tg
  refine ⟨tabs_of g.ok T tb, fun H1 c T1 f c' hn ne hco hor => ?_⟩
  obtain ⟨st, g1⟩ := g.chg T hP tb c T1
  have nu : ¬ W.U c' := by
    rcases hor with h | ⟨ps, pos, h1, h2⟩
    · exact g.ok.new h
    · exact (g.ok.pu P (tb _ _ (T.sound _ hP))).2.2.cod (T.sound _ hP) ps pos c' h1 h2
  have sm : Same H1 (upd H1 f (LamO L cl f c')) := same_upd hn
  have g2 : SR F Γ σ (W.at (upd H1 f (LamO L cl f c'))) := SR.same (W := W.at H1) sm g1
  have nf : ¬ W.U f := fun u => g1.ok.dom f u hn
  exact k (.ref f) (W.at (upd H1 f (LamO L cl f c'))) (.fnv L cl) Γ (st.trans (Stp.of_same (W := W.at H1) g1.ok sm)) g2 ⟨f, c', rfl, upd_same, nf, by
    show upd H1 f _ c' = _
    rw [upd_ne (Ne.symm ne)]; exact hco, nu⟩ hq
/-- the names captured, with what is known of them -/
def CapD (X : Cx) (Γ : Gam) (cd : List (Nat × Str × D)) : Prop := ∀ p ∈ cd, X.N[p.1]? = some p.2.1 ∧ X.env.scope.names.lookup p.2.1 = some .cell ∧ Γ[p.1]? = some (.val p.2.2)
/-- the names ns hold ds -/
def CapL (cd : List (Nat × Str × D)) : List Str → List D → Prop
  | [], ds => ds = []
  | y :: r, ds => ∃ (i : Nat) (d : D) (es : List D), ds = d :: es ∧ (i, y, d) ∈ cd ∧ CapL cd r es
theorem capd_n {X : Cx} {F : Addr → Prop} {Γ : Gam} {σ : L2.St} {W : Wd} (g : SR F Γ σ W) : ∀ {cd : List (Nat × Str × D)}, CapD X Γ cd → ∃ ws, CapN X σ (cd.map fun p => (p.1, p.2.1)) ws ∧ RepL W (cd.map fun p => p.2.2) ws
  | [], _ => ⟨[], rfl, rfl⟩
  | p :: r, h => by
    obtain ⟨ws, h1, h2⟩ := capd_n g (cd := r) fun q hq => h q (List.mem_cons_of_mem _ hq)
    obtain ⟨a1, a2, a3⟩ := h p List.mem_cons_self
    obtain ⟨v, e, rv⟩ := g.val p.1 p.2.2 a3
    exact ⟨v :: ws, ⟨v, ws, rfl, a1, e, a2, h1⟩, v, ws, rfl, rv, h2⟩
theorem capg_get {X : Cx} {W : Wd} {gf : Addr → Obj} : ∀ {cd : List (Nat × Str × D)} {ws : List V}, CapG X gf (cd.map fun p => (p.1, p.2.1)) ws → RepL W (cd.map fun p => p.2.2) ws → ∀ p ∈ cd, ∃ (v : V) (u : Value), (gf (adX X p.2.1)).data = .cell (some u) ∧ RelV v u ∧ Rep W p.2.2 v
  | [], _, _, _ => fun p hp => absurd hp (by simp)
  | q :: r, _, ⟨v, us, u, e, h1, h2, h3⟩, ⟨v', us', e', r1, r2⟩ => fun p hp => by
    rw [e] at e'; cases e'
    rcases List.mem_cons.mp hp with rfl | hp
    · exact ⟨v, u, h1, h2, r1⟩
    · exact capg_get h3 r2 p hp
end
end Dw

/-! Lambdas by data: given to a def (their cells lent), called there. -/
namespace Dw
open PySem PySem.Spec PyProof.Rows L2 LamX
variable [Tabs0]
mutual
/-- what needs no purse, no table and no closure -/
def okC : D → Bool
  | .purse => false | .scr _ _ => false | .tag _ => false | .fnv _ _ => false | .clo _ _ _ => false
  | .tup ds => okCs ds | .lst ds => okCs ds | .obj _ _ ds => okCs ds | .dct _ ds => okCs ds | .tupN ds => okCs ds
  | _ => true
def okCs : List D → Bool
  | [] => true
  | d :: ds => okC d && okCs ds
end
section
variable {W : Wd} {cs : List Addr}
theorem ca_ne {a : Addr} {u : HO} (hc : CellsAt W.H cs) (h : W.H a = some u) (ne : ∀ φ, u ≠ .ext φ) : a ∉ cs := fun z => by
  obtain ⟨o, _, _, e⟩ := hc a z
  rw [h] at e
  exact ne _ (Option.some.inj e)
theorem tup_cut {a : Addr} {vs : List V} (hc : CellsAt W.H cs) (h : TupAt W.H a vs) : TupAt (cutH W.H cs) a vs := by
  rcases h with h | ⟨o, h⟩
  · exact .inl (by rw [cut_out (ca_ne hc h fun φ z => nomatch z)]; exact h)
  · exact .inr ⟨o, by rw [cut_out (ca_ne hc h fun φ z => nomatch z)]; exact h⟩
end
mutual
theorem Rep.cut {W : Wd} {cs : List Addr} (hc : CellsAt W.H cs) : ∀ (d : D) (v : V), okC d = true → Rep W d v → Rep ⟨cutH W.H cs, W.U, fun _ => False⟩ d v
  | .non, _, _, h => h
  | .bl _, _, _, h => h
  | .int _, _, _, h => h
  | .str _, _, _, h => h
  | .raw _, _, _, h => h
  | .tup ds, _, n, ⟨a, vs, e, h, u, r⟩ => ⟨a, vs, e, tup_cut hc h, u, RepL.cut hc ds vs n r⟩
  | .tupN ds, _, n, ⟨a, vs, e, ⟨o, h, c1, c2⟩, u, r⟩ => ⟨a, vs, e, ⟨o, (cut_out (ca_ne hc h fun φ z => nomatch z)).trans h, c1, c2⟩, u, RepL.cut hc ds vs n r⟩
  | .lst ds, _, n, ⟨a, vs, e, h, u, r⟩ => ⟨a, vs, e, (cut_out (ca_ne hc h fun φ z => nomatch z)).trans h, u, RepL.cut hc ds vs n r⟩
  | .obj C ns ds, _, n, ⟨a, dx, vs, e, h, u, l, r⟩ => ⟨a, dx, vs, e, (cut_out (ca_ne hc h fun φ z => nomatch z)).trans h, u, l, RepL.cut hc ds vs n r⟩
  | .purse, _, n, _ => nomatch n
  | .rng lo hi, _, _, ⟨a, e, h, u⟩ => ⟨a, e, (cut_out (ca_ne hc h fun φ z => nomatch z)).trans h, u⟩
  | .dct ks ds, _, n, ⟨a, vs, e, h, u, l, r⟩ => ⟨a, vs, e, (cut_out (ca_ne hc h fun φ z => nomatch z)).trans h, u, l, RepL.cut hc ds vs n r⟩
  | .scr _ _, _, n, _ => nomatch n
  | .tag _, _, n, _ => nomatch n
  | .fnv _ _, _, n, _ => nomatch n
  | .clo _ _ _, _, n, _ => nomatch n
theorem RepL.cut {W : Wd} {cs : List Addr} (hc : CellsAt W.H cs) : ∀ (ds : List D) (vs : List V), okCs ds = true → RepL W ds vs → RepL ⟨cutH W.H cs, W.U, fun _ => False⟩ ds vs
  | [], _, _, h => h
  | d :: ds, _, n, ⟨v, r, e, h1, h2⟩ => by
    have n' : okC d = true ∧ okCs ds = true := by simpa [okCs] using n
    exact ⟨v, r, e, Rep.cut hc d v n'.1 h1, RepL.cut hc ds r n'.2 h2⟩
end
theorem CellsO.nu {H : Hp} {U : Addr → Prop} : ∀ {cl : List (Str × Addr)} {vs : List V}, CellsO H U cl vs → ∀ b ∈ cl.map (·.2), ¬ U b
  | [], _, h => fun b hb => absurd hb (by simp)
  | p :: r, _, ⟨v, ws, o, u, e1, hd, hr, ha, nu, t⟩ => fun b hb => by
    rcases List.mem_cons.mp (show b ∈ p.2 :: r.map (·.2) from hb) with rfl | hb
    · exact nu
    · exact CellsO.nu t b hb
theorem vals_sr {F : Addr → Prop} {W : Wd} {ds : List D} {vs : List V} (ok : WOk F W) (r : RepL W ds vs) : SR F (ds.map Sl.val) (vs.map some) W := by
  have key : ∀ (i : Nat) (z : Sl), (ds.map Sl.val)[i]? = some z → ∃ d, z = .val d ∧ ds[i]? = some d := fun i z h => by
    rw [List.getElem?_map] at h
    cases q : ds[i]? with
    | none => rw [q] at h; cases h
    | some d => rw [q] at h; cases h; exact ⟨d, rfl, rfl⟩
  refine ⟨ok, by rw [List.length_map, List.length_map, r.length], fun i d h => ?_, fun i d h => ?_, fun i j a x y h => ?_⟩
  · obtain ⟨d', e, hd⟩ := key i _ h
    cases e
    obtain ⟨v, e1, r1⟩ := r.get hd
    exact ⟨v, by rw [List.getElem?_map, e1]; rfl, r1⟩
  · obtain ⟨d', e, _⟩ := key i _ h
    cases e
  · obtain ⟨d', e, _⟩ := key i _ h
    cases e
section
variable {P : Program} {w : World} {K : PySem.W.Frag} {mg : Str → Option Value} {base : Heap} {k i : Nat} {Γ : Gam} {ds : List D} {E : XK} {x : Exn} {d : D} {R : Option Addr → Hp → Prop}
theorem same_paste {W : Wd} {cs : List Addr} {H' : Hp} (s : Same (cutH W.H cs) H') : Same W.H (pasteH W.H H' cs) := fun b u e => by
  by_cases hb : b ∈ cs
  · rw [paste_in hb]; exact e
  · rw [paste_out hb]
    exact s b u (by rw [cut_out hb]; exact e)
theorem keep_paste {W : Wd} {cs : List Addr} {H' : Hp} (n : ∀ b ∈ cs, H' b = none) : ∀ a u, H' a = some u → ¬ W.U a → pasteH W.H H' cs a = some u ∧ ¬ W.U a := fun a u e nu => by
  have : a ∉ cs := fun z => by rw [n a z] at e; cases e
  exact ⟨(paste_out this).trans e, nu⟩
end
/-! ### given to a def -/
section
variable {X : Cx}
theorem capl_mem {cd : List (Nat × Str × D)} : ∀ {ns : List Str} {ds : List D}, CapL cd ns ds → ∀ y ∈ ns, ∃ i d, (i, y, d) ∈ cd
  | [], _, _ => fun y hy => absurd hy (by simp)
  | n :: r, _, ⟨i, d, es, e, h, t⟩ => fun y hy => by
    rcases List.mem_cons.mp hy with rfl | hy
    · exact ⟨i, d, h⟩
    · exact capl_mem t y hy
theorem capl_cells {W1 W2 : Wd} {cd : List (Nat × Str × D)} {gf : Addr → Obj} (hU : ∀ p ∈ cd, ¬ W2.U (adX X p.2.1)) (hH : ∀ p ∈ cd, W2.H (adX X p.2.1) = some (CellO (adX X p.2.1) (gf (adX X p.2.1))))
    (hp : ∀ p ∈ cd, ∃ (v : V) (u : Value), (gf (adX X p.2.1)).data = .cell (some u) ∧ RelV v u ∧ Rep W1 p.2.2 v) (up : ∀ d v, noP d = true → Rep W1 d v → Rep W2 d v) : ∀ {ns : List Str} {ds : List D}, CapL cd ns ds → noPs ds = true →
    ∃ vs, CellsO W2.H W2.U (ns.map fun y => (y, adX X y)) vs ∧ RepL W2 ds vs
  | [], _, h, _ => ⟨[], rfl, by rw [show _ = [] from h]; rfl⟩
  | n :: r, _, ⟨i, d, es, e, h, t⟩, np => by
    subst e
    have np' : noP d = true ∧ noPs es = true := by simpa [noPs] using np
    obtain ⟨vs, c1, r1⟩ := capl_cells hU hH hp up t np'.2
    obtain ⟨v, u, h1, h2, h3⟩ := hp (i, n, d) h
    exact ⟨v :: vs, ⟨v, vs, _, u, rfl, h1, h2, hH (i, n, d) h, hU (i, n, d) h, c1⟩, v, vs, rfl, up d v np'.1 h3, r1⟩
abbrev fnvD (X : Cx) (q : LamK × List Str × List D) : D := .fnv q.1 (q.2.1.map fun y => (y, adX X y))
abbrev cloD (q : LamK × List Str × List D) : D := .clo q.1 q.2.1 q.2.2
end
end Dw

/-! try with many clauses, some with a name; repr of data and of own objects; a call of a closure in it. -/
namespace Dw
open PySem PySem.Spec PyProof.Rows L2 LamX
/-- what the clauses wish of an exception of the body, one after the other; i: the slot of the name -/
def wManyN (K : PySem.W.Frag) (i : Nat) (D : Ends) : List (Value × Bool × (Addr → Value → Option Addr → TS)) → WX
  | [] => fun _ _ _ _ => False
  | (c, nm, ts) :: r => fun cls d σ H => ∃ b, PySem.W.exmOne K cls c = some b ∧ (b = true → ∀ a, H a = none → if nm = true then ts a cls d { nx := fun σ' H' => D.nx (σ'.set i none) H', rt := D.rt, bk := fun σ' H' => D.bk (σ'.set i none) H', ct := fun σ' H' => D.ct (σ'.set i none) H' } (σ.set i (some (.ref a))) H else ts a cls d D σ H) ∧ (b = false → wManyN K i D r cls d σ H)
inductive HdsN (X : Cx) (n : Str) (i : Nat) : List ExceptHandler → List (Value × Bool × (Addr → Value → Option Addr → TS)) → Prop
  | nil : HdsN X n i [] []
  | cons {x : Str} {c : Value} {ts : Addr → Value → Option Addr → TS} {b₀ : Stmt} {suite : List Stmt} {np pos' : Pos} {hds : List ExceptHandler} {l : List (Value × Bool × (Addr → Value → Option Addr → TS))} (hc : Names X x c)
      (hsu : ∀ (a : Addr) (oe : Obj) (cls : Value) (d : Option Addr) (pn : List (Addr × Obj)), Zc cls d oe → (∃ vs, oe.data = .fields vs) → PSs (X.suite a ((a, oe) :: pn)) (b₀ :: suite) (ts a cls d)) (r : HdsN X n i hds l) :
      HdsN X n i (.ExceptHandler (some (.Name x np)) none (b₀ :: suite) pos' :: hds) ((c, false, ts) :: l)
  | named {x : Str} {c : Value} {ts : Addr → Value → Option Addr → TS} {b₀ : Stmt} {suite : List Stmt} {np pos' : Pos} {hds : List ExceptHandler} {l : List (Value × Bool × (Addr → Value → Option Addr → TS))} (hi : X.N[i]? = some n) (hln : X.env.kindOf n = some .local) (hc : Names X x c)
      (hsu : ∀ (a : Addr) (oe : Obj) (cls : Value) (d : Option Addr) (pn : List (Addr × Obj)), Zc cls d oe → (∃ vs, oe.data = .fields vs) → PSs (X.suite a ((a, oe) :: pn)) (b₀ :: suite) (ts a cls d)) (r : HdsN X n i hds l) :
      HdsN X n i (.ExceptHandler (some (.Name x np)) (some n) (b₀ :: suite) pos' :: hds) ((c, true, ts) :: l)
section
variable {X : Cx} {body : List Stmt} {h₀ : ExceptHandler} {hds : List ExceptHandler} {l : List (Value × Bool × (Addr → Value → Option Addr → TS))} {pos : Pos} {tb : WX → TS} {n : Str} {i : Nat}
theorem ps_try_manyN (hs : X.stack = X.env :: X.outer) (hf : X.env.frame = some X.env.locals) (hN : X.N.Nodup)
    (hb : ∀ (W : WX) (pn : List (Addr × Obj)) (xe : Value → Shared → Prop), Takes (X.tr pn xe) W → PassesOwn (model X.prog X.w) X.A X.env xe → PSs (X.tr pn xe) body (tb W))
    (hh : HdsN X n i (h₀ :: hds) l) : PS X (.Try body (h₀ :: hds) [] [] pos) (fun D σ H => tb (wManyN X.K i D l) D σ H) := by
  refine ⟨fun pins s σ H D I h => ?_⟩
  have ok := I.ok
  have hfr : X.A.frames = some (X.env :: X.outer) := by rw [ok.frames, hs]
  refine wpAny_Try_except ?_
  refine wpAny_mono ((hb (wManyN X.K i D l) (X.pn ++ pins) (fun e s₁ => wpAny (model X.prog X.w) X.A (noteFrame e X.env) (fun _ s₂ => wpAny (model X.prog X.w) X.A (setFlight e none) (fun _ s₃ =>
    wpAny (model X.prog X.w) X.A (handleBy e X.env (h₀ :: hds)) (L2.SP X pins D) X.xe s₃) X.xe s₂) X.xe s₁) (fun u s' xx => ?_) PassesOwn.looking).run [] s σ H D (I.toTry _) h) (fun f s1 hsp => ?_) (fun e s1 he => he)
  · obtain ⟨a, B, sI, pins', σ', H', cls, d, rfl, J', nb, up, sky, na, os, ag, w⟩ := xx
    have J : Inv X pins σ' H' sI := J'.ofTry ok
    have sky' : Sky B (X.env :: X.outer) a (Zc cls d) X.env.locals s'.heap := by rw [← hs]; exact sky
    show wpAny (model X.prog X.w) X.A (noteFrame (.ref a) X.env) _ _ _
    refine Sky.land Zc.steady hfr hf sky' fun h3 fl3 up3 => ?_
    have J3 : Inv X pins σ' H' { s' with heap := h3 } := J.landed nb fl3.1 (up.trans up3) os ag
    obtain ⟨oe3, vs3, he3, hz3, hd3⟩ := fl3.there
    have nfr : a ∉ frs (X.env :: X.outer) := fun hm => by
      obtain ⟨_, o', e', hnf⟩ := fl3.2.2.1.mem hm
      rw [he3] at e'; cases e'
      exact hnf _ hd3
    have nL : a ≠ X.env.locals := fun z => nfr (List.mem_filterMap.mpr ⟨X.env, List.mem_cons_self, by rw [hf, z]⟩)
    have nF : a ∉ X.fs := fun hm => by
      obtain ⟨e, he, q⟩ := List.mem_filterMap.mp hm
      exact nfr (List.mem_filterMap.mpr ⟨e, List.mem_cons_of_mem _ he, q⟩)
    have S3 := J3.suite he3 hd3 na nL nF
    have LT : PySem.W.Looks (model X.prog X.w) h3 (typeOf (.ref a)) cls := fun A Q E s k q => wpAny_typeOf_ref (k _ _ he3) (by rw [hz3.1]; exact q)
    have test : ∀ {x : Str} {c : Value} {np : Pos} {Q E : Value → Shared → Prop}, Names X x c → Q c { s' with heap := h3 } → wpAny (model X.prog X.w) (X.A.mark (some (.ref a))) (eval (.Name x np) X.env) Q E { s' with heap := h3 } := fun {x c np Q E} hc q => by
      obtain ⟨hg, hdbg, hm | ⟨hm, hv, hnn⟩⟩ := hc
      · exact ld_glob (X := X.suite a ((a, oe3) :: (X.pn ++ pins))) S3 hg hm q hdbg
      · exact ld_blt (X := X.suite a ((a, oe3) :: (X.pn ++ pins))) S3 hg hm hv q hnn hdbg
    have go : ∀ {hds' : List ExceptHandler} {l' : List (Value × Bool × (Addr → Value → Option Addr → TS))}, HdsN X n i hds' l' → wManyN X.K i D l' cls d σ' H' →
        wpAny (model X.prog X.w) X.A (handleBy (.ref a) X.env hds') (L2.SP X pins D) X.xe { s' with heap := h3 } := by
      intro hds' l' hk
      induction hk with
      | nil => intro w; exact (show False from w).elim
      | @cons x c ts b₀ suite np pos' hds2 l2 hc hsu r ih =>
        intro w
        obtain ⟨b, hb1, hyes, hno⟩ := w
        refine wpAny_handleBy_cons (codeAny_handlers_test ?_) (by intro q; cases q)
        have LM := PySem.W.exm_one (M := model X.prog X.w) (J3.kIn) LT hb1
        refine test hc (LM.here ?_)
        cases b with
        | true =>
          refine codeAny_handlers_suite ?_
          refine HandSPX.lands_againZ fl3 fun h4 fl4 up4 => ?_
          have J4 : Inv X pins σ' H' { s' with heap := h4 } := J.landed nb fl4.1 ((up.trans up3).trans up4) os ag
          obtain ⟨oe4, vs4, he4, hz4, hd4⟩ := fl4.there
          have S4 := J4.suite he4 hd4 na nL nF
          have hy := hyes rfl a na
          rw [if_neg Bool.false_ne_true] at hy
          refine wpAny_mono ((hsu a oe4 cls d (X.pn ++ pins) hz4 ⟨_, hd4⟩).run [] _ _ H' _ S4 hy) (fun f s6 hsp => ?_) (fun _ _ z => False.elim z)
          match f, hsp with
          | .next, ⟨_, _, S6, q6⟩ => exact ⟨_, _, S6.unsuite ok, q6⟩
          | .brk, ⟨_, _, S6, q6⟩ => exact ⟨_, _, S6.unsuite ok, q6⟩
          | .cont, ⟨_, _, S6, q6⟩ => exact ⟨_, _, S6.unsuite ok, q6⟩
          | .ret u, ⟨_, _, _, S6, r6, q6⟩ => exact ⟨_, _, _, S6.unsuite ok, r6, q6⟩
        | false =>
          show wpAny _ X.A (handleBy (.ref a) X.env hds2) _ _ _
          exact ih (hno rfl)
      | @named x c ts b₀ suite np pos' hds2 l2 hi hln hc hsu r ih =>
        intro w
        obtain ⟨b, hb1, hyes, hno⟩ := w
        refine wpAny_handleBy_cons (codeAny_handlers_test ?_) (by intro q; cases q)
        have LM := PySem.W.exm_one (M := model X.prog X.w) (J3.kIn) LT hb1
        refine test hc (LM.here ?_)
        cases b with
        | true =>
          refine codeAny_handlers_suite_as ?_
          refine HandSPX.lands_againZ fl3 fun h4 fl4 up4 => ?_
          have J4 : Inv X pins σ' H' { s' with heap := h4 } := J.landed nb fl4.1 ((up.trans up3).trans up4) os ag
          obtain ⟨oe4, vs4, he4, hz4, hd4⟩ := fl4.there
          have hy := hyes rfl a na
          rw [if_pos rfl] at hy
          refine store_ok (X := X.suite a ((a, oe4) :: (X.pn ++ pins))) (v := .ref a) (J4.suite he4 hd4 na nL nF) hN hi (.inl hln) rfl (fun s5 S5 => ?_) (.inr hln)
          refine wpAny_mono ((hsu a oe4 cls d (X.pn ++ pins) hz4 ⟨_, hd4⟩).run [] s5 _ H' _ S5 hy) (fun f s6 hsp => ?_) (fun _ _ z => False.elim z)
          have end_ : ∀ {σ6 : L2.St} {H6 : Hp} {Q : Shared → Prop}, Inv (X.suite a ((a, oe4) :: (X.pn ++ pins))) [] σ6 H6 s6 → (∀ s7, Inv X pins (σ6.set i none) H6 s7 → Q s7) →
              wpAny (model X.prog X.w) X.A (do bindName X.env n .none; unbindBehindTheSuite X.env n pos') (fun _ s7 => Q s7) X.xe s6 := fun {σ6 H6 Q} S6 hq => gone_ok (S6.unsuite ok) hN hi hln hq
          match f, hsp with
          | .next, ⟨_, _, S6, q6⟩ => exact end_ S6 fun s7 J7 => ⟨_, _, J7, q6⟩
          | .brk, ⟨_, _, S6, q6⟩ => exact end_ S6 fun s7 J7 => ⟨_, _, J7, q6⟩
          | .cont, ⟨_, _, S6, q6⟩ => exact end_ S6 fun s7 J7 => ⟨_, _, J7, q6⟩
          | .ret u, ⟨_, _, _, S6, r6, q6⟩ => exact end_ S6 fun s7 J7 => ⟨_, _, _, J7, r6, q6⟩
        | false =>
          show wpAny _ X.A (handleBy (.ref a) X.env hds2) _ _ _
          exact ih (hno rfl)
    exact go hh w
  · match f, hsp with
    | .next, ⟨_, _, J', q⟩ => exact wpAny_execs_nil ⟨_, _, J'.ofTry ok, q⟩
    | .brk, ⟨_, _, J', q⟩ => exact ⟨_, _, J'.ofTry ok, q⟩
    | .cont, ⟨_, _, J', q⟩ => exact ⟨_, _, J'.ofTry ok, q⟩
    | .ret u, ⟨_, _, _, J', r, q⟩ => exact ⟨_, _, _, J'.ofTry ok, r, q⟩
/-- the class is known when the suite runs -/
theorem pss_cls {ss : List Stmt} {cls : Value} {PC : Addr → Prop} {t : Addr → TS} (h : ∀ C, cls = .ref C → PC C → PSs X ss (t C)) : PSs X ss (fun D σ H => ∃ C, cls = .ref C ∧ PC C ∧ t C D σ H) :=
  ⟨fun pins s σ H D I ⟨C, e, p, q⟩ => (h C e p).run pins s σ H D I q⟩
theorem pe_actCA {P : Program} {w : World} {K : PySem.W.Frag} {mg : Str → Option Value} {base : Heap} {k : Nat} {a : Str} {W : WX} {E : XK} {p1 p2 : Pos} (tk : Takes X W) (hW : ∀ cls d σ' H', E cls d H' → W cls d σ' H') (hr : Room (k + 1) X.A) (hN : X.N[i]? = some a) (hv : Vis X.env.scope a)
    (e1 : X.prog = P := by rfl) (e2 : X.w = w := by rfl) (e3 : X.K = K := by rfl) (e4 : X.mg = mg := by rfl) (e5 : X.base = base := by rfl) (hd : (a == ("__debug__" : Str)) = false := by decide) (hcd : (a == ("__classdict__" : Str)) = false := by decide) :
    PE X (.Call (.Name a p1) [] [] p2) (tActC (P := P) (w := w) (K := K) (mg := mg) (base := base) (k := k) i E) := by
  subst e1 e2 e3 e4 e5
  exact pe_actC tk hW hr hN hv hd hcd
end
/-! ### repr of own objects, alone or in a display of one -/
def rRep1 (K : PySem.W.Frag) (C : Addr) (sp : Sp) : List V → Hp → VK → Prop := rOr1 (rReprO K C sp) (rOwn1 C sp)
theorem cr_own_of {X : Cx} {C f : Addr} {sp : Sp} (run : Runs X f sp) (hu : X.A.units + 10 < PySem.cLine) (hs : PySem.W.findIn X.K (.ref C) "__repr__" = some (some (.ref f))) (hf : PySem.W.isFn X.K (.ref f) = true) : CallR X (.builtin "repr") (rOwn1 C sp) := by
  intro pins s σ H xs us Q I r h
  obtain ⟨a, dx, fs, rfl, ha, hsp⟩ := h
  obtain ⟨u, rfl, ru⟩ := vals1 r
  cases ru
  obtain ⟨mA, J, _⟩ := ins_get I.hok ha
  obtain ⟨od, J, _⟩ := J.look
  obtain ⟨m, hF⟩ := I.fr
  refine PySem.W.repr_K (by show X.A.units + 1 < cLine; omega) hF I.ok.mod.kin J hs hf ?_
  exact run X.A.in1 pins σ H s [Value.ref a] [V.ref a] _ _ _ rfl rfl (Nat.le_add_right _ _) (by show X.A.units + 1 ≤ _; omega) I (.cons rfl .nil) hsp fun u s' h => str_back h
section
variable {X : Cx} {C f : Addr} {fd : FuncData} {q : Str} {m : Nat} {sp : Sp}
theorem cr_rep1 (F : FnOk X.prog X.w X.K X.mg X.base CX0 m f fd [q] sp) (hr : Room (m + 1) X.A) (hG : X.A.guards = some []) (hs : PySem.W.findIn X.K (.ref C) "__repr__" = some (some (.ref f))) (hf : PySem.W.isFn X.K (.ref f) = true) (hb : Binds X.K fd [q] []) : CallR X (.builtin "repr") (rRep1 X.K C sp) := fun pins s σ H xs us Q I r h =>
  h.elim (cr_reprO_of (runs_ok F hr hb) hG (by have := hr.un; omega) hs hf pins s σ H xs us Q I r) (cr_own_of (runs_ok F hr hb) (by have := hr.un; omega) hs hf pins s σ H xs us Q I r)
theorem cr_rep1H {p : Addr × Obj} [Tabs0] (F : FnT X.prog X.w X.K X.mg X.base m f fd [q] sp) (hr : L2H.RoomH (m + 1) X.A) (hG : X.A.guards = some []) (hp : p ∈ X.pn) (hs : PySem.W.findIn X.K (.ref C) "__repr__" = some (some (.ref f))) (hf : PySem.W.isFn X.K (.ref f) = true) (hb : Binds X.K fd [q] []) : CallR X (.builtin "repr") (rRep1 X.K C sp) := fun pins s σ H xs us Q I r h =>
  h.elim (cr_reprO_of (runs_held F hr hp hb) hG (by have := hr.un; omega) hs hf pins s σ H xs us Q I r) (cr_own_of (runs_held F hr hp hb) (by have := hr.un; omega) hs hf pins s σ H xs us Q I r)
end
/-! ### by data -/
variable [Tabs0]
/-- what r says of d is z -/
def RpR (r : List V → Hp → VK → Prop) (d : D) (z : Str) : Prop := ∀ (F : Addr → Prop) (Γ : Gam) (σ : L2.St) (W : Wd) (v : V) (Q : VK), SR F Γ σ W → Rep W d v → (∀ H, Same W.H H → Q (.str z) H) → r [v] W.H Q
section
variable {K : PySem.W.Frag} {r r' : List V → Hp → VK → Prop} {d : D} {z : Str} {C : Addr} {s : Spc} {Γ : Gam} {te : TE} {x : Exn} {ed : Option Addr}
theorem RpR.inl (h : RpR r d z) : RpR (fun xs H Q => r xs H Q ∨ r' xs H Q) d z := fun F Γ σ W v Q g rv q => .inl (h F Γ σ W v Q g rv q)
theorem RpR.inr (h : RpR r' d z) : RpR (fun xs H Q => r xs H Q ∨ r' xs H Q) d z := fun F Γ σ W v Q g rv q => .inr (h F Γ σ W v Q g rv q)
theorem RpR.y (h : RpD d z) : RpR (rReprY K) d z := fun F Γ σ W v Q g rv q => rep_reprY rv h (q _ (Same.refl _))
/-- [x], (x,) or x -/
def RpO1 (C : Addr) (sp : Spc) (d : D) (z : Str) : Prop := ∃ (x : sp.ty) (ns : List Str) (ds : List D) (t : Str), sp.args x = [.obj C ns ds] ∧ noPs (sp.args x) = true ∧ sp.ok x ∧ (∀ d, sp.rel x d → d = .str t) ∧ t.length ≤ 1000 ∧ ((d = .lst [.obj C ns ds] ∧ z = listText [t]) ∨ (d = .tup [.obj C ns ds] ∧ z = tupleText [t]) ∨ (d = .obj C ns ds ∧ z = t))
theorem RpR.o (h : RpO1 C s d z) : RpR (rRep1 K C (toSp s)) d z := fun F Γ σ W v Q g rv q => by
  obtain ⟨x, ns, ds, t, ha, np, ok, hd, ht, ⟨rfl, rfl⟩ | ⟨rfl, rfl⟩ | ⟨rfl, rfl⟩⟩ := h
  · exact .inl (rep_reprOL g rv ha np ok hd ht q)
  · exact .inl (rep_reprOT g rv ha np ok hd ht q)
  · obtain ⟨a, dx, vs, rfl, hH, nu, l, rr⟩ := rv
    refine .inr ⟨a, dx, _, rfl, hH, ?_⟩
    have r0 : RepL W (s.args x) [.ref a] := by rw [ha]; exact RepL.one ⟨a, dx, vs, rfl, hH, nu, l, rr⟩
    exact pure_call g (fun _ z => z) (RepL.delP _ _ np r0) ok fun d' v H' hd' s' r' => by
      rw [hd d' hd'] at r'
      have r' : v = .str z := r'
      exact ⟨⟨z, r'⟩, by rw [r']; exact q H' s'⟩
theorem ev_reprR (h : Ev te Γ d) (hz : RpR r d z) : Ev (tCB r (tCons te tNil)) Γ (.str z) := fun F σ W Q g q => h F σ W _ g fun v H s rv => hz F Γ σ (W.at H) v Q (g.same s) rv fun H' s' => q _ H' (Same.trans s s') rfl
theorem evh_reprR (h : EvH te Γ x ed d) (hz : RpR r d z) : EvH (tCB r (tCons te tNil)) Γ x ed (.str z) := fun F σ W Q g hx q => h F σ W _ g hx fun v H s rv => hz F Γ σ (W.at H) v Q (g.same s) rv fun H' s' => q _ H' (Same.trans s s') rfl
end
/-- the suite without a name: it returns d -/
def SuitU (ts : Addr → Value → Option Addr → TS) (n : Nat) (x : Exn) (d : D) : Prop := ∀ (F : Addr → Prop) (W : Wd) (σ : L2.St) (a : Addr) (Dr : Ends) (ed : Option Addr), WOk F W → σ.length = n → W.H a = none → ExHeld W x ed → (∀ v H', Same W.H H' → Rep (W.at H') d v → Dr.rt v H') → ts a (.ref x.C) ed Dr σ W.H
/-- the first clause that takes x returns d -/
def Takes1 (K : PySem.W.Frag) (n i : Nat) (x : Exn) (d : D) : List (Value × Bool × (Addr → Value → Option Addr → TS)) → Prop
  | [] => False
  | (c, nm, ts) :: r => (PySem.W.exmOne K (.ref x.C) c = some true ∧ if nm = true then SuitX ts n i x d else SuitU ts n x d) ∨ (PySem.W.exmOne K (.ref x.C) c = some false ∧ Takes1 K n i x d r)
section
variable {K : PySem.W.Frag} {i n : Nat} {tb : WX → TS} {Γ : Gam} {De : DE} {x : Exn} {d : D} {l : List (Value × Bool × (Addr → Value → Option Addr → TS))}
theorem takes1_w {F : Addr → Prop} {W : Wd} {σ : L2.St} {ed : Option Addr} {D : Ends} (ok : WOk F W) (hl : σ.length = n) (hx : ExHeld W x ed) (k : ∀ v H', Same W.H H' → Rep (W.at H') d v → D.rt v H') : ∀ {l : List (Value × Bool × (Addr → Value → Option Addr → TS))}, Takes1 K n i x d l → wManyN K i D l (.ref x.C) ed σ W.H
  | [], h => (show False from h).elim
  | (c, nm, ts) :: r, h => by
    rcases h with ⟨h1, h2⟩ | ⟨h1, h2⟩
    · refine ⟨true, h1, fun _ a na => ?_, fun z => nomatch z⟩
      cases nm with
      | true =>
        rw [if_pos rfl] at h2 ⊢
        exact h2 F W σ a _ ed ok hl na hx k
      | false =>
        rw [if_neg Bool.false_ne_true] at h2 ⊢
        exact h2 F W σ a _ ed ok hl na hx k
    · exact ⟨false, h1, fun z => (nomatch z), fun _ => takes1_w ok hl hx k h2⟩
theorem ds_try_manyR (h : ∀ Wx, Ds (tb Wx) Γ De) : Ds (fun D σ H => tb (wManyN K i D l) D σ H) Γ De := fun F σ W Dr g l => h _ F σ W Dr g l
theorem ds_try_manyX (h : ∀ Wx : WX, ErS (tb Wx) Γ x fun ed H' => ∀ σ', σ'.length = n → Wx (.ref x.C) ed σ' H') (hx : Takes1 K n i x d l) (hd : De.rt d) : Ds (fun D σ H => tb (wManyN K i D l) D σ H) Γ De := fun F σ W Dr g lf => h _ F σ W Dr g fun ed H' s ex σ' hl => by
  have g1 : SR F Γ σ (W.at H') := g.same s
  exact takes1_w (W := W.at H') g1.ok hl ex.2 (fun v H2 s2 r => by
    have g2 : SR F Γ σ (W.at H2) := SR.same (W := W.at H') s2 g1
    exact lf.rt v (W.at H2) d ((Stp.of_same g.ok s).trans (Stp.of_same (W := W.at H') g1.ok s2)) g2.ok r hd) hx
end
end Dw

/-! A lambda made, with what its body does. -/
namespace Dw
open PySem PySem.Spec PyProof.Rows L2 LamX
def tLamP {P : Program} {w : World} {K : PySem.W.Frag} {mg : Str → Option Value} {base : Heap} {k : Nat} (T : List (Addr × Str)) (Pt : Addr) (l : LamP P w K mg base k) (cl : List (Str × Addr)) : TE := tLamV T Pt l.L cl
theorem pe_lamP {X : Cx} {P : Program} {w : World} {K : PySem.W.Frag} {mg : Str → Option Value} {base : Heap} {k : Nat} {T : List (Addr × Str)} {c Pt : Addr} {ns : List Str} {params : Arguments} {body : Expr} {scope : Scope} {lpos : Pos} {t : XK → TE} (TB : TabB X.base X.mg c Pt) (hcode : X.env.code = .ref c)
    (hm : (Pt, X.env.qual ++ "<lambda>") ∈ T) (hu : ∀ p ∈ T, p.1 = Pt → p.2 = X.env.qual ++ "<lambda>") (L : LamS X.env.scope scope) (hdef : defaultsOf params X.env = ([], [])) (S : CloS scope ns)
    (hbind : ∀ (q : Str) (cl : List (Str × Addr)) (pm cv ctv : Value), bindArgs (PySem.W.kla_fn "<lambda>" q params body scope cl pm cv ctv) ⟨[], []⟩ = pure [])
    (hbody : ∀ (cl : List (Str × Addr)) (A : Around) (outer : List Env) (s : Shared) (H : Hp) (E : XK) (f c : Addr), Room k (A.deeper (cloEnv ⟨params, body, scope, X.env.qual ++ "<lambda>"⟩ cl s.heap.objs.size f c)) → PE (cloCx P w K mg base ns ⟨params, body, scope, X.env.qual ++ "<lambda>"⟩ cl f c A outer s H E) body (t E)) :
    PE X (.Lambda params body scope lpos) (tLamP T Pt (⟨⟨params, body, scope, X.env.qual ++ "<lambda>"⟩, ns, t, S, fun cl pm cv ctv => hbind _ cl pm cv ctv, hbody⟩ : LamP P w K mg base k) (cloFrom X.env.cells scope.names [])) :=
  pe_lamV TB hcode hm hu L hdef
variable [Tabs0]
theorem dl_lamP {P : Program} {w : World} {K : PySem.W.Frag} {mg : Str → Option Value} {base : Heap} {k : Nat} {Γ : Gam} {Tt : List (Addr × Str)} {Pt : Addr} {l : LamP P w K mg base k} {cl : List (Str × Addr)} {i : Nat} {sl : Sl} {Q : D → Gam → Prop} (T : TabsOk Tt) (hP : (Pt, l.L.qual) ∈ Tt) (h0 : Γ[i]? = some sl) (tg : TgS sl)
    (hq : ∀ l' : LamP P w K mg base k, l'.ns = l.ns → (∀ E, l'.t E = l.t E) → Q (.fnv l'.L cl) Γ) : Dl (tLamP Tt Pt l cl) Γ Q := dl_lamV T hP h0 tg (hq l rfl fun _ => rfl)
theorem capD_nil {X : Cx} {Γ : Gam} : CapD X Γ [] := fun p hp => absurd hp (by simp)
theorem capD_cons {X : Cx} {Γ : Gam} {i : Nat} {y : Str} {d : D} {r : List (Nat × Str × D)} (h1 : X.N[i]? = some y) (h2 : X.env.scope.names.lookup y = some .cell) (h3 : Γ[i]? = some (.val d)) (t : CapD X Γ r) : CapD X Γ ((i, y, d) :: r) := fun p hp => by
  rcases List.mem_cons.mp hp with rfl | hp
  · exact ⟨h1, h2, h3⟩
  · exact t p hp
theorem capL_nil {cd : List (Nat × Str × D)} : CapL cd [] [] := rfl
theorem capL_cons {cd : List (Nat × Str × D)} {i : Nat} {y : Str} {d : D} {r : List Str} {ds : List D} (h : (i, y, d) ∈ cd) (t : CapL cd r ds) : CapL cd (y :: r) (d :: ds) := ⟨i, d, ds, rfl, h, t⟩
end Dw
namespace Dw
open PySem PySem.Spec PyProof.Rows L2
section
variable {X : Cx} {C f : Addr} {fd : FuncData} {q : Str} {m : Nat} {sp : Sp}
theorem rep1A (K : PySem.W.Frag) (F : FnOk X.prog X.w X.K X.mg X.base CX0 m f fd [q] sp) (hr : Room (m + 1) X.A) (hG : X.A.guards = some []) (hs : PySem.W.findIn X.K (.ref C) "__repr__" = some (some (.ref f))) (hf : PySem.W.isFn X.K (.ref f) = true) (hb : Binds X.K fd [q] []) (hK : X.K = K := by rfl) : CallR X (.builtin "repr") (rRep1 K C sp) := hK ▸ cr_rep1 F hr hG hs hf hb
theorem rep1HA (K : PySem.W.Frag) {p : Addr × Obj} [Tabs0] {k : Nat} (F : FnT X.prog X.w X.K X.mg X.base m f fd [q] sp) (hr : L2H.RoomH (m + 1) X.A) (hG : X.A.guards = some []) (hp : p ∈ X.pn) (hs : PySem.W.findIn X.K (.ref C) "__repr__" = some (some (.ref f))) (hf : PySem.W.isFn X.K (.ref f) = true) (hb : Binds X.K fd [q] []) (hK : X.K = K := by rfl) : CallR X (.builtin "repr") (rRep1 K C sp) := hK ▸ cr_rep1H F hr hG hp hs hf hb
end
end Dw
namespace Dw
open PySem PySem.Spec PyProof.Rows L2
theorem roomHS {k : Nat} {A : Around} {v : Option Value} (hr : Room k A) : L2H.RoomH k (A.mark v) := ⟨(L2H.roomH_of hr).dp, (L2H.roomH_of hr).un⟩
end Dw

/-! tuple * n, n = 1 too. -/
namespace L2
open PySem PySem.Spec PyProof.Rows
end L2
namespace Dw
open PySem PySem.Spec PyProof.Rows L2
variable [Tabs0]
end Dw

/-! Closures whose bodies change tables. -/
namespace Dw
open PySem PySem.Spec PyProof.Rows L2 LamX
variable [Tabs0]
theorem cell_code {a : Addr} {o : Obj} {u : Option Value} {q : Str} (hd : o.data = .cell u) : CellO a o ≠ CodeO a q := fun e => by
  unfold CellO CodeO at e
  injection e with e
  have g : ({ objs := Array.replicate (a + 1) o } : Heap).get? a = some o := by
    unfold Heap.get?
    have : (Array.replicate (a + 1) o)[a]? = some o := by
      rw [Array.getElem?_replicate, if_pos (Nat.lt_succ_self a)]
    show (match (Array.replicate (a + 1) o)[a]? with | some ⟨_, _, .freed, _⟩ => none | r => r) = some o
    rw [this]
    obtain ⟨cls, dict, data, slots⟩ := o
    subst hd
    rfl
  have z := congrFun e ({ objs := Array.replicate (a + 1) o } : Heap)
  have z' : (∃ (oc : Obj) (vs : Array Value) (t : Tok), ({ objs := Array.replicate (a + 1) o } : Heap).get? a = some oc ∧ oc.data = .fields vs ∧ vs[1]? = some (.str q t)) := by
    rw [← z]; exact g
  obtain ⟨oc, vs, t, h1, h2, _⟩ := z'
  rw [g] at h1; cases h1
  rw [hd] at h2; cases h2
section
variable {F : Addr → Prop} {W : Wd} {cs : List Addr}
theorem own_cut {a : Addr} (hc : CellsAt W.H cs) (ha : a ∉ cs) (h : OwnAt W.H W.U a) : OwnAt (cutH W.H cs) W.U a := by
  cases n : Tabs0.nm a with
  | none =>
    obtain ⟨x, y, h1, h2, h3, e⟩ := h.purse n
    exact .of ⟨x, y, h1, h2, h3, (cut_out ha).trans e⟩ n
  | some q =>
    obtain ⟨ps, e1, e2, e3⟩ := h.tab n
    refine .mk n ⟨ps, (cut_out ha).trans e1, e2, fun pos cv hcv => ?_⟩ fun ps' pos c q1 q2 => h.cod n ps' pos c ((cut_out ha).symm.trans q1) q2
    obtain ⟨c, rfl, e4⟩ := e3 pos cv hcv
    refine ⟨c, rfl, (cut_out fun z => ?_).trans e4⟩
    obtain ⟨o, u, hd, e5⟩ := hc c z
    rw [e4] at e5
    exact cell_code hd (Option.some.inj e5).symm
theorem wok_cut (ok : WOk F W) (hc : CellsAt W.H cs) (nu : ∀ b ∈ cs, ¬ W.U b) : WOk F ⟨cutH W.H cs, W.U, W.P⟩ :=
  ⟨fun a u z => ok.dom a u ((cut_out fun m => nu a m u).symm.trans z), ok.fu, fun a z => let ⟨u, f, p⟩ := ok.pu a z; ⟨u, f, own_cut hc (fun m => nu a m u) p⟩⟩
theorem wok_paste {W2 : Wd} (ok : WOk F W2) (n : ∀ b ∈ cs, W2.H b = none) : WOk F ⟨pasteH W.H W2.H cs, W2.U, W2.P⟩ := ok.same (H := pasteH W.H W2.H cs) fun b u e => (paste_out fun m => by rw [n b m] at e; cases e).trans e
theorem stp_paste {W2 : Wd} (ok : WOk F W) (nu : ∀ b ∈ cs, ¬ W.U b) (ok2 : WOk F W2) (st : Stp F ⟨cutH W.H cs, W.U, W.P⟩ W2) (n : ∀ b ∈ cs, W2.H b = none) : Stp F W ⟨pasteH W.H W2.H cs, W2.U, W2.P⟩ where
  keep := fun a u e na => by
    by_cases h : a ∈ cs
    · exact ⟨(paste_in h).trans e, fun z => ok2.dom a z (n a h)⟩
    · obtain ⟨h1, h2⟩ := st.keep a u ((cut_out h).trans e) na
      exact ⟨(paste_out h).trans h1, h2⟩
  pur := st.pur
  fr := fun a fa => by
    have h : a ∉ cs := fun m => nu a m (ok.fu a fa)
    exact (paste_out h).trans ((st.fr a fa).trans (cut_out h))
end
theorem tag_srx {F : Addr → Prop} {W : Wd} {ds : List D} {vs : List V} (ok : WOk F W) (ht : ∀ p q, Tabs0.nm p = some q → W.P p) (r : RepL W ds vs) : SR F (ds.map fun d => Sl.val (.tag d)) (vs.map some) W := by
  have key : ∀ (i : Nat) (z : Sl), (ds.map fun d => Sl.val (.tag d))[i]? = some z → ∃ d, z = .val (.tag d) ∧ ds[i]? = some d := fun i z h => by
    rw [List.getElem?_map] at h
    cases q : ds[i]? with
    | none => rw [q] at h; cases h
    | some d => rw [q] at h; cases h; exact ⟨d, rfl, rfl⟩
  refine ⟨ok, by rw [List.length_map, List.length_map, r.length], fun i d h => ?_, fun i d h => ?_, fun i j a x y h => ?_⟩
  · obtain ⟨d', e, hd⟩ := key i _ h
    cases e
    obtain ⟨v, e1, r1⟩ := r.get hd
    exact ⟨v, by rw [List.getElem?_map, e1]; rfl, r1, ht⟩
  · obtain ⟨d', e, _⟩ := key i _ h
    cases e
  · obtain ⟨d', e, _⟩ := key i _ h
    cases e
section
variable {P : Program} {w : World} {K : PySem.W.Frag} {mg : Str → Option Value} {base : Heap} {k i : Nat} {Γ : Gam} {ds : List D} {E : XK} {x : Exn} {d : D} {Q : D → Gam → Prop}
/-- the closure returns, tables may change -/
theorem dl_actC (l : LamP P w K mg base k) (h0 : Γ[i]? = some (.val (.tag (.clo l.L l.ns ds)))) (hok : okCs ds = true) (hb : ∀ E, Dl (l.t E) (ds.map fun d => .val (.tag d)) fun d _ => Q d Γ) : Dl (tActC (P := P) (w := w) (K := K) (mg := mg) (base := base) (k := k) i E) Γ Q := fun F σ W R g kR => by
  obtain ⟨v, e, ⟨f, c, cl, vs, rfl, h1, n1, h2, n2, a1, a2, a3, a4, hcl, rr⟩, ht⟩ := g.val i _ h0
  have cat := hcl.at
  have nu := hcl.nu
  refine ⟨l, f, cl, vs, e, ⟨⟨c, h1, h2, a3, a4⟩, a1, a2, W.U, hcl⟩, ?_⟩
  have ok0 := g.callOk
  have okW := wok_cut ok0 cat nu
  have rr' : RepL ⟨cutH W.H (cl.map (·.2)), W.U, W.P⟩ ds vs := RepL.mono (W := ⟨cutH W.H (cl.map (·.2)), W.U, fun _ => False⟩) (W' := ⟨cutH W.H (cl.map (·.2)), W.U, W.P⟩) (fun a u e n => ⟨e, n⟩) (fun _ z => z.elim) ds vs (RepL.cut cat ds vs hok rr)
  refine hb (fun cls d H' => (∀ b ∈ cl.map (·.2), H' b = none) → E cls d (pasteH W.H H' (cl.map (·.2)))) _ (vs.map some) ⟨cutH W.H (cl.map (·.2)), W.U, W.P⟩ (fun v H' => (∀ b ∈ cl.map (·.2), H' b = none) → R v (pasteH W.H H' (cl.map (·.2)))) (tag_srx okW ht rr') fun v W2 d' Γ' st g2 r q => fun hn => ?_
  have st' := stp_paste ok0 nu g2.ok st hn
  have ok' := wok_paste (W := W) g2.ok hn
  have g' := g.call st' ok'
  refine kR v ⟨pasteH W.H W2.H (cl.map (·.2)), W2.U, W2.P⟩ d' Γ (st'.sub fun _ z => .inl z) g' (Rep.same (W := W2) (fun b u e => (paste_out fun m => by rw [hn b m] at e; cases e).trans e) r) q
end
/-! ### given to a def that changes tables -/
section
variable {X : Cx}
theorem own_add {W : Wd} {cs : List Addr} {gf : Addr → Obj} {a : Addr} (hn : ∀ b ∈ cs, W.H b = none) (h : OwnAt W.H W.U a) : OwnAt (addH W.H cs gf) W.U a := h.same fun a u e => (add_out fun z => by rw [hn a z] at e; cases e).trans e
theorem dl_callT {Γ : Gam} {s : Spc} {t : TA} {E : XK} {Q : D → Gam → Prop} (h : DlA t Γ fun ds Γ1 => ∃ (cd : List (Nat × Str × D)) (fs : List (LamK × List Str × List D)) (due : D) (x : s.ty) (b : Bool) (j : Nat) (sl : Sl), Γ1[j]? = some sl ∧ TgS sl ∧ ds = [.lst (fs.map (fnvD X)), due] ∧ CapD X Γ1 cd ∧ (∀ q ∈ fs, q.2.1.Nodup ∧ CapL cd q.2.1 q.2.2) ∧
      s.args x = [.tag (.lst (fs.map cloD)), due] ∧ noPs (fs.map cloD) = true ∧ noP due = true ∧ s.ok x ∧ (∀ d', s.rel x d' → d' = .bl b) ∧ Q (.bl b) Γ1) : Dl (tCallC X (toSp s) E t) Γ Q := fun F σ W R g k => h F σ W _ g fun vs W1 ds Γ1 st g1 r ⟨cd, fs, due, x, b, j, sl, hsl, htg, e, hcd, hfs, ha, np1, np2, ok, hd, q⟩ => by
  subst e
  have tabs := g1.tabs hsl htg
  obtain ⟨ws, hcap, hrw⟩ := capd_n g1 hcd
  refine ⟨cd.map fun p => (p.1, p.2.1), ws, hcap, fun gf hg hn hinj => ?_⟩
  obtain ⟨cs, ecs⟩ : ∃ cs, cs = capA X (cd.map fun p => (p.1, p.2.1)) := ⟨_, rfl⟩
  have mcs : ∀ p ∈ cd, adX X p.2.1 ∈ cs := fun p hp => by
    rw [ecs]
    exact List.mem_map.mpr ⟨(p.1, p.2.1), List.mem_map.mpr ⟨p, hp, rfl⟩, rfl⟩
  rw [← ecs] at hn ⊢
  have ok0 := g1.callOk
  have sm : Same W1.H (addH W1.H cs gf) := fun a u e => (add_out fun z => by rw [hn a z] at e; cases e).trans e
  have okc : WOk (fun a => F a ∨ ownA Γ1 σ a) ⟨addH W1.H cs gf, W1.U, W1.P⟩ := ⟨fun a u z => ok0.dom a u (sm.free z), ok0.fu, fun a z => let ⟨u, f, p⟩ := ok0.pu a z; ⟨u, f, own_add hn p⟩⟩
  have up : ∀ d v, noP d = true → Rep W1 d v → Rep ⟨addH W1.H cs gf, W1.U, fun _ => False⟩ d v := fun d v n r => Rep.same (W := ⟨W1.H, W1.U, fun _ => False⟩) sm (Rep.delP d v n r)
  have addp : ∀ d v, Rep ⟨addH W1.H cs gf, W1.U, fun _ => False⟩ d v → Rep ⟨addH W1.H cs gf, W1.U, W1.P⟩ d v := fun d v r => Rep.addP (W := W1) r
  have hp := capg_get hg hrw
  have nU : ∀ p ∈ cd, ¬ W1.U (adX X p.2.1) := fun p hp u => g1.ok.dom _ u (hn _ (mcs p hp))
  have hH : ∀ p ∈ cd, addH W1.H cs gf (adX X p.2.1) = some (CellO (adX X p.2.1) (gf (adX X p.2.1))) := fun p hp => add_in (mcs p hp)
  have conv : ∀ {us : List V} (fs' : List (LamK × List Str × List D)), (∀ q ∈ fs', q ∈ fs) → noPs (fs'.map cloD) = true → RepL W1 (fs'.map (fnvD X)) us → RepL ⟨addH W1.H cs gf, W1.U, fun _ => False⟩ (fs'.map cloD) us := fun {us} fs' => by
    induction fs' generalizing us with
    | nil => intro _ _ h; exact h
    | cons q0 r ih =>
      intro hm hnp ⟨v, us', e, rv, rr⟩
      have n2 : noPs q0.2.2 = true ∧ noPs (r.map cloD) = true := by
        have : (noPs q0.2.2 && noPs (r.map cloD)) = true := hnp
        simpa using this
      refine ⟨v, us', e, ?_, ih (fun q hq => hm q (List.mem_cons_of_mem _ hq)) n2.2 rr⟩
      obtain ⟨f, c, ev, h1, u1, h2, u2⟩ := rv
      obtain ⟨nd, hcl⟩ := hfs q0 (hm q0 List.mem_cons_self)
      obtain ⟨vs', c1, r1⟩ := capl_cells (W1 := W1) (W2 := ⟨addH W1.H cs gf, W1.U, fun _ => False⟩) nU hH hp up hcl n2.1
      have nin : ∀ a u, W1.H a = some u → a ∉ (q0.2.1.map fun y => (y, adX X y)).map (·.2) := fun a u e z => by
        rw [List.map_map] at z
        obtain ⟨y, hy, e'⟩ := List.mem_map.mp z
        have e' : adX X y = a := e'
        obtain ⟨i, d, hm'⟩ := capl_mem hcl y hy
        have := hn _ (mcs _ hm')
        rw [e', e] at this; cases this
      refine ⟨f, c, q0.2.1.map fun y => (y, adX X y), vs', ev, sm _ _ h1, u1, sm _ _ h2, u2, ?_, ?_, nin f _ h1, nin c _ h2, c1, r1⟩
      · rw [List.map_map]
        exact (List.map_congr_left fun y _ => rfl).trans (List.map_id _)
      · rw [List.map_map]
        refine List.pairwise_map.mpr (nd.imp_of_mem fun {y z} hy hz ne e => ne ?_)
        obtain ⟨i, d, hm1⟩ := capl_mem hcl y hy
        obtain ⟨j, d', hm2⟩ := capl_mem hcl z hz
        exact hinj (i, y) (List.mem_map.mpr ⟨_, hm1, rfl⟩) (j, z) (List.mem_map.mpr ⟨_, hm2, rfl⟩) e
  obtain ⟨v1, _, rfl, ⟨a, us, rfl, hA, nuA, rl⟩, v2, _, rfl, rd, rfl⟩ := r
  refine ⟨x, fun a => F a ∨ ownA Γ1 σ a, ⟨addH W1.H cs gf, W1.U, W1.P⟩, rfl, okc, ?_, ok, fun d v W' hrel st' ok' r' => ?_⟩
  · rw [ha]
    exact ⟨_, _, rfl, ⟨addp (.lst (fs.map cloD)) _ ⟨a, us, rfl, sm _ _ hA, nuA, conv fs (fun _ h => h) np1 rl⟩, tabs⟩, v2, [], rfl, addp _ _ (up due v2 np2 rd), rfl⟩
  · have cells : ∀ c ∈ cs, W'.H c = some (CellO c (gf c)) ∧ ¬ W'.U c := fun c hc => st'.keep c _ (add_in hc) fun u => g1.ok.dom c u (hn c hc)
    rw [hd d hrel] at r'
    have r' : v = .bl b := r'
    refine ⟨fun c hc => (cells c hc).1, ?_⟩
    have ca : CellsAt W'.H cs := fun c hc => by
      rw [ecs] at hc
      obtain ⟨p, hp', e⟩ := List.mem_map.mp hc
      obtain ⟨p0, hp0, e0⟩ := List.mem_map.mp hp'
      obtain ⟨v, u, h1, h2, h3⟩ := hp p0 hp0
      have ee : adX X p0.2.1 = c := by rw [← e, ← e0]
      rw [ee] at h1
      exact ⟨gf c, some u, h1, (cells c (by rw [ecs]; exact hc)).1⟩
    have okq : WOk (fun a => F a ∨ ownA Γ1 σ a) ⟨cutH W'.H cs, W'.U, W'.P⟩ := wok_cut ok' ca fun c hc => (cells c hc).2
    have stq : Stp (fun a => F a ∨ ownA Γ1 σ a) W1 ⟨cutH W'.H cs, W'.U, W'.P⟩ := ⟨fun c u e n => by
      have hc : c ∉ cs := fun z => by rw [hn c z] at e; cases e
      obtain ⟨z1, z2⟩ := st'.keep c u (sm _ _ e) n
      exact ⟨(cut_out hc).trans z1, z2⟩, st'.pur, fun c fc => by
      have hc : c ∉ cs := fun z => ok0.dom c (ok0.fu c fc) (hn c z)
      exact (cut_out hc).trans ((st'.fr c fc).trans (add_out hc))⟩
    exact k v ⟨cutH W'.H cs, W'.U, W'.P⟩ (.bl b) Γ1 (st.trans (stq.sub fun _ z => .inl z)) (g1.call stq okq) r' q
end
end Dw

namespace K37
open PySem PySem.Spec PyProof.Rows L2 Dw
variable [Tabs0]
/-! ### the text by places -/
def topS (i : Nat) : Stmt := PySem.Challenge.pw_rankedrules_k37_doubts_refused.main.body.getD i (.Pass ⟨0, 0, 0, 0⟩)
abbrev s_is_name : Stmt := topS 23
abbrev N_is_name : List Str := ["value", "letter"]
theorem sc_is_name : FnScope N_is_name ["value"] (defScope s_is_name) := ⟨rfl, rfl, rfl, by decide +kernel, rfl, by decide +kernel, by decide +kernel⟩
abbrev s_are_names : Stmt := topS 24
abbrev N_are_names : List Str := ["values", "one", "other", "value"]
theorem sc_are_names : FnScope N_are_names ["values"] (defScope s_are_names) := ⟨rfl, rfl, rfl, by decide +kernel, rfl, by decide +kernel, by decide +kernel⟩
abbrev s_is_any_row : Stmt := topS 25
abbrev N_is_any_row : List Str := ["value", "sign"]
theorem sc_is_any_row : FnScope N_is_any_row ["value"] (defScope s_is_any_row) := ⟨rfl, rfl, rfl, by decide +kernel, rfl, by decide +kernel, by decide +kernel⟩
abbrev s_is_row : Stmt := topS 26
abbrev N_is_row : List Str := ["value", "many"]
theorem sc_is_row : FnScope N_is_row ["value", "many"] (defScope s_is_row) := ⟨rfl, rfl, rfl, by decide +kernel, rfl, by decide +kernel, by decide +kernel⟩
abbrev s_is_whole : Stmt := topS 27
abbrev N_is_whole : List Str := ["value"]
theorem sc_is_whole : FnScope N_is_whole ["value"] (defScope s_is_whole) := ⟨rfl, rfl, rfl, by decide +kernel, rfl, by decide +kernel, by decide +kernel⟩
abbrev s_is_index : Stmt := topS 28
abbrev N_is_index : List Str := ["value", "many"]
theorem sc_is_index : FnScope N_is_index ["value", "many"] (defScope s_is_index) := ⟨rfl, rfl, rfl, by decide +kernel, rfl, by decide +kernel, by decide +kernel⟩
abbrev s_InvalidRow___init__ : Stmt := inClass (topS 6) 0
abbrev N_InvalidRow___init__ : List Str := ["self", "given"]
theorem sc_InvalidRow___init__ : FnScope N_InvalidRow___init__ ["self", "given"] (defScope s_InvalidRow___init__) := ⟨rfl, rfl, rfl, by decide +kernel, rfl, by decide +kernel, by decide +kernel⟩
abbrev s_check_row : Stmt := topS 29
abbrev N_check_row : List Str := ["row", "many"]
theorem sc_check_row : FnScope N_check_row ["row", "many"] (defScope s_check_row) := ⟨rfl, rfl, rfl, by decide +kernel, rfl, by decide +kernel, by decide +kernel⟩
abbrev s_read_book : Stmt := topS 32
abbrev N_read_book : List Str := ["text", "head", "_", "tail", "names", "first", "rows", "row"]
theorem sc_read_book : FnScope N_read_book ["text"] (defScope s_read_book) := ⟨rfl, rfl, rfl, by decide +kernel, rfl, by decide +kernel, by decide +kernel⟩
abbrev s_turned : Stmt := topS 36
abbrev N_turned : List Str := ["row", "sign"]
theorem sc_turned : FnScope N_turned ["row"] (defScope s_turned) := ⟨rfl, rfl, rfl, by decide +kernel, rfl, by decide +kernel, by decide +kernel⟩
abbrev s_NotABook___init__ : Stmt := inClass (topS 9) 0
abbrev N_NotABook___init__ : List Str := ["self", "given"]
theorem sc_NotABook___init__ : FnScope N_NotABook___init__ ["self", "given"] (defScope s_NotABook___init__) := ⟨rfl, rfl, rfl, by decide +kernel, rfl, by decide +kernel, by decide +kernel⟩
abbrev s_check_book : Stmt := topS 39
abbrev N_check_book : List Str := ["book"]
theorem sc_check_book : FnScope N_check_book ["book"] (defScope s_check_book) := ⟨rfl, rfl, rfl, by decide +kernel, rfl, by decide +kernel, by decide +kernel⟩
abbrev s_head_of : Stmt := topS 41
abbrev N_head_of : List Str := ["rules", "rule"]
theorem sc_head_of : FnScope N_head_of ["rules"] (defScope s_head_of) := ⟨rfl, rfl, rfl, by decide +kernel, rfl, by decide +kernel, by decide +kernel⟩
abbrev s_rules_of : Stmt := topS 42
abbrev N_rules_of : List Str := ["head", "many", "rule"]
theorem sc_rules_of : FnScope N_rules_of ["head", "many"] (defScope s_rules_of) := ⟨rfl, rfl, rfl, by decide +kernel, rfl, by decide +kernel, by decide +kernel⟩
abbrev s_sides : Stmt := topS 43
abbrev N_sides : List Str := ["row", "better", "worse", "rule", "sign"]
theorem sc_sides : FnScope N_sides ["row"] (defScope s_sides) := ⟨rfl, rfl, rfl, by decide +kernel, rfl, by decide +kernel, by decide +kernel⟩
abbrev s_rules_behind : Stmt := topS 44
abbrev N_rules_behind : List Str := ["head", "told", "many", "taken", "better", "worse", "rule"]
theorem sc_rules_behind : FnScope N_rules_behind ["head", "told", "many"] (defScope s_rules_behind) := ⟨rfl, rfl, rfl, by decide +kernel, rfl, by decide +kernel, by decide +kernel⟩
abbrev s_steps : Stmt := topS 45
abbrev N_steps : List Str := ["rows", "many", "told", "row", "head"]
theorem sc_steps : FnScope N_steps ["rows", "many"] (defScope s_steps) := ⟨rfl, rfl, rfl, by decide +kernel, rfl, by decide +kernel, by decide +kernel⟩
abbrev s_has_sign : Stmt := topS 47
abbrev N_has_sign : List Str := ["row", "rules", "sign", "rule"]
theorem sc_has_sign : FnScope N_has_sign ["row", "rules", "sign"] (defScope s_has_sign) := ⟨rfl, rfl, rfl, by decide +kernel, rfl, by decide +kernel, by decide +kernel⟩
abbrev s_split : Stmt := topS 48
abbrev N_split : List Str := ["rows", "many", "made", "left", "still", "barred", "layer", "index", "row", "rule"]
theorem sc_split : FnScope N_split ["rows", "many"] (defScope s_split) := ⟨rfl, rfl, rfl, by decide +kernel, rfl, by decide +kernel, by decide +kernel⟩
abbrev s_some_fits : Stmt := topS 49
abbrev N_some_fits : List Str := ["rows", "many", "_", "still"]
theorem sc_some_fits : FnScope N_some_fits ["rows", "many"] (defScope s_some_fits) := ⟨rfl, rfl, rfl, by decide +kernel, rfl, by decide +kernel, by decide +kernel⟩
abbrev s_all_lots : Stmt := topS 51
abbrev N_all_lots : List Str := ["many", "lots", "head"]
theorem sc_all_lots : FnScope N_all_lots ["many"] (defScope s_all_lots) := ⟨rfl, rfl, rfl, by decide +kernel, rfl, by decide +kernel, by decide +kernel⟩
abbrev s_has_part : Stmt := topS 52
abbrev N_has_part : List Str := ["lot", "others", "other", "index"]
theorem sc_has_part : FnScope N_has_part ["lot", "others"] (defScope s_has_part) := ⟨rfl, rfl, rfl, by decide +kernel, rfl, by decide +kernel, by decide +kernel⟩
abbrev s_InvalidNumber___init__ : Stmt := inClass (topS 4) 0
abbrev N_InvalidNumber___init__ : List Str := ["self", "given"]
theorem sc_InvalidNumber___init__ : FnScope N_InvalidNumber___init__ ["self", "given"] (defScope s_InvalidNumber___init__) := ⟨rfl, rfl, rfl, by decide +kernel, rfl, by decide +kernel, by decide +kernel⟩
abbrev s_check_most : Stmt := topS 54
abbrev N_check_most : List Str := ["most"]
theorem sc_check_most : FnScope N_check_most ["most"] (defScope s_check_most) := ⟨rfl, rfl, rfl, by decide +kernel, rfl, by decide +kernel, by decide +kernel⟩
abbrev s_Book_names : Stmt := inClass (topS 38) 2
abbrev N_Book_names : List Str := ["self"]
theorem sc_Book_names : FnScope N_Book_names ["self"] (defScope s_Book_names) := ⟨rfl, rfl, rfl, by decide +kernel, rfl, by decide +kernel, by decide +kernel⟩
abbrev s_Book_rows : Stmt := inClass (topS 38) 3
abbrev N_Book_rows : List Str := ["self"]
theorem sc_Book_rows : FnScope N_Book_rows ["self"] (defScope s_Book_rows) := ⟨rfl, rfl, rfl, by decide +kernel, rfl, by decide +kernel, by decide +kernel⟩
abbrev s_fits_without : Stmt := topS 55
abbrev N_fits_without : List Str := ["book", "lot", "rows", "index", "row"]
theorem sc_fits_without : FnScope N_fits_without ["book", "lot"] (defScope s_fits_without) := ⟨rfl, rfl, rfl, by decide +kernel, rfl, by decide +kernel, by decide +kernel⟩
abbrev s_TooMany___init__ : Stmt := inClass (topS 15) 0
abbrev N_TooMany___init__ : List Str := ["self", "number"]
theorem sc_TooMany___init__ : FnScope N_TooMany___init__ ["self", "number"] (defScope s_TooMany___init__) := ⟨rfl, rfl, rfl, by decide +kernel, rfl, by decide +kernel, by decide +kernel⟩
abbrev s_struck : Stmt := topS 56
abbrev N_struck : List Str := ["book", "many", "least", "lot"]
theorem sc_struck : FnScope N_struck ["book"] (defScope s_struck) := ⟨rfl, rfl, rfl, by decide +kernel, rfl, by decide +kernel, by decide +kernel⟩
abbrev s_count_fallen : Stmt := topS 57
abbrev N_count_fallen : List Str := ["told", "head", "rule", "bit", "better", "worse"]
theorem sc_count_fallen : FnScope N_count_fallen ["told", "head", "rule"] (defScope s_count_fallen) := ⟨rfl, rfl, rfl, by decide +kernel, rfl, by decide +kernel, by decide +kernel⟩
abbrev s_least_wrong : Stmt := topS 58
abbrev N_least_wrong : List Str := ["rows", "row", "told", "behind", "least", "head", "rules", "rule", "after", "wrong", "one", "_"]
theorem sc_least_wrong : FnScope N_least_wrong ["rows", "row"] (defScope s_least_wrong) := ⟨rfl, rfl, rfl, by decide +kernel, rfl, by decide +kernel, by decide +kernel⟩
abbrev s_fewest_of_all : Stmt := topS 60
abbrev N_fewest_of_all : List Str := ["book"]
theorem sc_fewest_of_all : FnScope N_fewest_of_all ["book"] (defScope s_fewest_of_all) := ⟨rfl, rfl, rfl, by decide +kernel, rfl, by decide +kernel, by decide +kernel⟩
abbrev s_fewest_wrong : Stmt := topS 59
abbrev N_fewest_wrong : List Str := ["book"]
theorem sc_fewest_wrong : FnScope N_fewest_wrong ["book"] (defScope s_fewest_wrong) := ⟨rfl, rfl, rfl, by decide +kernel, rfl, by decide +kernel, by decide +kernel⟩
abbrev s_holds_for_some : Stmt := topS 61
abbrev N_holds_for_some : List Str := ["book", "row", "most", "number"]
theorem sc_holds_for_some : FnScope N_holds_for_some ["book", "row", "most"] (defScope s_holds_for_some) := ⟨rfl, rfl, rfl, by decide +kernel, rfl, by decide +kernel, by decide +kernel⟩
abbrev s_surely_wrong : Stmt := topS 62
abbrev N_surely_wrong : List Str := ["book", "most", "index", "row"]
theorem sc_surely_wrong : FnScope N_surely_wrong ["book", "most"] (defScope s_surely_wrong) := ⟨rfl, rfl, rfl, by decide +kernel, rfl, by decide +kernel, by decide +kernel⟩
abbrev s_follows_with : Stmt := topS 63
abbrev N_follows_with : List Str := ["book", "row", "most"]
theorem sc_follows_with : FnScope N_follows_with ["book", "row", "most"] (defScope s_follows_with) := ⟨rfl, rfl, rfl, by decide +kernel, rfl, by decide +kernel, by decide +kernel⟩
abbrev s__law_cell : Stmt := topS 65
abbrev N__law_cell : List Str := ["_law_cells", "_law_k", "_law_made", "_law_own"]
theorem sc__law_cell : FnScope N__law_cell ["_law_cells", "_law_k"] (defScope s__law_cell) := ⟨rfl, rfl, rfl, by decide +kernel, rfl, by decide +kernel, by decide +kernel⟩
abbrev s__law_well : Stmt := topS 66
abbrev N__law_well : List Str := ["_law_cell_here"]
theorem sc__law_well : FnScope N__law_well ["_law_cell_here"] (defScope s__law_well) := ⟨rfl, rfl, rfl, by decide +kernel, rfl, by decide +kernel, by decide +kernel⟩
abbrev s__law_dip : Stmt := topS 67
abbrev N__law_dip : List Str := ["_law_jar", "_law_many", "_law_mixed", "_law_stock", "_law_digit"]
theorem sc__law_dip : FnScope N__law_dip ["_law_jar", "_law_many"] (defScope s__law_dip) := ⟨rfl, rfl, rfl, by decide +kernel, rfl, by decide +kernel, by decide +kernel⟩
abbrev s__law_pick : Stmt := topS 68
abbrev N__law_pick : List Str := ["_law_jar", "_law_things"]
theorem sc__law_pick : FnScope N__law_pick ["_law_jar", "_law_things"] (defScope s__law_pick) := ⟨rfl, rfl, rfl, by decide +kernel, rfl, by decide +kernel, by decide +kernel⟩
abbrev s__law_tags : Stmt := topS 69
abbrev N__law_tags : List Str := ["_law_jar", "_law_many", "_law_stock", "_law_at", "_law_step", "_law_k"]
theorem sc__law_tags : FnScope N__law_tags ["_law_jar", "_law_many"] (defScope s__law_tags) := ⟨rfl, rfl, rfl, by decide +kernel, rfl, by decide +kernel, by decide +kernel⟩
abbrev s__law_turned : Stmt := topS 70
abbrev N__law_turned : List Str := ["_law_signs", "_law_sign"]
theorem sc__law_turned : FnScope N__law_turned ["_law_signs"] (defScope s__law_turned) := ⟨rfl, rfl, rfl, by decide +kernel, rfl, by decide +kernel, by decide +kernel⟩
abbrev s__law_row : Stmt := topS 71
abbrev N__law_row : List Str := ["_law_jar", "_law_many", "_law_k"]
theorem sc__law_row : FnScope N__law_row ["_law_jar", "_law_many"] (defScope s__law_row) := ⟨rfl, rfl, rfl, by decide +kernel, rfl, by decide +kernel, by decide +kernel⟩
abbrev s__law_book_page : Stmt := topS 72
abbrev N__law_book_page : List Str := ["_law_tags_here", "_law_rows", "_law_signs"]
theorem sc__law_book_page : FnScope N__law_book_page ["_law_tags_here", "_law_rows"] (defScope s__law_book_page) := ⟨rfl, rfl, rfl, by decide +kernel, rfl, by decide +kernel, by decide +kernel⟩
abbrev s_Book___repr__ : Stmt := inClass (topS 38) 8
abbrev N_Book___repr__ : List Str := ["self"]
theorem sc_Book___repr__ : FnScope N_Book___repr__ ["self"] (defScope s_Book___repr__) := ⟨rfl, rfl, rfl, by decide +kernel, rfl, by decide +kernel, by decide +kernel⟩
abbrev s__law_heard : Stmt := topS 73
abbrev N__law_heard : List Str := ["_law_act", "e"]
theorem sc__law_heard : FnScope N__law_heard ["_law_act"] (defScope s__law_heard) := ⟨rfl, rfl, rfl, by decide +kernel, rfl, by decide +kernel, by decide +kernel⟩
abbrev s__law_all_heard : Stmt := topS 74
abbrev N__law_all_heard : List Str := ["_law_acts", "_law_due", "_law_act"]
theorem sc__law_all_heard : FnScope N__law_all_heard ["_law_acts", "_law_due"] (defScope s__law_all_heard) := ⟨rfl, rfl, rfl, by decide +kernel, rfl, by decide +kernel, by decide +kernel⟩
abbrev s__law_any_rows : Stmt := topS 75
abbrev N__law_any_rows : List Str := ["_law_jar", "_law_many", "_law_top_here", "_law_found", "_law_turn", "_law_signs"]
theorem sc__law_any_rows : FnScope N__law_any_rows ["_law_jar", "_law_many", "_law_top_here"] (defScope s__law_any_rows) := ⟨rfl, rfl, rfl, by decide +kernel, rfl, by decide +kernel, by decide +kernel⟩
abbrev s_Book___init__ : Stmt := inClass (topS 38) 0
abbrev N_Book___init__ : List Str := ["self", "text", "parts"]
theorem sc_Book___init__ : FnScope N_Book___init__ ["self", "text"] (defScope s_Book___init__) := ⟨rfl, rfl, rfl, by decide +kernel, rfl, by decide +kernel, by decide +kernel⟩
abbrev s_Book___str__ : Stmt := inClass (topS 38) 7
abbrev N_Book___str__ : List Str := ["self"]
theorem sc_Book___str__ : FnScope N_Book___str__ ["self"] (defScope s_Book___str__) := ⟨rfl, rfl, rfl, by decide +kernel, rfl, by decide +kernel, by decide +kernel⟩
abbrev s__law_right : Stmt := topS 76
abbrev N__law_right : List Str := ["_law_jar", "_law_tags_here", "_law_rows", "_law_size", "_law_acts", "_law_bad", "_law_base", "_law_good", "_law_many", "_law_thing", "_law_wide", "_law_k"]
theorem sc__law_right : FnScope N__law_right ["_law_jar"] (defScope s__law_right) := ⟨rfl, rfl, rfl, by decide +kernel, rfl, by decide +kernel, by decide +kernel⟩
abbrev s_law : Stmt := topS 77
abbrev N_law : List Str := ["_law_cells", "_law_k"]
theorem sc_law : FnScope N_law ["_law_cells"] (defScope s_law) := ⟨rfl, rfl, rfl, by decide +kernel, rfl, by decide +kernel, by decide +kernel⟩
/-! ### what the top has written -/
structure Txt (K : PySem.W.Frag) (w : World) (mg : Str → Option Value) where
  C_Book : Addr
  m_Book : mg "Book" = some (.ref C_Book)
  cl_Book : Cls K C_Book
  C_InvalidCases : Addr
  m_InvalidCases : mg "InvalidCases" = some (.ref C_InvalidCases)
  C_InvalidNumber : Addr
  m_InvalidNumber : mg "InvalidNumber" = some (.ref C_InvalidNumber)
  C_InvalidOffers : Addr
  m_InvalidOffers : mg "InvalidOffers" = some (.ref C_InvalidOffers)
  C_InvalidRanking : Addr
  m_InvalidRanking : mg "InvalidRanking" = some (.ref C_InvalidRanking)
  C_InvalidRow : Addr
  m_InvalidRow : mg "InvalidRow" = some (.ref C_InvalidRow)
  C_NoRanking : Addr
  m_NoRanking : mg "NoRanking" = some (.ref C_NoRanking)
  C_NotABook : Addr
  m_NotABook : mg "NotABook" = some (.ref C_NotABook)
  C_NotACase : Addr
  m_NotACase : mg "NotACase" = some (.ref C_NotACase)
  C_TooMany : Addr
  m_TooMany : mg "TooMany" = some (.ref C_TooMany)
  C_UnknownName : Addr
  m_UnknownName : mg "UnknownName" = some (.ref C_UnknownName)
  xk_InvalidNumber : ExcC K C_InvalidNumber
  xe_InvalidNumber : PySem.W.exmOne K (.ref C_InvalidNumber) (.ref C_InvalidNumber) = some true
  xo_InvalidNumber : OexC K C_InvalidNumber
  xf_InvalidNumber : XfC K C_InvalidNumber
  xn_InvalidNumber_given : PySem.W.findIn K (.ref C_InvalidNumber) "given" = some none
  xn_InvalidNumber_index : PySem.W.findIn K (.ref C_InvalidNumber) "index" = some none
  xn_InvalidNumber_number : PySem.W.findIn K (.ref C_InvalidNumber) "number" = some none
  xn_InvalidNumber_told : PySem.W.findIn K (.ref C_InvalidNumber) "told" = some none
  xh_InvalidNumber_NotABook : PySem.W.exmOne K (.ref C_InvalidNumber) (.ref C_NotABook) = some false
  xh_InvalidNumber_NotACase : PySem.W.exmOne K (.ref C_InvalidNumber) (.ref C_NotACase) = some false
  xh_InvalidNumber_UnknownName : PySem.W.exmOne K (.ref C_InvalidNumber) (.ref C_UnknownName) = some false
  xh_InvalidNumber_InvalidRanking : PySem.W.exmOne K (.ref C_InvalidNumber) (.ref C_InvalidRanking) = some false
  xh_InvalidNumber_InvalidRow : PySem.W.exmOne K (.ref C_InvalidNumber) (.ref C_InvalidRow) = some false
  xh_InvalidNumber_InvalidNumber : PySem.W.exmOne K (.ref C_InvalidNumber) (.ref C_InvalidNumber) = some true
  xk_InvalidRow : ExcC K C_InvalidRow
  xe_InvalidRow : PySem.W.exmOne K (.ref C_InvalidRow) (.ref C_InvalidRow) = some true
  xo_InvalidRow : OexC K C_InvalidRow
  xf_InvalidRow : XfC K C_InvalidRow
  xn_InvalidRow_given : PySem.W.findIn K (.ref C_InvalidRow) "given" = some none
  xn_InvalidRow_index : PySem.W.findIn K (.ref C_InvalidRow) "index" = some none
  xn_InvalidRow_number : PySem.W.findIn K (.ref C_InvalidRow) "number" = some none
  xn_InvalidRow_told : PySem.W.findIn K (.ref C_InvalidRow) "told" = some none
  xh_InvalidRow_NotABook : PySem.W.exmOne K (.ref C_InvalidRow) (.ref C_NotABook) = some false
  xh_InvalidRow_NotACase : PySem.W.exmOne K (.ref C_InvalidRow) (.ref C_NotACase) = some false
  xh_InvalidRow_UnknownName : PySem.W.exmOne K (.ref C_InvalidRow) (.ref C_UnknownName) = some false
  xh_InvalidRow_InvalidRanking : PySem.W.exmOne K (.ref C_InvalidRow) (.ref C_InvalidRanking) = some false
  xh_InvalidRow_InvalidRow : PySem.W.exmOne K (.ref C_InvalidRow) (.ref C_InvalidRow) = some true
  xk_NoRanking : ExcC K C_NoRanking
  xe_NoRanking : PySem.W.exmOne K (.ref C_NoRanking) (.ref C_NoRanking) = some true
  xi_NoRanking : PySem.W.excIn K C_NoRanking [.type "ArithmeticError", .type "Exception", .type "BaseException", .type "object"] "ArithmeticError.__new__" = true
  xp_NoRanking : PySem.W.keepIn K (.ref C_NoRanking) = true
  xs_NoRanking : PySem.W.subIn K (.ref C_NoRanking) (.type "BaseException") = some true
  xt_NoRanking : PySem.W.typeIn K (.ref C_NoRanking) = some (.type "type")
  xh_NoRanking_NotABook : PySem.W.exmOne K (.ref C_NoRanking) (.ref C_NotABook) = some false
  xh_NoRanking_NotACase : PySem.W.exmOne K (.ref C_NoRanking) (.ref C_NotACase) = some false
  xh_NoRanking_UnknownName : PySem.W.exmOne K (.ref C_NoRanking) (.ref C_UnknownName) = some false
  xh_NoRanking_InvalidRanking : PySem.W.exmOne K (.ref C_NoRanking) (.ref C_InvalidRanking) = some false
  xh_NoRanking_InvalidRow : PySem.W.exmOne K (.ref C_NoRanking) (.ref C_InvalidRow) = some false
  xh_NoRanking_InvalidNumber : PySem.W.exmOne K (.ref C_NoRanking) (.ref C_InvalidNumber) = some false
  xh_NoRanking_InvalidCases : PySem.W.exmOne K (.ref C_NoRanking) (.ref C_InvalidCases) = some false
  xh_NoRanking_InvalidOffers : PySem.W.exmOne K (.ref C_NoRanking) (.ref C_InvalidOffers) = some false
  xh_NoRanking_TooMany : PySem.W.exmOne K (.ref C_NoRanking) (.ref C_TooMany) = some false
  xh_NoRanking_NoRanking : PySem.W.exmOne K (.ref C_NoRanking) (.ref C_NoRanking) = some true
  xk_NotABook : ExcC K C_NotABook
  xe_NotABook : PySem.W.exmOne K (.ref C_NotABook) (.ref C_NotABook) = some true
  xo_NotABook : OexC K C_NotABook
  xf_NotABook : XfC K C_NotABook
  xn_NotABook_given : PySem.W.findIn K (.ref C_NotABook) "given" = some none
  xn_NotABook_index : PySem.W.findIn K (.ref C_NotABook) "index" = some none
  xn_NotABook_number : PySem.W.findIn K (.ref C_NotABook) "number" = some none
  xn_NotABook_told : PySem.W.findIn K (.ref C_NotABook) "told" = some none
  xh_NotABook_NotABook : PySem.W.exmOne K (.ref C_NotABook) (.ref C_NotABook) = some true
  xk_TooMany : ExcC K C_TooMany
  xe_TooMany : PySem.W.exmOne K (.ref C_TooMany) (.ref C_TooMany) = some true
  xo_TooMany : OaxC K C_TooMany
  xf_TooMany : XfC K C_TooMany
  xn_TooMany_given : PySem.W.findIn K (.ref C_TooMany) "given" = some none
  xn_TooMany_index : PySem.W.findIn K (.ref C_TooMany) "index" = some none
  xn_TooMany_number : PySem.W.findIn K (.ref C_TooMany) "number" = some none
  xn_TooMany_told : PySem.W.findIn K (.ref C_TooMany) "told" = some none
  xh_TooMany_NotABook : PySem.W.exmOne K (.ref C_TooMany) (.ref C_NotABook) = some false
  xh_TooMany_NotACase : PySem.W.exmOne K (.ref C_TooMany) (.ref C_NotACase) = some false
  xh_TooMany_UnknownName : PySem.W.exmOne K (.ref C_TooMany) (.ref C_UnknownName) = some false
  xh_TooMany_InvalidRanking : PySem.W.exmOne K (.ref C_TooMany) (.ref C_InvalidRanking) = some false
  xh_TooMany_InvalidRow : PySem.W.exmOne K (.ref C_TooMany) (.ref C_InvalidRow) = some false
  xh_TooMany_InvalidNumber : PySem.W.exmOne K (.ref C_TooMany) (.ref C_InvalidNumber) = some false
  xh_TooMany_InvalidCases : PySem.W.exmOne K (.ref C_TooMany) (.ref C_InvalidCases) = some false
  xh_TooMany_InvalidOffers : PySem.W.exmOne K (.ref C_TooMany) (.ref C_InvalidOffers) = some false
  xh_TooMany_TooMany : PySem.W.exmOne K (.ref C_TooMany) (.ref C_TooMany) = some true
  f_is_name : Addr
  e_is_name : FuncData
  F_is_name : Fun K "is_name" "is_name" s_is_name f_is_name e_is_name
  b_is_name : Binds K e_is_name ["value"] []
  m_is_name : mg "is_name" = some (.ref f_is_name)
  f_are_names : Addr
  e_are_names : FuncData
  F_are_names : Fun K "are_names" "are_names" s_are_names f_are_names e_are_names
  b_are_names : Binds K e_are_names ["values"] []
  m_are_names : mg "are_names" = some (.ref f_are_names)
  f_is_any_row : Addr
  e_is_any_row : FuncData
  F_is_any_row : Fun K "is_any_row" "is_any_row" s_is_any_row f_is_any_row e_is_any_row
  b_is_any_row : Binds K e_is_any_row ["value"] []
  m_is_any_row : mg "is_any_row" = some (.ref f_is_any_row)
  f_is_row : Addr
  e_is_row : FuncData
  F_is_row : Fun K "is_row" "is_row" s_is_row f_is_row e_is_row
  b_is_row : Binds K e_is_row ["value", "many"] []
  m_is_row : mg "is_row" = some (.ref f_is_row)
  f_is_whole : Addr
  e_is_whole : FuncData
  F_is_whole : Fun K "is_whole" "is_whole" s_is_whole f_is_whole e_is_whole
  b_is_whole : Binds K e_is_whole ["value"] []
  m_is_whole : mg "is_whole" = some (.ref f_is_whole)
  f_is_index : Addr
  e_is_index : FuncData
  F_is_index : Fun K "is_index" "is_index" s_is_index f_is_index e_is_index
  b_is_index : Binds K e_is_index ["value", "many"] []
  m_is_index : mg "is_index" = some (.ref f_is_index)
  f_InvalidRow___init__ : Addr
  e_InvalidRow___init__ : FuncData
  F_InvalidRow___init__ : Fun K "__init__" "InvalidRow.__init__" s_InvalidRow___init__ f_InvalidRow___init__ e_InvalidRow___init__
  b_InvalidRow___init__ : Binds K e_InvalidRow___init__ ["self", "given"] []
  xj_InvalidRow : PySem.W.findIn K (.ref C_InvalidRow) "__init__" = some (some (.ref f_InvalidRow___init__))
  xy_InvalidRow : PySem.W.typeIn K (.ref f_InvalidRow___init__) = some (.type "function")
  f_check_row : Addr
  e_check_row : FuncData
  F_check_row : Fun K "check_row" "check_row" s_check_row f_check_row e_check_row
  b_check_row : Binds K e_check_row ["row", "many"] []
  m_check_row : mg "check_row" = some (.ref f_check_row)
  f_read_book : Addr
  e_read_book : FuncData
  F_read_book : Fun K "read_book" "read_book" s_read_book f_read_book e_read_book
  b_read_book : Binds K e_read_book ["text"] []
  m_read_book : mg "read_book" = some (.ref f_read_book)
  f_turned : Addr
  e_turned : FuncData
  F_turned : Fun K "turned" "turned" s_turned f_turned e_turned
  b_turned : Binds K e_turned ["row"] []
  m_turned : mg "turned" = some (.ref f_turned)
  f_NotABook___init__ : Addr
  e_NotABook___init__ : FuncData
  F_NotABook___init__ : Fun K "__init__" "NotABook.__init__" s_NotABook___init__ f_NotABook___init__ e_NotABook___init__
  b_NotABook___init__ : Binds K e_NotABook___init__ ["self", "given"] []
  xj_NotABook : PySem.W.findIn K (.ref C_NotABook) "__init__" = some (some (.ref f_NotABook___init__))
  xy_NotABook : PySem.W.typeIn K (.ref f_NotABook___init__) = some (.type "function")
  f_check_book : Addr
  e_check_book : FuncData
  F_check_book : Fun K "check_book" "check_book" s_check_book f_check_book e_check_book
  b_check_book : Binds K e_check_book ["book"] []
  m_check_book : mg "check_book" = some (.ref f_check_book)
  f_head_of : Addr
  e_head_of : FuncData
  F_head_of : Fun K "head_of" "head_of" s_head_of f_head_of e_head_of
  b_head_of : Binds K e_head_of ["rules"] []
  m_head_of : mg "head_of" = some (.ref f_head_of)
  f_rules_of : Addr
  e_rules_of : FuncData
  F_rules_of : Fun K "rules_of" "rules_of" s_rules_of f_rules_of e_rules_of
  b_rules_of : Binds K e_rules_of ["head", "many"] []
  m_rules_of : mg "rules_of" = some (.ref f_rules_of)
  f_sides : Addr
  e_sides : FuncData
  F_sides : Fun K "sides" "sides" s_sides f_sides e_sides
  b_sides : Binds K e_sides ["row"] []
  m_sides : mg "sides" = some (.ref f_sides)
  f_rules_behind : Addr
  e_rules_behind : FuncData
  F_rules_behind : Fun K "rules_behind" "rules_behind" s_rules_behind f_rules_behind e_rules_behind
  b_rules_behind : Binds K e_rules_behind ["head", "told", "many"] []
  m_rules_behind : mg "rules_behind" = some (.ref f_rules_behind)
  f_steps : Addr
  e_steps : FuncData
  F_steps : Fun K "steps" "steps" s_steps f_steps e_steps
  b_steps : Binds K e_steps ["rows", "many"] []
  m_steps : mg "steps" = some (.ref f_steps)
  f_has_sign : Addr
  e_has_sign : FuncData
  F_has_sign : Fun K "has_sign" "has_sign" s_has_sign f_has_sign e_has_sign
  b_has_sign : Binds K e_has_sign ["row", "rules", "sign"] []
  m_has_sign : mg "has_sign" = some (.ref f_has_sign)
  f_split : Addr
  e_split : FuncData
  F_split : Fun K "split" "split" s_split f_split e_split
  b_split : Binds K e_split ["rows", "many"] []
  m_split : mg "split" = some (.ref f_split)
  f_some_fits : Addr
  e_some_fits : FuncData
  F_some_fits : Fun K "some_fits" "some_fits" s_some_fits f_some_fits e_some_fits
  b_some_fits : Binds K e_some_fits ["rows", "many"] []
  m_some_fits : mg "some_fits" = some (.ref f_some_fits)
  f_all_lots : Addr
  e_all_lots : FuncData
  F_all_lots : Fun K "all_lots" "all_lots" s_all_lots f_all_lots e_all_lots
  b_all_lots : Binds K e_all_lots ["many"] []
  m_all_lots : mg "all_lots" = some (.ref f_all_lots)
  f_has_part : Addr
  e_has_part : FuncData
  F_has_part : Fun K "has_part" "has_part" s_has_part f_has_part e_has_part
  b_has_part : Binds K e_has_part ["lot", "others"] []
  m_has_part : mg "has_part" = some (.ref f_has_part)
  f_InvalidNumber___init__ : Addr
  e_InvalidNumber___init__ : FuncData
  F_InvalidNumber___init__ : Fun K "__init__" "InvalidNumber.__init__" s_InvalidNumber___init__ f_InvalidNumber___init__ e_InvalidNumber___init__
  b_InvalidNumber___init__ : Binds K e_InvalidNumber___init__ ["self", "given"] []
  xj_InvalidNumber : PySem.W.findIn K (.ref C_InvalidNumber) "__init__" = some (some (.ref f_InvalidNumber___init__))
  xy_InvalidNumber : PySem.W.typeIn K (.ref f_InvalidNumber___init__) = some (.type "function")
  f_check_most : Addr
  e_check_most : FuncData
  F_check_most : Fun K "check_most" "check_most" s_check_most f_check_most e_check_most
  b_check_most : Binds K e_check_most ["most"] []
  m_check_most : mg "check_most" = some (.ref f_check_most)
  f_Book_names : Addr
  e_Book_names : FuncData
  F_Book_names : Fun K "names" "Book.names" s_Book_names f_Book_names e_Book_names
  b_Book_names : Binds K e_Book_names ["self"] []
  q_Book_names : Addr
  p_Book_names : PropOf K C_Book "names" q_Book_names f_Book_names
  f_Book_rows : Addr
  e_Book_rows : FuncData
  F_Book_rows : Fun K "rows" "Book.rows" s_Book_rows f_Book_rows e_Book_rows
  b_Book_rows : Binds K e_Book_rows ["self"] []
  q_Book_rows : Addr
  p_Book_rows : PropOf K C_Book "rows" q_Book_rows f_Book_rows
  f_fits_without : Addr
  e_fits_without : FuncData
  F_fits_without : Fun K "fits_without" "fits_without" s_fits_without f_fits_without e_fits_without
  b_fits_without : Binds K e_fits_without ["book", "lot"] []
  m_fits_without : mg "fits_without" = some (.ref f_fits_without)
  f_TooMany___init__ : Addr
  e_TooMany___init__ : FuncData
  F_TooMany___init__ : Fun K "__init__" "TooMany.__init__" s_TooMany___init__ f_TooMany___init__ e_TooMany___init__
  b_TooMany___init__ : Binds K e_TooMany___init__ ["self", "number"] []
  xj_TooMany : PySem.W.findIn K (.ref C_TooMany) "__init__" = some (some (.ref f_TooMany___init__))
  xy_TooMany : PySem.W.typeIn K (.ref f_TooMany___init__) = some (.type "function")
  f_struck : Addr
  e_struck : FuncData
  F_struck : Fun K "struck" "struck" s_struck f_struck e_struck
  b_struck : Binds K e_struck ["book"] []
  m_struck : mg "struck" = some (.ref f_struck)
  f_count_fallen : Addr
  e_count_fallen : FuncData
  F_count_fallen : Fun K "count_fallen" "count_fallen" s_count_fallen f_count_fallen e_count_fallen
  b_count_fallen : Binds K e_count_fallen ["told", "head", "rule"] []
  m_count_fallen : mg "count_fallen" = some (.ref f_count_fallen)
  f_least_wrong : Addr
  e_least_wrong : FuncData
  F_least_wrong : Fun K "least_wrong" "least_wrong" s_least_wrong f_least_wrong e_least_wrong
  b_least_wrong : Binds K e_least_wrong ["rows", "row"] []
  m_least_wrong : mg "least_wrong" = some (.ref f_least_wrong)
  f_fewest_of_all : Addr
  e_fewest_of_all : FuncData
  F_fewest_of_all : Fun K "fewest_of_all" "fewest_of_all" s_fewest_of_all f_fewest_of_all e_fewest_of_all
  b_fewest_of_all : Binds K e_fewest_of_all ["book"] []
  m_fewest_of_all : mg "fewest_of_all" = some (.ref f_fewest_of_all)
  f_fewest_wrong : Addr
  e_fewest_wrong : FuncData
  F_fewest_wrong : Fun K "fewest_wrong" "fewest_wrong" s_fewest_wrong f_fewest_wrong e_fewest_wrong
  b_fewest_wrong : Binds K e_fewest_wrong ["book"] []
  m_fewest_wrong : mg "fewest_wrong" = some (.ref f_fewest_wrong)
  f_holds_for_some : Addr
  e_holds_for_some : FuncData
  F_holds_for_some : Fun K "holds_for_some" "holds_for_some" s_holds_for_some f_holds_for_some e_holds_for_some
  b_holds_for_some : Binds K e_holds_for_some ["book", "row", "most"] []
  m_holds_for_some : mg "holds_for_some" = some (.ref f_holds_for_some)
  f_surely_wrong : Addr
  e_surely_wrong : FuncData
  F_surely_wrong : Fun K "surely_wrong" "surely_wrong" s_surely_wrong f_surely_wrong e_surely_wrong
  b_surely_wrong : Binds K e_surely_wrong ["book", "most"] []
  m_surely_wrong : mg "surely_wrong" = some (.ref f_surely_wrong)
  f_follows_with : Addr
  e_follows_with : FuncData
  F_follows_with : Fun K "follows_with" "follows_with" s_follows_with f_follows_with e_follows_with
  b_follows_with : Binds K e_follows_with ["book", "row", "most"] []
  m_follows_with : mg "follows_with" = some (.ref f_follows_with)
  f__law_cell : Addr
  e__law_cell : FuncData
  F__law_cell : Fun K "_law_cell" "_law_cell" s__law_cell f__law_cell e__law_cell
  b__law_cell : Binds K e__law_cell ["_law_cells", "_law_k"] []
  m__law_cell : mg "_law_cell" = some (.ref f__law_cell)
  f__law_well : Addr
  e__law_well : FuncData
  F__law_well : Fun K "_law_well" "_law_well" s__law_well f__law_well e__law_well
  b__law_well : Binds K e__law_well ["_law_cell_here"] []
  m__law_well : mg "_law_well" = some (.ref f__law_well)
  f__law_dip : Addr
  e__law_dip : FuncData
  F__law_dip : Fun K "_law_dip" "_law_dip" s__law_dip f__law_dip e__law_dip
  b__law_dip : Binds K e__law_dip ["_law_jar", "_law_many"] []
  m__law_dip : mg "_law_dip" = some (.ref f__law_dip)
  f__law_pick : Addr
  e__law_pick : FuncData
  F__law_pick : Fun K "_law_pick" "_law_pick" s__law_pick f__law_pick e__law_pick
  b__law_pick : Binds K e__law_pick ["_law_jar", "_law_things"] []
  m__law_pick : mg "_law_pick" = some (.ref f__law_pick)
  f__law_tags : Addr
  e__law_tags : FuncData
  F__law_tags : Fun K "_law_tags" "_law_tags" s__law_tags f__law_tags e__law_tags
  b__law_tags : Binds K e__law_tags ["_law_jar", "_law_many"] []
  m__law_tags : mg "_law_tags" = some (.ref f__law_tags)
  f__law_turned : Addr
  e__law_turned : FuncData
  F__law_turned : Fun K "_law_turned" "_law_turned" s__law_turned f__law_turned e__law_turned
  b__law_turned : Binds K e__law_turned ["_law_signs"] []
  m__law_turned : mg "_law_turned" = some (.ref f__law_turned)
  f__law_row : Addr
  e__law_row : FuncData
  F__law_row : Fun K "_law_row" "_law_row" s__law_row f__law_row e__law_row
  b__law_row : Binds K e__law_row ["_law_jar", "_law_many"] []
  m__law_row : mg "_law_row" = some (.ref f__law_row)
  f__law_book_page : Addr
  e__law_book_page : FuncData
  F__law_book_page : Fun K "_law_book_page" "_law_book_page" s__law_book_page f__law_book_page e__law_book_page
  b__law_book_page : Binds K e__law_book_page ["_law_tags_here", "_law_rows"] []
  m__law_book_page : mg "_law_book_page" = some (.ref f__law_book_page)
  f_Book___repr__ : Addr
  e_Book___repr__ : FuncData
  F_Book___repr__ : Fun K "__repr__" "Book.__repr__" s_Book___repr__ f_Book___repr__ e_Book___repr__
  b_Book___repr__ : Binds K e_Book___repr__ ["self"] []
  h_Book___repr__ : Meth K C_Book "__repr__" f_Book___repr__
  f__law_heard : Addr
  e__law_heard : FuncData
  F__law_heard : Fun K "_law_heard" "_law_heard" s__law_heard f__law_heard e__law_heard
  b__law_heard : Binds K e__law_heard ["_law_act"] []
  m__law_heard : mg "_law_heard" = some (.ref f__law_heard)
  f__law_all_heard : Addr
  e__law_all_heard : FuncData
  F__law_all_heard : Fun K "_law_all_heard" "_law_all_heard" s__law_all_heard f__law_all_heard e__law_all_heard
  b__law_all_heard : Binds K e__law_all_heard ["_law_acts", "_law_due"] []
  m__law_all_heard : mg "_law_all_heard" = some (.ref f__law_all_heard)
  f__law_any_rows : Addr
  e__law_any_rows : FuncData
  F__law_any_rows : Fun K "_law_any_rows" "_law_any_rows" s__law_any_rows f__law_any_rows e__law_any_rows
  b__law_any_rows : Binds K e__law_any_rows ["_law_jar", "_law_many", "_law_top_here"] []
  m__law_any_rows : mg "_law_any_rows" = some (.ref f__law_any_rows)
  f_Book___init__ : Addr
  e_Book___init__ : FuncData
  F_Book___init__ : Fun K "__init__" "Book.__init__" s_Book___init__ f_Book___init__ e_Book___init__
  b_Book___init__ : Binds K e_Book___init__ ["self", "text"] []
  mk_Book : Mk K C_Book f_Book___init__
  f_Book___str__ : Addr
  e_Book___str__ : FuncData
  F_Book___str__ : Fun K "__str__" "Book.__str__" s_Book___str__ f_Book___str__ e_Book___str__
  b_Book___str__ : Binds K e_Book___str__ ["self"] []
  h_Book___str__ : Meth K C_Book "__str__" f_Book___str__
  f__law_right : Addr
  e__law_right : FuncData
  F__law_right : Fun K "_law_right" "_law_right" s__law_right f__law_right e__law_right
  b__law_right : Binds K e__law_right ["_law_jar"] []
  m__law_right : mg "_law_right" = some (.ref f__law_right)
  f_law : Addr
  e_law : FuncData
  F_law : Fun K "law" "law" s_law f_law e_law
  b_law : Binds K e_law ["_law_cells"] []
  m_law : mg "law" = some (.ref f_law)
  lc_all_lots : Addr
  lt_all_lots : Addr
  FC_all_lots : FunC K "all_lots" "all_lots" s_all_lots f_all_lots e_all_lots lc_all_lots
  lc__law_right : Addr
  lt__law_right : Addr
  FC__law_right : FunC K "_law_right" "_law_right" s__law_right f__law_right e__law_right lc__law_right
  tts : List (Addr × Str)
  tabs : TabsOk tts
  hm_all_lots : (lt_all_lots, (envOfC "all_lots" (defScope s_all_lots) 0 f_all_lots (.ref lc_all_lots)).qual ++ "<lambda>") ∈ tts
  hm__law_right : (lt__law_right, (envOfC "_law_right" (defScope s__law_right) 0 f__law_right (.ref lc__law_right)).qual ++ "<lambda>") ∈ tts
  n_abs : mg "abs" = none
  n_all : mg "all" = none
  n_any : mg "any" = none
  n_bool : mg "bool" = none
  n_divmod : mg "divmod" = none
  n_enumerate : mg "enumerate" = none
  n_int : mg "int" = none
  n_isinstance : mg "isinstance" = none
  n_len : mg "len" = none
  n_list : mg "list" = none
  n_max : mg "max" = none
  n_min : mg "min" = none
  n_range : mg "range" = none
  n_repr : mg "repr" = none
  n_sorted : mg "sorted" = none
  n_str : mg "str" = none
  n_sum : mg "sum" = none
  n_tuple : mg "tuple" = none
  n_zip : mg "zip" = none
  t_LETTERS : Tok
  c_LETTERS : mg "LETTERS" = some (.str "abcdefghijklmnopqrstuvwxyz" t_LETTERS)
  t_MOST_LETTERS : Tok
  c_MOST_LETTERS : mg "MOST_LETTERS" = some (.int 8 t_MOST_LETTERS)
  t_MOST_ROWS : Tok
  c_MOST_ROWS : mg "MOST_ROWS" = some (.int 20 t_MOST_ROWS)
  t_MOST_RULES : Tok
  c_MOST_RULES : mg "MOST_RULES" = some (.int 8 t_MOST_RULES)
  t_MOST_STRUCK : Tok
  c_MOST_STRUCK : mg "MOST_STRUCK" = some (.int 10 t_MOST_STRUCK)
  a_OPPOSITES : Addr
  c_OPPOSITES : mg "OPPOSITES" = some (.ref a_OPPOSITES)
  w_OPPOSITES_43 : KDct K w a_OPPOSITES "+" (.str "-")
  w_OPPOSITES_45 : KDct K w a_OPPOSITES "-" (.str "+")
  w_OPPOSITES_46 : KDct K w a_OPPOSITES "." (.str ".")
  t_SIGNS : Tok
  c_SIGNS : mg "SIGNS" = some (.str "+-." t_SIGNS)
  k_struck_book : KBinds K e_struck ["book"] ["book"] (fun us ws => match us, ws with | [], [k0] => [k0] | _, _ => []) (fun us ws => match us, ws with | [], [k0] => [k0] | _, _ => [])
  k_follows_with_most_row_book : KBinds K e_follows_with ["book", "row", "most"] ["most", "row", "book"] (fun us ws => match us, ws with | [], [k0, k1, k2] => [k2, k1, k0] | _, _ => []) (fun us ws => match us, ws with | [], [k0, k1, k2] => [k2, k1, k0] | _, _ => [])
  k_fewest_wrong_book : KBinds K e_fewest_wrong ["book"] ["book"] (fun us ws => match us, ws with | [], [k0] => [k0] | _, _ => []) (fun us ws => match us, ws with | [], [k0] => [k0] | _, _ => [])
  k_surely_wrong_most_book : KBinds K e_surely_wrong ["book", "most"] ["most", "book"] (fun us ws => match us, ws with | [], [k0, k1] => [k1, k0] | _, _ => []) (fun us ws => match us, ws with | [], [k0, k1] => [k1, k0] | _, _ => [])
  no_text : NoAttr K C_Book "_text"
  no_names : NoAttr K C_Book "_names"
  no_rows : NoAttr K C_Book "_rows"
  ins_Book : InsOk K C_Book
  or_Book : PySem.W.findIn K (.ref C_Book) "__repr__" = some (some (.ref f_Book___repr__))
  ir_Book : PySem.W.isFn K (.ref f_Book___repr__) = true
  os_Book : PySem.W.findIn K (.ref C_Book) "__str__" = some (some (.ref f_Book___str__))
  is_Book : PySem.W.isFn K (.ref f_Book___str__) = true
  ct_Book : PySem.W.typeIn K (.ref C_Book) = some (.type "type")
  kt_Bs : PySem.W.kitOne K (.ref C_Book) (.type "str") = some false
end K37

namespace K37
open PySem PySem.Spec PyProof.Rows L2 Dw
variable [Tabs0]
/-- a row's signs, as codes -/
def isSign (c : Nat) : Prop := c = 43 ∨ c = 45 ∨ c = 46
structure RowOk (l : List Nat) (n : Nat) : Prop where
  len : l.length = n
  all : ∀ c ∈ l, isSign c
def sgn (l : List Nat) (k : Nat) : Nat := l.getD k 46
theorem ch_dot : (Str.ofString ".") = ch 46 := by decide +kernel
theorem ch_plus : (Str.ofString "+") = ch 43 := by decide +kernel
theorem ch_minus : (Str.ofString "-") = ch 45 := by decide +kernel
theorem sgn_at {l : List Nat} {n k : Nat} (h : l.length = n) (hk : k < n) : atI (tx l).cps.toList (k : Int) = some (sgn l k) := by
  have hl : k < l.length := by omega
  rw [tx_cps]
  refine atI_nat ?_
  unfold sgn
  rw [List.getElem?_eq_getElem hl, List.getD_eq_getElem?_getD, List.getElem?_eq_getElem hl]
  rfl
theorem sgn_is {l : List Nat} {n : Nat} (h : RowOk l n) (k : Nat) : isSign (sgn l k) := by
  unfold sgn
  rw [List.getD_eq_getElem?_getD]
  cases q : l[k]? with
  | none => exact .inr (.inr rfl)
  | some c => exact h.all c (List.mem_of_getElem? q)
theorem isSign.lt {c : Nat} (h : isSign c) : c < 1114112 := by rcases h with h | h | h <;> omega
/-- the signs of a row along an order, without the dots -/
def told (l : List Nat) (o : List Nat) : List Nat := (o.map (sgn l)).filter (fun c => !decide (c = 46))
/-- whether a row holds -/
def holdsB (l : List Nat) (o : List Nat) : Bool :=
  match told l o with
  | [] => true
  | c :: _ => decide (c = 43)
def ordD (o : List Nat) : List D := o.map fun (k : Nat) => D.int k
theorem small8 {n : Nat} (h : n ≤ 8) : n ≤ sizeLine := Nat.le_trans h (by decide)
end K37

namespace K37
open PySem PySem.Spec PyProof.Rows L2 Dw
variable [Tabs0]
/-! flipped -/
def flip1 (c : Nat) : Nat := if c = 43 then 45 else if c = 45 then 43 else 46
def flipped (l : List Nat) : List Nat := l.map flip1
theorem flip_get {c : Nat} (h : isSign c) : valV (mergeK [] ([(Str.ofString "+", Str.ofString "-"), (Str.ofString "-", Str.ofString "+"), (Str.ofString ".", Str.ofString ".")].map fun p => ((Sum.inr p.1 : Key), V.str p.2))) (Sum.inr (ch c)) = some (.str (ch (flip1 c))) := by
  rcases h with rfl | rfl | rfl <;> decide +kernel
theorem flip1_is {c : Nat} (h : isSign c) : isSign (flip1 c) := by
  rcases h with rfl | rfl | rfl <;> first | exact .inl rfl | exact .inr (.inl rfl) | exact .inr (.inr rfl)
def spFlip : Spc where
  ty := List Nat
  args := fun l => [.str (tx l)]
  ok := fun l => ∃ n, RowOk l n ∧ n ≤ 8
  rel := fun l d => d = .str (tx (flipped l))
def spSigns : Spc where
  ty := Nat
  args := fun n => [.purse, .int n]
  ok := fun n => n ≤ 8
  rel := fun n d => ∃ l, RowOk l n ∧ d = .str (tx l)
def spDraw : Spc where
  ty := Nat
  args := fun n => [.purse, .int n]
  ok := fun n => 0 < n ∧ n < 100000
  rel := fun n d => ∃ r : Nat, r < n ∧ d = .int r
end K37

namespace K37
open PySem PySem.Spec PyProof.Rows L2 Dw
variable [Tabs0]
structure NameOk (l : List Nat) : Prop where
  lo : 1 ≤ l.length
  hi : l.length ≤ 8
  all : ∀ c ∈ l, 97 ≤ c ∧ c ≤ 122
theorem lettersS : Str.ofString "abcdefghijklmnopqrstuvwxyz" = tx ((List.range 26).map (97 + ·)) := by decide +kernel
theorem signsS : Str.ofString "+-." = tx [43, 45, 46] := by decide +kernel
theorem NameOk.len {l : List Nat} (h : NameOk l) : (tx l).length ≤ sizeLine := by rw [tx_len]; exact small8 h.hi
theorem RowOk.sz {l : List Nat} {n : Nat} (h : RowOk l n) (hn : n ≤ 8) : (tx l).length ≤ sizeLine := by rw [tx_len, h.len]; exact small8 hn
theorem ev_cast {t : TE} {Γ : Gam} {d d' : D} (h : d = d') (e : Ev t Γ d) : Ev t Γ d' := h ▸ e
def nameD (ls : List (List Nat)) : List D := ls.map fun l => D.str (tx l)
structure NamesOk (ls : List (List Nat)) : Prop where
  lo : 1 ≤ ls.length
  hi : ls.length ≤ 8
  all : ∀ l ∈ ls, NameOk l
  inc : ∀ p ∈ ls.zip (ls.drop 1), p.1 < p.2
theorem zip_names (ls ms : List (List Nat)) : zipD (nameD ls) (nameD ms) = (ls.zip ms).map fun p => D.tup [.str (tx p.1), .str (tx p.2)] := by
  unfold zipD nameD
  rw [List.zip_map, List.map_map]; rfl
end K37

namespace K37
open PySem PySem.Spec PyProof.Rows L2 Dw
variable [Tabs0]
theorem ev_notT {K : PySem.W.Frag} {t : TE} {Γ : Gam} {b : Bool} (h : EvT (tTru K t) Γ b) : Ev (tNotT K t) Γ (.bl (!b)) := fun F σ W Q g k => by
  have e := h F σ W (fun c H => Q (.bl (!c)) H) g fun H s => k _ H s rfl
  exact e
structure LotOk (o : List Nat) (m : Nat) : Prop where
  lt : ∀ k ∈ o, k < m
  inc : o.Pairwise (· < ·)
end K37

namespace K37
open PySem PySem.Spec PyProof.Rows L2 Dw
variable [Tabs0]
/-! plain data: what a claim or a certificate may be -/
mutual
def plW (z : Nat) : Nat → D → Bool
  | _, .non => true | _, .bl _ => true | _, .int _ => true | _, .str x => PyData.strOk x && decide (x.length ≤ 100000)
  | k + 1, .tup ds => decide (ds.length ≤ z) && plWs z k ds
  | k + 1, .lst ds => decide (ds.length ≤ z) && plWs z k ds
  | k + 1, .dct ks ds => decide (ds.length ≤ z) && plWs z k ds
  | 0, .tup _ => false | 0, .lst _ => false | 0, .dct _ _ => false
  | _, .obj _ _ _ => false | _, .raw _ => false | _, .purse => false | _, .rng _ _ => false | _, .scr _ _ => false | _, .tag _ => false | _, .fnv _ _ => false | _, .clo _ _ _ => false | _, .tupN _ => false
def plWs (z : Nat) : Nat → List D → Bool
  | _, [] => true
  | k, d :: ds => plW z k d && plWs z k ds
end
abbrev plB := plW 60
abbrev plBs := plWs 60
theorem plWs_iff {z k : Nat} : ∀ {ds : List D}, plWs z k ds = true ↔ ∀ d ∈ ds, plW z k d = true
  | [] => by simp [plWs]
  | d :: ds => by
    have e : plWs z k (d :: ds) = (plW z k d && plWs z k ds) := by cases k <;> rfl
    rw [e, Bool.and_eq_true, plWs_iff (ds := ds)]
    simp
theorem plBs_iff {k : Nat} {ds : List D} : plBs k ds = true ↔ ∀ d ∈ ds, plB k d = true := plWs_iff
mutual
theorem plW_mono {z z' : Nat} (hz : z ≤ z') : ∀ (k m : Nat) (d : D), k ≤ m → plW z k d = true → plW z' m d = true
  | _, _, .non, _, _ => by unfold plW; rfl
  | _, _, .bl _, _, _ => by unfold plW; rfl
  | _, _, .int _, _, _ => by unfold plW; rfl
  | k, m, .str x, _, h => by
    have e : plW z k (.str x) = (PyData.strOk x && decide (x.length ≤ 100000)) := by cases k <;> rfl
    have e2 : plW z' m (.str x) = (PyData.strOk x && decide (x.length ≤ 100000)) := by cases m <;> rfl
    rw [e2, ← e, h]
  | k + 1, m + 1, .tup ds, hm, h => by
    have h : (decide (ds.length ≤ z) && plWs z k ds) = true := h
    show (decide (ds.length ≤ z') && plWs z' m ds) = true
    rw [Bool.and_eq_true] at h ⊢
    exact ⟨decide_eq_true (Nat.le_trans (of_decide_eq_true h.1) hz), plWs_mono hz k m ds (by omega) h.2⟩
  | k + 1, m + 1, .lst ds, hm, h => by
    have h : (decide (ds.length ≤ z) && plWs z k ds) = true := h
    show (decide (ds.length ≤ z') && plWs z' m ds) = true
    rw [Bool.and_eq_true] at h ⊢
    exact ⟨decide_eq_true (Nat.le_trans (of_decide_eq_true h.1) hz), plWs_mono hz k m ds (by omega) h.2⟩
  | k + 1, m + 1, .dct ks ds, hm, h => by
    have h : (decide (ds.length ≤ z) && plWs z k ds) = true := h
    show (decide (ds.length ≤ z') && plWs z' m ds) = true
    rw [Bool.and_eq_true] at h ⊢
    exact ⟨decide_eq_true (Nat.le_trans (of_decide_eq_true h.1) hz), plWs_mono hz k m ds (by omega) h.2⟩
  | 0, _, .tup _, _, h => nomatch h
  | 0, _, .lst _, _, h => nomatch h
  | 0, _, .dct _ _, _, h => nomatch h
  | k + 1, 0, .tup _, hm, _ => absurd hm (by omega)
  | k + 1, 0, .lst _, hm, _ => absurd hm (by omega)
  | k + 1, 0, .dct _ _, hm, _ => absurd hm (by omega)
  | k, _, .obj _ _ _, _, h => by cases k <;> exact nomatch h
  | k, _, .raw _, _, h => by cases k <;> exact nomatch h
  | k, _, .purse, _, h => by cases k <;> exact nomatch h
  | k, _, .rng _ _, _, h => by cases k <;> exact nomatch h
  | k, _, .scr _ _, _, h => by cases k <;> exact nomatch h
  | k, _, .tag _, _, h => by cases k <;> exact nomatch h
  | k, _, .fnv _ _, _, h => by cases k <;> exact nomatch h
  | k, _, .clo _ _ _, _, h => by cases k <;> exact nomatch h
  | k, _, .tupN _, _, h => by cases k <;> exact nomatch h
theorem plWs_mono {z z' : Nat} (hz : z ≤ z') : ∀ (k m : Nat) (ds : List D), k ≤ m → plWs z k ds = true → plWs z' m ds = true
  | _, _, [], _, _ => by unfold plWs; rfl
  | k, m, d :: ds, hm, h => by
    have e : plWs z k (d :: ds) = (plW z k d && plWs z k ds) := by cases k <;> rfl
    have e2 : plWs z' m (d :: ds) = (plW z' m d && plWs z' m ds) := by cases m <;> rfl
    rw [e, Bool.and_eq_true] at h
    rw [e2, plW_mono hz k m d hm h.1, plWs_mono hz k m ds hm h.2]; rfl
end
theorem plB_mono (k m : Nat) (d : D) (h : k ≤ m) (q : plB k d = true) : plB m d = true := plW_mono (Nat.le_refl _) k m d h q
mutual
theorem plB_np : ∀ (k : Nat) (d : D), plB k d = true → noP d = true
  | _, .non, _ => rfl
  | _, .bl _, _ => rfl
  | _, .int _, _ => rfl
  | _, .str _, _ => rfl
  | k + 1, .tup ds, h => plBs_np k ds (by have h : (decide (ds.length ≤ 60) && plBs k ds) = true := h; rw [Bool.and_eq_true] at h; exact h.2)
  | k + 1, .lst ds, h => plBs_np k ds (by have h : (decide (ds.length ≤ 60) && plBs k ds) = true := h; rw [Bool.and_eq_true] at h; exact h.2)
  | k + 1, .dct _ ds, h => plBs_np k ds (by have h : (decide (ds.length ≤ 60) && plBs k ds) = true := h; rw [Bool.and_eq_true] at h; exact h.2)
  | 0, .tup _, h => nomatch h
  | 0, .lst _, h => nomatch h
  | 0, .dct _ _, h => nomatch h
  | k, .obj _ _ _, h => by cases k <;> exact nomatch h
  | _, .raw _, _ => rfl
  | k, .purse, h => by cases k <;> exact nomatch h
  | _, .rng _ _, _ => rfl
  | k, .scr _ _, h => by cases k <;> exact nomatch h
  | k, .tag _, h => by cases k <;> exact nomatch h
  | k, .fnv _ _, h => by cases k <;> exact nomatch h
  | k, .clo _ _ _, h => by cases k <;> exact nomatch h
  | k, .tupN _, h => by cases k <;> exact nomatch h
theorem plBs_np : ∀ (k : Nat) (ds : List D), plBs k ds = true → noPs ds = true
  | _, [], _ => rfl
  | k, d :: ds, h => by
    have e : plBs k (d :: ds) = (plB k d && plBs k ds) := by cases k <;> rfl
    rw [e, Bool.and_eq_true] at h
    show (noP d && noPs ds) = true
    rw [plB_np k d h.1, plBs_np k ds h.2]; rfl
end
/-- a plain value -/
def Pv (d : D) : Prop := plB 12 d = true
theorem Pv.ty {d : D} (h : Pv d) : hasTy d = true := by
  cases d <;> first | rfl | exact nomatch h
theorem Pv.np {d : D} (h : Pv d) : noP d = true := plB_np _ _ h
theorem Pv.str {x : Str} (h : Pv (.str x)) : okS x ∧ x.length ≤ 100000 := by
  have h : (PyData.strOk x && decide (x.length ≤ 100000)) = true := h
  rw [Bool.and_eq_true, decide_eq_true_eq] at h
  exact h
theorem Pv.tup {ds : List D} (h : Pv (.tup ds)) : ds.length ≤ 60 ∧ ∀ d ∈ ds, Pv d := by
  have h : (decide (ds.length ≤ 60) && plBs 11 ds) = true := h
  rw [Bool.and_eq_true, decide_eq_true_eq] at h
  exact ⟨h.1, fun d hd => plB_mono 11 12 d (by decide) (plBs_iff.mp h.2 d hd)⟩
theorem np1 {d : D} {r : List D} (h : Pv d) (hr : noPs r = true) : noPs (d :: r) = true := by
  show (noP d && noPs r) = true
  rw [h.np, hr]; rfl
theorem pv_strs {l : List Nat} (h : ∀ c ∈ l, c < 1114112) (hz : l.length ≤ 100000) : Pv (.str (tx l)) := by
  show (PyData.strOk (tx l) && decide ((tx l).length ≤ 100000)) = true
  rw [show PyData.strOk (tx l) = true from okS_tx h, tx_len, decide_eq_true hz]; rfl
/-! what isinstance tells -/
def isStrB : D → Bool | .str _ => true | _ => false
def isIntB : D → Bool | .int _ => true | .bl _ => true | _ => false
def isBoolB : D → Bool | .bl _ => true | _ => false
section
variable {K : PySem.W.Frag} {d : D}
theorem kit_str (h : hasTy d = true) : PySem.W.kitOne K (tyD d) (.type "str") = some (isStrB d) := by cases d <;> first | rfl | exact nomatch h
theorem kit_int (h : hasTy d = true) : PySem.W.kitOne K (tyD d) (.type "int") = some (isIntB d) := by cases d <;> first | rfl | exact nomatch h
theorem kit_bool (h : hasTy d = true) : PySem.W.kitOne K (tyD d) (.type "bool") = some (isBoolB d) := by cases d <;> first | rfl | exact nomatch h
theorem str_of (h : isStrB d = true) : ∃ x, d = .str x := by cases d <;> first | exact ⟨_, rfl⟩ | exact nomatch h
end
def wholeB : D → Bool | .int _ => true | _ => false
theorem whole_eq (d : D) : (isIntB d && !isBoolB d) = wholeB d := by cases d <;> rfl
theorem whole_of {d : D} (h : wholeB d = true) : ∃ i, d = .int i := by cases d <;> first | exact ⟨_, rfl⟩ | exact nomatch h
def spWholeG : Spc where
  ty := D
  args := fun d => [d]
  ok := fun d => Pv d
  rel := fun d e => e = .bl (wholeB d)
def idxB : D → Int → Bool | .int i, m => decide (0 ≤ i) && decide (i < m) | _, _ => false
theorem idx_whole (d : D) (m : Int) : (wholeB d && idxB d m) = idxB d m := by cases d <;> first | rfl | exact Bool.true_and _
def spIndexG : Spc where
  ty := D × Nat
  args := fun x => [x.1, .int x.2]
  ok := fun x => Pv x.1
  rel := fun x e => e = .bl (idxB x.1 x.2)
/-- a text of some codes -/
def rowC (l : List Nat) : Bool := decide (1 ≤ l.length) && decide (l.length ≤ 8) && l.all fun c => decide (c ∈ [43, 45, 46])
def anyRowB : D → Bool | .str x => rowC x.cps.toList | _ => false
theorem rowC_ok {l : List Nat} : rowC l = true ↔ RowOk l l.length ∧ 1 ≤ l.length ∧ l.length ≤ 8 := by
  unfold rowC
  rw [Bool.and_eq_true, Bool.and_eq_true, decide_eq_true_eq, decide_eq_true_eq, List.all_eq_true]
  constructor
  · rintro ⟨⟨h1, h2⟩, h⟩
    refine ⟨⟨rfl, fun c hc => ?_⟩, h1, h2⟩
    have := of_decide_eq_true (h c hc)
    simp only [List.mem_cons, List.not_mem_nil, or_false] at this
    exact this
  · rintro ⟨h, h1, h2⟩
    refine ⟨⟨h1, h2⟩, fun c hc => decide_eq_true ?_⟩
    rcases h.all c hc with rfl | rfl | rfl <;> decide
def lenB : D → Nat → Bool | .str x, n => decide (x.length = n) | _, _ => false
def rowB (d : D) (n : Nat) : Bool := anyRowB d && lenB d n
theorem rowB_iff {d : D} {n : Nat} : rowB d n = true ↔ ∃ l, d = .str (tx l) ∧ RowOk l n ∧ 1 ≤ n ∧ n ≤ 8 := by
  constructor
  · intro h
    unfold rowB at h
    rw [Bool.and_eq_true] at h
    cases d <;> first | exact absurd h.1 Bool.false_ne_true | skip
    rename_i x
    obtain ⟨h1, h2⟩ := h
    obtain ⟨r, a, b⟩ := rowC_ok.mp h1
    have h2 : decide (x.length = n) = true := h2
    rw [decide_eq_true_eq] at h2
    have e : x.cps.toList.length = n := by rw [← h2]; rfl
    rw [e] at r a b
    exact ⟨x.cps.toList, congrArg D.str (of_tx x), r, a, b⟩
  · rintro ⟨l, rfl, r, a, b⟩
    show (rowC (tx l).cps.toList && decide ((tx l).length = n)) = true
    rw [tx_cps, tx_len, r.len, decide_eq_true rfl, Bool.and_true]
    exact rowC_ok.mpr (by rw [r.len]; exact ⟨r, a, b⟩)
def letterC (c : Nat) : Bool := decide (c ∈ (List.range 26).map (97 + ·))
theorem letter_iff {c : Nat} : letterC c = true ↔ 97 ≤ c ∧ c ≤ 122 := by
  unfold letterC
  rw [decide_eq_true_eq, List.mem_map]
  constructor
  · rintro ⟨a, h, rfl⟩
    have := List.mem_range.mp h
    omega
  · rintro ⟨h1, h2⟩
    exact ⟨c - 97, List.mem_range.mpr (by omega), by omega⟩
def nmC (l : List Nat) : Bool := decide (1 ≤ l.length) && decide (l.length ≤ 8) && l.all letterC
theorem nmC_ok {l : List Nat} : nmC l = true ↔ NameOk l := by
  unfold nmC
  rw [Bool.and_eq_true, Bool.and_eq_true, decide_eq_true_eq, decide_eq_true_eq, List.all_eq_true]
  exact ⟨fun ⟨⟨h1, h2⟩, h⟩ => ⟨h1, h2, fun c hc => letter_iff.mp (h c hc)⟩, fun h => ⟨⟨h.lo, h.hi⟩, fun c hc => letter_iff.mpr (h.all c hc)⟩⟩
def nmB : D → Bool | .str x => nmC x.cps.toList | _ => false
def spNameG : Spc where
  ty := D
  args := fun d => [d]
  ok := fun d => Pv d
  rel := fun d e => e = .bl (nmB d)
theorem nmB_iff {d : D} : nmB d = true ↔ ∃ l, d = .str (tx l) ∧ NameOk l := by
  constructor
  · intro h
    cases d <;> first | exact absurd h Bool.false_ne_true | skip
    rename_i x
    exact ⟨x.cps.toList, congrArg D.str (of_tx x), nmC_ok.mp h⟩
  · rintro ⟨l, rfl, h⟩
    show nmC (tx l).cps.toList = true
    rw [tx_cps]
    exact nmC_ok.mpr h
end K37

namespace K37
open PySem PySem.Spec PyProof.Rows L2 Dw
variable [Tabs0]
theorem d_is_whole {P : Program} {w : World} {K : PySem.W.Frag} {mg : Str → Option Value} {base : Heap} (T : Txt K w mg) : FnOk P w K mg base CX0 1 T.f_is_whole T.e_is_whole ["value"] (toSp (spWholeG)) := by
  refine fn_ok T.F_is_whole sc_is_whole (fun _ => rfl) fun cdv A outer s' H E hr => ?_
  refine ⟨_, (pss_one (ps_ret (pe_and (pe_callB (isiA K) (by rfl) T.n_isinstance (by decide +kernel) (pa_cons (pv 0) (pa_cons (pe_bltn (v := .ty "int") (by rfl) T.n_int (by decide +kernel) rfl) pa_nil))) (pe_one (notA K (pe_callB (isiA K) (by rfl) T.n_isinstance (by decide +kernel) (pa_cons (pv 0) (pa_cons (pe_bltn (v := .ty "bool") (by rfl) T.n_bool (by decide +kernel) rfl) pa_nil)))))))), fun x hx => ?_⟩
  obtain ⟨d, rfl⟩ : ∃ l : D, l = x := ⟨x, rfl⟩
  have hd : Pv d := hx
  refine ds_ret (Ev.dl (ev_cast (congrArg D.bl (whole_eq d)) (ev_andV (a := isIntB d) (b := !isBoolB d) (ev_isi (ev_var rfl) ev_raw (.inl hd.ty) (.ty "int") (kit_int hd.ty)) fun _ => ev_notT (b := isBoolB d) (evt_tru_bl (ev_isi (ev_var rfl) ev_raw (.inl hd.ty) (.ty "bool") (kit_bool hd.ty))))) rfl)
end K37

namespace K37
open PySem PySem.Spec PyProof.Rows L2 Dw
variable [Tabs0]
theorem d_is_index {P : Program} {w : World} {K : PySem.W.Frag} {mg : Str → Option Value} {base : Heap} (T : Txt K w mg) : FnOk P w K mg base CX0 2 T.f_is_index T.e_is_index ["value", "many"] (toSp (spIndexG)) := by
  refine fn_ok T.F_is_index sc_is_index (fun _ => rfl) fun cdv A outer s' H E hr => ?_
  refine ⟨_, (pss_one (ps_ret (pe_and (pe_call (d_is_whole T) (hr.mono (by decide)) (by rfl) T.m_is_whole T.F_is_whole.kp T.b_is_whole .nil pass0 (pa_cons (pv 0) pa_nil)) (pe_one (pe_chain opLe opLt pe_int (pv 0) (pv 1)))))), fun x hx => ?_⟩
  obtain ⟨d, m⟩ := x
  have hd : Pv d := hx
  refine ds_ret (Ev.dl (ev_cast (congrArg D.bl (idx_whole d m)) (ev_andV (a := wholeB d) (b := idxB d m) (ev_call (s := spWholeG) (x := d) (eva_cons (ev_var rfl) eva_nil) (np1 hd rfl) hd fun d h => h) fun h => ?_)) rfl)
  obtain ⟨i, rfl⟩ := whole_of h
  exact ev_chain ev_int (ev_var rfl) (fun _ => ev_var rfl) dr2_le fun _ => lt_int'
end K37

namespace K37
open PySem PySem.Spec PyProof.Rows L2 Dw
variable [Tabs0]
/-! rows: of any data, and of a book -/
def PvO (C : Addr) (d : D) : Prop := Pv d ∨ ∃ ns ds, d = .obj C ns ds ∧ noP d = true
theorem PvO.np {C : Addr} {d : D} (h : PvO C d) : noP d = true := by
  rcases h with h | ⟨ns, ds, _, h⟩
  · exact h.np
  · exact h
def spAnyO (C : Addr) : Spc where
  ty := D
  args := fun d => [d]
  ok := fun d => PvO C d
  rel := fun d e => e = .bl (anyRowB d)
def spRowO (C : Addr) : Spc where
  ty := D × Nat
  args := fun x => [x.1, .int x.2]
  ok := fun x => PvO C x.1
  rel := fun x e => e = .bl (rowB x.1 x.2)
theorem np_consX {d : D} {r : List D} (h : noP d = true) (hr : noPs r = true) : noPs (d :: r) = true := by
  show (noP d && noPs r) = true
  rw [h, hr]; rfl
end K37

namespace K37
open PySem PySem.Spec PyProof.Rows L2 Dw
variable [Tabs0]
theorem d_is_any_row {P : Program} {w : World} {K : PySem.W.Frag} {mg : Str → Option Value} {base : Heap} (T : Txt K w mg) : FnOk P w K mg base CX0 1 T.f_is_any_row T.e_is_any_row ["value"] (toSp (spAnyO T.C_Book)) := by
  refine fn_ok T.F_is_any_row sc_is_any_row (fun _ => rfl) fun cdv A outer s' H E hr => ?_
  refine ⟨_, (pss_cons (ps_if (PW.pt (pw_or (pt_not (truA K (pe_callB (isiA K) (by rfl) T.n_isinstance (by decide +kernel) (pa_cons (pv 0) (pa_cons (pe_bltn (v := .ty "str") (by rfl) T.n_str (by decide +kernel) rfl) pa_nil))))) (pw_or1 (pt_not (pt_chain opLe opLe pe_int (pe_callB (lenA K) (by rfl) T.n_len (by decide +kernel) (pa_cons (pv 0) pa_nil)) (pe_glob (v := .int 8) (by rfl) T.c_MOST_RULES ⟨_, rfl⟩)))))) (pss_one (ps_ret pe_bl)) pss_nil) (pss_one (ps_ret (pe_callB (allA K) (by rfl) T.n_all (by decide +kernel) (pa_cons (pe_lc (own := [("sign", 1)]) rfl sc_is_any_row.nd (piR K (pv 0)) (blkOk_by (own := [("sign", 1)]) (N := N_is_any_row) (sc := (defScope s_is_any_row)) (by decide +kernel)) (fun _ _ _ _ _ => pg_name (i := 1) sc_is_any_row.nd rfl (Or.inl rfl)) (fun _ _ _ _ _ => pts_nil) (fun _ _ _ _ _ => (pe_cmpR (inA K) (pv 1) (pe_glob (v := .str "+-.") (by rfl) T.c_SIGNS ⟨_, rfl⟩) (by rfl)))) pa_nil))))), fun x hx => ?_⟩
  obtain ⟨d, rfl⟩ : ∃ l : D, l = x := ⟨x, rfl⟩
  have hx : PvO T.C_Book d := hx
  rcases hx with hd | ⟨ns, ds, rfl, hnp⟩
  · skip
    by_cases hs : isStrB d = true
    · obtain ⟨s, rfl⟩ := str_of hs
      obtain ⟨l, rfl⟩ : ∃ l, s = tx l := ⟨_, of_tx s⟩
      have hz := hd.str.2
      rw [tx_len] at hz
      have hc : (decide ((1 : Int) ≤ ((tx l).length : Int)) && decide (((tx l).length : Int) ≤ 8)) = (decide (1 ≤ l.length) && decide (l.length ≤ 8)) := by
        rw [tx_len]
        congr 1
        · exact decide_eq_decide.mpr (by omega)
        · exact decide_eq_decide.mpr (by omega)
      refine ds_seq (ds_if (EvT.dl (b := !(decide (1 ≤ l.length) && decide (l.length ≤ 8))) ?_ ⟨fun h => ?_, fun h => ?_⟩))
      · have e := evt_or (Γ := Gz0 2 ((spAnyO T.C_Book).args (.str (tx l)))) (a := false) (b := !(decide ((1 : Int) ≤ ((tx l).length : Int)) && decide (((tx l).length : Int) ≤ 8))) (evt_not (a := true) (evt_tru_bl (K := K) (ev_isi (K := K) (ta := tVar 0) (d := .str (tx l)) (ev_var rfl) ev_raw (.inl rfl) (.ty "str") rfl))) fun _ => evt_not (evt_chain (ta := tC (.int 1)) (tb := tCB (Dw.rLen K) (tCons (tVar 0) tNil)) (tc := tC (.int 8)) ev_int (ev_lenS (ev_var rfl) (small (by rw [tx_len]; exact hz))) (fun _ => ev_int) dr2_le fun _ => dr2_le)
        rw [hc] at e
        exact e
      · refine ds_ret (Ev.dl ev_bl ?_)
        show D.bl false = D.bl (rowC (tx l).cps.toList)
        unfold rowC
        rw [tx_cps, show (decide (1 ≤ l.length) && decide (l.length ≤ 8)) = false by rw [Bool.not_eq_true'] at h; exact h]; rfl
      · refine ds_next (ds_ret (Ev.dl (ev_all_lc (xs := l) (c := fun c => .str (ch c)) (b := fun c => decide (c ∈ [43, 45, 46])) ?_ (by omega) fun c hc => ⟨[1], _, dg_name, fun i hi => hi, evt_yes, ev_op (ev_var rfl) ev_str ?_⟩) ?_))
        · have := ej_str (K := K) (ta := tVar 0) (Γ := Gz0 2 ((spAnyO T.C_Book).args (.str (tx l)))) (x := tx l) (ev_var rfl)
          rw [signs_tx, List.map_map] at this
          exact this
        · rw [signsS]; exact in_code
        · show D.bl _ = D.bl (rowC (tx l).cps.toList)
          unfold rowC
          rw [tx_cps, show (decide (1 ≤ l.length) && decide (l.length ≤ 8)) = true by rw [Bool.not_eq_false'] at h; exact h]; rfl
    · have hs : isStrB d = false := by simpa using hs
      refine ds_seq (ds_if (EvT.dl (b := true) (evt_or (a := true) (b := false) (evt_not (a := false) (evt_tru_bl (ev_isi (ev_var rfl) ev_raw (.inl hd.ty) (.ty "str") (by rw [kit_str hd.ty, hs])))) fun h => (nomatch h)) ⟨fun _ => ds_ret (Ev.dl ev_bl ?_), fun h => (nomatch h)⟩))
      cases d <;> first | rfl | exact nomatch hs
  · refine ds_seq (ds_if (EvT.dl (b := true) (evt_or (a := true) (b := true) (evt_not (a := false) (evt_tru_bl (ev_isi (ev_var rfl) ev_raw (.inr ⟨_, _, _, rfl, T.ins_Book⟩) (.ty "str") T.kt_Bs))) fun h => nomatch h) ⟨fun _ => ds_ret (Ev.dl ev_bl rfl), fun h => nomatch h⟩))
end K37

namespace K37
open PySem PySem.Spec PyProof.Rows L2 Dw
variable [Tabs0]
theorem d_is_row {P : Program} {w : World} {K : PySem.W.Frag} {mg : Str → Option Value} {base : Heap} (T : Txt K w mg) : FnOk P w K mg base CX0 2 T.f_is_row T.e_is_row ["value", "many"] (toSp (spRowO T.C_Book)) := by
  refine fn_ok T.F_is_row sc_is_row (fun _ => rfl) fun cdv A outer s' H E hr => ?_
  refine ⟨_, (pss_one (ps_ret (pe_and (pe_call (d_is_any_row T) (hr.mono (by decide)) (by rfl) T.m_is_any_row T.F_is_any_row.kp T.b_is_any_row .nil pass0 (pa_cons (pv 0) pa_nil)) (pe_one (pe_cmpR (eqA K hr.units) (pe_callB (lenA K) (by rfl) T.n_len (by decide +kernel) (pa_cons (pv 0) pa_nil)) (pv 1) (nomark _)))))), fun x hx => ?_⟩
  obtain ⟨d, n⟩ := x
  have hx : PvO T.C_Book d := hx
  refine ds_ret (Ev.dl (ev_andV (a := anyRowB d) (b := lenB d n) (ev_call (s := spAnyO T.C_Book) (x := d) (eva_cons (ev_var rfl) eva_nil) (np_consX hx.np rfl) hx fun d h => h) fun h => ?_) rfl)
  rcases hx with hd | ⟨ns, ds, rfl, _⟩
  · cases d <;> first | exact absurd h Bool.false_ne_true | skip
    rename_i s
    refine ev_op (ev_lenS (ev_var rfl) (small hd.str.2)) (ev_var rfl) (eq_ib ?_)
    exact decide_eq_decide.mpr (by omega)
  · exact absurd h Bool.false_ne_true

end K37

namespace K37
open PySem PySem.Spec PyProof.Rows L2 Dw
variable [Tabs0]
theorem d_is_name {P : Program} {w : World} {K : PySem.W.Frag} {mg : Str → Option Value} {base : Heap} (T : Txt K w mg) : FnOk P w K mg base CX0 1 T.f_is_name T.e_is_name ["value"] (toSp (spNameG)) := by
  refine fn_ok T.F_is_name sc_is_name (fun _ => rfl) fun cdv A outer s' H E hr => ?_
  refine ⟨_, (pss_cons (ps_if (PW.pt (pw_or (pt_not (truA K (pe_callB (isiA K) (by rfl) T.n_isinstance (by decide +kernel) (pa_cons (pv 0) (pa_cons (pe_bltn (v := .ty "str") (by rfl) T.n_str (by decide +kernel) rfl) pa_nil))))) (pw_or1 (pt_not (pt_chain opLe opLe pe_int (pe_callB (lenA K) (by rfl) T.n_len (by decide +kernel) (pa_cons (pv 0) pa_nil)) (pe_glob (v := .int 8) (by rfl) T.c_MOST_LETTERS ⟨_, rfl⟩)))))) (pss_one (ps_ret pe_bl)) pss_nil) (pss_one (ps_ret (pe_callB (allA K) (by rfl) T.n_all (by decide +kernel) (pa_cons (pe_lc (own := [("letter", 1)]) rfl sc_is_name.nd (piR K (pv 0)) (blkOk_by (own := [("letter", 1)]) (N := N_is_name) (sc := (defScope s_is_name)) (by decide +kernel)) (fun _ _ _ _ _ => pg_name (i := 1) sc_is_name.nd rfl (Or.inl rfl)) (fun _ _ _ _ _ => pts_nil) (fun _ _ _ _ _ => (pe_cmpR (inA K) (pv 1) (pe_glob (v := .str "abcdefghijklmnopqrstuvwxyz") (by rfl) T.c_LETTERS ⟨_, rfl⟩) (by rfl)))) pa_nil))))), fun x hx => ?_⟩
  obtain ⟨d, rfl⟩ : ∃ l : D, l = x := ⟨x, rfl⟩
  have hd : Pv d := hx
  by_cases hs : isStrB d = true
  · obtain ⟨s, rfl⟩ := str_of hs
    obtain ⟨l, rfl⟩ : ∃ l, s = tx l := ⟨_, of_tx s⟩
    have hz := hd.str.2
    rw [tx_len] at hz
    have hc : (decide ((1 : Int) ≤ ((tx l).length : Int)) && decide (((tx l).length : Int) ≤ 8)) = (decide (1 ≤ l.length) && decide (l.length ≤ 8)) := by
      rw [tx_len]
      congr 1
      · exact decide_eq_decide.mpr (by omega)
      · exact decide_eq_decide.mpr (by omega)
    refine ds_seq (ds_if (EvT.dl (b := !(decide (1 ≤ l.length) && decide (l.length ≤ 8))) ?_ ⟨fun h => ?_, fun h => ?_⟩))
    · have e := evt_or (Γ := Gz0 2 (spNameG.args (.str (tx l)))) (a := false) (b := !(decide ((1 : Int) ≤ ((tx l).length : Int)) && decide (((tx l).length : Int) ≤ 8))) (evt_not (a := true) (evt_tru_bl (K := K) (ev_isi (K := K) (ta := tVar 0) (d := .str (tx l)) (ev_var rfl) ev_raw (.inl rfl) (.ty "str") rfl))) fun _ => evt_not (evt_chain (ta := tC (.int 1)) (tb := tCB (Dw.rLen K) (tCons (tVar 0) tNil)) (tc := tC (.int 8)) ev_int (ev_lenS (ev_var rfl) (small (by rw [tx_len]; exact hz))) (fun _ => ev_int) dr2_le fun _ => dr2_le)
      rw [hc] at e
      exact e
    · refine ds_ret (Ev.dl ev_bl ?_)
      show D.bl false = D.bl (nmC (tx l).cps.toList)
      unfold nmC
      rw [tx_cps, show (decide (1 ≤ l.length) && decide (l.length ≤ 8)) = false by rw [Bool.not_eq_true'] at h; exact h]; rfl
    · refine ds_next (ds_ret (Ev.dl (ev_all_lc (xs := l) (c := fun c => .str (ch c)) (b := letterC) ?_ (by omega) fun c hc => ⟨[1], _, dg_name, fun i hi => hi, evt_yes, ev_op (ev_var rfl) ev_str ?_⟩) ?_))
      · have := ej_str (K := K) (ta := tVar 0) (Γ := Gz0 2 (spNameG.args (.str (tx l)))) (x := tx l) (ev_var rfl)
        rw [signs_tx, List.map_map] at this
        exact this
      · rw [lettersS]; exact in_code
      · show D.bl _ = D.bl (nmC (tx l).cps.toList)
        unfold nmC
        rw [tx_cps, show (decide (1 ≤ l.length) && decide (l.length ≤ 8)) = true by rw [Bool.not_eq_false'] at h; exact h]; rfl
  · have hs : isStrB d = false := by simpa using hs
    refine ds_seq (ds_if (EvT.dl (b := true) (evt_or (a := true) (b := false) (evt_not (a := false) (evt_tru_bl (ev_isi (ev_var rfl) ev_raw (.inl hd.ty) (.ty "str") (by rw [kit_str hd.ty, hs])))) fun h => (nomatch h)) ⟨fun _ => ds_ret (Ev.dl ev_bl ?_), fun h => (nomatch h)⟩))
    cases d <;> first | rfl | exact nomatch hs

end K37

namespace K37
open PySem PySem.Spec PyProof.Rows L2 Dw
variable [Tabs0]
def bookTx (ls rs : List (List Nat)) : List Nat := TL.joinL [32] ((TL.joinL [32] ls ++ [58]) :: rs)
def bookD (C : Addr) (ls rs : List (List Nat)) : D := .obj C ["_text", "_names", "_rows"] [.str (tx (bookTx ls rs)), .tup (nameD ls), .tup (nameD rs)]
structure BookOk (ls rs : List (List Nat)) : Prop where
  names : NamesOk ls
  few : rs.length ≤ 20
  rows : ∀ r ∈ rs, RowOk r ls.length
theorem kit_self {K : PySem.W.Frag} {C : Addr} : PySem.W.kitOne K (.ref C) (.ref C) = some true := by
  unfold PySem.W.kitOne
  rw [if_pos]
  first | exact beq_self_eq_true _ | simp | rfl
abbrev Bk := List (List Nat) × List (List Nat)
def spCheck (C : Addr) : Spc where
  ty := Bk
  args := fun x => [bookD C x.1 x.2]
  ok := fun _ => True
  rel := fun _ d => d = .non
def spBNames (C : Addr) : Spc where
  ty := Bk
  args := fun x => [bookD C x.1 x.2]
  ok := fun _ => True
  rel := fun x d => d = .tup (nameD x.1)
def spBRows (C : Addr) : Spc where
  ty := Bk
  args := fun x => [bookD C x.1 x.2]
  ok := fun _ => True
  rel := fun x d => d = .tup (nameD x.2)
/-! signs fused -/
def chD (l : List Nat) : List D := l.map fun c => D.str (ch c)
theorem inV_ch (c : Nat) : ∀ l : List Nat, inV (.str (ch c)) ((chD l).map scV) = decide (c ∈ l)
  | [] => rfl
  | b :: l => by
    show ((ch b == ch c) || inV (.str (ch c)) ((chD l).map scV)) = _
    rw [inV_ch c l, Bool.eq_iff_iff]
    simp only [Bool.or_eq_true, beq_iff_eq, ch_eq, decide_eq_true_eq, List.mem_cons]
    constructor
    · rintro (h | h)
      · exact .inl h.symm
      · exact .inr h
    · rintro (h | h)
      · exact .inl h.symm
      · exact .inr h
theorem sc_ch (l : List Nat) : (chD l).all isSc = true := by
  induction l with
  | nil => rfl
  | cons c l ih => exact ih
end K37

namespace K37
open PySem PySem.Spec PyProof.Rows L2 Dw
variable [Tabs0]
theorem d_Book_names {P : Program} {w : World} {K : PySem.W.Frag} {mg : Str → Option Value} {base : Heap} (T : Txt K w mg) : FnOk P w K mg base CX0 1 T.f_Book_names T.e_Book_names ["self"] (toSp (spBNames T.C_Book)) := by
  refine fn_ok T.F_Book_names sc_Book_names (fun _ => rfl) fun cdv A outer s' H E hr => ?_
  refine ⟨_, (pss_one (ps_ret (fldA K (pv 0)))), fun x hx => ?_⟩
  obtain ⟨ls, rs⟩ := x
  exact ds_ret (Ev.dl (ev_fld T.cl_Book T.no_names (ev_var rfl) (by rfl)) rfl)
end K37

namespace K37
open PySem PySem.Spec PyProof.Rows L2 Dw
variable [Tabs0]
theorem d_Book_rows {P : Program} {w : World} {K : PySem.W.Frag} {mg : Str → Option Value} {base : Heap} (T : Txt K w mg) : FnOk P w K mg base CX0 1 T.f_Book_rows T.e_Book_rows ["self"] (toSp (spBRows T.C_Book)) := by
  refine fn_ok T.F_Book_rows sc_Book_rows (fun _ => rfl) fun cdv A outer s' H E hr => ?_
  refine ⟨_, (pss_one (ps_ret (fldA K (pv 0)))), fun x hx => ?_⟩
  obtain ⟨ls, rs⟩ := x
  exact ds_ret (Ev.dl (ev_fld T.cl_Book T.no_rows (ev_var rfl) (by rfl)) rfl)
end K37

namespace K37
open PySem PySem.Spec PyProof.Rows L2 Dw
variable [Tabs0]
theorem np_name (ls : List (List Nat)) : noPs (nameD ls) = true := noPs_map (fun _ => rfl) ls
theorem np_ord (o : List Nat) : noPs (ordD o) = true := noPs_map (fun _ => rfl) o
theorem np_tup {ds : List D} (h : noPs ds = true) : noPs [.tup ds] = true := by show (noPs ds && true) = true; rw [h]; rfl
theorem np_book (C : Addr) (ls rs : List (List Nat)) : noPs [bookD C ls rs] = true := by
  show ((true && ((noPs (nameD ls)) && (noPs (nameD rs) && true))) && true) = true
  rw [np_name, np_name]; rfl
theorem joinL_len {m : Nat} : ∀ ls : List (List Nat), (∀ p ∈ ls, p.length ≤ m) → (TL.joinL [32] ls).length ≤ ls.length * (m + 1)
  | [], _ => Nat.zero_le _
  | [p], h => by
    have := h p (List.mem_singleton.mpr rfl)
    show p.length ≤ 1 * (m + 1)
    omega
  | p :: q :: r, h => by
    have h1 := h p List.mem_cons_self
    have h2 := joinL_len (q :: r) fun x hx => h x (List.mem_cons_of_mem _ hx)
    show (p ++ ([32] ++ TL.joinL [32] (q :: r))).length ≤ (List.length (q :: r) + 1) * (m + 1)
    rw [List.length_append, List.length_append, Nat.add_mul]
    show p.length + (1 + _) ≤ _
    omega
theorem joinL_mem {c : Nat} : ∀ ls : List (List Nat), c ∈ TL.joinL [32] ls → c = 32 ∨ ∃ p ∈ ls, c ∈ p
  | [], h => absurd h (by simp [TL.joinL])
  | [p], h => .inr ⟨p, List.mem_singleton.mpr rfl, h⟩
  | p :: q :: r, h => by
    have h : c ∈ p ++ ([32] ++ TL.joinL [32] (q :: r)) := h
    rcases List.mem_append.mp h with h | h
    · exact .inr ⟨p, List.mem_cons_self, h⟩
    · rcases List.mem_append.mp h with h | h
      · exact .inl (List.mem_singleton.mp h)
      · rcases joinL_mem (q :: r) h with h | ⟨x, hx, hc⟩
        · exact .inl h
        · exact .inr ⟨x, List.mem_cons_of_mem _ hx, hc⟩
theorem bookTx_eq (ls : List (List Nat)) : ∀ rs : List (List Nat), bookTx ls rs = TL.joinL [32] ls ++ ([58] ++ TL.joinL [32] ([] :: rs))
  | [] => rfl
  | q :: r => by
    show (TL.joinL [32] ls ++ [58]) ++ ([32] ++ TL.joinL [32] (q :: r)) = TL.joinL [32] ls ++ ([58] ++ ([] ++ ([32] ++ TL.joinL [32] (q :: r))))
    rw [List.nil_append, List.append_assoc]
theorem spaceS : Str.ofString " " = tx [32] := by decide +kernel
theorem colonS : Str.ofString ":" = tx [58] := by decide +kernel
theorem split_sp {ps : List (List Nat)} (hne : ps ≠ []) (h : ∀ p ∈ ps, 32 ∉ p) : Txt.split (tx (TL.joinL [32] ps)) (Str.ofString " ") = ps.map tx := by
  rw [spaceS]
  refine (SX.split_S (a := TL.joinL [32] ps) (b := [32]) (by simp) (by decide)).trans ?_
  rw [SX.spl_join hne h]; rfl
theorem part_sp {p q : List Nat} (h : 58 ∉ p) : Txt.partition (tx (p ++ ([58] ++ q))) (Str.ofString ":") = (tx p, tx [58], tx q) := by
  rw [colonS]
  exact SX.partition_some (by simp) (SX.par_head q h)
theorem BookOk.h58 {ls rs : List (List Nat)} (h : BookOk ls rs) : 58 ∉ TL.joinL [32] ls := fun hm => by
  rcases joinL_mem ls hm with h' | ⟨p, hp, hc⟩
  · cases h'
  · have := (h.names.all p hp).all 58 hc; omega
theorem BookOk.h32 {ls rs : List (List Nat)} (h : BookOk ls rs) : ∀ p ∈ ls, 32 ∉ p := fun p hp hc => by
  have := (h.names.all p hp).all 32 hc; omega
theorem BookOk.r32 {ls rs : List (List Nat)} (h : BookOk ls rs) : ∀ p ∈ [] :: rs, 32 ∉ p := fun p hp hc => by
  rcases List.mem_cons.mp hp with rfl | hp
  · exact absurd hc (by simp)
  · rcases (h.rows p hp).all 32 hc with h | h | h <;> cases h
theorem BookOk.hl {ls rs : List (List Nat)} (h : BookOk ls rs) : (TL.joinL [32] ls).length ≤ 72 := by
  have := joinL_len (m := 8) ls fun p hp => (h.names.all p hp).hi
  have := h.names.hi
  omega
theorem BookOk.tl {ls rs : List (List Nat)} (h : BookOk ls rs) : (TL.joinL [32] ([] :: rs)).length ≤ 189 := by
  have e := joinL_len (m := 8) ([] :: rs) fun p hp => by
    rcases List.mem_cons.mp hp with rfl | hp
    · exact Nat.zero_le _
    · rw [(h.rows p hp).len]; exact h.names.hi
  rw [List.length_cons] at e
  have := h.few
  omega
theorem BookOk.len {ls rs : List (List Nat)} (h : BookOk ls rs) : (tx (bookTx ls rs)).length ≤ 300 := by
  rw [tx_len, bookTx_eq, List.length_append, List.length_append]
  have := h.hl
  have := h.tl
  show _ + (1 + _) ≤ _
  omega
def spInit : Spc where
  ty := Bk
  args := fun x => [.str (tx (bookTx x.1 x.2))]
  ok := fun x => BookOk x.1 x.2
  rel := fun x d => d = .tup [.str (tx (bookTx x.1 x.2)), .tup (nameD x.1), .tup (nameD x.2)]
theorem nameD_map (ls : List (List Nat)) : (ls.map tx).map D.str = nameD ls := by rw [List.map_map]; rfl
end K37

namespace K37
open PySem PySem.Spec PyProof.Rows L2 Dw
variable [Tabs0]
structure FuOk (ls rs : List (List Nat)) (o : List Nat) : Prop where
  book : BookOk ls rs
  lot : LotOk o rs.length
theorem inc_len {m : Nat} : ∀ (o : List Nat) (lo : Nat), lo ≤ m → (∀ k ∈ o, lo ≤ k ∧ k < m) → o.Pairwise (· < ·) → o.length + lo ≤ m
  | [], lo, h, _, _ => by rw [List.length_nil]; omega
  | a :: o, lo, h, hk, hp => by
    obtain ⟨h1, h2⟩ := hk a List.mem_cons_self
    obtain ⟨p1, p2⟩ := List.pairwise_cons.mp hp
    have := inc_len o (a + 1) (by omega) (fun k hm => ⟨p1 k hm, (hk k (List.mem_cons_of_mem _ hm)).2⟩) p2
    rw [List.length_cons]; omega
theorem lot_len {o : List Nat} {m : Nat} (h : LotOk o m) : o.length ≤ m := inc_len o 0 (Nat.zero_le _) (fun k hk => ⟨Nat.zero_le _, h.lt k hk⟩) h.inc
end K37

namespace K37
open PySem PySem.Spec PyProof.Rows L2 Dw
variable [Tabs0]
def lots : Nat → List (List Nat)
  | 0 => [[]]
  | n + 1 => lots n ++ (lots n).map (· ++ [n])
theorem lots_len : ∀ n, (lots n).length = 2 ^ n
  | 0 => rfl
  | n + 1 => by
    show (lots n ++ (lots n).map _).length = _
    rw [List.length_append, List.length_map, lots_len n, Nat.pow_succ]; omega
theorem lots_ok : ∀ n, ∀ o ∈ lots n, LotOk o n
  | 0, o, h => by
    rw [List.mem_singleton.mp h]
    exact ⟨fun k h => absurd h (by simp), List.Pairwise.nil⟩
  | n + 1, o, h => by
    rcases List.mem_append.mp h with h | h
    · have := lots_ok n o h
      exact ⟨fun k hk => Nat.lt_succ_of_lt (this.lt k hk), this.inc⟩
    · obtain ⟨p, hp, rfl⟩ := List.mem_map.mp h
      have := lots_ok n p hp
      refine ⟨fun k hk => ?_, List.pairwise_append.mpr ⟨this.inc, List.pairwise_singleton _ _, fun a ha b hb => ?_⟩⟩
      · rcases List.mem_append.mp hk with hk | hk
        · exact Nat.lt_succ_of_lt (this.lt k hk)
        · rw [List.mem_singleton.mp hk]; exact Nat.lt_succ_self n
      · rw [List.mem_singleton.mp hb]; exact this.lt a ha
def ordT (os : List (List Nat)) : List D := os.map fun o => D.tup (ordD o)
theorem ordD_len (o : List Nat) : (ordD o).length = o.length := List.length_map ..
theorem ordT_len (o : List (List Nat)) : (ordT o).length = o.length := List.length_map ..
end K37

namespace K37
open PySem PySem.Spec PyProof.Rows L2 Dw
variable [Tabs0]
def nameB (l : List Nat) : Bool := decide (1 ≤ l.length) && decide (l.length ≤ 8) && l.all fun c => decide (97 ≤ c) && decide (c ≤ 122)
theorem nameB_ok {l : List Nat} (h : nameB l = true) : NameOk l := by
  unfold nameB at h
  rw [Bool.and_eq_true, Bool.and_eq_true, List.all_eq_true] at h
  exact ⟨of_decide_eq_true h.1.1, of_decide_eq_true h.1.2, fun c hc => by
    have := h.2 c hc
    rw [Bool.and_eq_true] at this
    exact ⟨of_decide_eq_true this.1, of_decide_eq_true this.2⟩⟩
theorem lt_of_ne : ∀ a b : List Nat, a ≠ b → ¬ b < a → a < b
  | [], [], h, _ => absurd rfl h
  | [], b :: bs, _, _ => List.nil_lt_cons b bs
  | a :: as, [], _, h => absurd (List.nil_lt_cons a as) h
  | a :: as, b :: bs, h, h' => by
    rw [List.cons_lt_cons_iff] at h' ⊢
    by_cases e : a = b
    · subst e
      exact .inr ⟨rfl, lt_of_ne as bs (fun z => h (by rw [z])) fun z => h' (.inr ⟨rfl, z⟩)⟩
    · exact .inl (by
        have : ¬ b < a := fun z => h' (.inl z)
        omega)
theorem rising_inc : ∀ (x : Str) (r : List Str), risingS x r = true → (x :: r).Nodup → ∀ p ∈ (((x :: r).map fun s => s.cps.toList).zip (r.map fun s => s.cps.toList)), p.1 < p.2
  | x, [], _, _, p, hp => by cases hp
  | x, y :: r, h, nd, p, hp => by
    have h : (!ltCps y.cps.toList x.cps.toList && risingS y r) = true := h
    rw [Bool.and_eq_true, ltCps_eq, Bool.not_eq_true', decide_eq_false_iff_not] at h
    obtain ⟨n1, n2⟩ := List.nodup_cons.mp nd
    rcases List.mem_cons.mp hp with rfl | hp
    · exact lt_of_ne _ _ (fun z => n1 (by
        have z' : x.cps.toList = y.cps.toList := z
        have : x = y := by rw [of_tx x, of_tx y, z']
        rw [this]; exact List.mem_cons_self)) h.1
    · exact rising_inc y r h.2 n2 p hp
theorem nameD_len (ls : List (List Nat)) : (nameD ls).length = ls.length := List.length_map ..
theorem nodup_tx {l : List (List Nat)} (h : l.Nodup) : (l.map tx).Nodup := by
  rw [List.nodup_iff_pairwise_ne] at h ⊢
  exact List.pairwise_map.mpr (h.imp fun h z => h (tx_eq.mp z))
end K37

namespace K37
open PySem PySem.Spec PyProof.Rows L2 Dw
variable [Tabs0]
theorem flipped_ok {l : List Nat} {n : Nat} (h : RowOk l n) : RowOk (flipped l) n := by
  refine ⟨by unfold flipped; rw [List.length_map, h.len], fun c hc => ?_⟩
  unfold flipped at hc
  obtain ⟨b, hb, rfl⟩ := List.mem_map.mp hc
  exact flip1_is (h.all b hb)
end K37

namespace K37
open PySem PySem.Spec PyProof.Rows L2 Dw
variable [Tabs0]
theorem sum_tx {m : Nat} : ∀ ls : List (List Nat), (∀ p ∈ ls, p.length ≤ m) → ((ls.map tx).map (·.length)).sum ≤ ls.length * m
  | [], _ => Nat.zero_le _
  | p :: r, h => by
    have h1 := h p List.mem_cons_self
    have h2 := sum_tx r fun x hx => h x (List.mem_cons_of_mem _ hx)
    rw [List.map_cons, List.map_cons, List.sum_cons, tx_len, List.length_cons, Nat.add_mul]
    omega
theorem join_sp (ls : List (List Nat)) : Txt.join (Str.ofString " ") (ls.map tx) = tx (TL.joinL [32] ls) := by rw [spaceS, join_tx]
end K37

namespace K37
open PySem PySem.Spec PyProof.Rows L2 Dw
variable [Tabs0]
theorem dr2_pow {i j : Int} (h : CPow i j) : DR2 (rI CPow fun i j => .int (i ^ j.toNat)) (.int i) (.int j) (.int (i ^ j.toNat)) := dr2_rI h fun _ => rfl
theorem scr_at {ns : List Int} {spot : Nat} (h : spot < ns.length) : atI (ns.map V.int) (spot : Int) = some (.int (ns.getD spot 0)) := by
  refine atI_nat ?_
  rw [List.getElem?_map, List.getElem?_eq_getElem h, List.getD_eq_getElem?_getD, List.getElem?_eq_getElem h]; rfl
end K37

namespace K37
open PySem PySem.Spec PyProof.Rows L2 Dw
variable [Tabs0]
/-! lots and rankings of any plain values -/
theorem eqv_ints : ∀ xs ys : List Int, PyData.eqvAll (pys (xs.map D.int)) (pys (ys.map D.int)) = decide (xs = ys)
  | [], [] => rfl
  | [], y :: ys => by
    show false = _
    simp
  | x :: xs, [] => by
    show false = _
    simp
  | x :: xs, y :: ys => by
    show ((x == y) && PyData.eqvAll (pys (xs.map D.int)) (pys (ys.map D.int))) = _
    rw [eqv_ints xs ys, Bool.eq_iff_iff]
    simp
/-! names of any plain values -/
def codesOf : D → List Nat | .str x => x.cps.toList | _ => []
def incB (ls : List (List Nat)) : Bool := (ls.zip (ls.drop 1)).all fun p => decide (p.1 < p.2)
def namesB (ds : List D) : Bool := ds.all nmB && incB (ds.map codesOf)
theorem all_names : ∀ {ds : List D}, ds.all nmB = true → ds = nameD (ds.map codesOf) ∧ ∀ l ∈ ds.map codesOf, NameOk l
  | [], _ => ⟨rfl, fun l h => absurd h (by simp)⟩
  | d :: r, h => by
    rw [List.all_cons, Bool.and_eq_true] at h
    obtain ⟨l, rfl, hl⟩ := nmB_iff.mp h.1
    obtain ⟨e, hr⟩ := all_names h.2
    have ec : codesOf (.str (tx l)) = l := tx_cps l
    rw [List.map_cons, ec]
    refine ⟨?_, fun x hx => ?_⟩
    · show D.str (tx l) :: r = D.str (tx l) :: nameD (r.map codesOf)
      rw [← e]
    · rcases List.mem_cons.mp hx with rfl | hx
      · exact hl
      · exact hr x hx
theorem codes_name (ls : List (List Nat)) : (nameD ls).map codesOf = ls := by
  unfold nameD
  rw [List.map_map]
  have e : (codesOf ∘ fun l => D.str (tx l)) = id := by funext l; exact tx_cps l
  rw [e, List.map_id]
theorem namesB_iff {ds : List D} : namesB ds = true ↔ ∃ ls, ds = nameD ls ∧ (∀ l ∈ ls, NameOk l) ∧ ∀ p ∈ ls.zip (ls.drop 1), p.1 < p.2 := by
  unfold namesB incB
  rw [Bool.and_eq_true]
  constructor
  · rintro ⟨h1, h2⟩
    obtain ⟨e, hn⟩ := all_names h1
    exact ⟨_, e, hn, fun p hp => of_decide_eq_true (List.all_eq_true.mp h2 p hp)⟩
  · rintro ⟨ls, rfl, h1, h2⟩
    rw [codes_name]
    refine ⟨?_, List.all_eq_true.mpr fun p hp => decide_eq_true (h2 p hp)⟩
    unfold nameD
    rw [List.all_map, List.all_eq_true]
    exact fun l hl => nmB_iff.mpr ⟨l, rfl, h1 l hl⟩
def spNamesG : Spc where
  ty := List D
  args := fun ds => [.tup ds]
  ok := fun ds => Pv (.tup ds)
  rel := fun ds e => e = .bl (namesB ds)
theorem cut_tail (ds : List D) : Dw.cutD ds (some 1) none = ds.drop 1 := by
  unfold Dw.cutD
  rw [HT.sIx_none]
  have e : HT.sIx ds.length 0 (some 1) = min 1 ds.length := by
    show (if (1 : Int) < 0 then ((1 : Int) + (ds.length : Int)).toNat else min (1 : Int).toNat ds.length) = _
    rw [if_neg (by decide)]; rfl
  rw [e]
  cases ds with
  | nil => rfl
  | cons d r =>
    rw [show min 1 (d :: r).length = 1 by simp [Nat.min_def], List.take_of_length_le (by simp)]
theorem names_ok {ls : List (List Nat)} (h : NamesOk ls) : namesB (nameD ls) = true := namesB_iff.mpr ⟨ls, rfl, h.all, h.inc⟩
theorem row_ok {l : List Nat} {n : Nat} (h : RowOk l n) (h1 : 1 ≤ n) (h8 : n ≤ 8) : rowB (.str (tx l)) n = true := rowB_iff.mpr ⟨l, rfl, h, h1, h8⟩
theorem pv_row {l : List Nat} {n : Nat} (h : RowOk l n) (h8 : n ≤ 8) : Pv (.str (tx l)) := pv_strs (fun c hc => (h.all c hc).lt) (by rw [h.len]; omega)
end K37

namespace K37
open PySem PySem.Spec PyProof.Rows L2 Dw
variable [Tabs0]
theorem d_are_names {P : Program} {w : World} {K : PySem.W.Frag} {mg : Str → Option Value} {base : Heap} (T : Txt K w mg) : FnOk P w K mg base CX0 2 T.f_are_names T.e_are_names ["values"] (toSp (spNamesG)) := by
  refine fn_ok T.F_are_names sc_are_names (fun _ => rfl) fun cdv A outer s' H E hr => ?_
  refine ⟨_, (pss_cons (ps_if (pt_not (truA K (pe_callB (allA K) (by rfl) T.n_all (by decide +kernel) (pa_cons (pe_lc (own := [("value", 3)]) rfl sc_are_names.nd (piR K (pv 0)) (blkOk_by (own := [("value", 3)]) (N := N_are_names) (sc := (defScope s_are_names)) (by decide +kernel)) (fun _ _ _ _ _ => pg_name (i := 3) sc_are_names.nd rfl (Or.inl rfl)) (fun _ _ _ _ _ => pts_nil) (fun _ _ _ _ _ => (pe_call (d_is_name T) (hr.mono (by decide)) (by rfl) T.m_is_name T.F_is_name.kp T.b_is_name .nil pass0 (pa_cons (pv 3) pa_nil)))) pa_nil)))) (pss_one (ps_ret pe_bl)) pss_nil) (pss_one (ps_ret (pe_callB (allA K) (by rfl) T.n_all (by decide +kernel) (pa_cons (pe_lc (own := [("one", 1), ("other", 2)]) rfl sc_are_names.nd (zipA K (by rfl) T.n_zip (pa_cons (pv 0) (pa_cons (pe_slice (slXA K) (pv 0) (po_some pe_int) po_none) pa_nil))) (blkOk_by (own := [("one", 1), ("other", 2)]) (N := N_are_names) (sc := (defScope s_are_names)) (by decide +kernel)) (fun _ _ _ _ _ => tupA K 2 rfl (pgs_cons (pg_name (i := 1) sc_are_names.nd rfl (Or.inl rfl)) (pgs_cons (pg_name (i := 2) sc_are_names.nd rfl (Or.inl rfl)) pgs_nil))) (fun _ _ _ _ _ => pts_nil) (fun _ _ _ _ _ => (pe_cmpR opLt (pv 1) (pv 2) (nomark _)))) pa_nil))))), fun x hx => ?_⟩
  obtain ⟨ds, rfl⟩ : ∃ l : List D, l = x := ⟨x, rfl⟩
  have hd : Pv (.tup ds) := hx
  obtain ⟨hz, hp⟩ := hd.tup
  refine ds_seq (ds_if (EvT.dl (b := !ds.all nmB) (evt_not (evt_tru_bl (ev_all_lc (K := K) (xs := ds) (c := fun d => d) (b := nmB) ?it (by omega) fun k hk => ⟨[3], _, dg_name, fun i hi => hi, evt_yes, ev_call (s := spNameG) (x := k) (eva_cons (ev_var rfl) eva_nil) (np1 (hp k hk) rfl) (hp k hk) fun d h => h⟩))) ⟨fun h => ?_, fun h => ds_next ?_⟩))
  case it => rw [List.map_id']; exact ej_tup (ev_var rfl)
  · refine ds_ret (Ev.dl ev_bl ?_)
    show D.bl false = D.bl (namesB ds)
    unfold namesB
    rw [Bool.not_eq_true'] at h
    rw [h]; rfl
  · rw [Bool.not_eq_false'] at h
    obtain ⟨e, hn⟩ := all_names h
    generalize hls : ds.map codesOf = ls at e hn
    subst e
    have el : (nameD ls).length = ls.length := List.length_map ..
    refine ds_ret (Ev.dl (ev_all_lc (xs := ls.zip (ls.drop 1)) (c := fun p => .tup [.str (tx p.1), .str (tx p.2)]) (b := fun p => decide (p.1 < p.2)) ?_ ?_ ?_) ?_)
    · rw [← zip_names]
      have e : nameD (ls.drop 1) = Dw.cutD (nameD ls) (some 1) none := by
        rw [cut_tail]
        unfold nameD
        rw [List.map_drop]
      rw [e]
      exact ei_zipT (ev_var rfl) (ev_sliceTY (ev_var rfl) (eo_some ev_int) eo_none)
    · rw [List.length_zip]; omega
    · intro p hp
      exact ⟨[1] ++ [2], _, dg_tup2 dg_name dg_name, fun i hi => hi, evt_yes, ev_op (ev_var rfl) (ev_var rfl) lt_tx⟩
    · show D.bl (incB ls) = D.bl (namesB (nameD ls))
      unfold namesB
      rw [h, codes_name]; rfl

end K37

namespace K37
open PySem PySem.Spec PyProof.Rows L2 Dw
variable [Tabs0]
/-! the layers -/
def rowAt (rs : List (List Nat)) (i : Nat) : List Nat := rs.getD i []
def minB (rs : List (List Nat)) (still : List Nat) (k : Nat) : Bool := still.any fun i => decide (sgn (rowAt rs i) k = 45)
def plusB (rs : List (List Nat)) (lay : List Nat) (i : Nat) : Bool := lay.any fun k => decide (sgn (rowAt rs i) k = 43)
def openB (rs : List (List Nat)) (i : Nat) : Bool := (rowAt rs i).any fun c => !decide (c = 46)
def open0 (rs : List (List Nat)) : List Nat := (List.range rs.length).filter (openB rs)
def layF (rs : List (List Nat)) : Nat → List (List Nat) → List Nat → List Nat → List (List Nat) × List Nat
  | 0, made, _, still => (made, still)
  | f + 1, made, left, still =>
    if still = [] then (if left = [] then made else made ++ [left], [])
    else if left.filter (fun k => !minB rs still k) = [] then (made, still)
    else layF rs f (made ++ [left.filter fun k => !minB rs still k]) (left.filter (minB rs still)) (still.filter fun i => !plusB rs (left.filter fun k => !minB rs still k) i)
def splitM (rs : List (List Nat)) (n : Nat) : List (List Nat) × List Nat := layF rs (n + 1) [] (List.range n) (open0 rs)
/-- a row that some layer settles, all ahead of it being dots, and none of it a minus -/
def Settled (rs : List (List Nat)) (made : List (List Nat)) (i : Nat) : Prop := ∃ pre lay post, made = pre ++ lay :: post ∧ (∀ l ∈ pre, ∀ k ∈ l, sgn (rowAt rs i) k = 46) ∧ (∀ k ∈ lay, sgn (rowAt rs i) k ≠ 45) ∧ ∃ k ∈ lay, sgn (rowAt rs i) k = 43
structure LayI (rs : List (List Nat)) (n : Nat) (made : List (List Nat)) (left still : List Nat) : Prop where
  perm : (made.flatten ++ left).Perm (List.range n)
  ne : ∀ l ∈ made, l ≠ []
  sub : still.Sublist (open0 rs)
  dots : ∀ i ∈ still, ∀ l ∈ made, ∀ k ∈ l, sgn (rowAt rs i) k = 46
  done : ∀ i ∈ open0 rs, i ∉ still → Settled rs made i
  inc : left.Sublist (List.range n)
theorem Settled.more {rs made i} (l : List (List Nat)) (h : Settled rs made i) : Settled rs (made ++ l) i := by
  obtain ⟨pre, lay, post, rfl, h1, h2, h3⟩ := h
  exact ⟨pre, lay, post ++ l, by simp, h1, h2, h3⟩
theorem filter_split (p : Nat → Bool) : ∀ l : List Nat, ((l.filter fun k => !p k) ++ l.filter p).Perm l
  | [] => .refl _
  | a :: l => by
    have ih := filter_split p l
    cases h : p a with
    | true =>
      rw [List.filter_cons_of_neg (by simp [h]), List.filter_cons_of_pos h]
      exact (List.perm_middle).trans (ih.cons a)
    | false =>
      rw [List.filter_cons_of_pos (by simp [h]), List.filter_cons_of_neg (by simp [h])]
      exact ih.cons a
theorem LayI.next {rs n made left still} (hs : ∀ i c, sgn (rowAt rs i) c = 43 ∨ sgn (rowAt rs i) c = 45 ∨ sgn (rowAt rs i) c = 46) (h : LayI rs n made left still) (hl : left.filter (fun k => !minB rs still k) ≠ []) :
    LayI rs n (made ++ [left.filter fun k => !minB rs still k]) (left.filter (minB rs still)) (still.filter fun i => !plusB rs (left.filter fun k => !minB rs still k) i) := by
  have nomin : ∀ i ∈ still, ∀ k ∈ left.filter (fun k => !minB rs still k), sgn (rowAt rs i) k ≠ 45 := fun i hi k hk z => by
    have h1 := (List.mem_filter.mp hk).2
    have : minB rs still k = true := List.any_eq_true.mpr ⟨i, hi, decide_eq_true z⟩
    rw [this] at h1; cases h1
  refine ⟨?_, fun l hm => ?_, (List.filter_sublist).trans h.sub, fun i hi l hm k hk => ?_, fun i hi hn => ?_, (List.filter_sublist).trans h.inc⟩
  · rw [List.flatten_append, List.append_assoc]
    refine (List.Perm.append_left _ ?_).trans h.perm
    simp only [List.flatten_cons, List.flatten_nil, List.append_nil]
    exact filter_split _ left
  · rcases List.mem_append.mp hm with hm | hm
    · exact h.ne l hm
    · rw [List.mem_singleton.mp hm]; exact hl
  · obtain ⟨hi, hp⟩ := List.mem_filter.mp hi
    rcases List.mem_append.mp hm with hm | hm
    · exact h.dots i hi l hm k hk
    · rw [List.mem_singleton.mp hm] at hk
      rcases hs i k with z | z | z
      · have : plusB rs (left.filter fun k => !minB rs still k) i = true := List.any_eq_true.mpr ⟨k, hk, decide_eq_true z⟩
        rw [this] at hp; cases hp
      · exact absurd z (nomin i hi k hk)
      · exact z
  · by_cases hi2 : i ∈ still
    · have hp : plusB rs (left.filter fun k => !minB rs still k) i = true := by
        cases q : plusB rs (left.filter fun k => !minB rs still k) i with
        | true => rfl
        | false => exact absurd (List.mem_filter.mpr ⟨hi2, by rw [q]; rfl⟩) hn
      obtain ⟨k, hk, z⟩ := List.any_eq_true.mp hp
      exact ⟨made, _, [], by simp, fun l hm k hk => h.dots i hi2 l hm k hk, nomin i hi2, k, hk, of_decide_eq_true z⟩
    · exact (h.done i hi hi2).more _
theorem lay_len {rs : List (List Nat)} {left still : List Nat} (hl : left.filter (fun k => !minB rs still k) ≠ []) : (left.filter (minB rs still)).length < left.length := by
  have := (filter_split (minB rs still) left).length_eq
  rw [List.length_append] at this
  have h2 : 0 < (left.filter fun k => !minB rs still k).length := List.length_pos_iff.mpr hl
  omega
theorem layI_0 (rs : List (List Nat)) (n : Nat) : LayI rs n [] (List.range n) (open0 rs) :=
  ⟨.refl _, fun l h => absurd h (by simp), List.Sublist.refl _, fun i _ l h => absurd h (by simp), fun i h h' => absurd h h', List.Sublist.refl _⟩
/-- how the making ends -/
theorem layF_end {rs : List (List Nat)} {n : Nat} (hs : ∀ i c, sgn (rowAt rs i) c = 43 ∨ sgn (rowAt rs i) c = 45 ∨ sgn (rowAt rs i) c = 46) : ∀ (f : Nat) (made : List (List Nat)) (left still : List Nat), LayI rs n made left still → left.length < f →
    (∃ ls, layF rs f made left still = (ls, []) ∧ LayI rs n ls [] []) ∨ (∃ ls lf st, layF rs f made left still = (ls, st) ∧ st ≠ [] ∧ LayI rs n ls lf st ∧ lf.filter (fun k => !minB rs st k) = [])
  | 0, _, _, _, _, h => absurd h (Nat.not_lt_zero _)
  | f + 1, made, left, still, h, hf => by
    unfold layF
    by_cases h1 : still = []
    · subst h1
      rw [if_pos rfl]
      refine .inl ⟨_, rfl, ?_⟩
      by_cases h2 : left = []
      · rw [if_pos h2]; subst h2; exact h
      · rw [if_neg h2]
        refine ⟨?_, fun l hm => ?_, h.sub, fun i hi => absurd hi (by simp), fun i hi hn => (h.done i hi hn).more _, List.nil_sublist _⟩
        · have := h.perm
          simpa using this
        · rcases List.mem_append.mp hm with hm | hm
          · exact h.ne l hm
          · rw [List.mem_singleton.mp hm]; exact h2
    · rw [if_neg h1]
      by_cases h2 : left.filter (fun k => !minB rs still k) = []
      · rw [if_pos h2]; exact .inr ⟨_, _, _, rfl, h1, h, h2⟩
      · rw [if_neg h2]
        exact layF_end hs f _ _ _ (h.next hs h2) (by have := lay_len h2; omega)
/-- a row along an order: dots, then a sign -/
theorem told_dots {l : List Nat} : ∀ {p : List Nat}, (∀ k ∈ p, sgn l k = 46) → told l p = []
  | [], _ => rfl
  | k :: p, h => by
    have ih := told_dots (l := l) (p := p) fun j hj => h j (List.mem_cons_of_mem _ hj)
    unfold told at ih ⊢
    rw [List.map_cons, List.filter_cons_of_neg (by rw [h k List.mem_cons_self]; decide)]
    exact ih
theorem told_app (l p q : List Nat) : told l (p ++ q) = told l p ++ told l q := by
  unfold told
  rw [List.map_append, List.filter_append]
theorem holds_lay {l : List Nat} : ∀ {q : List Nat}, (∀ k ∈ q, sgn l k = 43 ∨ sgn l k = 46) → (∃ k ∈ q, sgn l k = 43) → ∀ r, holdsB l (q ++ r) = true
  | [], _, h, _ => by obtain ⟨k, hk, _⟩ := h; cases hk
  | k :: q, h, h2, r => by
    rcases h k List.mem_cons_self with z | z
    · unfold holdsB told
      rw [List.cons_append, List.map_cons, List.filter_cons_of_pos (by rw [z]; decide), z]; rfl
    · have : told l (k :: q ++ r) = told l (q ++ r) := by
        unfold told
        rw [List.cons_append, List.map_cons, List.filter_cons_of_neg (by rw [z]; decide)]
      unfold holdsB
      rw [this]
      obtain ⟨j, hj, zj⟩ := h2
      rcases List.mem_cons.mp hj with rfl | hj
      · rw [z] at zj; cases zj
      · exact holds_lay (fun x hx => h x (List.mem_cons_of_mem _ hx)) ⟨j, hj, zj⟩ r
theorem holds_pre {l p q : List Nat} (h : ∀ k ∈ p, sgn l k = 46) : holdsB l (p ++ q) = holdsB l q := by
  unfold holdsB
  rw [told_app, told_dots h]; rfl
theorem holds_dots {l p : List Nat} (h : ∀ k ∈ p, sgn l k = 46) : holdsB l p = true := by
  unfold holdsB
  rw [told_dots h]
/-- layers each in some order -/
def walked (g : List Nat → List Nat) (ls : List (List Nat)) : List Nat := (ls.map g).flatten
theorem walked_perm {g : List Nat → List Nat} (hg : ∀ l, (g l).Perm l) : ∀ ls : List (List Nat), (walked g ls).Perm ls.flatten
  | [] => .refl _
  | l :: ls => by
    show (g l ++ walked g ls).Perm (l ++ ls.flatten)
    exact (hg l).append (walked_perm hg ls)
theorem settled_holds {rs : List (List Nat)} {ls : List (List Nat)} {i : Nat} (hs : ∀ i c, sgn (rowAt rs i) c = 43 ∨ sgn (rowAt rs i) c = 45 ∨ sgn (rowAt rs i) c = 46) {g : List Nat → List Nat} (hg : ∀ l, (g l).Perm l) (h : Settled rs ls i) : holdsB (rowAt rs i) (walked g ls) = true := by
  obtain ⟨pre, lay, post, rfl, h1, h2, k, hk, hk2⟩ := h
  have e : walked g (pre ++ lay :: post) = walked g pre ++ (g lay ++ walked g post) := by
    unfold walked
    simp
  rw [e, holds_pre fun k hk => ?_]
  · refine holds_lay (fun j hj => ?_) ⟨k, (hg lay).mem_iff.mpr hk, hk2⟩ _
    rcases hs i j with z | z | z
    · exact .inl z
    · exact absurd z (h2 j ((hg lay).mem_iff.mp hj))
    · exact .inr z
  · have hm := (walked_perm hg pre).mem_iff.mp hk
    obtain ⟨l, hl, hk⟩ := List.mem_flatten.mp hm
    exact h1 l hl k hk
theorem closed_dots {rs : List (List Nat)} {i : Nat} (hi : i < rs.length) (h : i ∉ open0 rs) (k : Nat) : sgn (rowAt rs i) k = 46 := by
  have hn : openB rs i = false := by
    cases q : openB rs i with
    | false => rfl
    | true => exact absurd (List.mem_filter.mpr ⟨List.mem_range.mpr hi, q⟩) h
  unfold openB at hn
  unfold sgn
  rw [List.getD_eq_getElem?_getD]
  cases q : (rowAt rs i)[k]? with
  | none => rfl
  | some c =>
    have := (List.any_eq_false.mp hn) c (List.mem_of_getElem? q)
    simpa using this
/-- where the layers end well, each order through them fits -/
theorem lay_fits {rs : List (List Nat)} {n : Nat} {ls : List (List Nat)} (hs : ∀ i c, sgn (rowAt rs i) c = 43 ∨ sgn (rowAt rs i) c = 45 ∨ sgn (rowAt rs i) c = 46) (h : LayI rs n ls [] []) {g : List Nat → List Nat} (hg : ∀ l, (g l).Perm l) :
    (walked g ls).Perm (List.range n) ∧ ∀ i, i < rs.length → holdsB (rowAt rs i) (walked g ls) = true := by
  refine ⟨(walked_perm hg ls).trans (by have := h.perm; simpa using this), fun i hi => ?_⟩
  by_cases ho : i ∈ open0 rs
  · exact settled_holds hs hg (h.done i ho (by simp))
  · exact holds_dots fun k _ => closed_dots hi ho k
/-- where they end badly, no order fits -/
theorem lay_stuck' {rs : List (List Nat)} {n : Nat} {ls : List (List Nat)} {lf st : List Nat} (h : LayI rs n ls lf st) (hne : st ≠ []) (hl : lf.filter (fun k => !minB rs st k) = []) (hr : ∀ i, i < rs.length → (rowAt rs i).length ≤ n) (o : List Nat) (ho : o.Perm (List.range n)) : ∃ i ∈ st, holdsB (rowAt rs i) o = false := by
  have bar : ∀ k ∈ lf, ∃ i ∈ st, sgn (rowAt rs i) k = 45 := fun k hk => by
    have : minB rs st k = true := by
      cases q : minB rs st k with
      | true => rfl
      | false =>
        have hm : k ∈ lf.filter (fun k => !minB rs st k) := List.mem_filter.mpr ⟨hk, by rw [q]; rfl⟩
        rw [hl] at hm; cases hm
    obtain ⟨i, hi, z⟩ := List.any_eq_true.mp this
    exact ⟨i, hi, of_decide_eq_true z⟩
  have inn : ∀ i ∈ st, i < rs.length := fun i hi => List.mem_range.mp (List.mem_filter.mp (h.sub.subset hi)).1
  have pl : ∀ k < n, k ∉ lf → ∀ i ∈ st, sgn (rowAt rs i) k = 46 := fun k hk hn i hi => by
    have : k ∈ ls.flatten ++ lf := h.perm.mem_iff.mpr (List.mem_range.mpr hk)
    rcases List.mem_append.mp this with hm | hm
    · obtain ⟨l, hl, hk⟩ := List.mem_flatten.mp hm
      exact h.dots i hi l hl k hk
    · exact absurd hm hn
  have hlf : ∃ k ∈ lf, k < n := by
    obtain ⟨i, hi⟩ := List.exists_mem_of_ne_nil st hne
    have ho := (List.mem_filter.mp (h.sub.subset hi)).2
    obtain ⟨c, hc, z⟩ := List.any_eq_true.mp ho
    obtain ⟨k, hk, e⟩ := List.mem_iff_getElem.mp hc
    have hkn : k < n := Nat.lt_of_lt_of_le hk (hr i (inn i hi))
    by_cases hk2 : k ∈ lf
    · exact ⟨k, hk2, hkn⟩
    · have := pl k hkn hk2 i hi
      unfold sgn at this
      rw [List.getD_eq_getElem?_getD, List.getElem?_eq_getElem hk] at this
      have this : (rowAt rs i)[k] = 46 := this
      rw [e] at this
      rw [this] at z; cases z
  obtain ⟨k0, hk0, hk0n⟩ := hlf
  -- the first of the order that is in no layer
  have first : ∀ o : List Nat, (∃ k ∈ o, k ∈ lf) → ∃ p k q, o = p ++ k :: q ∧ k ∈ lf ∧ ∀ j ∈ p, j ∉ lf := fun o => by
    induction o with
    | nil => rintro ⟨k, hk, _⟩; cases hk
    | cons a o ih =>
      intro hx
      by_cases ha : a ∈ lf
      · exact ⟨[], a, o, rfl, ha, fun j hj => absurd hj (by simp)⟩
      · obtain ⟨k, hk, hk2⟩ := hx
        rcases List.mem_cons.mp hk with rfl | hk
        · exact absurd hk2 ha
        · obtain ⟨p, j, q, e, h1, h2⟩ := ih ⟨k, hk, hk2⟩
          refine ⟨a :: p, j, q, by rw [e]; rfl, h1, fun x hx => ?_⟩
          rcases List.mem_cons.mp hx with rfl | hx
          · exact ha
          · exact h2 x hx
  obtain ⟨p, k, q, e, h1, h2⟩ := first o ⟨k0, ho.mem_iff.mpr (List.mem_range.mpr hk0n), hk0⟩
  obtain ⟨i, hi, z⟩ := bar k h1
  refine ⟨i, hi, ?_⟩
  rw [e, holds_pre fun j hj => pl j (List.mem_range.mp (ho.mem_iff.mp (by rw [e]; exact List.mem_append_left _ hj))) (h2 j hj) i hi]
  unfold holdsB told
  rw [List.map_cons, List.filter_cons_of_pos (by rw [z]; decide), z]; rfl
/-! all orders -/
def allM (n : Nat) : Nat → List (List Nat)
  | 0 => [[]]
  | i + 1 => (allM n i).flatMap fun o => ((List.range n).filter fun k => !decide (k ∈ o)).map fun k => o ++ [k]
theorem allM_mem (n : Nat) : ∀ (i : Nat) (o : List Nat), o ∈ allM n i ↔ o.length = i ∧ o.Nodup ∧ ∀ k ∈ o, k < n
  | 0, o => by
    show o ∈ [[]] ↔ _
    constructor
    · intro h; rw [List.mem_singleton.mp h]; exact ⟨rfl, List.nodup_nil, fun k h => absurd h (by simp)⟩
    · rintro ⟨h, _⟩
      rw [List.length_eq_zero_iff.mp h]; exact List.mem_singleton.mpr rfl
  | i + 1, o => by
    show o ∈ List.flatMap _ _ ↔ _
    rw [List.mem_flatMap]
    constructor
    · rintro ⟨p, hp, ho⟩
      obtain ⟨k, hk, rfl⟩ := List.mem_map.mp ho
      obtain ⟨hk1, hk2⟩ := List.mem_filter.mp hk
      obtain ⟨l, nd, lt⟩ := (allM_mem n i p).mp hp
      have hkp : k ∉ p := by simpa using hk2
      refine ⟨by rw [List.length_append, l]; rfl, ?_, fun j hj => ?_⟩
      · rw [List.nodup_append]
        exact ⟨nd, by simp, fun a ha b hb e => by rw [List.mem_singleton.mp hb] at e; subst e; exact hkp ha⟩
      · rcases List.mem_append.mp hj with hj | hj
        · exact lt j hj
        · rw [List.mem_singleton.mp hj]; exact List.mem_range.mp hk1
    · rintro ⟨l, nd, lt⟩
      have hne : o ≠ [] := fun z => by rw [z] at l; cases l
      have e := List.dropLast_concat_getLast hne
      have nd' := nd
      rw [← e, List.nodup_append] at nd'
      refine ⟨o.dropLast, (allM_mem n i _).mpr ⟨by rw [List.length_dropLast, l]; rfl, nd'.1, fun k hk => lt k (List.dropLast_subset o hk)⟩, List.mem_map.mpr ⟨o.getLast hne, List.mem_filter.mpr ⟨List.mem_range.mpr (lt _ (List.getLast_mem hne)), ?_⟩, e⟩⟩
      have : o.getLast hne ∉ o.dropLast := fun z => nd'.2.2 _ z _ (List.mem_singleton.mpr rfl) rfl
      simpa using this
theorem nd_perm : ∀ (o m : List Nat), o.Nodup → (∀ k ∈ o, k ∈ m) → m.length ≤ o.length → o.Perm m
  | [], m, _, _, h => by
    have : m = [] := List.length_eq_zero_iff.mp (Nat.le_zero.mp h)
    subst this; exact .refl _
  | a :: o, m, nd, hm, hl => by
    have p := List.perm_cons_erase (hm a List.mem_cons_self)
    obtain ⟨n1, n2⟩ := List.nodup_cons.mp nd
    refine ((nd_perm o (m.erase a) n2 (fun k hk => (List.mem_erase_of_ne (fun e : k = a => n1 (by rw [← e]; exact hk))).mpr (hm k (List.mem_cons_of_mem _ hk))) ?_).cons a).trans p.symm
    have := p.length_eq
    rw [List.length_cons] at this hl
    omega
theorem perm_iff {n : Nat} {o : List Nat} : o.Perm (List.range n) ↔ o.length = n ∧ o.Nodup ∧ ∀ k ∈ o, k < n := by
  constructor
  · intro h
    exact ⟨by rw [h.length_eq, List.length_range], h.nodup_iff.mpr List.nodup_range, fun k hk => List.mem_range.mp (h.mem_iff.mp hk)⟩
  · rintro ⟨l, nd, lt⟩
    exact nd_perm o _ nd (fun k hk => List.mem_range.mpr (lt k hk)) (by rw [List.length_range, l]; exact Nat.le_refl _)
def fitM (rs : List (List Nat)) (n : Nat) : List (List Nat) := (allM n n).filter fun o => rs.all fun r => holdsB r o
theorem fitM_mem {rs : List (List Nat)} {n : Nat} {o : List Nat} : o ∈ fitM rs n ↔ o.Perm (List.range n) ∧ ∀ r ∈ rs, holdsB r o = true := by
  unfold fitM
  rw [List.mem_filter, allM_mem, perm_iff, List.all_eq_true]
theorem all_rows {rs : List (List Nat)} {p : List Nat → Prop} : (∀ r ∈ rs, p r) ↔ ∀ i, i < rs.length → p (rowAt rs i) := by
  constructor
  · intro h i hi
    unfold rowAt
    rw [List.getD_eq_getElem?_getD, List.getElem?_eq_getElem hi]
    exact h _ (List.getElem_mem hi)
  · intro h r hr
    obtain ⟨i, hi, rfl⟩ := List.mem_iff_getElem.mp hr
    have := h i hi
    unfold rowAt at this
    rw [List.getD_eq_getElem?_getD, List.getElem?_eq_getElem hi] at this
    exact this
end K37

namespace K37
open PySem PySem.Spec PyProof.Rows L2 Dw
variable [Tabs0]
theorem np_to {o : List Nat} {r : List D} (h : noPs r = true) : noPs (.tup (ordD o) :: r) = true := by show (noPs (ordD o) && noPs r) = true; rw [np_ord, h]; rfl
theorem np_lo {o : List Nat} {r : List D} (h : noPs r = true) : noPs (.lst (ordD o) :: r) = true := by show (noPs (ordD o) && noPs r) = true; rw [np_ord, h]; rfl
theorem np_tn {o : List (List Nat)} {r : List D} (h : noPs r = true) : noPs (.tup (nameD o) :: r) = true := by show (noPs (nameD o) && noPs r) = true; rw [np_name, h]; rfl
theorem np_ln {o : List (List Nat)} {r : List D} (h : noPs r = true) : noPs (.lst (nameD o) :: r) = true := by show (noPs (nameD o) && noPs r) = true; rw [np_name, h]; rfl
theorem np_bk {C : Addr} {ls rs : List (List Nat)} {r : List D} (h : noPs r = true) : noPs (bookD C ls rs :: r) = true := by
  have e := np_book C ls rs
  have e : (noP (bookD C ls rs) && true) = true := e
  rw [Bool.and_true] at e
  show (noP (bookD C ls rs) && noPs r) = true
  rw [e, h]; rfl
theorem rowAt_at {rs : List (List Nat)} {i : Nat} (h : i < rs.length) : atI (nameD rs) (i : Int) = some (.str (tx (rowAt rs i))) := by
  refine atI_nat ?_
  unfold nameD rowAt
  rw [List.getElem?_map, List.getElem?_eq_getElem h, List.getD_eq_getElem?_getD, List.getElem?_eq_getElem h]; rfl
theorem rowAt_ok {rs : List (List Nat)} {n i : Nat} (h : ∀ r ∈ rs, RowOk r n) (hi : i < rs.length) : RowOk (rowAt rs i) n := by
  unfold rowAt
  rw [List.getD_eq_getElem?_getD, List.getElem?_eq_getElem hi]
  exact h _ (List.getElem_mem hi)
/-- the plain texts of a row -/
theorem ev_inC {K : PySem.W.Frag} {ta t : TE} {Γ : Gam} {r' : R2} {c : Nat} {l : List Nat} (ha : Ev ta Γ (.str (ch c))) (h : EvB t Γ (chD l)) : Ev (tOp (rOr (rIn K false) r') ta t) Γ (.bl (decide (c ∈ l))) := by
  have e := ev_in (neg := false) (K := K) (r' := r') ha h rfl (sc_ch l)
  rw [show (if false = true then !inV (scV (.str (ch c))) ((chD l).map scV) else inV (scV (.str (ch c))) ((chD l).map scV)) = decide (c ∈ l) from inV_ch c l] at e
  exact e
theorem sgn_ev {K : PySem.W.Frag} {ta tb : TE} {Γ : Gam} {l : List Nat} {n k : Nat} (h : RowOk l n) (h8 : n ≤ 8) (hk : k < n) (ha : Ev ta Γ (.str (tx l))) (hb : Ev tb Γ (.int k)) : Ev (tOp (rIx K) ta tb) Γ (.str (ch (sgn l k))) := ev_op ha hb (dr2_ixS (h.sz h8) (sgn_at h.len hk))
theorem mem_mapB {l : List Nat} {f : Nat → Nat} {c : Nat} : decide (c ∈ l.map f) = l.any fun k => decide (f k = c) := by
  rw [Bool.eq_iff_iff, decide_eq_true_eq, List.mem_map, List.any_eq_true]
  simp only [decide_eq_true_eq]
def spHasSign : Spc where
  ty := List Nat × List Nat × Nat
  args := fun x => [.str (tx x.1), .lst (ordD x.2.1), .str (ch x.2.2)]
  ok := fun x => ∃ n, RowOk x.1 n ∧ n ≤ 8 ∧ x.2.1.length ≤ 8 ∧ ∀ k ∈ x.2.1, k < n
  rel := fun x d => d = .bl (x.2.1.any fun k => decide (sgn x.1 k = x.2.2))
def rowsD (b : Bool) (rs : List (List Nat)) : D := if b = true then .lst (nameD rs) else .tup (nameD rs)
def spSplit : Spc where
  ty := List (List Nat) × Nat × Bool
  args := fun x => [rowsD x.2.2 x.1, .int x.2.1]
  ok := fun x => (∀ r ∈ x.1, RowOk r x.2.1) ∧ x.2.1 ≤ 8 ∧ x.1.length ≤ 1000
  rel := fun x d => d = .tup [.lst (ordT (splitM x.1 x.2.1).1), .lst (ordD (splitM x.1 x.2.1).2)]
theorem np_rd {b : Bool} {o : List (List Nat)} {r : List D} (h : noPs r = true) : noPs (rowsD b o :: r) = true := by
  cases b with
  | true => exact np_ln h
  | false => exact np_tn h
theorem ev_rowsD {K : PySem.W.Frag} {ta tb : TE} {Γ : Gam} {b : Bool} {rs : List (List Nat)} {i : Nat} (hi : i < rs.length) (ha : Ev ta Γ (rowsD b rs)) (hb : Ev tb Γ (.int i)) : Ev (tOp (rIx K) ta tb) Γ (.str (tx (rowAt rs i))) := by
  cases b with
  | true => exact ev_ix (Ev.b (ds := nameD rs) ha) hb (rowAt_at hi)
  | false => exact ev_ixT (ds := nameD rs) ha hb (rowAt_at hi)
theorem ei_rowsD {K : PySem.W.Frag} {ta : TE} {Γ : Gam} {b : Bool} {rs : List (List Nat)} (ha : Ev ta Γ (rowsD b rs)) : Ei (fun σ H R => iEnum K (tCons ta tNil) σ H R ∨ iEnumT K (tCons ta tNil) σ H R) Γ (enumD (nameD rs)) := by
  cases b with
  | true => exact ei_enumL (Ev.b (ds := nameD rs) ha)
  | false => exact ei_enumT ha
theorem enum_rows (rs : List (List Nat)) : enumD (nameD rs) = (List.range rs.length).map fun (i : Nat) => D.tup [.int i, .str (tx (rowAt rs i))] := by
  apply List.ext_getElem?
  intro i
  by_cases hi : i < rs.length
  · obtain ⟨x, hx⟩ : ∃ x, (enumD (nameD rs))[i]? = some x := ⟨_, List.getElem?_eq_getElem (by rw [enumD_length, nameD_len]; exact hi)⟩
    obtain ⟨y, hy, rfl⟩ := enumD_get hx
    rw [hx, List.getElem?_map, List.getElem?_range hi]
    have hy' : (rs.map fun l => D.str (tx l))[i]? = some y := hy
    rw [List.getElem?_map, List.getElem?_eq_getElem hi] at hy'
    cases hy'
    show _ = some (D.tup [.int i, .str (tx (rowAt rs i))])
    unfold rowAt
    rw [List.getD_eq_getElem?_getD, List.getElem?_eq_getElem hi]; rfl
  · rw [List.getElem?_eq_none (by rw [enumD_length, nameD_len]; omega), List.getElem?_eq_none (by simpa using hi)]
theorem open_of {rs : List (List Nat)} {n i : Nat} (h : RowOk (rowAt rs i) n) : (decide (43 ∈ rowAt rs i) || decide (45 ∈ rowAt rs i)) = openB rs i := by
  unfold openB
  rw [Bool.eq_iff_iff, Bool.or_eq_true, decide_eq_true_eq, decide_eq_true_eq, List.any_eq_true]
  constructor
  · rintro (h | h)
    · exact ⟨_, h, rfl⟩
    · exact ⟨_, h, rfl⟩
  · rintro ⟨c, hc, hn⟩
    rcases h.all c hc with rfl | rfl | rfl
    · exact .inl hc
    · exact .inr hc
    · exact absurd hn (by decide)
theorem nin_filter {p : Nat → Bool} (l : List Nat) : (l.filter fun k => !decide (k ∈ l.filter p)) = l.filter fun k => !p k := by
  refine List.filter_congr fun k hk => ?_
  congr 1
  rw [Bool.eq_iff_iff, decide_eq_true_eq, List.mem_filter]
  exact ⟨fun h => h.2, fun h => ⟨hk, h⟩⟩
theorem isEmpty_ord (l : List Nat) : (ordD l).isEmpty = decide (l = []) := by cases l <;> rfl
theorem ordT_snoc (ms : List (List Nat)) (l : List Nat) : ordT ms ++ [D.tup (ordD l)] = ordT (ms ++ [l]) := by unfold ordT; rw [List.map_append]; rfl
end K37

namespace K37
open PySem PySem.Spec PyProof.Rows L2 Dw
variable [Tabs0]
theorem d_has_sign {P : Program} {w : World} {K : PySem.W.Frag} {mg : Str → Option Value} {base : Heap} (T : Txt K w mg) : FnOk P w K mg base CX0 1 T.f_has_sign T.e_has_sign ["row", "rules", "sign"] (toSp (spHasSign)) := by
  refine fn_ok T.F_has_sign sc_has_sign (fun _ => rfl) fun cdv A outer s' H E hr => ?_
  refine ⟨_, (pss_one (ps_ret (pe_cmpR (inA K) (pv 2) (pe_lc (own := [("rule", 3)]) rfl sc_has_sign.nd (piR K (pv 1)) (blkOk_by (own := [("rule", 3)]) (N := N_has_sign) (sc := (defScope s_has_sign)) (by decide +kernel)) (fun _ _ _ _ _ => pg_name (i := 3) sc_has_sign.nd rfl (Or.inl rfl)) (fun _ _ _ _ _ => pts_nil) (fun _ _ _ _ _ => (pe_ix (ixA K) (pv 0) (pv 3) (fun _ _ => rfl)))) (by rfl)))), fun x hx => ?_⟩
  obtain ⟨l, o, c⟩ := x
  obtain ⟨n, hl, h8, hz, hk⟩ := hx
  have hl : RowOk l n := hl
  have hz : o.length ≤ 8 := hz
  have hk : ∀ k ∈ o, k < n := hk
  refine ds_ret (Ev.dl (ev_cast (congrArg D.bl mem_mapB) (ev_inC (l := o.map (sgn l)) (ev_var rfl) (EvN.b ?_))) rfl)
  have e : chD (o.map (sgn l)) = o.map fun k => D.str (ch (sgn l k)) := by unfold chD; rw [List.map_map]; rfl
  rw [e]
  exact evn_lc1 (xs := o) (c := fun k : Nat => D.int k) (ej_list (ev_var (d := .lst (ordD o)) rfl).b) (by omega) fun k hk' => ⟨[3], _, dg_name, fun i hi => hi, evt_yes, sgn_ev hl h8 (hk k hk') (ev_var rfl) (ev_var rfl)⟩
end K37

namespace K37
open PySem PySem.Spec PyProof.Rows L2 Dw
variable [Tabs0]
theorem lay_step {rs : List (List Nat)} {f : Nat} {made : List (List Nat)} {left still : List Nat} (h1 : still ≠ []) : layF rs (f + 1) made left still = if left.filter (fun k => !minB rs still k) = [] then (made, still) else layF rs f (made ++ [left.filter fun k => !minB rs still k]) (left.filter (minB rs still)) (still.filter fun i => !plusB rs (left.filter fun k => !minB rs still k) i) := by
  show (if still = [] then _ else _) = _
  rw [if_neg h1]
theorem lay_done {rs : List (List Nat)} {f : Nat} {made : List (List Nat)} {left : List Nat} : layF rs (f + 1) made left [] = (if left = [] then made else made ++ [left], []) := by
  show (if _ then _ else _) = _
  rw [if_pos rfl]
/-- what stays so while layers are made -/
structure Mk (rs : List (List Nat)) (n m : Nat) (made : List (List Nat)) (left still : List Nat) : Prop where
  eq : layF rs m made left still = splitM rs n
  lt : left.length < m
  few : made.length + left.length ≤ n
  ltn : ∀ k ∈ left, k < n
  ltr : ∀ i ∈ still, i < rs.length
  fst : still.length ≤ rs.length
  flat : made.flatten.length + left.length ≤ n
theorem mk_0 (rs : List (List Nat)) (n : Nat) : Mk rs n (n + 1) [] (List.range n) (open0 rs) := ⟨rfl, by rw [List.length_range]; omega, by rw [List.length_range]; exact Nat.le_of_eq (Nat.zero_add n), fun k h => List.mem_range.mp h, fun i h => List.mem_range.mp (List.mem_filter.mp h).1, by
  have := List.length_filter_le (openB rs) (List.range rs.length)
  rw [List.length_range] at this; exact this, by rw [List.length_range]; exact Nat.le_of_eq (Nat.zero_add n)⟩
theorem Mk.next {rs n m made left still} (h : Mk rs n (m + 1) made left still) (h1 : still ≠ []) (h2 : left.filter (fun k => !minB rs still k) ≠ []) : Mk rs n m (made ++ [left.filter fun k => !minB rs still k]) (left.filter (minB rs still)) (still.filter fun i => !plusB rs (left.filter fun k => !minB rs still k) i) := by
  have l := lay_len h2
  have e := h.eq
  rw [lay_step h1, if_neg h2] at e
  refine ⟨e, by have := h.lt; omega, ?_, fun k hk => h.ltn k (List.mem_filter.mp hk).1, fun i hi => h.ltr i (List.mem_filter.mp hi).1, Nat.le_trans (List.length_filter_le _ _) h.fst, ?_⟩
  · have := h.few
    rw [List.length_append]
    show made.length + 1 + _ ≤ n
    omega
  · have := h.flat
    have e2 := (filter_split (minB rs still) left).length_eq
    rw [List.length_append] at e2
    rw [List.flatten_append, List.length_append]
    simp only [List.flatten_cons, List.flatten_nil, List.append_nil]
    omega
def layOut (rs : List (List Nat)) (n : Nat) : D := .tup [.lst (ordT (splitM rs n).1), .lst (ordD (splitM rs n).2)]
theorem minB_any {rs : List (List Nat)} {still : List Nat} {k : Nat} : decide (45 ∈ still.map fun i => sgn (rowAt rs i) k) = minB rs still k := mem_mapB
theorem BookOk.n8 {ls rs} (h : BookOk ls rs) : ls.length ≤ 8 := h.names.hi
theorem ev_names {C : Addr} {K : PySem.W.Frag} {t : TE} {Γ : Gam} {ls rs : List (List Nat)} (h : Ev t Γ (.tup (nameD ls))) : Ev (tCB (Dw.rLen K) (tCons t tNil)) Γ (.int (ls.length : Nat)) := ev_cast (congrArg (fun n : Nat => D.int n) (nameD_len ls)) (ev_lenT (ds := nameD ls) h)
end K37

namespace K37
open PySem PySem.Spec PyProof.Rows L2 Dw
variable [Tabs0]
theorem d_split {P : Program} {w : World} {K : PySem.W.Frag} {mg : Str → Option Value} {base : Heap} (T : Txt K w mg) : FnOk P w K mg base CX0 2 T.f_split T.e_split ["rows", "many"] (toSp (spSplit)) := by
  refine fn_ok T.F_split sc_split (fun _ => rfl) fun cdv A outer s' H E hr => ?_
  refine ⟨_, (pss_cons (ps_set (i := 2) sc_split.nd rfl (Or.inl rfl) (pe_lst pa_nil)) (pss_cons (ps_set (i := 3) sc_split.nd rfl (Or.inl rfl) (pe_listRg rfl (by rfl) T.n_list (prg_1 (by rfl) T.n_range (pv 1)))) (pss_cons (ps_set (i := 4) sc_split.nd rfl (Or.inr rfl) (pe_lc (own := [("index", 7), ("row", 8)]) rfl sc_split.nd (enumTA K (by rfl) T.n_enumerate (pa_cons (pv 0) pa_nil)) (blkOk_by (own := [("index", 7), ("row", 8)]) (N := N_split) (sc := (defScope s_split)) (by decide +kernel)) (fun _ _ _ _ _ => tupA K 2 rfl (pgs_cons (pg_name (i := 7) sc_split.nd rfl (Or.inl rfl)) (pgs_cons (pg_name (i := 8) sc_split.nd rfl (Or.inl rfl)) pgs_nil))) (fun _ _ _ _ _ => pts_one (PW.pt (pw_or (pt_cmpR (inA K) pe_str (pv 8) (by rfl)) (pw_or1 (pt_cmpR (inA K) pe_str (pv 8) (by rfl)))))) (fun _ _ _ _ _ => (pv 7)))) (pss_cons (ps_while PassesOwn.never (truA K (pv 4)) (pss_cons (ps_set (i := 5) sc_split.nd rfl (Or.inr rfl) (pe_lc (own := [("rule", 9)]) rfl sc_split.nd (piR K (pv 3)) (blkOk_by (own := [("rule", 9)]) (N := N_split) (sc := (defScope s_split)) (by decide +kernel)) (fun _ _ _ _ _ => pg_name (i := 9) sc_split.nd rfl (Or.inr rfl)) (fun _ _ _ _ _ => pts_one (pt_cmpR (inA K) pe_str (pe_lc (own := [("index", 7)]) rfl sc_split.nd (piR K (pv 4)) (blkOk_by (own := [("index", 7)]) (N := N_split) (sc := (relS { kind := .function, names := [(".0", .local), ("rule", .cell), ("rows", .free), ("still", .free)], isGenerator := false, isCoroutine := false, more := [] } (defScope s_split))) (by decide +kernel)) (fun _ _ _ _ _ => pg_name (i := 7) sc_split.nd rfl (Or.inl rfl)) (fun _ _ _ _ _ => pts_nil) (fun _ _ _ _ _ => (pe_ix (ixA K) (pe_ix (ixA K) (pv 0) (pv 7) (fun _ _ => rfl)) (pv 9) (fun _ _ => rfl)))) (by rfl))) (fun _ _ _ _ _ => (pv 9)))) (pss_cons (ps_set (i := 6) sc_split.nd rfl (Or.inr rfl) (pe_lc (own := [("rule", 9)]) rfl sc_split.nd (piR K (pv 3)) (blkOk_by (own := [("rule", 9)]) (N := N_split) (sc := (defScope s_split)) (by decide +kernel)) (fun _ _ _ _ _ => pg_name (i := 9) sc_split.nd rfl (Or.inl rfl)) (fun _ _ _ _ _ => pts_one (pt_cmpR (ninA K) (pv 9) (pv 5) (by rfl))) (fun _ _ _ _ _ => (pv 9)))) (pss_cons (ps_if (pt_not (truA K (pv 6))) (pss_one (ps_ret (pe_tup (pa_cons (pv 2) (pa_cons (pv 4) pa_nil))))) pss_nil) (pss_cons (ps_expr (bmA K PySem.F.plainAttrs_list PySem.F.slot_list_append PySem.F.type_list_append mt_append (pv 2) (pa_cons (pe_callTy (tupleA K) (by rfl) T.n_tuple (by decide +kernel) (pa_cons (pv 6) pa_nil)) pa_nil))) (pss_cons (ps_set (i := 3) sc_split.nd rfl (Or.inl rfl) (pv 5)) (pss_one (ps_set (i := 4) sc_split.nd rfl (Or.inr rfl) (pe_lc (own := [("index", 7)]) rfl sc_split.nd (piR K (pv 4)) (blkOk_by (own := [("index", 7)]) (N := N_split) (sc := (defScope s_split)) (by decide +kernel)) (fun _ _ _ _ _ => pg_name (i := 7) sc_split.nd rfl (Or.inl rfl)) (fun _ _ _ _ _ => pts_one (pt_not (truA K (pe_call (d_has_sign T) (hr.mono (by decide)) (by rfl) T.m_has_sign T.F_has_sign.kp T.b_has_sign .nil pass0 (pa_cons (pe_ix (ixA K) (pv 0) (pv 7) (fun _ _ => rfl)) (pa_cons (pv 6) (pa_cons pe_str pa_nil))))))) (fun _ _ _ _ _ => (pv 7))))))))))) (pss_cons (ps_if (truA K (pv 3)) (pss_one (ps_expr (bmA K PySem.F.plainAttrs_list PySem.F.slot_list_append PySem.F.type_list_append mt_append (pv 2) (pa_cons (pe_callTy (tupleA K) (by rfl) T.n_tuple (by decide +kernel) (pa_cons (pv 3) pa_nil)) pa_nil)))) pss_nil) (pss_one (ps_ret (pe_tup (pa_cons (pv 2) (pa_cons (pv 4) pa_nil)))))))))), fun x hx => ?_⟩
  obtain ⟨rs, n, b⟩ := x
  obtain ⟨hr', h8, hz⟩ := hx
  have hr' : ∀ r ∈ rs, RowOk r n := hr'
  have h8 : n ≤ 8 := h8
  have hz : rs.length ≤ 1000 := hz
  have hat : ∀ i, i < rs.length → RowOk (rowAt rs i) n := fun i hi => rowAt_ok hr' hi
  refine ds_seq (ds_asg_own (evn_lst eva_nil (Nat.zero_le _)) ?_)
  refine ds_seq (ds_asg (Ev.dl (EvN.ev (evn_listRg (n := n) (ev_var rfl) (by omega))) ?_))
  refine ds_seq (ds_asg (Ev.dl (ev_cast (d' := .lst (ordD (open0 rs))) rfl (EvN.ev (evn_lc (xs := List.range rs.length) (c := fun (i : Nat) => D.tup [.int i, .str (tx (rowAt rs i))]) (p := openB rs) (f := fun (i : Nat) => D.int i) ?it (by rw [List.length_range]; omega) fun i hi => ⟨[7] ++ [8], _, dg_tup2 dg_name dg_name, fun i hi => hi, ?tst, fun _ => ev_var rfl⟩))) ?_))
  case it =>
    rw [← enum_rows]
    exact ei_rowsD (ev_var rfl)
  case tst =>
    rw [← open_of (hat i (List.mem_range.mp hi))]
    have e1 := in_code (K := K) (l := rowAt rs i) (c := 43)
    have e2 := in_code (K := K) (l := rowAt rs i) (c := 45)
    rw [← ch_plus] at e1
    rw [← ch_minus] at e2
    exact evt_or (evt_test (ev_op ev_str (ev_var rfl) e1)) fun _ => evt_test (ev_op ev_str (ev_var rfl) e2)
  refine ds_seq (ds_while (fun m Γ' => ∃ (made : List (List Nat)) (left still : List Nat) (s5 s6 s7 s8 s9 : Sl), Γ' = [.val (rowsD b rs), .val (.int n), .own (ordT made), .val (.lst (ordD left)), .val (.lst (ordD still)), s5, s6, s7, s8, s9] ∧ Mk rs n m made left still)
    (n + 1) ⟨[], List.range n, open0 rs, _, _, _, _, _, rfl, mk_0 rs n⟩ fun m Γ' ⟨made, left, still, s5, s6, s7, s8, s9, e, mk⟩ => ?_)
  subst e
  obtain ⟨f, rfl⟩ : ∃ f, m = f + 1 := ⟨m - 1, by have := mk.lt; omega⟩
  refine EvT.dl (evt_tru_lst (ev_var (d := .lst (ordD still)) rfl).b) ⟨fun h => ?_, fun h => ?_⟩
  · have h1 : still ≠ [] := fun z => by rw [z] at h; cases h
    have l8 : left.length ≤ 8 := by have := mk.few; omega
    refine ds_seq (ds_asg (Ev.dl (ev_cast (d' := .lst (ordD (left.filter (minB rs still)))) rfl (EvN.ev (evn_lc (xs := left) (c := fun k : Nat => D.int k) (p := minB rs still) (f := fun k : Nat => D.int k) (ej_list (ev_var (d := .lst (ordD left)) rfl).b) (by omega) fun k hk => ⟨[9], _, dg_name, fun i hi => hi, ?bt, fun _ => ev_var rfl⟩))) ?_))
    case bt =>
      rw [← minB_any]
      refine evt_test (ev_inC (l := still.map fun i => sgn (rowAt rs i) k) (ev_cast (congrArg D.str ch_minus) ev_str) (EvN.b ?_))
      have e : chD (still.map fun i => sgn (rowAt rs i) k) = still.map fun i => D.str (ch (sgn (rowAt rs i) k)) := by unfold chD; rw [List.map_map]; rfl
      rw [e]
      exact evn_lc1 (xs := still) (c := fun i : Nat => D.int i) (ej_list (ev_var (d := .lst (ordD still)) rfl).b) (by have := mk.fst; omega) fun i hi => ⟨[7], _, dg_name, fun i hi => hi, evt_yes, sgn_ev (hat i (mk.ltr i hi)) h8 (mk.ltn k hk) (ev_rowsD (mk.ltr i hi) (ev_var (d := rowsD b rs) rfl) (ev_var rfl)) (ev_var rfl)⟩
    refine ds_seq (ds_asg (Ev.dl (ev_cast (d' := .lst (ordD (left.filter fun k => !minB rs still k))) ?c1 (EvN.ev (evn_lc (xs := left) (c := fun k : Nat => D.int k) (p := fun k => !decide (k ∈ left.filter (minB rs still))) (f := fun k : Nat => D.int k) (ej_list (ev_var (d := .lst (ordD left)) rfl).b) (by omega) fun k hk => ⟨[9], _, dg_name, fun i hi => hi, evt_test (ev_inO (neg := true) (l := left.filter (minB rs still)) (ev_var rfl) (ev_var (d := .lst (ordD (left.filter (minB rs still)))) rfl).b), fun _ => ev_var rfl⟩))) ?_))
    case c1 => rw [nin_filter]; rfl
    refine ds_seq (ds_if (EvT.dl (evt_not (evt_tru_lst (ev_var (d := .lst (ordD (left.filter fun k => !minB rs still k))) rfl).b)) ⟨fun h2 => ?_, fun h2 => ds_next ?_⟩))
    · rw [isEmpty_ord, Bool.not_not] at h2
      have h2 := of_decide_eq_true h2
      have e := mk.eq
      rw [lay_step h1, if_pos h2] at e
      refine ds_freeze 2 rfl (ds_ret (Ev.dl (ev_tup (eva_cons (ev_var (d := .lst (ordT made)) rfl) (eva_cons (ev_var (d := .lst (ordD still)) rfl) eva_nil)) (small (show 2 ≤ 100000 by decide))) ?_))
      show D.tup [.lst (ordT made), .lst (ordD still)] = layOut rs n
      unfold layOut
      rw [← e]
    · rw [isEmpty_ord, Bool.not_not] at h2
      have h2 := of_decide_eq_false h2
      have mk2 := mk.next h1 h2
      refine ds_seq (ds_drop (dl_append ⟨_, rfl⟩ (dla_cons (Ev.dl (ev_tuple (ev_var (d := .lst (ordD (left.filter fun k => !minB rs still k))) rfl).b) (dla_nil ⟨_, ordT made, rfl, rfl, ?_, ?_⟩)))))
      · rw [ordT_len]; have := mk.few; exact Nat.lt_of_le_of_lt (by omega : made.length ≤ 8) (by decide)
      · rw [ordT_snoc]
        refine ds_seq (ds_asg (Ev.dl (ev_var (d := .lst (ordD (left.filter (minB rs still)))) rfl) ?_))
        refine ds_asg (Ev.dl (EvN.ev (evn_lc (xs := still) (c := fun k : Nat => D.int k) (p := fun i => !plusB rs (left.filter fun k => !minB rs still k) i) (f := fun k : Nat => D.int k) (ej_list (ev_var (d := .lst (ordD still)) rfl).b) (by have := mk.fst; omega) fun i hi => ⟨[7], _, dg_name, fun i hi => hi, evt_not (evt_tru_bl (ev_call (s := spHasSign) (x := (rowAt rs i, left.filter fun k => !minB rs still k, 43)) (eva_cons (ev_rowsD (mk.ltr i hi) (ev_var (d := rowsD b rs) rfl) (ev_var rfl)) (eva_cons (ev_var rfl) (eva_cons (ev_cast (congrArg D.str ch_plus) ev_str) eva_nil))) (np_lo (r := [_]) rfl) ⟨n, hat i (mk.ltr i hi), h8, Nat.le_trans (List.length_filter_le _ _) l8, fun k hk => mk.ltn k (List.mem_filter.mp hk).1⟩ fun d h => h)), fun _ => ev_var rfl⟩)) ?_)
        exact ⟨f, Nat.lt_succ_self f, _, _, _, _, _, _, _, _, rfl, mk2⟩
  · have h1 : still = [] := by
      rw [isEmpty_ord] at h
      simpa using h
    subst h1
    have e := mk.eq
    rw [lay_done] at e
    have fin : ∀ (ms : List (List Nat)) (s3 s4' : Sl), ms = (splitM rs n).1 → Ds (tRet (tTup (tCons (tVar 2) (tCons (tVar 4) tNil)))) [.val (rowsD b rs), .val (.int n), .own (ordT ms), s3, .val (.lst (ordD [])), s5, s6, s7, s8, s9] { nx := fun _ => spSplit.rel (rs, n, b) D.non, rt := spSplit.rel (rs, n, b) } := fun ms s3 s4' hm => by
      refine ds_freeze 2 rfl (ds_ret (Ev.dl (ev_tup (eva_cons (ev_var (d := .lst (ordT ms)) rfl) (eva_cons (ev_var (d := .lst (ordD [])) rfl) eva_nil)) (small (show 2 ≤ 100000 by decide))) ?_))
      show D.tup [.lst (ordT ms), .lst (ordD [])] = layOut rs n
      unfold layOut
      rw [hm, show (splitM rs n).2 = [] by rw [← e]]
    refine ds_seq (ds_if (EvT.dl (evt_tru_lst (ev_var (d := .lst (ordD left)) rfl).b) ⟨fun h2 => ?_, fun h2 => ds_next ?_⟩))
    · have h2 : left ≠ [] := fun z => by rw [z] at h2; cases h2
      rw [if_neg h2] at e
      refine ds_drop (dl_append ⟨_, rfl⟩ (dla_cons (Ev.dl (ev_tuple (ev_var (d := .lst (ordD left)) rfl).b) (dla_nil ⟨_, ordT made, rfl, rfl, ?_, ?_⟩))))
      · rw [ordT_len]; have := mk.few; exact Nat.lt_of_le_of_lt (by omega : made.length ≤ 8) (by decide)
      · rw [ordT_snoc]
        exact fin _ _ s5 (by rw [← e])
    · have h2 : left = [] := by rw [isEmpty_ord] at h2; simpa using h2
      rw [if_pos h2] at e
      exact fin _ _ s5 (by rw [← e])
end K37

namespace K37
open PySem PySem.Spec PyProof.Rows L2 Dw
variable [Tabs0]
theorem ev_inOT {K : PySem.W.Frag} {Γ : Gam} {ta tb : TE} {neg : Bool} {r' : R2} {c : Nat} {l : List Nat} (ha : Ev ta Γ (.int c)) (h : Ev tb Γ (.tup (ordN l))) : Ev (tOp (rOr (rIn K neg) r') ta tb) Γ (.bl (if neg then !decide (c ∈ l) else decide (c ∈ l))) := by
  have e := ev_inT (neg := neg) (K := K) (r' := r') ha h rfl (sc_ord l)
  rw [show scV (.int (c : Int)) = V.int (c : Int) from rfl, inV_ord c l] at e
  exact e
end K37

namespace K37
open PySem PySem.Spec PyProof.Rows L2 Dw
variable [Tabs0]
/-! rankings as tuples that may be asked for a place -/
end K37

namespace K37
open PySem PySem.Spec PyProof.Rows L2 Dw
variable [Tabs0]
def selQ (rs : List (List Nat)) (o : List Nat) : List (List Nat) := o.map fun i => rowAt rs i
def Fit (rs : List (List Nat)) (n : Nat) : Prop := ∃ o : List Nat, o.Perm (List.range n) ∧ ∀ r ∈ rs, holdsB r o = true
def SgnOk (rs : List (List Nat)) (n : Nat) : Prop := (∀ i c, sgn (rowAt rs i) c = 43 ∨ sgn (rowAt rs i) c = 45 ∨ sgn (rowAt rs i) c = 46) ∧ ∀ i, i < rs.length → (rowAt rs i).length ≤ n
theorem selQ_len (rs : List (List Nat)) (o : List Nat) : (selQ rs o).length = o.length := List.length_map ..
theorem selQ_at {rs : List (List Nat)} {o : List Nat} {j : Nat} (h : j < o.length) : rowAt (selQ rs o) j = rowAt rs o[j] := by
  unfold selQ
  conv => lhs; unfold rowAt
  rw [List.getD_eq_getElem?_getD, List.getElem?_map, List.getElem?_eq_getElem h]; rfl
theorem fit_sel {rs : List (List Nat)} {n : Nat} {p q : List Nat} (h : Fit (selQ rs q) n) (hs : ∀ k ∈ p, k ∈ q) : Fit (selQ rs p) n := by
  obtain ⟨o, ho, hh⟩ := h
  refine ⟨o, ho, fun r hr => ?_⟩
  obtain ⟨k, hk, rfl⟩ := List.mem_map.mp hr
  exact hh _ (List.mem_map.mpr ⟨k, hs k hk, rfl⟩)
/-- where the layers end badly, the rows that stay open fit no order -/
theorem stuck_open {rs : List (List Nat)} {n : Nat} {ls : List (List Nat)} {lf st : List Nat} (h : LayI rs n ls lf st) (hne : st ≠ []) (hl : lf.filter (fun k => !minB rs st k) = []) (hr : ∀ i, i < rs.length → (rowAt rs i).length ≤ n) : ¬ Fit (selQ rs st) n := by
  rintro ⟨o, ho, hh⟩
  obtain ⟨i, hi, z⟩ := lay_stuck' h hne hl hr o ho
  rw [hh _ (List.mem_map.mpr ⟨i, hi, rfl⟩)] at z; cases z
def Still (rs : List (List Nat)) (n : Nat) : List Nat := (splitM rs n).2
theorem still_cases {rs : List (List Nat)} {n : Nat} (h : SgnOk rs n) : (Still rs n = [] ∧ Fit rs n) ∨ ∃ ls lf, Still rs n ≠ [] ∧ LayI rs n ls lf (Still rs n) ∧ lf.filter (fun k => !minB rs (Still rs n) k) = [] ∧ ¬ Fit (selQ rs (Still rs n)) n := by
  rcases layF_end h.1 (n + 1) [] (List.range n) (open0 rs) (layI_0 rs n) (by rw [List.length_range]; omega) with ⟨ls, e, hh⟩ | ⟨ls, lf, st, e, h1, hh, h2⟩
  · have e : splitM rs n = (ls, []) := e
    refine .inl ⟨by unfold Still; rw [e], ?_⟩
    obtain ⟨w1, w2⟩ := lay_fits h.1 hh (g := fun l => l) (fun l => .refl _)
    exact ⟨_, w1, all_rows.mpr w2⟩
  · have e : splitM rs n = (ls, st) := e
    have e2 : Still rs n = st := by unfold Still; rw [e]
    refine .inr ⟨ls, lf, ?_⟩
    rw [e2]
    exact ⟨h1, hh, h2, stuck_open hh h1 h2 h.2⟩
theorem still_fit {rs : List (List Nat)} {n : Nat} (h : SgnOk rs n) : Still rs n = [] ↔ Fit rs n := by
  constructor
  · intro e
    rcases still_cases h with ⟨_, f⟩ | ⟨_, _, z, _⟩
    · exact f
    · exact absurd e z
  · intro f
    rcases still_cases h with ⟨e, _⟩ | ⟨ls, lf, z, hh, h2, nf⟩
    · exact e
    · obtain ⟨o, ho, hf⟩ := f
      refine absurd ⟨o, ho, fun r hr => ?_⟩ nf
      obtain ⟨k, hk, rfl⟩ := List.mem_map.mp hr
      exact all_rows.mp hf k (List.mem_range.mp (List.mem_filter.mp (hh.sub.subset hk)).1)
/-! the lot that is told -/
def qStep (rs : List (List Nat)) (n : Nat) (kept : List Nat) (i : Nat) : List Nat :=
  if Still (selQ rs (kept.filter fun j => !decide (j = i))) n = [] then kept else kept.filter fun j => !decide (j = i)
structure QI (rs : List (List Nat)) (n : Nat) (kept seen : List Nat) : Prop where
  sub : kept.Sublist (List.range rs.length)
  nf : ¬ Fit (selQ rs kept) n
  min : ∀ i ∈ seen, i ∈ kept → Fit (selQ rs (kept.filter fun j => !decide (j = i))) n
theorem sel_sgn {rs : List (List Nat)} {n : Nat} (h : SgnOk rs n) {o : List Nat} (ho : ∀ k ∈ o, k < rs.length) : SgnOk (selQ rs o) n := by
  refine ⟨fun i c => ?_, fun i hi => ?_⟩
  · by_cases hi : i < o.length
    · rw [selQ_at hi]; exact h.1 _ _
    · unfold rowAt sgn
      rw [List.getD_eq_getElem?_getD (l := selQ rs o), List.getElem?_eq_none (by rw [selQ_len]; omega)]
      exact .inr (.inr rfl)
  · rw [selQ_len] at hi
    rw [selQ_at hi]
    exact h.2 _ (ho _ (List.getElem_mem hi))
theorem QI.next {rs : List (List Nat)} {n : Nat} (h : SgnOk rs n) {kept seen : List Nat} (q : QI rs n kept seen) (i : Nat) : QI rs n (qStep rs n kept i) (seen ++ [i]) := by
  have hf : ∀ k ∈ kept.filter (fun j => !decide (j = i)), k < rs.length := fun k hk => List.mem_range.mp (q.sub.subset (List.mem_filter.mp hk).1)
  unfold qStep
  by_cases e : Still (selQ rs (kept.filter fun j => !decide (j = i))) n = []
  · rw [if_pos e]
    refine ⟨q.sub, q.nf, fun j hj hk => ?_⟩
    rcases List.mem_append.mp hj with hj | hj
    · exact q.min j hj hk
    · rw [List.mem_singleton.mp hj]
      exact (still_fit (sel_sgn h hf)).mp e
  · rw [if_neg e]
    refine ⟨List.filter_sublist.trans q.sub, fun f => e ((still_fit (sel_sgn h hf)).mpr f), fun j hj hk => ?_⟩
    have hk' := (List.mem_filter.mp hk).1
    rcases List.mem_append.mp hj with hj | hj
    · refine fit_sel (q.min j hj hk') fun k hk2 => ?_
      obtain ⟨a, b⟩ := List.mem_filter.mp hk2
      exact List.mem_filter.mpr ⟨(List.mem_filter.mp a).1, b⟩
    · have := (List.mem_filter.mp hk).2
      rw [List.mem_singleton.mp hj] at this
      simp at this
/-! all lots of some things -/
def spSome : Spc where
  ty := List (List Nat) × Nat × Bool
  args := fun x => [rowsD x.2.2 x.1, .int x.2.1]
  ok := fun x => (∀ r ∈ x.1, RowOk r x.2.1) ∧ x.2.1 ≤ 8 ∧ x.1.length ≤ 1000
  rel := fun x d => d = .bl (decide (Still x.1 x.2.1 = []))
end K37

namespace K37
open PySem PySem.Spec PyProof.Rows L2 Dw
variable [Tabs0]
theorem d_some_fits {P : Program} {w : World} {K : PySem.W.Frag} {mg : Str → Option Value} {base : Heap} (T : Txt K w mg) : FnOk P w K mg base CX0 3 T.f_some_fits T.e_some_fits ["rows", "many"] (toSp (spSome)) := by
  refine fn_ok T.F_some_fits sc_some_fits (fun _ => rfl) fun cdv A outer s' H E hr => ?_
  refine ⟨_, (pss_cons (ps_asg (pe_call (d_split T) (hr.mono (by decide)) (by rfl) T.m_split T.F_split.kp T.b_split .nil pass0 (pa_cons (pv 0) (pa_cons (pv 1) pa_nil))) (tupA K 2 rfl (pgs_cons (pg_name (i := 2) sc_some_fits.nd rfl (Or.inl rfl)) (pgs_cons (pg_name (i := 3) sc_some_fits.nd rfl (Or.inl rfl)) pgs_nil)))) (pss_one (ps_ret (notA K (pv 3))))), fun x hx => ?_⟩
  obtain ⟨rs, n, b⟩ := x
  obtain ⟨hr', h8, hz⟩ := hx
  refine ds_seq (ds_asg_g (Ev.dl (ev_call (s := spSplit) (x := (rs, n, b)) (eva_cons (ev_var rfl) (eva_cons (ev_var rfl) eva_nil)) (np_rd (r := [_]) rfl) ⟨hr', h8, hz⟩ fun d h => h) ⟨[2] ++ [3], _, dg_tup2 dg_name dg_name, ?_⟩))
  refine ds_ret (Ev.dl (ev_notT (evt_tru_lst (ev_var (d := .lst (ordD (splitM rs n).2)) rfl).b)) ?_)
  show D.bl _ = D.bl _
  rw [isEmpty_ord, Bool.not_not]; rfl
end K37

namespace K37
open PySem PySem.Spec PyProof.Rows L2 Dw
variable [Tabs0]
/-! heads as bits -/
def headOf (l : List Nat) : Nat := (l.map fun k => 2 ^ k).sum
def hd (p : Nat → Bool) (n : Nat) : Nat := headOf ((List.range n).filter p)
theorem headOf_snoc (l : List Nat) (k : Nat) : headOf (l ++ [k]) = headOf l + 2 ^ k := by unfold headOf; rw [List.map_append, List.sum_append]; simp
theorem hd_succ (p : Nat → Bool) (n : Nat) : hd p (n + 1) = hd p n + if p n = true then 2 ^ n else 0 := by
  unfold hd
  rw [List.range_succ, List.filter_append]
  cases h : p n with
  | true => rw [List.filter_cons_of_pos h, List.filter_nil, headOf_snoc, if_pos rfl]
  | false => rw [List.filter_cons_of_neg (by rw [h]; decide), List.filter_nil, List.append_nil, if_neg (by decide)]; rfl
theorem hd_lt (p : Nat → Bool) : ∀ n, hd p n < 2 ^ n
  | 0 => by
    have : hd p 0 = 0 := rfl
    rw [this]; decide
  | n + 1 => by
    have := hd_lt p n
    rw [hd_succ, Nat.pow_succ]
    split <;> omega
theorem hd_bit (p : Nat → Bool) : ∀ n k, (hd p n).testBit k = (decide (k < n) && p k)
  | 0, k => by
    have : hd p 0 = 0 := rfl
    rw [this]; simp
  | n + 1, k => by
    have ih := hd_bit p n k
    have lt := hd_lt p n
    rw [hd_succ]
    cases h : p n with
    | false =>
      rw [if_neg (by decide), Nat.add_zero, ih]
      by_cases hk : k = n
      · subst hk; rw [h]; simp
      · have : decide (k < n + 1) = decide (k < n) := decide_eq_decide.mpr (by omega)
        rw [this]
    | true =>
      have e := Nat.two_pow_add_eq_or_of_lt lt 1
      rw [Nat.mul_one] at e
      rw [if_pos rfl, Nat.add_comm, e, Nat.testBit_or, Nat.testBit_two_pow, ih]
      by_cases hk : k = n
      · subst hk; rw [h]; simp
      · have e1 : decide (n = k) = false := decide_eq_false (by omega)
        have : decide (k < n + 1) = decide (k < n) := decide_eq_decide.mpr (by omega)
        rw [e1, this]; rfl
theorem and_zero {a b : Nat} : a &&& b = 0 ↔ ∀ k, ¬ (a.testBit k = true ∧ b.testBit k = true) := by
  constructor
  · intro h k hk
    have := congrArg (fun z => z.testBit k) h
    simp only [Nat.testBit_and, Nat.zero_testBit, hk.1, hk.2] at this
    cases this
  · intro h
    apply Nat.eq_of_testBit_eq
    intro k
    rw [Nat.testBit_and, Nat.zero_testBit]
    cases p : a.testBit k with
    | false => rfl
    | true =>
      cases q : b.testBit k with
      | false => rfl
      | true => exact absurd ⟨p, q⟩ (h k)
def sideM (c : Nat) (r : List Nat) : Nat := hd (fun k => decide (sgn r k = c)) r.length
def sidesM (r : List Nat) : Nat × Nat := (sideM 43 r, sideM 45 r)
theorem side_bit {c : Nat} {r : List Nat} {k : Nat} (hc : c ≠ 46) : (sideM c r).testBit k = decide (sgn r k = c) := by
  unfold sideM
  rw [hd_bit]
  by_cases h : k < r.length
  · simp [h]
  · have : sgn r k = 46 := by unfold sgn; rw [List.getD_eq_getElem?_getD, List.getElem?_eq_none (by omega)]; rfl
    rw [this]
    have : decide (46 = c) = false := decide_eq_false fun z => hc z.symm
    rw [this]; simp
def takenM (head : Nat) (told : List (Nat × Nat)) : Nat := told.foldl (fun t s => if s.1 &&& head = 0 then t ||| s.2 else t) head
theorem taken_bit (head k : Nat) : ∀ (told : List (Nat × Nat)) (t : Nat), (told.foldl (fun t s => if s.1 &&& head = 0 then t ||| s.2 else t) t).testBit k = (t.testBit k || told.any fun s => decide (s.1 &&& head = 0) && s.2.testBit k)
  | [], t => by simp
  | s :: told, t => by
    rw [List.foldl_cons, taken_bit head k told, List.any_cons]
    by_cases h : s.1 &&& head = 0
    · rw [if_pos h, Nat.testBit_or, decide_eq_true h, Bool.true_and, Bool.or_assoc]
    · rw [if_neg h, decide_eq_false h, Bool.false_and, Bool.false_or]
def behindM (head : Nat) (told : List (Nat × Nat)) (n : Nat) : List Nat := (List.range n).filter fun k => decide (takenM head told &&& 2 ^ k = 0)
theorem two_bit {a k : Nat} : decide (a &&& 2 ^ k = 0) = !a.testBit k := by
  rw [Bool.eq_iff_iff, decide_eq_true_eq, and_zero, Bool.not_eq_true']
  constructor
  · intro h
    cases q : a.testBit k with
    | false => rfl
    | true => exact absurd ⟨q, by rw [Nat.testBit_two_pow]; simp⟩ (h k)
  · rintro h j ⟨h1, h2⟩
    rw [Nat.testBit_two_pow] at h2
    have : k = j := of_decide_eq_true h2
    subst this
    rw [h] at h1; cases h1
/-- whether k may come right behind the head: no row has a minus for it, and no plus in the head -/
def openBit (rs : List (List Nat)) (head k : Nat) : Bool := !head.testBit k && rs.all fun r => !(decide (sideM 43 r &&& head = 0) && decide (sgn r k = 45))
theorem behind_eq (rs : List (List Nat)) (head n : Nat) : behindM head (rs.map sidesM) n = (List.range n).filter (openBit rs head) := by
  unfold behindM
  refine List.filter_congr fun k _ => ?_
  rw [two_bit]
  unfold takenM openBit
  rw [taken_bit, Bool.not_or, List.any_map]
  congr 1
  rw [List.not_any_eq_all_not]
  congr 1
  funext r
  show (!(decide (sideM 43 r &&& head = 0) && (sideM 45 r).testBit k)) = _
  rw [side_bit (by decide)]
def stepsM (rs : List (List Nat)) (n : Nat) : List (List Nat) := (List.range (2 ^ n)).map fun head => behindM head (rs.map sidesM) n
theorem steps_len (rs : List (List Nat)) (n : Nat) : (stepsM rs n).length = 2 ^ n := by unfold stepsM; rw [List.length_map, List.length_range]
theorem steps_at {rs : List (List Nat)} {n head : Nat} (h : head < 2 ^ n) : (stepsM rs n).getD head [] = (List.range n).filter (openBit rs head) := by
  unfold stepsM
  rw [List.getD_eq_getElem?_getD, List.getElem?_map, List.getElem?_range h]
  show behindM _ _ _ = _
  rw [behind_eq]
theorem or_up {head k : Nat} (h : head.testBit k = false) : head < head ||| 2 ^ k := by
  have h1 : head ≤ head ||| 2 ^ k := Nat.left_le_or
  rcases Nat.lt_or_eq_of_le h1 with h2 | h2
  · exact h2
  · have := congrArg (fun z => z.testBit k) h2
    simp only [Nat.testBit_or, Nat.testBit_two_pow] at this
    rw [h] at this; simp at this
theorem open_bit {rs : List (List Nat)} {head k : Nat} (h : openBit rs head k = true) : head.testBit k = false := by
  unfold openBit at h
  rw [Bool.and_eq_true, Bool.not_eq_true'] at h
  exact h.1
end K37

namespace K37
open PySem PySem.Spec PyProof.Rows L2 Dw
variable [Tabs0]
theorem sum_cast : ∀ l : List Nat, ((l.map fun k : Nat => (k : Int)).sum : Int) = ((l.sum : Nat) : Int)
  | [] => rfl
  | a :: l => by rw [List.map_cons, List.sum_cons, List.sum_cons, sum_cast l]; omega
def lolD (l : List (List Nat)) : List D := l.map fun o => D.lst (ordN o)
def sidD (l : List (Nat × Nat)) : List D := l.map fun s => D.tup [.int (s.1 : Nat), .int (s.2 : Nat)]
theorem np_sd {o : List (Nat × Nat)} {r : List D} (h : noPs r = true) : noPs (.lst (sidD o) :: r) = true := by
  have e : noPs (sidD o) = true := noPs_map (f := fun s : Nat × Nat => D.tup [.int (s.1 : Nat), .int (s.2 : Nat)]) (fun l => rfl) o
  show (noPs (sidD o) && noPs r) = true; rw [e, h]; rfl
def ordX (b : Bool) (l : List Nat) : D := if b = true then .lst (ordD l) else .tup (ordD l)
def spHeadOf : Spc where
  ty := List Nat × Bool
  args := fun x => [ordX x.2 x.1]
  ok := fun x => x.1.length ≤ 1000 ∧ ∀ k ∈ x.1, k ≤ 1000
  rel := fun x d => d = .int (headOf x.1 : Nat)
theorem ei_ordX {K : PySem.W.Frag} {ta : TE} {Γ : Gam} {b : Bool} {l : List Nat} (ha : Ev ta Γ (ordX b l)) : Ei (iAnyR K ta) Γ (l.map fun k : Nat => D.int k) := by
  cases b with
  | true => exact ej_list (Ev.b (ds := ordD l) ha)
  | false => exact ej_tup ha
def spSides : Spc where
  ty := List Nat
  args := fun r => [.str (tx r)]
  ok := fun r => ∃ n, RowOk r n ∧ n ≤ 8
  rel := fun r d => d = .tup [.int (sideM 43 r : Nat), .int (sideM 45 r : Nat)]
theorem enum_signs (r : List Nat) : enumD (Dw.signs (tx r)) = (List.range r.length).map fun (i : Nat) => D.tup [.int i, .str (ch (sgn r i))] := by
  apply List.ext_getElem?
  intro i
  have ls : (Dw.signs (tx r)).length = r.length := by rw [signs_tx, List.length_map, List.length_map]
  by_cases hi : i < r.length
  · obtain ⟨x, hx⟩ : ∃ x, (enumD (Dw.signs (tx r)))[i]? = some x := ⟨_, List.getElem?_eq_getElem (by rw [enumD_length, ls]; exact hi)⟩
    obtain ⟨y, hy, rfl⟩ := enumD_get hx
    rw [hx, List.getElem?_map, List.getElem?_range hi]
    rw [signs_tx, List.map_map, List.getElem?_map, List.getElem?_eq_getElem hi] at hy
    cases hy
    show _ = some (D.tup [D.int i, D.str (ch (sgn r i))])
    unfold sgn
    rw [List.getD_eq_getElem?_getD, List.getElem?_eq_getElem hi]; rfl
  · rw [List.getElem?_eq_none (by rw [enumD_length, ls]; omega), List.getElem?_eq_none (by simpa using hi)]
def spBehind : Spc where
  ty := Nat × List (Nat × Nat) × Nat
  args := fun x => [.int (x.1 : Nat), .lst (sidD x.2.1), .int (x.2.2 : Nat)]
  ok := fun x => x.2.2 ≤ 8 ∧ x.2.1.length ≤ 1000
  rel := fun x d => d = .lst (ordD (behindM x.1 x.2.1 x.2.2))
def spSteps : Spc where
  ty := List (List Nat) × Nat × Bool
  args := fun x => [rowsD x.2.2 x.1, .int (x.2.1 : Nat)]
  ok := fun x => (∀ r ∈ x.1, RowOk r x.2.1) ∧ x.2.1 ≤ 8 ∧ x.1.length ≤ 1000
  rel := fun x d => d = .lst (lolD (stepsM x.1 x.2.1))
structure EndOk (b : List (List Nat)) : Prop where
  lo : 1 ≤ b.length
  hi : b.length ≤ 256
  in_ : ∀ head, head < b.length → ∀ k ∈ b.getD head [], head ||| 2 ^ k < b.length ∧ k ≤ 8
  few : ∀ head, (b.getD head []).length ≤ 8
theorem pow8 {n : Nat} (h : n ≤ 8) : 2 ^ n ≤ 256 := Nat.le_trans (Nat.pow_le_pow_right (by decide) h) (by decide)
theorem ei_rows {K : PySem.W.Frag} {ta : TE} {Γ : Gam} {b : Bool} {rs : List (List Nat)} (ha : Ev ta Γ (rowsD b rs)) : Ei (iAnyR K ta) Γ (rs.map fun r => D.str (tx r)) := by
  cases b with
  | true => exact ej_list (Ev.b (ds := nameD rs) ha)
  | false => exact ej_tup ha
theorem lolD_at {l : List (List Nat)} {i : Nat} (h : i < l.length) : atI (lolD l) (i : Int) = some (.lst (ordD (l.getD i []))) := by
  refine atI_nat ?_
  unfold lolD
  rw [List.getElem?_map, List.getElem?_eq_getElem h, List.getD_eq_getElem?_getD, List.getElem?_eq_getElem h]; rfl
theorem nz_nat (a : Nat) : (!(((a : Nat) : Int) != 0)) = decide (a = 0) := by
  rw [Bool.eq_iff_iff]; simp
end K37

namespace K37
open PySem PySem.Spec PyProof.Rows L2 Dw
variable [Tabs0]
theorem d_head_of {P : Program} {w : World} {K : PySem.W.Frag} {mg : Str → Option Value} {base : Heap} (T : Txt K w mg) : FnOk P w K mg base CX0 1 T.f_head_of T.e_head_of ["rules"] (toSp (spHeadOf)) := by
  refine fn_ok T.F_head_of sc_head_of (fun _ => rfl) fun cdv A outer s' H E hr => ?_
  refine ⟨_, (pss_one (ps_ret (pe_callB (sumA K) (by rfl) T.n_sum (by decide +kernel) (pa_cons (pe_lc (own := [("rule", 1)]) rfl sc_head_of.nd (piR K (pv 0)) (blkOk_by (own := [("rule", 1)]) (N := N_head_of) (sc := (defScope s_head_of)) (by decide +kernel)) (fun _ _ _ _ _ => pg_name (i := 1) sc_head_of.nd rfl (Or.inl rfl)) (fun _ _ _ _ _ => pts_nil) (fun _ _ _ _ _ => (pe_op op_shl pe_int (pv 1)))) pa_nil)))), fun x hx => ?_⟩
  obtain ⟨l, b⟩ := x
  obtain ⟨hz, hk⟩ := hx
  have hz : l.length ≤ 1000 := hz
  have hk : ∀ k ∈ l, k ≤ 1000 := hk
  refine ds_ret (Ev.dl (ev_cast (d' := .int (headOf l : Nat)) ?c (ev_sum (ns := l.map fun k => ((2 ^ k : Nat) : Int)) (EvN.b ?e))) rfl)
  case c =>
    unfold headOf
    rw [← sum_cast, List.map_map]; rfl
  case e =>
    rw [List.map_map]
    exact evn_lc1 (xs := l) (c := fun k : Nat => D.int k) (f := fun k => D.int ((2 ^ k : Nat) : Int)) (ei_ordX (b := b) (ev_var (d := ordX b l) rfl)) (by omega) fun k hk' => ⟨[1], _, dg_name, fun i hi => hi, evt_yes, ev_op ev_int (ev_var rfl) (dr2_shl1 (hk k hk'))⟩
end K37

namespace K37
open PySem PySem.Spec PyProof.Rows L2 Dw
variable [Tabs0]
theorem d_sides {P : Program} {w : World} {K : PySem.W.Frag} {mg : Str → Option Value} {base : Heap} (T : Txt K w mg) : FnOk P w K mg base CX0 2 T.f_sides T.e_sides ["row"] (toSp (spSides)) := by
  refine fn_ok T.F_sides sc_sides (fun _ => rfl) fun cdv A outer s' H E hr => ?_
  refine ⟨_, (pss_cons (ps_set (i := 1) sc_sides.nd rfl (Or.inl rfl) (pe_call (d_head_of T) (hr.mono (by decide)) (by rfl) T.m_head_of T.F_head_of.kp T.b_head_of .nil pass0 (pa_cons (pe_lc (own := [("rule", 3), ("sign", 4)]) rfl sc_sides.nd (enumSA (by rfl) T.n_enumerate (pa_cons (pv 0) pa_nil)) (blkOk_by (own := [("rule", 3), ("sign", 4)]) (N := N_sides) (sc := (defScope s_sides)) (by decide +kernel)) (fun _ _ _ _ _ => tupA K 2 rfl (pgs_cons (pg_name (i := 3) sc_sides.nd rfl (Or.inl rfl)) (pgs_cons (pg_name (i := 4) sc_sides.nd rfl (Or.inl rfl)) pgs_nil))) (fun _ _ _ _ _ => pts_one (pt_cmpR (eqA K hr.units) (pv 4) pe_str (nomark _))) (fun _ _ _ _ _ => (pv 3))) pa_nil))) (pss_cons (ps_set (i := 2) sc_sides.nd rfl (Or.inl rfl) (pe_call (d_head_of T) (hr.mono (by decide)) (by rfl) T.m_head_of T.F_head_of.kp T.b_head_of .nil pass0 (pa_cons (pe_lc (own := [("rule", 3), ("sign", 4)]) rfl sc_sides.nd (enumSA (by rfl) T.n_enumerate (pa_cons (pv 0) pa_nil)) (blkOk_by (own := [("rule", 3), ("sign", 4)]) (N := N_sides) (sc := (defScope s_sides)) (by decide +kernel)) (fun _ _ _ _ _ => tupA K 2 rfl (pgs_cons (pg_name (i := 3) sc_sides.nd rfl (Or.inl rfl)) (pgs_cons (pg_name (i := 4) sc_sides.nd rfl (Or.inl rfl)) pgs_nil))) (fun _ _ _ _ _ => pts_one (pt_cmpR (eqA K hr.units) (pv 4) pe_str (nomark _))) (fun _ _ _ _ _ => (pv 3))) pa_nil))) (pss_one (ps_ret (pe_tup (pa_cons (pv 1) (pa_cons (pv 2) pa_nil))))))), fun x hx => ?_⟩
  obtain ⟨r, rfl⟩ : ∃ l : List Nat, l = x := ⟨x, rfl⟩
  obtain ⟨n, hr', h8⟩ := hx
  have hr' : RowOk r n := hr'
  have rl : r.length ≤ 8 := by rw [hr'.len]; exact h8
  have sl : ∀ c, ((List.range r.length).filter fun i => decide (sgn r i = c)).length ≤ 1000 := fun c => by
    have := List.length_filter_le (fun i => decide (sgn r i = c)) (List.range r.length)
    rw [List.length_range] at this
    omega
  have sk : ∀ c, ∀ k ∈ (List.range r.length).filter fun i => decide (sgn r i = c), k ≤ 1000 := fun c k hk => by
    have := List.mem_range.mp (List.mem_filter.mp hk).1
    omega
  refine ds_seq (ds_asg (Ev.dl (ev_call (s := spHeadOf) (d := .int (sideM 43 r : Nat)) (x := ((List.range r.length).filter fun i => decide (sgn r i = 43), true)) (eva_cons (EvN.ev (evn_lc (xs := List.range r.length) (c := fun (i : Nat) => D.tup [.int i, .str (ch (sgn r i))]) (p := fun i => decide (sgn r i = 43)) (f := fun (i : Nat) => D.int i) ?i1 (by rw [List.length_range]; omega) fun i hi => ⟨[3] ++ [4], _, dg_tup2 dg_name dg_name, fun i hi => hi, ?t1, fun _ => ev_var rfl⟩)) eva_nil) (np_lo (r := []) rfl) ⟨sl 43, sk 43⟩ fun d h => h) ?_))
  case i1 => rw [← enum_signs]; exact ei_enumS (ev_var rfl)
  case t1 => exact evt_test (ev_op (ev_var rfl) ev_str (eq_sb (by rw [ch_plus, Bool.eq_iff_iff]; simp [ch_eq])))
  refine ds_seq (ds_asg (Ev.dl (ev_call (s := spHeadOf) (d := .int (sideM 45 r : Nat)) (x := ((List.range r.length).filter fun i => decide (sgn r i = 45), true)) (eva_cons (EvN.ev (evn_lc (xs := List.range r.length) (c := fun (i : Nat) => D.tup [.int i, .str (ch (sgn r i))]) (p := fun i => decide (sgn r i = 45)) (f := fun (i : Nat) => D.int i) ?i2 (by rw [List.length_range]; omega) fun i hi => ⟨[3] ++ [4], _, dg_tup2 dg_name dg_name, fun i hi => hi, ?t2, fun _ => ev_var rfl⟩)) eva_nil) (np_lo (r := []) rfl) ⟨sl 45, sk 45⟩ fun d h => h) ?_))
  case i2 => rw [← enum_signs]; exact ei_enumS (ev_var rfl)
  case t2 => exact evt_test (ev_op (ev_var rfl) ev_str (eq_sb (by rw [ch_minus, Bool.eq_iff_iff]; simp [ch_eq])))
  exact ds_ret (Ev.dl (ev_tup (eva_cons (ev_var rfl) (eva_cons (ev_var rfl) eva_nil)) (small (show 2 ≤ 100000 by decide))) rfl)
end K37

namespace K37
open PySem PySem.Spec PyProof.Rows L2 Dw
variable [Tabs0]
theorem d_rules_behind {P : Program} {w : World} {K : PySem.W.Frag} {mg : Str → Option Value} {base : Heap} (T : Txt K w mg) : FnOk P w K mg base CX0 1 T.f_rules_behind T.e_rules_behind ["head", "told", "many"] (toSp (spBehind)) := by
  refine fn_ok T.F_rules_behind sc_rules_behind (fun _ => rfl) fun cdv A outer s' H E hr => ?_
  refine ⟨_, (pss_cons (ps_set (i := 3) sc_rules_behind.nd rfl (Or.inr rfl) (pv 0)) (pss_cons (ps_for PassesOwn.never rfl (piR K (pv 1)) (tupA K 2 rfl (pgs_cons (pg_name (i := 4) sc_rules_behind.nd rfl (Or.inl rfl)) (pgs_cons (pg_name (i := 5) sc_rules_behind.nd rfl (Or.inl rfl)) pgs_nil))) (pss_one (ps_if (pt_not (truA K (pe_op op_and (pv 4) (pv 0)))) (pss_one (ps_aug (i := 3) sc_rules_behind.nd rfl (Or.inr rfl) (pv 5) iop_or)) pss_nil))) (pss_one (ps_ret (pe_lc (own := [("rule", 6)]) rfl sc_rules_behind.nd (pi_range1 (by rfl) T.n_range (pa_cons (pv 2) pa_nil)) (blkOk_by (own := [("rule", 6)]) (N := N_rules_behind) (sc := (defScope s_rules_behind)) (by decide +kernel)) (fun _ _ _ _ _ => pg_name (i := 6) sc_rules_behind.nd rfl (Or.inl rfl)) (fun _ _ _ _ _ => pts_one (pt_not (truA K (pe_op op_and (pv 3) (pe_op op_shl pe_int (pv 6)))))) (fun _ _ _ _ _ => (pv 6))))))), fun x hx => ?_⟩
  obtain ⟨head, told, n⟩ := x
  obtain ⟨h8, hz⟩ := hx
  have h8 : n ≤ 8 := h8
  have hz : told.length ≤ 1000 := hz
  refine ds_seq (ds_asg (Ev.dl (ev_var (d := .int (head : Nat)) rfl) ?_))
  refine ds_seq (ds_for (fun xs i Γ' => xs = sidD told ∧ ∃ s4 s5 : Sl, Γ' = [.val (.int (head : Nat)), .val (.lst (sidD told)), .val (.int (n : Nat)), .val (.int (((told.take i).foldl (fun t s => if s.1 &&& head = 0 then t ||| s.2 else t) head : Nat) : Int)), s4, s5, .unset])
    (dj_list (Ev.dl (ev_var rfl) ⟨sidD told, rfl, ⟨rfl, _, _, rfl⟩, fun i x Γ' hx' ⟨exs, s4, s5, e⟩ => ?_, fun Γ' ⟨exs, s4, s5, e⟩ => ?_⟩)))
  · subst e
    have hx3 : (told.map fun s => D.tup [.int (s.1 : Nat), .int (s.2 : Nat)])[i]? = some x := hx'
    rw [List.getElem?_map] at hx3
    cases q : told[i]? with
    | none => rw [q] at hx3; cases hx3
    | some s =>
      rw [q] at hx3; cases hx3
      have nx : (told.take (i + 1)).foldl (fun t s => if s.1 &&& head = 0 then t ||| s.2 else t) head = if s.1 &&& head = 0 then ((told.take i).foldl (fun t s => if s.1 &&& head = 0 then t ||| s.2 else t) head) ||| s.2 else (told.take i).foldl (fun t s => if s.1 &&& head = 0 then t ||| s.2 else t) head := by
        rw [List.take_add_one, q, List.foldl_append]; rfl
      have fin : ∀ (t : Nat) (s4 s5 : Sl), t = (told.take (i + 1)).foldl (fun t s => if s.1 &&& head = 0 then t ||| s.2 else t) head → sidD told = sidD told ∧ ∃ s4' s5' : Sl, [Sl.val (.int (head : Nat)), .val (.lst (sidD told)), .val (.int (n : Nat)), .val (.int ((t : Nat) : Int)), s4, s5, .unset] = [.val (.int (head : Nat)), .val (.lst (sidD told)), .val (.int (n : Nat)), .val (.int (((told.take (i + 1)).foldl (fun t s => if s.1 &&& head = 0 then t ||| s.2 else t) head : Nat) : Int)), s4', s5', .unset] := fun t s4 s5 ht => ⟨rfl, s4, s5, by rw [ht]⟩
      generalize (told.take i).foldl (fun t s => if s.1 &&& head = 0 then t ||| s.2 else t) head = t at nx
      refine ⟨[4] ++ [5], _, dg_tup2 dg_name dg_name, ds_if (EvT.dl (evt_not (evt_tru_int (ev_op (ev_var (d := .int (s.1 : Nat)) rfl) (ev_var (d := .int (head : Nat)) rfl) dr2_and))) ⟨fun h => ?_, fun h => ?_⟩)⟩
      · rw [nz_nat] at h
        have h := of_decide_eq_true h
        exact ds_orI (a := t) (b := s.2) rfl (ev_var rfl) (fin (t ||| s.2) _ _ (by rw [nx, if_pos h]))
      · rw [nz_nat] at h
        have h := of_decide_eq_false h
        exact ds_next (fin t _ _ (by rw [nx, if_neg h]))
  · subst e
    have lt : (sidD told).length = told.length := List.length_map ..
    rw [lt, List.take_length]
    refine ds_ret (Ev.dl (EvN.ev (evn_lc (xs := List.range n) (c := fun k : Nat => D.int k) (p := fun k => decide (takenM head told &&& 2 ^ k = 0)) (f := fun k : Nat => D.int k) (ei_range (n := n) (eva_cons (ev_var rfl) eva_nil) (by omega)) (by rw [List.length_range]; omega) fun k hk => ⟨[6], _, dg_name, fun i hi => hi, ?t, fun _ => ev_var rfl⟩)) rfl)
    have hk := List.mem_range.mp hk
    rw [← nz_nat]
    exact evt_not (evt_tru_int (ev_op (ev_var (d := .int (takenM head told : Nat)) rfl) (ev_op ev_int (ev_var rfl) (dr2_shl1 (by omega))) dr2_and))
end K37

namespace K37
open PySem PySem.Spec PyProof.Rows L2 Dw
variable [Tabs0]
theorem d_steps {P : Program} {w : World} {K : PySem.W.Frag} {mg : Str → Option Value} {base : Heap} (T : Txt K w mg) : FnOk P w K mg base CX0 3 T.f_steps T.e_steps ["rows", "many"] (toSp (spSteps)) := by
  refine fn_ok T.F_steps sc_steps (fun _ => rfl) fun cdv A outer s' H E hr => ?_
  refine ⟨_, (pss_cons (ps_set (i := 2) sc_steps.nd rfl (Or.inr rfl) (pe_lc (own := [("row", 3)]) rfl sc_steps.nd (piR K (pv 0)) (blkOk_by (own := [("row", 3)]) (N := N_steps) (sc := (defScope s_steps)) (by decide +kernel)) (fun _ _ _ _ _ => pg_name (i := 3) sc_steps.nd rfl (Or.inl rfl)) (fun _ _ _ _ _ => pts_nil) (fun _ _ _ _ _ => (pe_call (d_sides T) (hr.mono (by decide)) (by rfl) T.m_sides T.F_sides.kp T.b_sides .nil pass0 (pa_cons (pv 3) pa_nil))))) (pss_one (ps_ret (pe_lc (own := [("head", 4)]) rfl sc_steps.nd (pi_range1 (by rfl) T.n_range (pa_cons (pe_op op_shl pe_int (pv 1)) pa_nil)) (blkOk_by (own := [("head", 4)]) (N := N_steps) (sc := (defScope s_steps)) (by decide +kernel)) (fun _ _ _ _ _ => pg_name (i := 4) sc_steps.nd rfl (Or.inl rfl)) (fun _ _ _ _ _ => pts_nil) (fun _ _ _ _ _ => (pe_call (d_rules_behind T) (hr.mono (by decide)) (by rfl) T.m_rules_behind T.F_rules_behind.kp T.b_rules_behind .nil pass0 (pa_cons (pv 4) (pa_cons (pv 2) (pa_cons (pv 1) pa_nil))))))))), fun x hx => ?_⟩
  obtain ⟨rs, n, b⟩ := x
  obtain ⟨hr', h8, hz⟩ := hx
  have hr' : ∀ r ∈ rs, RowOk r n := hr'
  have h8 : n ≤ 8 := h8
  have hz : rs.length ≤ 1000 := hz
  have p8 := pow8 h8
  refine ds_seq (ds_asg (Ev.dl (ev_cast (d' := .lst (sidD (rs.map sidesM))) ?c1 (EvN.ev (evn_lc1 (xs := rs) (c := fun r => .str (tx r)) (f := fun r => D.tup [.int (sideM 43 r : Nat), .int (sideM 45 r : Nat)]) (ei_rows (b := b) (ev_var (d := rowsD b rs) rfl)) (by omega) fun r hr => ⟨[3], _, dg_name, fun i hi => hi, evt_yes, ev_call (s := spSides) (x := r) (eva_cons (ev_var rfl) eva_nil) rfl ⟨n, hr' r hr, h8⟩ fun d h => h⟩))) ?_))
  case c1 => unfold sidD; rw [List.map_map]; rfl
  refine ds_ret (Ev.dl (ev_cast (d' := .lst (lolD (stepsM rs n))) ?c2 (EvN.ev (evn_lc1 (xs := List.range (2 ^ n)) (c := fun k : Nat => D.int k) (f := fun head => D.lst (ordD (behindM head (rs.map sidesM) n))) (ei_range (n := 2 ^ n) (eva_cons (ev_op ev_int (ev_var rfl) (dr2_shl1 (by omega))) eva_nil) (by omega)) (by rw [List.length_range]; omega) fun head hh => ⟨[4], _, dg_name, fun i hi => hi, evt_yes, ev_call (s := spBehind) (x := (head, rs.map sidesM, n)) (eva_cons (ev_var rfl) (eva_cons (ev_var rfl) (eva_cons (ev_var rfl) eva_nil))) (np_sd (r := [_]) rfl) ⟨h8, by show (rs.map sidesM).length ≤ 1000; rw [List.length_map]; exact hz⟩ fun d h => h⟩))) rfl)
  unfold lolD stepsM
  rw [List.map_map]; rfl
end K37

namespace K37
open PySem PySem.Spec PyProof.Rows L2 Dw
variable [Tabs0]
/-! any text, read as a book -/
def splitL : List Nat → List (List Nat)
  | [] => [[]]
  | c :: l => if c = 32 then [] :: splitL l else match splitL l with | [] => [[c]] | p :: r => (c :: p) :: r
theorem splitL_ne : ∀ l : List Nat, splitL l ≠ []
  | [] => fun h => nomatch h
  | c :: l => by
    unfold splitL
    by_cases h : c = 32
    · rw [if_pos h]; exact fun h => nomatch h
    · rw [if_neg h]
      cases splitL l <;> exact fun h => nomatch h
theorem splitL_cons {c : Nat} {l : List Nat} (h : c ≠ 32) {p : List Nat} {r : List (List Nat)} (e : splitL l = p :: r) : splitL (c :: l) = (c :: p) :: r := by
  show (if c = 32 then [] :: splitL l else match splitL l with | [] => [[c]] | p :: r => (c :: p) :: r) = _
  rw [if_neg h, e]
theorem splitL_sp (l : List Nat) : splitL (32 :: l) = [] :: splitL l := if_pos rfl
theorem splitL_ind {P : List Nat → List (List Nat) → Prop} (h0 : P [] [[]]) (h1 : ∀ l ps, ps ≠ [] → P l ps → P (32 :: l) ([] :: ps)) (h2 : ∀ c l p r, c ≠ 32 → P l (p :: r) → P (c :: l) ((c :: p) :: r)) : ∀ l, P l (splitL l)
  | [] => h0
  | c :: l => by
    have ih := splitL_ind h0 h1 h2 l
    by_cases h : c = 32
    · subst h
      rw [splitL_sp]
      exact h1 l _ (splitL_ne l) ih
    · cases e : splitL l with
      | nil => exact absurd e (splitL_ne l)
      | cons p r =>
        rw [splitL_cons h e]
        rw [e] at ih
        exact h2 c l p r h ih
theorem joinX_cons (p : List Nat) {r : List (List Nat)} (h : r ≠ []) : TL.joinL [32] (p :: r) = p ++ ([32] ++ TL.joinL [32] r) := by
  cases r with
  | nil => exact absurd rfl h
  | cons q r => simp [TL.joinL]
theorem joinL_one (p : List Nat) : TL.joinL [32] [p] = p := by simp [TL.joinL]
theorem joinL_head (c : Nat) (p : List Nat) (r : List (List Nat)) : TL.joinL [32] ((c :: p) :: r) = c :: TL.joinL [32] (p :: r) := by
  cases r with
  | nil => rw [joinL_one, joinL_one]
  | cons q r => rw [joinX_cons (c :: p) (r := q :: r) (by simp), joinX_cons p (r := q :: r) (by simp)]; rfl
theorem splitL_join (l : List Nat) : TL.joinL [32] (splitL l) = l := splitL_ind (P := fun l ps => TL.joinL [32] ps = l) rfl (fun l ps hn h => by rw [joinX_cons _ hn, h]; rfl) (fun c l p r _ h => by rw [joinL_head, h]) l
theorem splitL_no (l : List Nat) : ∀ p ∈ splitL l, 32 ∉ p := splitL_ind (P := fun _ ps => ∀ p ∈ ps, 32 ∉ p) (fun p h => by rw [List.mem_singleton.mp h]; simp) (fun l ps _ h p hp => by
  rcases List.mem_cons.mp hp with rfl | hp
  · simp
  · exact h p hp) (fun c l p r hc h q hq => by
  rcases List.mem_cons.mp hq with rfl | hq
  · have := h p List.mem_cons_self
    intro hm
    rcases List.mem_cons.mp hm with e | hm
    · exact hc e.symm
    · exact this hm
  · exact h q (List.mem_cons_of_mem _ hq)) l
theorem splitL_len (l : List Nat) : (splitL l).length ≤ l.length + 1 := splitL_ind (P := fun l ps => ps.length ≤ l.length + 1) (Nat.le_refl _) (fun l ps _ h => by simp; omega) (fun c l p r _ h => by simp at h ⊢; omega) l
theorem splitL_sub (l : List Nat) : ∀ p ∈ splitL l, p.length ≤ l.length ∧ ∀ c ∈ p, c ∈ l := splitL_ind (P := fun l ps => ∀ p ∈ ps, p.length ≤ l.length ∧ ∀ c ∈ p, c ∈ l) (fun p h => by rw [List.mem_singleton.mp h]; simp) (fun l ps _ h p hp => by
  rcases List.mem_cons.mp hp with rfl | hp
  · simp
  · obtain ⟨a, b⟩ := h p hp
    exact ⟨by simp; omega, fun c hc => List.mem_cons_of_mem _ (b c hc)⟩) (fun c l p r _ h q hq => by
  rcases List.mem_cons.mp hq with rfl | hq
  · obtain ⟨a, b⟩ := h p List.mem_cons_self
    refine ⟨by simp; omega, fun d hd => ?_⟩
    rcases List.mem_cons.mp hd with rfl | hd
    · exact List.mem_cons_self
    · exact List.mem_cons_of_mem _ (b d hd)
  · obtain ⟨a, b⟩ := h q (List.mem_cons_of_mem _ hq)
    exact ⟨by simp; omega, fun d hd => List.mem_cons_of_mem _ (b d hd)⟩) l
theorem splitL_app {p l : List Nat} (h : 32 ∉ p) : ∀ {q : List Nat} {r : List (List Nat)}, splitL l = q :: r → splitL (p ++ l) = (p ++ q) :: r := by
  induction p with
  | nil => intro q r e; exact e
  | cons c p ih =>
    intro q r e
    have hc : c ≠ 32 := fun z => h (by rw [z]; exact List.mem_cons_self)
    exact splitL_cons hc (ih (fun z => h (List.mem_cons_of_mem _ z)) e)
theorem splitL_of : ∀ {ps : List (List Nat)}, ps ≠ [] → (∀ p ∈ ps, 32 ∉ p) → splitL (TL.joinL [32] ps) = ps
  | [], h, _ => absurd rfl h
  | [p], _, h => by
    have := splitL_app (l := []) (h p List.mem_cons_self) (q := []) (r := []) rfl
    rw [List.append_nil] at this
    rw [joinL_one, this]
  | p :: q :: r, _, h => by
    rw [joinX_cons _ (by simp)]
    have ih := splitL_of (ps := q :: r) (by simp) fun x hx => h x (List.mem_cons_of_mem _ hx)
    have := splitL_app (l := [32] ++ TL.joinL [32] (q :: r)) (h p List.mem_cons_self) (q := []) (r := q :: r) (by rw [show [32] ++ TL.joinL [32] (q :: r) = 32 :: TL.joinL [32] (q :: r) from rfl, splitL_sp, ih])
    rw [List.append_nil] at this
    exact this
theorem splitS (l : List Nat) : Txt.split (tx l) (Str.ofString " ") = (splitL l).map tx := by
  have := split_sp (splitL_ne l) (splitL_no l)
  rw [splitL_join] at this
  exact this
def cutAt : List Nat → Option (List Nat × List Nat)
  | [] => none
  | c :: l => if c = 58 then some ([], l) else (cutAt l).map fun x => (c :: x.1, x.2)
theorem cutAt_some : ∀ {l p q : List Nat}, cutAt l = some (p, q) → l = p ++ ([58] ++ q) ∧ 58 ∉ p
  | [], p, q, h => nomatch h
  | c :: l, p, q, h => by
    unfold cutAt at h
    by_cases hc : c = 58
    · rw [if_pos hc] at h
      cases h
      exact ⟨by rw [hc]; rfl, by simp⟩
    · rw [if_neg hc] at h
      cases e : cutAt l with
      | none => rw [e] at h; cases h
      | some x =>
        obtain ⟨a, b⟩ := x
        rw [e] at h; cases h
        obtain ⟨h1, h2⟩ := cutAt_some e
        refine ⟨by rw [h1]; rfl, fun hm => ?_⟩
        rcases List.mem_cons.mp hm with z | hm
        · exact hc z.symm
        · exact h2 hm
theorem cutAt_none : ∀ {l : List Nat}, cutAt l = none ↔ 58 ∉ l
  | [] => by simp [cutAt]
  | c :: l => by
    unfold cutAt
    by_cases hc : c = 58
    · rw [if_pos hc]
      simp [hc]
    · rw [if_neg hc, Option.map_eq_none_iff, cutAt_none (l := l), List.mem_cons, not_or]
      exact ⟨fun h => ⟨fun z => hc z.symm, h⟩, fun h => h.2⟩
theorem cutAt_of : ∀ {p q : List Nat}, 58 ∉ p → cutAt (p ++ ([58] ++ q)) = some (p, q)
  | [], q, _ => if_pos rfl
  | c :: p, q, h => by
    show (if c = 58 then some ([], p ++ ([58] ++ q)) else (cutAt (p ++ ([58] ++ q))).map fun x => (c :: x.1, x.2)) = _
    rw [if_neg (fun z => h (by rw [z]; exact List.mem_cons_self)), cutAt_of fun z => h (List.mem_cons_of_mem _ z)]; rfl
/-- the tests of a text's head and tail -/
def headB (ns : List (List Nat)) (f : List Nat) : Bool := decide (f = []) && decide (ns.length ≤ 8) && namesB (nameD ns)
def tailB (rows : List (List Nat)) (n : Nat) : Bool := decide (rows.length ≤ 20) && rows.all fun r => rowB (.str (tx r)) n
def bookP (ns : List (List Nat)) : List (List Nat) → Option Bk
  | [] => none
  | f :: rows => if (headB ns f && tailB rows ns.length) = true then some (ns, rows) else none
def bookQ (l : List Nat) : Option Bk := (cutAt l).bind fun x => bookP (splitL x.1) (splitL x.2)
theorem bookQ_tx {ls rs : List (List Nat)} (h : BookOk ls rs) : bookQ (bookTx ls rs) = some (ls, rs) := by
  unfold bookQ
  rw [bookTx_eq, cutAt_of h.h58]
  show bookP (splitL (TL.joinL [32] ls)) (splitL (TL.joinL [32] ([] :: rs))) = _
  rw [splitL_of (fun e => by have := h.names.lo; rw [e] at this; cases this) h.h32, splitL_of (by simp) h.r32]
  refine if_pos ?_
  unfold headB tailB
  rw [decide_eq_true rfl, decide_eq_true h.names.hi, names_ok h.names, decide_eq_true h.few, List.all_eq_true.mpr fun r hr => row_ok (h.rows r hr) h.names.lo h.names.hi]; rfl
theorem okS_codes {l : List Nat} (h : okS (tx l)) : ∀ c ∈ l, c < 1114112 := fun c hc => by
  have h : (tx l).cps.all (fun c => decide (c < 1114112)) = true := h
  rw [← Array.all_toList, List.all_eq_true, tx_cps] at h
  exact of_decide_eq_true (h c hc)
def pairD (b : Bk) : D := .tup [.tup (nameD b.1), .tup (nameD b.2)]
def bookOf : D → Option Bk
  | .str x => bookQ x.cps.toList
  | _ => none
def optD : Option Bk → D
  | some b => pairD b
  | none => .non
/-- a text that is not long beyond sense -/
def shT : D → Bool
  | .str x => decide (x.length ≤ 15000)
  | _ => true
def spReadG : Spc where
  ty := D
  args := fun d => [d]
  ok := fun d => Pv d ∧ shT d = true
  rel := fun d e => e = optD (bookOf d)
theorem bookOf_tx {ls rs : List (List Nat)} (h : BookOk ls rs) : bookOf (.str (tx (bookTx ls rs))) = some (ls, rs) := by
  show bookQ (tx (bookTx ls rs)).cps.toList = _
  rw [tx_cps]; exact bookQ_tx h
theorem not_str {d : D} (h : isStrB d = false) : bookOf d = none := by cases d <;> first | rfl | exact nomatch h
theorem bk_none {l : List Nat} (h : bookQ l = none) : D.non = optD (bookOf (.str (tx l))) := by
  show _ = optD (bookQ (tx l).cps.toList)
  rw [tx_cps, h]; rfl
end K37

namespace K37
open PySem PySem.Spec PyProof.Rows L2 Dw
variable [Tabs0]
theorem d_read_book {P : Program} {w : World} {K : PySem.W.Frag} {mg : Str → Option Value} {base : Heap} (T : Txt K w mg) : FnOk P w K mg base CX0 3 T.f_read_book T.e_read_book ["text"] (toSp (spReadG)) := by
  refine fn_ok T.F_read_book sc_read_book (fun _ => rfl) fun cdv A outer s' H E hr => ?_
  refine ⟨_, (pss_cons (ps_if (PW.pt (pw_or (pt_not (truA K (pe_callB (isiA K) (by rfl) T.n_isinstance (by decide +kernel) (pa_cons (pv 0) (pa_cons (pe_bltn (v := .ty "str") (by rfl) T.n_str (by decide +kernel) rfl) pa_nil))))) (pw_or1 (pt_cmpR (ninA K) pe_str (pv 0) (by rfl))))) (pss_one (ps_ret pe_non)) pss_nil) (pss_cons (ps_asg (pe_partition (pv 0) pe_str) (tupA K 3 rfl (pgs_cons (pg_name (i := 1) sc_read_book.nd rfl (Or.inl rfl)) (pgs_cons (pg_name (i := 2) sc_read_book.nd rfl (Or.inl rfl)) (pgs_cons (pg_name (i := 3) sc_read_book.nd rfl (Or.inl rfl)) pgs_nil))))) (pss_cons (ps_set (i := 4) sc_read_book.nd rfl (Or.inr rfl) (pe_callTy (tupleA K) (by rfl) T.n_tuple (by decide +kernel) (pa_cons (pe_split (pv 1) pe_str) pa_nil))) (pss_cons (ps_asg (pe_split (pv 3) pe_str) (star1XA K rfl (pg_name (i := 5) sc_read_book.nd rfl (Or.inl rfl)) (pg_name (i := 6) sc_read_book.nd rfl (Or.inl rfl)))) (pss_cons (ps_if (PW.pt (pw_or (pt_cmpR (neA K hr.units) (pv 5) pe_str (nomark _)) (pw_or (pt_cmpR opGt (pe_callB (lenA K) (by rfl) T.n_len (by decide +kernel) (pa_cons (pv 4) pa_nil)) (pe_glob (v := .int 8) (by rfl) T.c_MOST_RULES ⟨_, rfl⟩) (nomark _)) (pw_or1 (pt_not (truA K (pe_call (d_are_names T) (hr.mono (by decide)) (by rfl) T.m_are_names T.F_are_names.kp T.b_are_names .nil pass0 (pa_cons (pv 4) pa_nil)))))))) (pss_one (ps_ret pe_non)) pss_nil) (pss_cons (ps_if (PW.pt (pw_or (pt_cmpR opGt (pe_callB (lenA K) (by rfl) T.n_len (by decide +kernel) (pa_cons (pv 6) pa_nil)) (pe_glob (v := .int 20) (by rfl) T.c_MOST_ROWS ⟨_, rfl⟩) (nomark _)) (pw_or1 (pt_not (truA K (pe_callB (allA K) (by rfl) T.n_all (by decide +kernel) (pa_cons (pe_lc (own := [("row", 7)]) rfl sc_read_book.nd (piR K (pv 6)) (blkOk_by (own := [("row", 7)]) (N := N_read_book) (sc := (defScope s_read_book)) (by decide +kernel)) (fun _ _ _ _ _ => pg_name (i := 7) sc_read_book.nd rfl (Or.inl rfl)) (fun _ _ _ _ _ => pts_nil) (fun _ _ _ _ _ => (pe_call (d_is_row T) (hr.mono (by decide)) (by rfl) T.m_is_row T.F_is_row.kp T.b_is_row .nil pass0 (pa_cons (pv 7) (pa_cons (pe_callB (lenA K) (by rfl) T.n_len (by decide +kernel) (pa_cons (pv 4) pa_nil)) pa_nil))))) pa_nil))))))) (pss_one (ps_ret pe_non)) pss_nil) (pss_one (ps_ret (pe_tup (pa_cons (pv 4) (pa_cons (pe_callTy (tupleA K) (by rfl) T.n_tuple (by decide +kernel) (pa_cons (pv 6) pa_nil)) pa_nil))))))))))), fun x hx => ?_⟩
  obtain ⟨d, rfl⟩ : ∃ l : D, l = x := ⟨x, rfl⟩
  obtain ⟨hd, hsh⟩ := hx
  have hd : Pv d := hd
  by_cases hs : isStrB d = true
  · obtain ⟨s, rfl⟩ := str_of hs
    obtain ⟨l, rfl⟩ : ∃ l, s = tx l := ⟨_, of_tx s⟩
    have hc := hd.str.1
    have hl : l.length ≤ 15000 := by
      have : decide ((tx l).length ≤ 15000) = true := hsh
      rw [tx_len] at this
      exact of_decide_eq_true this
    have hz : (tx l).length ≤ sizeLine := small (by rw [tx_len]; omega)
    have e58 := nin_code (K := K) (l := l) (c := 58)
    rw [show ch 58 = Str.ofString ":" by decide +kernel] at e58
    refine ds_seq (ds_if (EvT.dl (b := false || !decide (58 ∈ l)) (evt_or (a := false) (b := !decide (58 ∈ l)) (evt_not (a := true) (evt_tru_bl (ev_isi (ev_var rfl) ev_raw (.inl rfl) (.ty "str") rfl))) fun _ => evt_test (ev_op ev_str (ev_var rfl) e58)) ⟨fun h => ds_ret (Ev.dl ev_non (bk_none ?no)), fun h => ds_next ?_⟩))
    case no =>
      have : 58 ∉ l := by simpa using h
      unfold bookQ
      rw [cutAt_none.mpr this]; rfl
    obtain ⟨p, q, e⟩ : ∃ p q, cutAt l = some (p, q) := by
      cases e : cutAt l with
      | none => exact absurd (cutAt_none.mp e) (by simpa using h)
      | some x => exact ⟨x.1, x.2, rfl⟩
    obtain ⟨el, h58⟩ := cutAt_some e
    have eb : bookQ l = bookP (splitL p) (splitL q) := by
      unfold bookQ
      rw [e]; rfl
    have lpq : p.length + q.length ≤ l.length := by rw [el]; simp
    have hp : Txt.partition (tx l) (Str.ofString ":") = (tx p, tx [58], tx q) := by rw [el]; exact part_sp h58
    refine ds_seq (ds_asg_g (Ev.dl (ev_cast (d' := .tup [.str (tx p), .str (tx [58]), .str (tx q)]) (by rw [hp]) (ev_partition (ev_var rfl) ev_str (by decide +kernel) hz)) ⟨[1] ++ ([2] ++ [3]), _, dg_tup3 dg_name dg_name dg_name, ?_⟩))
    refine ds_seq (ds_asg (Ev.dl (ev_cast (d' := .tup (nameD (splitL p))) ?e1 (ev_tuple (EvN.b (evn_split (a := tx p) (ev_var rfl) ev_str (by decide +kernel) ?z1)))) ?_))
    case e1 => rw [splitS, nameD_map]
    case z1 => rw [tx_len]; exact small (by omega)
    have lq := splitL_len q
    cases eq : splitL q with
    | nil => exact absurd eq (splitL_ne q)
    | cons f rows =>
      rw [eq, List.length_cons] at lq
      have eb : bookQ l = if (headB (splitL p) f && tailB rows (splitL p).length) = true then some (splitL p, rows) else none := by rw [eb, eq]; rfl
      refine ds_seq (ds_starL (Ev.dl (EvN.ev (evn_split (a := tx q) (ev_var rfl) ev_str (by decide +kernel) ?z2)) ⟨.str (tx f), nameD rows, .inl ?e2, ?z3, ?_⟩))
      case e2 => rw [splitS, eq]; show D.lst ((tx f :: rows.map tx).map D.str) = _; rw [List.map_cons, nameD_map]
      case z2 => rw [tx_len]; exact small (by omega)
      case z3 => unfold nameD; rw [List.length_map]; omega
      have l1 : (nameD (splitL p)).length = (splitL p).length := List.length_map ..
      have l2 : (nameD rows).length = rows.length := List.length_map ..
      have sub := splitL_sub p
      have subq := splitL_sub q
      have codes : ∀ c ∈ l, c < 1114112 := fun c hc' => okS_codes hc c hc'
      have pcodes : ∀ c ∈ p, c ∈ l := fun c hc' => by rw [el]; exact List.mem_append_left _ hc'
      have qcodes : ∀ c ∈ q, c ∈ l := fun c hc' => by rw [el]; simp [hc']
      have t1 : (!decide (f = [])) = (!decide (tx f = Str.ofString "")) := by
        congr 1
        rw [show Str.ofString "" = tx [] by decide +kernel]
        exact decide_eq_decide.mpr tx_eq.symm
      refine ds_seq (ds_if (EvT.dl (b := !headB (splitL p) f) ?hd ⟨fun h2 => ds_ret (Ev.dl ev_non (bk_none ?no2)), fun h2 => ds_next ?_⟩))
      case hd =>
        have e3 : (!headB (splitL p) f) = (!decide (f = []) || (!decide ((splitL p).length ≤ 8) || !namesB (nameD (splitL p)))) := by
          unfold headB
          cases decide (f = []) <;> cases decide ((splitL p).length ≤ 8) <;> cases namesB (nameD (splitL p)) <;> rfl
        rw [e3]
        refine evt_or (evt_test (ev_op (ev_var rfl) ev_str (ne_sb t1.symm))) fun _ => evt_or (evt_test (ev_op (ev_lenT (ds := nameD (splitL p)) (ev_var rfl)) ev_int (gt_b ?g))) fun h9 => evt_not (evt_tru_bl (ev_call (s := spNamesG) (x := nameD (splitL p)) (eva_cons (ev_var rfl) eva_nil) (np_tup (np_name _)) ?pv fun d h => h))
        case g =>
          rw [l1]
          have : decide ((8 : Int) < ((splitL p).length : Int)) = !decide ((splitL p).length ≤ 8) := by
            rw [← decide_not]
            exact decide_eq_decide.mpr (by omega)
          exact this
        case pv =>
          have h9 : (splitL p).length ≤ 8 := by simpa using h9
          show (decide ((nameD (splitL p)).length ≤ 60) && plBs 11 (nameD (splitL p))) = true
          rw [l1, decide_eq_true (by omega), Bool.true_and, plBs_iff]
          intro d hd'
          obtain ⟨w, hw, rfl⟩ := List.mem_map.mp hd'
          obtain ⟨s1, s2⟩ := sub w hw
          exact pv_strs (fun c hc' => codes c (pcodes c (s2 c hc'))) (by omega)
      case no2 =>
        rw [eb, if_neg]
        rw [Bool.not_eq_true'] at h2
        rw [h2]; simp
      rw [Bool.not_eq_false'] at h2
      have h2' := h2
      unfold headB at h2'
      rw [Bool.and_eq_true, Bool.and_eq_true, decide_eq_true_eq, decide_eq_true_eq] at h2'
      refine ds_seq (ds_if (EvT.dl (b := !tailB rows (splitL p).length) ?tl ⟨fun h3 => ds_ret (Ev.dl ev_non (bk_none ?no3)), fun h3 => ds_next ?_⟩))
      case tl =>
        have e3 : (!tailB rows (splitL p).length) = (!decide (rows.length ≤ 20) || !rows.all fun r => rowB (.str (tx r)) (splitL p).length) := by
          unfold tailB
          cases decide (rows.length ≤ 20) <;> rfl
        rw [e3]
        refine evt_or (evt_test (ev_op (ev_len (ds := nameD rows) (ev_var rfl).b) ev_int (gt_b ?g2))) fun h9 => evt_not (evt_tru_bl (ev_all_lc (K := K) (xs := rows) (c := fun l => .str (tx l)) (b := fun r => rowB (.str (tx r)) (splitL p).length) (ej_list (ev_var (d := .lst (nameD rows)) rfl).b) ?z4 fun r hr' => ⟨[7], _, dg_name, fun i hi => hi, evt_yes, ev_call (s := spRowO T.C_Book) (x := (.str (tx r), (splitL p).length)) (eva_cons (ev_var rfl) (eva_cons (ev_cast (congrArg (fun n : Nat => D.int n) l1) (ev_lenT (ds := nameD (splitL p)) (ev_var rfl))) eva_nil)) rfl (.inl ?pr) fun d h => h⟩))
        case g2 =>
          rw [l2]
          have : decide ((20 : Int) < (rows.length : Int)) = !decide (rows.length ≤ 20) := by
            rw [← decide_not]
            exact decide_eq_decide.mpr (by omega)
          exact this
        case z4 => omega
        case pr =>
          obtain ⟨s1, s2⟩ := subq r (by rw [eq]; exact List.mem_cons_of_mem _ hr')
          exact pv_strs (fun c hc' => codes c (qcodes c (s2 c hc'))) (by omega)
      case no3 =>
        rw [eb, if_neg]
        rw [Bool.not_eq_true'] at h3
        rw [h3]; simp
      rw [Bool.not_eq_false'] at h3
      refine ds_ret (Ev.dl (ev_tup (eva_cons (ev_var rfl) (eva_cons (ev_tuple (ev_var (d := .lst (nameD rows)) rfl).b) eva_nil)) (small (show 2 ≤ 100000 by decide))) ?_)
      show _ = optD (bookQ (tx l).cps.toList)
      rw [tx_cps, eb, h2, h3]; rfl
  · have hs : isStrB d = false := by simpa using hs
    refine ds_seq (ds_if (EvT.dl (b := true) (evt_or (a := true) (b := false) (evt_not (a := false) (evt_tru_bl (ev_isi (ev_var rfl) ev_raw (.inl hd.ty) (.ty "str") (by rw [kit_str hd.ty, hs])))) fun h => (nomatch h)) ⟨fun _ => ds_ret (Ev.dl ev_non ?_), fun h => (nomatch h)⟩))
    show D.non = optD (bookOf d)
    rw [not_str hs]; rfl

end K37

namespace K37
open PySem PySem.Spec PyProof.Rows L2 Dw
variable [Tabs0]
/-! books made of texts, by any reading -/
theorem sh_book {ls rs : List (List Nat)} (h : BookOk ls rs) : shT (.str (tx (bookTx ls rs))) = true := decide_eq_true (Nat.le_trans h.len (by decide))
theorem joinX_all {p : Nat → Prop} (h32 : p 32) : ∀ ls : List (List Nat), (∀ l ∈ ls, ∀ c ∈ l, p c) → ∀ c ∈ TL.joinL [32] ls, p c
  | [], _, c, hc => absurd hc (by simp [TL.joinL])
  | [l], h, c, hc => h l List.mem_cons_self c (by simpa [TL.joinL] using hc)
  | l :: m :: r, h, c, hc => by
    rw [joinX_cons l (r := m :: r) (by simp), List.mem_append, List.mem_append] at hc
    rcases hc with hc | hc | hc
    · exact h l List.mem_cons_self c hc
    · rw [List.mem_singleton.mp hc]; exact h32
    · exact joinX_all h32 (m :: r) (fun l' hl => h l' (List.mem_cons_of_mem _ hl)) c hc
theorem bookX_codes {ls rs : List (List Nat)} (h : BookOk ls rs) : ∀ c ∈ bookTx ls rs, c < 1114112 := by
  unfold bookTx
  refine joinX_all (p := fun c => c < 1114112) (by decide) _ fun l hl c hc => ?_
  rcases List.mem_cons.mp hl with rfl | hl
  · rcases List.mem_append.mp hc with hc | hc
    · refine joinX_all (p := fun c => c < 1114112) (by decide) _ (fun l hl c hc => ?_) c hc
      have := ((h.names.all l hl).all c hc).2
      omega
    · rw [List.mem_singleton.mp hc]; decide
  · exact ((h.rows l hl).all c hc).lt
theorem pv_book {ls rs : List (List Nat)} (h : BookOk ls rs) : Pv (.str (tx (bookTx ls rs))) := pv_strs (bookX_codes h) (by have := h.len; rw [tx_len] at this; omega)
theorem opt_book {ls rs : List (List Nat)} (h : BookOk ls rs) : optD (bookOf (.str (tx (bookTx ls rs)))) = .tup [.tup (nameD ls), .tup (nameD rs)] := by
  rw [bookOf_tx h]; rfl
end K37

namespace K37
open PySem PySem.Spec PyProof.Rows L2 Dw
variable [Tabs0]
theorem d_Book___init__ {P : Program} {w : World} {K : PySem.W.Frag} {mg : Str → Option Value} {base : Heap} (T : Txt K w mg) : FnOk P w K mg base CX0 4 T.f_Book___init__ T.e_Book___init__ ["self", "text"] (toIn T.C_Book ["_text", "_names", "_rows"] spInit) := by
  refine in_ok T.F_Book___init__ sc_Book___init__ (fun _ => rfl) fun cdv A outer s' H E hr => ?_
  refine ⟨_, (pss_cons (ps_set (i := 2) sc_Book___init__.nd rfl (Or.inl rfl) (pe_call (d_read_book T) (hr.mono (by decide)) (by rfl) T.m_read_book T.F_read_book.kp T.b_read_book .nil pass0 (pa_cons (pv 1) pa_nil))) (pss_cons (ps_if (pt_cmpR op_isN (pv 2) pe_non (nomark _)) (pss_one ps_never) pss_nil) (pss_cons (ps_fld (pv 0) (pv 1) rfl) (pss_one (ps_asg (pv 2) (tupA K 2 rfl (pgs_cons (pg_fld (pv 0)) (pgs_cons (pg_fld (pv 0)) pgs_nil)))))))), fun x hx a => ?_⟩
  obtain ⟨ls, rs⟩ := x
  have hb : BookOk ls rs := hx
  refine di_seq (di_of (ds_asg (Ev.dl (ev_call (s := spReadG) (d := .tup [.tup (nameD ls), .tup (nameD rs)]) (x := .str (tx (bookTx ls rs))) (eva_cons (ev_var rfl) eva_nil) rfl ⟨pv_book hb, sh_book hb⟩ fun d h => by rw [h]; exact opt_book hb) ?_)))
  refine di_seq (di_of (ds_if (EvT.dl (b := false) (evt_test (ev_op (ev_var rfl) ev_non (dr2_isN fun W v h => ?_))) ⟨fun h => (nomatch h), fun _ => ds_next ?_⟩)))
  · obtain ⟨p, vs, e, _⟩ := h
    rw [e]; exact decide_eq_false fun h => nomatch h
  refine di_seq (di_fld T.cl_Book T.no_text (by simp) (by decide) (ev_var rfl) (ev_var rfl) ?_)
  exact di_fld2 T.cl_Book T.no_names T.no_rows (by decide +kernel) (by decide +kernel) (by decide) (ev_var rfl) (ev_var rfl) ⟨rfl, rfl⟩


end K37

namespace K37
open PySem PySem.Spec PyProof.Rows L2 Dw
variable [Tabs0]
def spCkRow : Spc where
  ty := List Nat × Nat
  args := fun x => [.str (tx x.1), .int x.2]
  ok := fun x => RowOk x.1 x.2 ∧ 1 ≤ x.2 ∧ x.2 ≤ 8
  rel := fun _ d => d = .non
theorem nameD_app (a b : List (List Nat)) : nameD a ++ nameD b = nameD (a ++ b) := by unfold nameD; rw [List.map_append]
theorem rows_app {rs qs : List (List Nat)} {n : Nat} (h1 : ∀ r ∈ rs, RowOk r n) (h2 : ∀ r ∈ qs, RowOk r n) : ∀ r ∈ rs ++ qs, RowOk r n := fun r hr => by
  rcases List.mem_append.mp hr with h | h
  · exact h1 r h
  · exact h2 r h
theorem rows_one {r : List Nat} {n : Nat} (h : RowOk r n) : ∀ q ∈ [r], RowOk q n := fun q hq => by rw [List.mem_singleton.mp hq]; exact h
theorem BookOk.snoc {ls rs : List (List Nat)} {r : List Nat} (h : BookOk ls rs) (hr : RowOk r ls.length) (h2 : rs.length < 20) : BookOk ls (rs ++ [r]) := ⟨h.names, by rw [List.length_append]; show rs.length + 1 ≤ 20; omega, rows_app h.rows (rows_one hr)⟩
end K37

namespace K37
open PySem PySem.Spec PyProof.Rows L2 Dw
variable [Tabs0]
/-! the numbers are those of the rankings that fit -/
theorem nodup_ext {α : Type} [DecidableEq α] : ∀ {l m : List α}, l.Nodup → m.Nodup → (∀ a, a ∈ l ↔ a ∈ m) → l.Perm m
  | [], m, _, _, h => by
    cases m with
    | nil => exact .refl _
    | cons x m => exact absurd ((h x).mpr List.mem_cons_self) (by simp)
  | x :: l, m, nl, nm, h => by
    have hx : x ∈ m := (h x).mp List.mem_cons_self
    have p := List.perm_cons_erase hx
    obtain ⟨n1, n2⟩ := List.nodup_cons.mp nl
    refine ((nodup_ext (m := m.erase x) n2 (nm.erase x) fun k => ?_).cons x).trans p.symm
    constructor
    · intro hk
      have hne : k ≠ x := fun e => n1 (by rw [← e]; exact hk)
      exact (List.mem_erase_of_ne hne).mpr ((h k).mp (List.mem_cons_of_mem _ hk))
    · intro hk
      have hk2 := List.mem_of_mem_erase hk
      have hne : k ≠ x := fun e => by
        subst e
        exact nm.not_mem_erase hk
      rcases List.mem_cons.mp ((h k).mpr hk2) with e | e
      · exact absurd e hne
      · exact e
/-- a way through the heads from head on -/
inductive Way (rs : List (List Nat)) (n : Nat) : Nat → List Nat → Prop
  | done : Way rs n (2 ^ n - 1) []
  | step (head k : Nat) (o : List Nat) (h : head ≠ 2 ^ n - 1) (hk : k < n) (ho : openBit rs head k = true) (w : Way rs n (head ||| 2 ^ k) o) : Way rs n head (k :: o)
theorem or_bit (head k j : Nat) : (head ||| 2 ^ k).testBit j = (head.testBit j || decide (k = j)) := by rw [Nat.testBit_or, Nat.testBit_two_pow]
theorem full_bit {n head : Nat} (h : head < 2 ^ n) (hb : ∀ k < n, head.testBit k = true) : head = 2 ^ n - 1 := by
  apply Nat.eq_of_testBit_eq
  intro k
  rw [Nat.testBit_two_pow_sub_one]
  by_cases hk : k < n
  · rw [hb k hk]; simp [hk]
  · rw [Nat.testBit_lt_two_pow (Nat.lt_of_lt_of_le h (Nat.pow_le_pow_right (by decide) (by omega)))]; simp [hk]
/-- ways are orders of the other rules -/
theorem way_mem {rs : List (List Nat)} {n : Nat} {head : Nat} {o : List Nat} (w : Way rs n head o) : o.Nodup ∧ ∀ k, k ∈ o ↔ k < n ∧ head.testBit k = false := by
  induction w with
  | done => exact ⟨List.nodup_nil, fun k => ⟨fun h => absurd h (by simp), fun ⟨h1, h2⟩ => by rw [Nat.testBit_two_pow_sub_one] at h2; simp [h1] at h2⟩⟩
  | step head k o h hk ho w ih =>
    obtain ⟨nd, mem⟩ := ih
    have kb := open_bit ho
    have kno : k ∉ o := fun z => by
      have := ((mem k).mp z).2
      rw [or_bit] at this; simp at this
    refine ⟨List.nodup_cons.mpr ⟨kno, nd⟩, fun j => ?_⟩
    rw [List.mem_cons, mem j, or_bit]
    constructor
    · rintro (rfl | ⟨a, b⟩)
      · exact ⟨hk, kb⟩
      · rw [Bool.or_eq_false_iff] at b
        exact ⟨a, b.1⟩
    · rintro ⟨a, b⟩
      by_cases e : j = k
      · exact .inl e
      · exact .inr ⟨a, by rw [b]; simpa using fun z => e z.symm⟩
theorem holds_cons {r : List Nat} (k : Nat) (o : List Nat) : holdsB r (k :: o) = if sgn r k = 46 then holdsB r o else decide (sgn r k = 43) := by
  by_cases z : sgn r k = 46
  · rw [if_pos z]
    have : holdsB r ([k] ++ o) = holdsB r o := holds_pre fun j hj => by rw [List.mem_singleton.mp hj]; exact z
    exact this
  · rw [if_neg z]
    unfold holdsB told
    rw [List.map_cons, List.filter_cons_of_pos (by simp [z])]
/-- rows that no plus settles yet hold along the rest of a way, and only then is it a way -/
theorem way_iff {rs : List (List Nat)} {n : Nat} (hs : ∀ r ∈ rs, ∀ c, sgn r c = 43 ∨ sgn r c = 45 ∨ sgn r c = 46) : ∀ (o : List Nat) (head : Nat), head < 2 ^ n → o.Nodup → (∀ k, k ∈ o ↔ k < n ∧ head.testBit k = false) → (Way rs n head o ↔ ∀ r ∈ rs, sideM 43 r &&& head = 0 → holdsB r o = true)
  | [], head, h, nd, mem => by
    have e : head = 2 ^ n - 1 := full_bit h fun k hk => by
      cases q : head.testBit k with
      | true => rfl
      | false => exact absurd ((mem k).mpr ⟨hk, q⟩) (by simp)
    subst e
    exact ⟨fun _ r hr _ => rfl, fun _ => .done⟩
  | k :: o, head, h, nd, mem => by
    obtain ⟨n1, n2⟩ := List.nodup_cons.mp nd
    obtain ⟨kn, kb⟩ := (mem k).mp List.mem_cons_self
    have hne : head ≠ 2 ^ n - 1 := fun e => by
      rw [e, Nat.testBit_two_pow_sub_one] at kb
      simp [kn] at kb
    have h2 : head ||| 2 ^ k < 2 ^ n := Nat.or_lt_two_pow h (Nat.pow_lt_pow_right (by decide) kn)
    have mem2 : ∀ j, j ∈ o ↔ j < n ∧ (head ||| 2 ^ k).testBit j = false := fun j => by
      rw [or_bit]
      constructor
      · intro hj
        obtain ⟨a, b⟩ := (mem j).mp (List.mem_cons_of_mem _ hj)
        have : k ≠ j := fun e => n1 (e ▸ hj)
        exact ⟨a, by rw [b]; simp [this]⟩
      · rintro ⟨a, b⟩
        rw [Bool.or_eq_false_iff] at b
        have hj := (mem j).mpr ⟨a, b.1⟩
        exact (List.mem_cons.mp hj).resolve_left fun e => by
          subst e; simp at b
    have ih := way_iff hs o (head ||| 2 ^ k) h2 n2 mem2
    have plus : ∀ r, sideM 43 r &&& (head ||| 2 ^ k) = 0 ↔ sideM 43 r &&& head = 0 ∧ sgn r k ≠ 43 := fun r => by
      rw [and_zero, and_zero]
      constructor
      · intro hx
        refine ⟨fun j ⟨a, b⟩ => hx j ⟨a, by rw [or_bit, b]; rfl⟩, fun z => hx k ⟨?_, by rw [or_bit]; simp⟩⟩
        rw [side_bit (by decide)]; exact decide_eq_true z
      · rintro ⟨hx, hz⟩ j ⟨a, b⟩
        rw [or_bit, Bool.or_eq_true] at b
        rcases b with b | b
        · exact hx j ⟨a, b⟩
        · have e : k = j := of_decide_eq_true b
          subst e
          rw [side_bit (by decide)] at a
          exact hz (of_decide_eq_true a)
    have ob : openBit rs head k = true ↔ ∀ r ∈ rs, sideM 43 r &&& head = 0 → sgn r k ≠ 45 := by
      unfold openBit
      rw [kb, Bool.not_false, Bool.true_and, List.all_eq_true]
      constructor
      · intro hx r hr hz z
        have := hx r hr
        rw [decide_eq_true hz, decide_eq_true z] at this; cases this
      · intro hx r hr
        by_cases hz : sideM 43 r &&& head = 0
        · rw [decide_eq_false (hx r hr hz)]; simp
        · rw [decide_eq_false hz]; rfl
    constructor
    · intro w
      cases w with
      | step _ _ _ _ _ ho w =>
        intro r hr hz
        rw [holds_cons]
        have h45 := ob.mp ho r hr hz
        rcases hs r hr k with z | z | z
        · rw [if_neg (by rw [z]; decide), z]; rfl
        · exact absurd z h45
        · rw [if_pos z]
          exact ih.mp w r hr ((plus r).mpr ⟨hz, by rw [z]; decide⟩)
    · intro hx
      refine .step head k o hne kn (ob.mpr fun r hr hz z => ?_) (ih.mpr fun r hr hz => ?_)
      · have := hx r hr hz
        rw [holds_cons, if_neg (by rw [z]; decide), z] at this
        exact absurd this (by decide)
      · obtain ⟨a, b⟩ := (plus r).mp hz
        have := hx r hr a
        rw [holds_cons] at this
        rcases hs r hr k with z | z | z
        · exact absurd z b
        · rw [if_neg (by rw [z]; decide), z] at this
          exact absurd this (by decide)
        · rw [if_pos z] at this; exact this
end K37

namespace K37
open PySem PySem.Spec PyProof.Rows L2 Dw
variable [Tabs0]
/-! numbers of rankings: flows over the heads; a row and its opposite; all of them -/
theorem flip_sgn {l : List Nat} {n : Nat} (h : RowOk l n) (k : Nat) (hk : k < n) : sgn (flipped l) k = flip1 (sgn l k) := by
  have hl : k < l.length := by rw [h.len]; exact hk
  unfold sgn flipped
  rw [List.getD_eq_getElem?_getD, List.getElem?_map, List.getD_eq_getElem?_getD, List.getElem?_eq_getElem hl]; rfl
/-- of a row with a sign, just one of it and its opposite holds -/
theorem flip_holds {l : List Nat} {n : Nat} (h : RowOk l n) : ∀ o : List Nat, (∀ k ∈ o, k < n) → (∃ k ∈ o, sgn l k ≠ 46) → holdsB (flipped l) o = !holdsB l o
  | [], _, hx => by obtain ⟨k, hk, _⟩ := hx; cases hk
  | k :: o, hk, hx => by
    have e := flip_sgn h k (hk k List.mem_cons_self)
    have e1 : ∀ l : List Nat, sgn l k = 46 → holdsB l (k :: o) = holdsB l o := fun l z => by
      have : holdsB l ([k] ++ o) = holdsB l o := holds_pre fun j hj => by rw [List.mem_singleton.mp hj]; exact z
      exact this
    have e2 : ∀ l : List Nat, sgn l k ≠ 46 → holdsB l (k :: o) = decide (sgn l k = 43) := fun l z => by
      unfold holdsB told
      rw [List.map_cons, List.filter_cons_of_pos (by simp [z])]
    rcases sgn_is h k with z | z | z
    · have z2 : sgn (flipped l) k = 45 := by rw [e, z]; rfl
      rw [e2 l (by rw [z]; decide), e2 _ (by rw [z2]; decide), z, z2]; rfl
    · have z2 : sgn (flipped l) k = 43 := by rw [e, z]; rfl
      rw [e2 l (by rw [z]; decide), e2 _ (by rw [z2]; decide), z, z2]; rfl
    · have z2 : sgn (flipped l) k = 46 := by rw [e, z]; rfl
      rw [e1 l z, e1 _ z2]
      refine flip_holds h o (fun j hj => hk j (List.mem_cons_of_mem _ hj)) ?_
      obtain ⟨j, hj, hn⟩ := hx
      rcases List.mem_cons.mp hj with rfl | hj
      · exact absurd z hn
      · exact ⟨j, hj, hn⟩
/-! all of them -/
/-! the ways to come to a head -/
def opIn (head : Nat) (ways : List Nat) (k : Nat) : List Nat := ways.set (head ||| 2 ^ k) (ways.getD (head ||| 2 ^ k) 0 + ways.getD head 0)
structure StepB (B : List (List Nat)) : Prop where
  lo : 1 ≤ B.length
  up : ∀ g, g < B.length → ∀ k ∈ B.getD g [], g < g ||| 2 ^ k ∧ g ||| 2 ^ k < B.length
/-! sums -/
/-! how many a head holds -/
def pc (n h : Nat) : Nat := ((List.range n).filter fun k => h.testBit k).length
theorem fil_one {k : Nat} {p : Nat → Bool} (hp : p k = false) : ∀ {l : List Nat}, l.Nodup → k ∈ l → (l.filter fun j => p j || decide (k = j)).length = (l.filter p).length + 1
  | [], _, h => absurd h (by simp)
  | a :: l, nd, h => by
    obtain ⟨n1, n2⟩ := List.nodup_cons.mp nd
    by_cases e : k = a
    · subst e
      rw [List.filter_cons_of_pos (by simp), List.filter_cons_of_neg (by rw [hp]; decide), List.length_cons]
      congr 2
      refine List.filter_congr fun j hj => ?_
      have : decide (k = j) = false := decide_eq_false fun z => n1 (by rw [z]; exact hj)
      rw [this, Bool.or_false]
    · have hm : k ∈ l := (List.mem_cons.mp h).resolve_left e
      have ih := fil_one hp n2 hm
      rw [List.filter_cons, List.filter_cons]
      have : decide (k = a) = false := decide_eq_false e
      rw [this, Bool.or_false]
      split
      · rw [List.length_cons, List.length_cons, ih]
      · exact ih
theorem pc_or {n g k : Nat} (hk : k < n) (hb : g.testBit k = false) : pc n (g ||| 2 ^ k) = pc n g + 1 := by
  unfold pc
  rw [← fil_one hb List.nodup_range (List.mem_range.mpr hk)]
  congr 1
  exact List.filter_congr fun j _ => or_bit g k j
/-- the flow through the heads of one size -/
theorem steps_b (rs : List (List Nat)) (n : Nat) : StepB (stepsM rs n) := ⟨by rw [steps_len]; exact Nat.two_pow_pos n, fun g hg k hk => by
  rw [steps_len] at hg ⊢
  rw [steps_at hg] at hk
  obtain ⟨h1, h2⟩ := List.mem_filter.mp hk
  exact ⟨or_up (open_bit h2), Nat.or_lt_two_pow hg (Nat.pow_lt_pow_right (by decide) (List.mem_range.mp h1))⟩⟩
/-! lots and heads -/
theorem head_range : ∀ n, (lots n).map headOf = List.range (2 ^ n)
  | 0 => rfl
  | n + 1 => by
    show (lots n ++ (lots n).map (· ++ [n])).map headOf = _
    have e : ((lots n).map (· ++ [n])).map headOf = ((lots n).map headOf).map (2 ^ n + ·) := by
      rw [List.map_map, List.map_map]
      refine List.map_congr_left fun o _ => ?_
      show headOf (o ++ [n]) = 2 ^ n + headOf o
      rw [headOf_snoc, Nat.add_comm]
    rw [List.map_append, e, head_range n, Nat.pow_succ, Nat.mul_two, List.range_add]
theorem lots_pc : ∀ (n : Nat) (o : List Nat), o ∈ lots n → pc n (headOf o) = o.length ∧ headOf o < 2 ^ n
  | 0, o, h => by
    rw [List.mem_singleton.mp h]
    exact ⟨rfl, by decide⟩
  | n + 1, o, h => by
    have up : ∀ g, pc (n + 1) g = pc n g + if g.testBit n = true then 1 else 0 := fun g => by
      unfold pc
      rw [List.range_succ, List.filter_append, List.length_append]
      congr 1
      cases q : g.testBit n with
      | true => rw [List.filter_cons_of_pos q]; rfl
      | false => rw [List.filter_cons_of_neg (by rw [q]; decide)]; rfl
    rcases List.mem_append.mp h with h | h
    · obtain ⟨a, b⟩ := lots_pc n o h
      rw [up, Nat.testBit_lt_two_pow b, if_neg (by decide), a]
      exact ⟨rfl, by rw [Nat.pow_succ]; omega⟩
    · obtain ⟨p, hp, rfl⟩ := List.mem_map.mp h
      obtain ⟨a, b⟩ := lots_pc n p hp
      have e := Nat.two_pow_add_eq_or_of_lt b 1
      rw [Nat.mul_one] at e
      have e' : headOf (p ++ [n]) = headOf p ||| 2 ^ n := by
        rw [headOf_snoc, Nat.add_comm, e, Nat.or_comm]
      refine ⟨?_, by rw [headOf_snoc, Nat.pow_succ]; omega⟩
      rw [e', pc_or (Nat.lt_succ_self n) (Nat.testBit_lt_two_pow b), up, Nat.testBit_lt_two_pow b, if_neg (by decide), a, List.length_append]; rfl
theorem rows_sgn {rs : List (List Nat)} {n : Nat} (hr : ∀ r ∈ rs, RowOk r n) : ∀ r ∈ rs, ∀ c, sgn r c = 43 ∨ sgn r c = 45 ∨ sgn r c = 46 := fun r h c => sgn_is (hr r h) c
/-! what the program's defs promise here -/
theorem atI_nat' {ds : List D} {i : Nat} {d : D} (h : ds[i]? = some d) : atI ds (i : Int) = some d := atI_nat h
end K37

namespace K37
open PySem PySem.Spec PyProof.Rows L2 Dw
variable [Tabs0]
/-! the heads that may stand before a rule -/
/-- a way through the heads, up to one -/
inductive Pre (rs : List (List Nat)) (n : Nat) : Nat → List Nat → Prop
  | nil : Pre rs n 0 []
  | snoc (h k : Nat) (p : List Nat) (hk : k < n) (ho : openBit rs h k = true) (w : Pre rs n h p) : Pre rs n (h ||| 2 ^ k) (p ++ [k])
theorem pre_bits {rs : List (List Nat)} {n h : Nat} {p : List Nat} (w : Pre rs n h p) : h < 2 ^ n ∧ ∀ j, h.testBit j = decide (j ∈ p) := by
  induction w with
  | nil => exact ⟨Nat.two_pow_pos n, fun j => by rw [Nat.zero_testBit]; simp⟩
  | snoc h k p hk ho w ih =>
    refine ⟨Nat.or_lt_two_pow ih.1 (Nat.pow_lt_pow_right (by decide) hk), fun j => ?_⟩
    rw [or_bit, ih.2 j, Bool.eq_iff_iff, Bool.or_eq_true, decide_eq_true_eq, decide_eq_true_eq, decide_eq_true_eq, List.mem_append, List.mem_singleton]
    exact or_congr Iff.rfl ⟨Eq.symm, Eq.symm⟩
theorem pre_way {rs : List (List Nat)} {n h : Nat} {p : List Nat} (w : Pre rs n h p) : ∀ {o : List Nat}, Way rs n h o → Way rs n 0 (p ++ o) := by
  induction w with
  | nil => exact fun w => w
  | snoc h k p hk ho w ih =>
    intro o wo
    have hne : h ≠ 2 ^ n - 1 := fun e => by
      have := open_bit ho
      rw [e, Nat.testBit_two_pow_sub_one] at this
      simp [hk] at this
    have := ih (.step h k o hne hk ho wo)
    rw [List.append_assoc]
    exact this
theorem way_split {rs : List (List Nat)} {n : Nat} : ∀ (q : List Nat) {h : Nat} {p o : List Nat}, Pre rs n h p → Way rs n h (q ++ o) → ∃ h', Pre rs n h' (p ++ q) ∧ Way rs n h' o
  | [], h, p, o, w, wo => ⟨h, by rw [List.append_nil]; exact w, wo⟩
  | k :: q, h, p, o, w, wo => by
    have wo : Way rs n h (k :: (q ++ o)) := wo
    cases wo with
    | step _ _ _ hne hk ho wo =>
      obtain ⟨h', a, b⟩ := way_split q (.snoc h k p hk ho w) wo
      exact ⟨h', by rw [List.append_assoc] at a; exact a, b⟩
theorem way_of {rs : List (List Nat)} {n : Nat} {p o : List Nat} (w : Way rs n 0 (p ++ o)) : ∃ h, Pre rs n h p ∧ Way rs n h o := by
  have := way_split p (h := 0) (p := []) (o := o) .nil w
  rwa [List.nil_append] at this
theorem way_fit {rs : List (List Nat)} {n : Nat} (hr : ∀ r ∈ rs, RowOk r n) {o : List Nat} : Way rs n 0 o ↔ o ∈ fitM rs n := by
  rw [fitM_mem]
  have key : o.Nodup → (∀ k, k ∈ o ↔ k < n ∧ (0 : Nat).testBit k = false) → (Way rs n 0 o ↔ ∀ r ∈ rs, holdsB r o = true) := fun h1 h2 => by
    rw [way_iff (rows_sgn hr) o 0 (Nat.two_pow_pos n) h1 h2]
    exact ⟨fun h r hr => h r hr (Nat.and_zero _), fun h r hr _ => h r hr⟩
  constructor
  · intro w
    obtain ⟨h1, h2⟩ := way_mem w
    refine ⟨?_, (key h1 h2).mp w⟩
    refine nodup_ext h1 List.nodup_range fun k => ?_
    rw [h2 k, List.mem_range, Nat.zero_testBit]
    exact ⟨fun h => h.1, fun h => ⟨h, rfl⟩⟩
  · rintro ⟨hp, hh⟩
    have h1 : o.Nodup := hp.nodup_iff.mpr List.nodup_range
    exact (key h1 fun k => by rw [hp.mem_iff, List.mem_range, Nat.zero_testBit]; exact ⟨fun h => ⟨h, rfl⟩, fun h => h.1⟩).mpr hh
theorem enum_lol (b : List (List Nat)) : enumD (lolD b) = (List.range b.length).map fun (h : Nat) => D.tup [.int h, .lst (ordD (b.getD h []))] := by
  have lb : (lolD b).length = b.length := List.length_map ..
  refine List.ext_getElem (by rw [enumD_length, lb, List.length_map, List.length_range]) fun i h1 h2 => ?_
  have hi : i < b.length := by rw [enumD_length, lb] at h1; exact h1
  obtain ⟨y, hy, e⟩ := enumD_get (List.getElem?_eq_getElem h1)
  rw [e, List.getElem_map, List.getElem_range]
  have := lolD_at hi
  rw [atI_nat' hy] at this
  rw [Option.some.inj this]
theorem tru_nat (a : Nat) : (((a : Nat) : Int) != 0) = decide (a ≠ 0) := by
  cases a with
  | zero => rfl
  | succ a => rw [decide_eq_true (by omega)]; simp; omega
theorem ev_inO {K : PySem.W.Frag} {Γ : Gam} {ta tb : TE} {r' : R2} {c : Nat} {l : List Nat} (ha : Ev ta Γ (.int c)) (h : EvB tb Γ (ordD l)) : Ev (tOp (rOr (rIn K false) r') ta tb) Γ (.bl (decide (c ∈ l))) := by
  have e := ev_in (neg := false) (K := K) (r' := r') ha h rfl (sc_ord l)
  rw [show scV (.int (c : Int)) = V.int (c : Int) from rfl, show inV (V.int (c : Int)) (List.map scV (ordD l)) = decide (c ∈ l) from inV_ord c l] at e
  exact e
end K37

namespace K37
open PySem PySem.Spec PyProof.Rows L2 Dw
variable [Tabs0]
/-! prefixes with a given head, counted -/
theorem head_bits {n : Nat} : ∀ {o : List Nat}, o ∈ lots n → ∀ j, (headOf o).testBit j = decide (j ∈ o) := by
  induction n with
  | zero =>
    intro o h j
    rw [List.mem_singleton.mp h]
    show (0 : Nat).testBit j = _
    rw [Nat.zero_testBit]; simp
  | succ n ih =>
    intro o h j
    rcases List.mem_append.mp h with h | h
    · exact ih h j
    · obtain ⟨p, hp, rfl⟩ := List.mem_map.mp h
      obtain ⟨a, b⟩ := lots_pc n p hp
      have e := Nat.two_pow_add_eq_or_of_lt b 1
      rw [Nat.mul_one] at e
      have e' : headOf (p ++ [n]) = headOf p ||| 2 ^ n := by
        rw [headOf_snoc, Nat.add_comm, e, Nat.or_comm]
      rw [e', or_bit, ih hp j, Bool.eq_iff_iff, Bool.or_eq_true, decide_eq_true_eq, decide_eq_true_eq, decide_eq_true_eq, List.mem_append, List.mem_singleton]
      exact or_congr Iff.rfl ⟨Eq.symm, Eq.symm⟩
/-! least and greatest places -/
end K37

namespace K37
open PySem PySem.Spec PyProof.Rows L2 Dw
variable [Tabs0]
def spRulesOf : Spc where
  ty := Nat × Nat
  args := fun x => [.int x.1, .int x.2]
  ok := fun x => x.2 ≤ 20
  rel := fun x d => d = .tup (ordD ((List.range x.2).filter fun k => x.1.testBit k))
end K37

namespace K37
open PySem PySem.Spec PyProof.Rows L2 Dw
variable [Tabs0]
theorem d_rules_of {P : Program} {w : World} {K : PySem.W.Frag} {mg : Str → Option Value} {base : Heap} (T : Txt K w mg) : FnOk P w K mg base CX0 1 T.f_rules_of T.e_rules_of ["head", "many"] (toSp (spRulesOf)) := by
  refine fn_ok T.F_rules_of sc_rules_of (fun _ => rfl) fun cdv A outer s' H E hr => ?_
  refine ⟨_, (pss_one (ps_ret (pe_callTy (tupleA K) (by rfl) T.n_tuple (by decide +kernel) (pa_cons (pe_lc (own := [("rule", 2)]) rfl sc_rules_of.nd (pi_range1 (by rfl) T.n_range (pa_cons (pv 1) pa_nil)) (blkOk_by (own := [("rule", 2)]) (N := N_rules_of) (sc := (defScope s_rules_of)) (by decide +kernel)) (fun _ _ _ _ _ => pg_name (i := 2) sc_rules_of.nd rfl (Or.inl rfl)) (fun _ _ _ _ _ => pts_one (truA K (pe_op op_and (pv 0) (pe_op op_shl pe_int (pv 2))))) (fun _ _ _ _ _ => (pv 2))) pa_nil)))), fun x hx => ?_⟩
  obtain ⟨h, n⟩ := x
  have h8 : n ≤ 20 := hx
  refine ds_ret (Ev.dl (ev_tuple (EvN.b (evn_lc (xs := List.range n) (c := fun k : Nat => D.int k) (p := fun k => h.testBit k) (f := fun k : Nat => D.int k) (ei_range (n := n) (eva_cons (ev_var rfl) eva_nil) (by omega)) (by rw [List.length_range]; omega) fun k hk => ⟨[2], _, dg_name, fun i hi => hi, ?_, fun _ => ev_var rfl⟩))) rfl)
  have hk := List.mem_range.mp hk
  have e := evt_tru_int (K := K) (Γ := [.val (.int (h : Nat)), .val (.int (n : Nat)), .val (.int (k : Nat))]) (ev_op (ev_var (i := 0) (d := .int (h : Nat)) rfl) (ev_op (ev_int (z := 1)) (ev_var (i := 2) rfl) (dr2_shl1 (k := k) (by omega))) (dr2_and (a := h) (b := 2 ^ k)))
  have e2 : (((h &&& 2 ^ k : Nat) : Int) != 0) = h.testBit k := by
    rw [tru_nat]
    have := two_bit (a := h) (k := k)
    by_cases q : h &&& 2 ^ k = 0
    · rw [decide_eq_true q] at this
      rw [decide_eq_false (by rw [q]; exact fun z => z rfl)]
      cases z : h.testBit k with
      | false => rfl
      | true => rw [z] at this; cases this
    · rw [decide_eq_false q] at this
      rw [decide_eq_true q]
      cases z : h.testBit k with
      | true => rfl
      | false => rw [z] at this; cases this
  rw [e2] at e
  exact e
end K37

namespace K37
open PySem PySem.Spec PyProof.Rows L2 Dw
variable [Tabs0]
/-! lots in order, and the least ones -/
theorem bits_head {n : Nat} {o : List Nat} (h : o ∈ lots n) : ((List.range n).filter fun k => (headOf o).testBit k) = o := by
  have ok := lots_ok n o h
  have e : ((List.range n).filter fun k => (headOf o).testBit k) = (List.range n).filter fun k => decide (k ∈ o) := List.filter_congr fun k _ => head_bits h k
  rw [e]
  have pm : ((List.range n).filter fun k => decide (k ∈ o)).Perm o := nodup_ext (List.nodup_range.sublist List.filter_sublist) (ok.inc.imp fun h => Nat.ne_of_lt h) fun k => by
    rw [List.mem_filter, List.mem_range, decide_eq_true_eq]
    exact ⟨fun h => h.2, fun h => ⟨ok.lt k h, h⟩⟩
  exact pm.eq_of_pairwise (le := (· < ·)) (fun a b _ _ h1 h2 => absurd h1 (Nat.lt_asymm h2)) (List.pairwise_lt_range.filter _) ok.inc
theorem lots_bits (n : Nat) : ((List.range (2 ^ n)).map fun h => (List.range n).filter fun k => h.testBit k) = lots n := by
  rw [← head_range, List.map_map]
  exact (List.map_congr_left fun o ho => bits_head ho).trans (List.map_id _)
def lotsO (n : Nat) : List (List Nat) := (lots n).mergeSort lotLe
theorem lotsO_mem {n : Nat} {o : List Nat} : o ∈ lotsO n ↔ o ∈ lots n := (List.mergeSort_perm _ _).mem_iff
theorem lotsO_len (n : Nat) : (lotsO n).length = 2 ^ n := by unfold lotsO; rw [List.length_mergeSort, lots_len]
def partB (lot : List Nat) (others : List (List Nat)) : Bool := others.any fun o => o.all fun k => decide (k ∈ lot)
def leastIn (p : List Nat → Bool) (acc : List (List Nat)) (l : List Nat) : List (List Nat) := if (p l && !partB l acc) = true then acc ++ [l] else acc
def leastM (p : List Nat → Bool) (ls : List (List Nat)) : List (List Nat) := ls.foldl (leastIn p) []
theorem least_snoc {p : List Nat → Bool} (ls : List (List Nat)) (l : List Nat) : leastM p (ls ++ [l]) = leastIn p (leastM p ls) l := by
  unfold leastM
  rw [List.foldl_append]; rfl
theorem least_mem {p : List Nat → Bool} {ls acc : List (List Nat)} : ∀ {o}, o ∈ ls.foldl (leastIn p) acc → o ∈ acc ∨ (o ∈ ls ∧ p o = true) := by
  induction ls generalizing acc with
  | nil => exact fun h => .inl h
  | cons l ls ih =>
    intro o h
    rw [List.foldl_cons] at h
    rcases ih h with h | ⟨h1, h2⟩
    · unfold leastIn at h
      split at h
      · rename_i hp
        rcases List.mem_append.mp h with h | h
        · exact .inl h
        · rw [List.mem_singleton.mp h]
          rw [Bool.and_eq_true] at hp
          exact .inr ⟨List.mem_cons_self, hp.1⟩
      · exact .inl h
    · exact .inr ⟨List.mem_cons_of_mem _ h1, h2⟩
theorem least_len {p : List Nat → Bool} {ls acc : List (List Nat)} : (ls.foldl (leastIn p) acc).length ≤ acc.length + ls.length := by
  induction ls generalizing acc with
  | nil => exact Nat.le_refl _
  | cons l ls ih =>
    rw [List.foldl_cons, List.length_cons]
    refine Nat.le_trans ih ?_
    unfold leastIn
    split
    · rw [List.length_append]; simp; omega
    · omega
def spAllLots : Spc where
  ty := Nat
  args := fun n => [.tag (.int n)]
  ok := fun n => n ≤ 10
  rel := fun n d => d = .lst (ordT (lotsO n))
def spPart : Spc where
  ty := List Nat × List (List Nat)
  args := fun x => [.tup (ordD x.1), .lst (ordT x.2)]
  ok := fun x => x.2.length ≤ 100000 ∧ ∀ o ∈ x.2, o.length ≤ 100000
  rel := fun x d => d = .bl (partB x.1 x.2)
theorem pow10 {n : Nat} (h : n ≤ 10) : 2 ^ n ≤ 1024 := Nat.le_trans (Nat.pow_le_pow_right (by decide) h) (by decide)
theorem np_ot (os : List (List Nat)) : noP (.lst (ordT os)) = true := noPs_map (f := fun o => D.tup (ordD o)) (fun o => np_ord o) os
end K37

namespace K37
open PySem PySem.Spec PyProof.Rows L2 Dw
variable [Tabs0]
theorem d_all_lots {P : Program} {w : World} {K : PySem.W.Frag} {mg : Str → Option Value} {base : Heap} (T : Txt K w mg) (TB_all_lots : LamX.TabB base mg T.lc_all_lots T.lt_all_lots) : FnOk P w K mg base CX0 2 T.f_all_lots T.e_all_lots ["many"] (toSp (spAllLots)) := by
  refine fnC_ok T.FC_all_lots sc_all_lots (fun _ => rfl) fun A outer s' H E hr => ?_
  refine ⟨_, (pss_cons (ps_setLc (i := 1) (own := [("head", 2)]) rfl sc_all_lots.nd rfl rfl (sw_true rfl rfl rfl (by decide +kernel)) (pi_range1 (by rfl) T.n_range (pa_cons (pe_op op_shl pe_int (pv 0)) pa_nil)) (blkOk_by (own := [("head", 2)]) (N := N_all_lots) (sc := (defScope s_all_lots)) (by decide +kernel)) (fun _ _ _ _ _ => pg_name (i := 2) sc_all_lots.nd rfl (Or.inl rfl)) (fun _ _ _ _ _ => pts_nil) (fun _ _ _ _ _ => (pe_call (d_rules_of T) (hr.mono (by decide)) (by rfl) T.m_rules_of T.F_rules_of.kp T.b_rules_of .nil pass0 (pa_cons (pv 2) (pa_cons (pv 0) pa_nil))))) (pss_one (ps_ret (pe_sortKL (T := T.tts) (c := T.lc_all_lots) (P := T.lt_all_lots) (pv 1) (by rfl) T.n_sorted T.n_len TB_all_lots rfl T.hm_all_lots (T.tabs.uniq T.hm_all_lots) (hr.mono (by decide)) rfl rfl (by decide +kernel) (fun _ _ _ _ _ _ => rfl) rfl rfl rfl (by decide +kernel) rfl rfl)))), fun x hx => ?_⟩
  obtain ⟨n, rfl⟩ : ∃ l : Nat, l = x := ⟨x, rfl⟩
  have h8 : n ≤ 10 := hx
  have p8 := pow10 h8
  refine ds_seq (ds_asg (Ev.dl (ev_cast (d' := .lst (ordT (lots n))) ?c (EvN.ev (evn_lc1 (xs := List.range (2 ^ n)) (c := fun k : Nat => D.int k) (f := fun h => D.tup (ordD ((List.range n).filter fun k => h.testBit k))) (ei_range (n := 2 ^ n) (eva_cons (ev_op ev_int (ev_untag (ev_var rfl)) (dr2_shl1 (by omega))) eva_nil) (by omega)) (by rw [List.length_range]; omega) fun h hh => ⟨[2], _, dg_name, fun i hi => hi, evt_yes, ev_call (s := spRulesOf) (x := (h, n)) (eva_cons (ev_var rfl) (eva_cons (ev_untag (ev_var rfl)) eva_nil)) rfl (by show n ≤ 20; omega) fun d h => h⟩))) ?_))
  case c =>
    rw [← lots_bits n]
    unfold ordT
    rw [List.map_map]; rfl
  exact ds_ret (dl_sortKL (i := 0) (l := lots n) T.tabs T.hm_all_lots rfl TgS.tag (Ev.b (ev_var rfl)) rfl)
end K37

namespace K37
open PySem PySem.Spec PyProof.Rows L2 Dw
variable [Tabs0]
theorem d_has_part {P : Program} {w : World} {K : PySem.W.Frag} {mg : Str → Option Value} {base : Heap} (T : Txt K w mg) : FnOk P w K mg base CX0 1 T.f_has_part T.e_has_part ["lot", "others"] (toSp (spPart)) := by
  refine fn_ok T.F_has_part sc_has_part (fun _ => rfl) fun cdv A outer s' H E hr => ?_
  refine ⟨_, (pss_one (ps_ret (pe_callB (anyA K) (by rfl) T.n_any (by decide +kernel) (pa_cons (pe_lc (own := [("other", 2)]) rfl sc_has_part.nd (piR K (pv 1)) (blkOk_by (own := [("other", 2)]) (N := N_has_part) (sc := (defScope s_has_part)) (by decide +kernel)) (fun _ _ _ _ _ => pg_name (i := 2) sc_has_part.nd rfl (Or.inl rfl)) (fun _ _ _ _ _ => pts_nil) (fun _ _ _ _ _ => (pe_callB (allA K) (by rfl) T.n_all (by decide +kernel) (pa_cons (pe_lc (own := [("index", 3)]) rfl sc_has_part.nd (piR K (pv 2)) (blkOk_by (own := [("index", 3)]) (N := N_has_part) (sc := (relS { kind := .function, names := [(".0", .local), ("other", .local), ("all", .globalImplicit), ("lot", .free)], isGenerator := false, isCoroutine := false, more := [] } (defScope s_has_part))) (by decide +kernel)) (fun _ _ _ _ _ => pg_name (i := 3) sc_has_part.nd rfl (Or.inl rfl)) (fun _ _ _ _ _ => pts_nil) (fun _ _ _ _ _ => (pe_cmpR (inA K) (pv 3) (pv 0) (by rfl)))) pa_nil)))) pa_nil)))), fun x hx => ?_⟩
  obtain ⟨l, os⟩ := x
  obtain ⟨hz, ho⟩ := hx
  have hz : os.length ≤ 100000 := hz
  refine ds_ret (Ev.dl (ev_any (bs := os.map fun o => o.all fun k => decide (k ∈ l)) (EvN.b ?e)) ?_)
  case e =>
    rw [List.map_map]
    refine evn_lc1 (xs := os) (c := fun o => .tup (ordD o)) (f := fun o => D.bl (o.all fun k => decide (k ∈ l))) (ej_list (ev_var (d := .lst (ordT os)) rfl).b) (by omega) fun o hm => ⟨[2], _, dg_name, fun i hi => hi, evt_yes, ev_cast (congrArg D.bl (by rw [List.all_map]; rfl)) (ev_all (bs := o.map fun k => decide (k ∈ l)) (EvN.b ?_))⟩
    have hl : o.length ≤ 100000 := ho o hm
    rw [List.map_map]
    exact evn_lc1 (xs := o) (c := fun k : Nat => D.int k) (f := fun k => D.bl (decide (k ∈ l))) (ej_tup (ev_var (d := .tup (ordD o)) rfl)) (by omega) fun k hk => ⟨[3], _, dg_name, fun i hi => hi, evt_yes, ev_inOT (neg := false) (l := l) (ev_var rfl) (ev_var rfl)⟩
  show D.bl _ = D.bl (partB l os)
  unfold partB
  rw [List.any_map]; rfl
end K37

namespace K37
open PySem PySem.Spec PyProof.Rows L2 Dw
variable [Tabs0]
/-! what the reasons say of the rankings that fit -/
end K37

namespace K37
open PySem PySem.Spec PyProof.Rows L2 Dw
variable [Tabs0]
/-! what can be told -/
mutual
def rOk : Nat → D → Bool
  | _, .non => true | _, .int i => shOk (.int i) && decide (shB (.int i) ≤ 10) | _, .str x => PyData.strOk x && decide (x.length ≤ 300)
  | k + 1, .tup ds => rOks k ds | k + 1, .lst ds => rOks k ds
  | _, _ => false
def rOks : Nat → List D → Bool
  | _, [] => true
  | k, d :: ds => rOk k d && rOks k ds
end
mutual
def cntD : D → Nat
  | .tup ds => cntDs ds + 1 | .lst ds => cntDs ds + 1
  | _ => 1
def cntDs : List D → Nat
  | [] => 0
  | d :: ds => cntD d + cntDs ds
end
mutual
theorem rOk_sh : ∀ (k : Nat) (d : D), rOk k d = true → dOk k d = true ∧ shOk d = true ∧ shB d + 2 ≤ 3010 * cntD d
  | k, .non, _ => ⟨by cases k <;> rfl, rfl, by show 5 + 2 ≤ 3010 * 1; decide⟩
  | k, .int i, h => by
    have h : (shOk (.int i) && decide (shB (.int i) ≤ 10)) = true := by cases k <;> exact h
    rw [Bool.and_eq_true, decide_eq_true_eq] at h
    exact ⟨by cases k <;> rfl, h.1, by show _ ≤ 3010 * 1; have := h.2; omega⟩
  | k, .str x, h => by
    have h : (PyData.strOk x && decide (x.length ≤ 300)) = true := by cases k <;> exact h
    rw [Bool.and_eq_true, decide_eq_true_eq] at h
    obtain ⟨h1, h2⟩ := h
    exact ⟨by cases k <;> exact h1, rfl, by show 10 * x.length + 2 + 2 ≤ 3010 * 1; omega⟩
  | k + 1, .tup ds, h => by
    obtain ⟨h1, h2, h3⟩ := rOks_sh k ds h
    exact ⟨h1, h2, by show shBs ds + 4 + 2 ≤ 3010 * (cntDs ds + 1); omega⟩
  | k + 1, .lst ds, h => by
    obtain ⟨h1, h2, h3⟩ := rOks_sh k ds h
    exact ⟨h1, h2, by show shBs ds + 4 + 2 ≤ 3010 * (cntDs ds + 1); omega⟩
  | 0, .tup _, h => nomatch h
  | 0, .lst _, h => nomatch h
  | k, .bl _, h => by cases k <;> exact nomatch h
  | k, .dct _ _, h => by cases k <;> exact nomatch h
  | k, .obj _ _ _, h => by cases k <;> exact nomatch h
  | k, .raw _, h => by cases k <;> exact nomatch h
  | k, .purse, h => by cases k <;> exact nomatch h
  | k, .rng _ _, h => by cases k <;> exact nomatch h
  | k, .scr _ _, h => by cases k <;> exact nomatch h
  | k, .tag _, h => by cases k <;> exact nomatch h
  | k, .fnv _ _, h => by cases k <;> exact nomatch h
  | k, .clo _ _ _, h => by cases k <;> exact nomatch h
  | k, .tupN _, h => by cases k <;> exact nomatch h
theorem rOks_sh : ∀ (k : Nat) (ds : List D), rOks k ds = true → dOks k ds = true ∧ shOks ds = true ∧ shBs ds ≤ 3010 * cntDs ds
  | k, [], _ => ⟨by cases k <;> rfl, rfl, by show 0 ≤ _; exact Nat.zero_le _⟩
  | k, d :: ds, h => by
    have e : rOks k (d :: ds) = (rOk k d && rOks k ds) := by cases k <;> rfl
    rw [e, Bool.and_eq_true] at h
    obtain ⟨a1, a2, a3⟩ := rOk_sh k d h.1
    obtain ⟨b1, b2, b3⟩ := rOks_sh k ds h.2
    have e2 : dOks k (d :: ds) = (dOk k d && dOks k ds) := by cases k <;> rfl
    refine ⟨by rw [e2, a1, b1]; rfl, by show (shOk d && shOks ds) = true; rw [a2, b2]; rfl, ?_⟩
    show shB d + 2 + shBs ds ≤ 3010 * (cntD d + cntDs ds)
    omega
end
end K37

namespace K37
open PySem PySem.Spec PyProof.Rows L2 Dw
variable [Tabs0]
theorem rowAt_get {ls : List (List Nat)} {a : Nat} (h : a < ls.length) : rowAt ls a = ls[a] := by
  unfold rowAt
  rw [List.getD_eq_getElem?_getD, List.getElem?_eq_getElem h]; rfl
theorem rowAt_mem {ls : List (List Nat)} {a : Nat} (h : a < ls.length) : rowAt ls a ∈ ls := by rw [rowAt_get h]; exact List.getElem_mem h
/-! the jar and what is drawn from it -/
def strs2 : List Str := ["a", "ann", "b", "bob", "cid", "cost", "near", "safe", "zzzzzzzz", "tell", "rows", "undo", "x", "none", "sure", "count", "m"]
def lab2 : List (List Nat) := strs2.map fun s => s.cps.toList
theorem lab2_D : nameD lab2 = strs2.map D.str := by
  unfold nameD lab2
  rw [List.map_map]
  exact List.map_congr_left fun s _ => congrArg D.str (of_tx s)
theorem lab2_ok : ∀ l ∈ lab2, NameOk l := by
  have h : lab2.all nameB = true := by decide +kernel
  exact fun l hl => nameB_ok (List.all_eq_true.mp h l hl)
theorem lab2_nd : lab2.Nodup := by decide +kernel
/-- names of their own, put in order -/
theorem names_ofN {lab : List (List Nat)} (hok : ∀ l ∈ lab, NameOk l) {zs : List Str} {acc : List (List Nat)} {n : Nat} (hn : acc.Nodup) (hp : ∀ l ∈ acc, l ∈ lab) (hz : zs.Perm (acc.map tx)) (hs : sortedS zs = true) (hl : acc.length = n) (h1 : 1 ≤ n) (h8 : n ≤ 8) :
    NamesOk (zs.map fun s => s.cps.toList) := by
  have ln : zs.length = n := by rw [hz.length_eq, List.length_map, hl]
  have nd : zs.Nodup := hz.nodup_iff.mpr (nodup_tx hn)
  refine ⟨by rw [List.length_map]; omega, by rw [List.length_map]; omega, fun l h => ?_, ?_⟩
  · obtain ⟨s, h1, rfl⟩ := List.mem_map.mp h
    obtain ⟨m, h2, rfl⟩ := List.mem_map.mp (hz.mem_iff.mp h1)
    show NameOk (tx m).cps.toList
    rw [tx_cps]
    exact hok m (hp m h2)
  · cases zs with
    | nil => exact fun p hp => by cases hp
    | cons x r => exact rising_inc x r hs nd
def stepAt (a s : Nat) (k : Nat) : Nat := (a + s * k) % 17
theorem step_lt (a s k : Nat) : stepAt a s k < 17 := Nat.mod_lt _ (by decide)
theorem steps_nd : ∀ a < 17, ∀ s < 17, 1 ≤ s → ((List.range 8).map (stepAt a s)).Nodup := by decide +kernel
theorem tags_nd {a s n : Nat} (ha : a < 17) (hs : s < 17) (h1 : 1 ≤ s) (h8 : n ≤ 8) : ((List.range n).map fun k => rowAt lab2 (stepAt a s k)).Nodup := by
  have h := steps_nd a ha s hs h1
  have e : List.range n = (List.range 8).take n := by rw [List.take_range]; congr 1; omega
  have h2 : ((List.range n).map (stepAt a s)).Nodup := by
    rw [e, List.map_take]
    exact h.sublist (List.take_sublist _ _)
  have h3 : (List.range n).map (fun k => rowAt lab2 (stepAt a s k)) = ((List.range n).map (stepAt a s)).map (rowAt lab2) := by rw [List.map_map]; rfl
  rw [h3]
  unfold List.Nodup at h2 ⊢
  rw [List.pairwise_map]
  refine h2.imp_of_mem fun {x y} hx hy hxy he => hxy ?_
  obtain ⟨i, _, rfl⟩ := List.mem_map.mp hx
  obtain ⟨j, _, rfl⟩ := List.mem_map.mp hy
  have l1 := step_lt a s i
  have l2 := step_lt a s j
  rw [rowAt_get (show _ < lab2.length from l1), rowAt_get (show _ < lab2.length from l2)] at he
  exact (List.getElem_inj lab2_nd).mp he
def spTags : Spc where
  ty := Nat
  args := fun n => [.purse, .int n]
  ok := fun n => 1 ≤ n ∧ n ≤ 8
  rel := fun n d => ∃ ls, d = .lst (nameD ls) ∧ NamesOk ls ∧ ls.length = n
def spCell (K : PySem.W.Frag) : Spc where
  ty := List Int × Nat
  args := fun x => [.scr K (x.1.map V.int), .int x.2]
  ok := fun x => x.1.length ≤ 63
  rel := fun _ d => ∃ z : Int, d = .int z
theorem at_step (a s k : Nat) : atI (nameD lab2) (((a : Int) + (s : Int) * (k : Int)) % 17) = some (.str (tx (rowAt lab2 (stepAt a s k)))) := by
  have e : ((a : Int) + (s : Int) * (k : Int)) % 17 = ((stepAt a s k : Nat) : Int) := by
    unfold stepAt
    rw [Int.natCast_emod, Int.natCast_add, Int.natCast_mul]; rfl
  rw [e]
  exact rowAt_at (show _ < lab2.length from step_lt a s k)
theorem dg_tup3J {K : PySem.W.Frag} {g1 g2 g3 : TG} {is js ks : List Nat} {x y z : D} {Γ Γ1 Γ2 Γ3 : Gam} (h1 : DG g1 is x Γ Γ1) (h2 : DG g2 js y Γ1 Γ2) (h3 : DG g3 ks z Γ2 Γ3) : DG (gTup K 3 (gCons g1 (gCons g2 (gCons g3 gNil)))) (is ++ (js ++ ks)) (.tup [x, y, z]) Γ Γ3 := fun F σ W v R g r k => by
  obtain ⟨a, vs, e, ha, nu, v1, _, rfl, r1, v2, _, rfl, r2, v3, _, rfl, r3, rfl⟩ := r
  refine ⟨a, [v1, v2, v3], e, ha.sq, rfl, v1, [v2, v3], rfl, h1 F σ W v1 _ g r1 fun σ1 g1 w1 => ⟨v2, [v3], rfl, h2 F σ1 W v2 _ g1 r2 fun σ2 g2 w2 => ⟨v3, [], rfl, h3 F σ2 W v3 _ g2 r3 fun σ3 g3 w3 => ⟨rfl, k σ3 g3 fun vs h => ?_⟩⟩⟩⟩
  rw [w3 vs fun i hi => h i (List.mem_append_right _ (List.mem_append_right _ hi)), w2 vs fun i hi => h i (List.mem_append_right _ (List.mem_append_left _ hi)), w1 vs fun i hi => h i (List.mem_append_left _ hi)]
def spAnyOf : Spc where
  ty := Bool × List D
  args := fun x => [.purse, if x.1 then .lst x.2 else .tup x.2]
  ok := fun x => 0 < x.2.length ∧ x.2.length < 100000
  rel := fun x d => d ∈ x.2
structure OrdI (n i : Nat) (o : List Nat) : Prop where
  len : o.length = i
  nd : o.Nodup
  lt : ∀ k ∈ o, k < n
end K37

namespace K37
open PySem PySem.Spec PyProof.Rows L2 Dw
variable [Tabs0]
theorem d__law_cell {P : Program} {w : World} {K : PySem.W.Frag} {mg : Str → Option Value} {base : Heap} (T : Txt K w mg) : FnOk P w K mg base CX0 1 T.f__law_cell T.e__law_cell ["_law_cells", "_law_k"] (toSp (spCell K)) := by
  refine fn_ok T.F__law_cell sc__law_cell (fun _ => rfl) fun cdv A outer s' H E hr => ?_
  refine ⟨_, (pss_cons (ps_if (pt_cmpR opLt (pv 1) (pe_callB (lenA K) (by rfl) T.n_len (by decide +kernel) (pa_cons (pv 0) pa_nil)) (nomark _)) (pss_one (ps_ret (pe_ix (ixA K) (pv 0) (pv 1) (fun _ _ => rfl)))) pss_nil) (pss_cons (ps_set (i := 2) sc__law_cell.nd rfl (Or.inl rfl) (pe_op (plusE K) pe_int (pe_op opTimes pe_int (pv 1)))) (pss_cons (ps_for PassesOwn.never rfl (piR K (pe_slice (slXA K) (pv 0) po_none (po_some pe_int))) (pg_name (i := 3) sc__law_cell.nd rfl (Or.inl rfl)) (pss_one (ps_set (i := 2) sc__law_cell.nd rfl (Or.inl rfl) (pe_op op_mod (pe_callTy call_int1 (by rfl) T.n_int (by decide +kernel) (pa_cons (pe_op (plusE K) (pe_op (plusE K) (pe_op opTimes (pv 2) pe_int) (pe_op opTimes (pv 3) pe_int)) (pv 1)) pa_nil)) pe_int)))) (pss_one (ps_ret (pv 2)))))), fun x hx => ?_⟩
  obtain ⟨ns, k⟩ := x
  have hn : ns.length ≤ 63 := hx
  have l0 : (ns.map V.int).length = ns.length := List.length_map ..
  refine ds_seq (ds_if (EvT.dl (b := decide ((k : Int) < ((ns.map V.int).length : Int))) (evt_test (ev_op (ev_var rfl) (ev_lenX (ev_var rfl)) lt_int')) ⟨fun h => ds_ret (Ev.dl (ev_ixX (z := ns.getD k 0) (ev_var rfl) (ev_var rfl) (scr_at ?_)) ⟨_, rfl⟩), fun _ => ds_next ?_⟩))
  · have := of_decide_eq_true h
    rw [l0] at this
    show k < ns.length
    omega
  refine ds_seq (ds_asg (Ev.dl (ev_op ev_int (ev_op ev_int (ev_var rfl) (times_int (.inl ⟨by decide, by decide⟩))) pl_int) ?_))
  refine ds_seq (ds_for (fun xs i Γ' => (∀ x ∈ xs, ∃ z : Int, x = .int z) ∧ ∃ (made : Int) (s3 : Sl), Γ' = [.val (.scr K (ns.map V.int)), .val (.int k), .val (.int made), s3])
      (dj_list (Ev.dl (EvN.ev (evn_sliceXY (hi := some 5) (ev_var rfl) eo_none (eo_some ev_int))) ⟨_, rfl, ⟨fun x hx => ?_, _, _, rfl⟩, fun i x Γ' hx' ⟨hx0, made, s3, e⟩ => ?_, fun Γ' ⟨hx0, made, s3, e⟩ => ?_⟩)))
  · obtain ⟨z, _, rfl⟩ := List.mem_map.mp hx
    exact ⟨z, rfl⟩
  · subst e
    obtain ⟨z, rfl⟩ := hx0 x (List.mem_of_getElem? hx')
    exact ⟨[3], _, dg_name, ds_asg (Ev.dl (ev_op (ev_int1 (ev_op (ev_op (ev_op (ev_var rfl) ev_int (times_int (.inr ⟨by decide, by decide⟩))) (ev_op (ev_var rfl) ev_int (times_int (.inr ⟨by decide, by decide⟩))) pl_int) (ev_var rfl) pl_int)) ev_int (dr2_mod (by decide))) ⟨hx0, _, _, rfl⟩)⟩
  · subst e
    exact ds_ret (Ev.dl (ev_var rfl) ⟨_, rfl⟩)
end K37

namespace K37
open PySem PySem.Spec PyProof.Rows L2 Dw
variable [Tabs0]
theorem d__law_well {P : Program} {w : World} {K : PySem.W.Frag} {mg : Str → Option Value} {base : Heap} (T : Txt K w mg) : FnOk P w K mg base CX0 1 T.f__law_well T.e__law_well ["_law_cell_here"] toWell := by
  refine T.F__law_well.ok sc__law_well (fun vs H Q E ⟨F, W, cell, _, _, r, _⟩ => by rw [← r.length]; rfl) fun cdv A outer s' H vs Q E hr h => ?_
  refine ⟨_, (pss_one (ps_ret (pe_lst (pa_cons (pe_ifExp (PW.pt (pw_or (pt_cmpR opLt (pv 0) pe_int (nomark _)) (pw_or1 (pt_cmpR opGe (pv 0) (pe_op op_pow pe_int pe_int) (nomark _))))) (pe_callB call_abs (by rfl) T.n_abs (by decide +kernel) (pa_cons (pv 0) pa_nil)) pe_int) (pa_cons (pe_op op_mod (pe_callTy call_int1 (by rfl) T.n_int (by decide +kernel) (pa_cons (pv 0) pa_nil)) pe_int) (pa_cons pe_int pa_nil)))))), ?_⟩
  obtain ⟨F, W, cell, rfl, ok, r, k⟩ := h
  have g0 : SR F (Gz0 1 [.int cell]) (L2.start N__law_well vs) W := sr_start (N := N__law_well) ok r
  have ep : (10 : Int) ^ (18 : Int).toNat = 1000000000000000000 := by decide +kernel
  refine evn_lst (ds := [.int (if (decide (cell < 0) || decide ((10 : Int) ^ (18 : Int).toNat ≤ cell)) = true then (if cell < 0 then -cell else cell) else 0), .int (cell % 2147483587), .int 0]) (eva_cons (ev_cast ?_ (ev_if (a := (decide (cell < 0) || decide ((10 : Int) ^ (18 : Int).toNat ≤ cell))) (evt_or (evt_test (ev_op (ev_var rfl) ev_int lt_int')) fun _ => evt_test (ev_op (ev_var rfl) (ev_op ev_int ev_int (dr2_pow ?_)) dr2_ge)) (fun _ => ev_abs (ev_var rfl)) fun _ => ev_int)) (eva_cons (ev_op (ev_int1 (ev_var rfl)) ev_int (dr2_mod (by decide))) (eva_cons ev_int eva_nil))) (small (show 3 ≤ 100000 by decide)) F _ W _ g0 fun a vs H' sm hn ha rl => ?_
  · cases (decide (cell < 0) || decide ((10 : Int) ^ (18 : Int).toNat ≤ cell)) <;> rfl
  · exact ⟨by decide, by decide, by decide⟩
  · have ev := RepL.ints (ns := [_, _, _]) |>.mp rl
    rw [ev] at ha
    refine k a _ _ _ W H' (Stp.refl _) ok sm hn ha ?_ (Int.emod_nonneg _ (by decide)) (Int.lt_trans (Int.emod_lt_of_pos _ (by decide)) (by decide))
    by_cases hq : (decide (cell < 0) || decide ((10 : Int) ^ (18 : Int).toNat ≤ cell)) = true
    · rw [if_pos hq]
      by_cases h : cell < 0 <;> simp [h] <;> omega
    · rw [if_neg hq]; exact Int.le_refl _

end K37

namespace K37
open PySem PySem.Spec PyProof.Rows L2 Dw
variable [Tabs0]
theorem d__law_dip {P : Program} {w : World} {K : PySem.W.Frag} {mg : Str → Option Value} {base : Heap} (T : Txt K w mg) : FnOk P w K mg base CX0 1 T.f__law_dip T.e__law_dip ["_law_jar", "_law_many"] (toSp (spDraw)) := by
  refine fn_ok T.F__law_dip sc__law_dip (fun _ => rfl) fun cdv A outer s' H E hr => ?_
  refine ⟨_, (pss_cons (ps_asg (pe_op (plusE K) (pe_ix (ixA K) (pv 0) pe_int (fun _ _ => rfl)) pe_int) (pg_sub (pv 0) pe_int set_list)) (pss_cons (ps_set (i := 2) sc__law_dip.nd rfl (Or.inl rfl) (pe_op op_mod (pe_callTy call_int1 (by rfl) T.n_int (by decide +kernel) (pa_cons (pe_op (plusE K) (pe_ix (ixA K) (pv 0) pe_int (fun _ _ => rfl)) (pe_op opTimes pe_int (pe_ix (ixA K) (pv 0) pe_int (fun _ _ => rfl)))) pa_nil)) pe_int)) (pss_cons (ps_asg (pe_op op_mod (pe_callTy call_int1 (by rfl) T.n_int (by decide +kernel) (pa_cons (pe_op (plusE K) (pe_op (plusE K) (pe_op op_mulX (pv 2) (pv 2)) (pe_op opTimes pe_int (pv 2))) pe_int) pa_nil)) pe_int) (pg_sub (pv 0) pe_int set_list)) (pss_cons (ps_if (pt_cmpR (eqA K hr.units) (pe_ix (ixA K) (pv 0) pe_int (fun _ _ => rfl)) pe_int (nomark _)) (pss_one (ps_ret (pe_op op_mod (pe_callTy call_int1 (by rfl) T.n_int (by decide +kernel) (pa_cons (pe_op op_fdiv (pe_ix (ixA K) (pv 0) pe_int (fun _ _ => rfl)) pe_int) pa_nil)) (pv 1)))) pss_nil) (pss_cons (ps_asg (pe_callB call_divmod (by rfl) T.n_divmod (by decide +kernel) (pa_cons (pe_ix (ixA K) (pv 0) pe_int (fun _ _ => rfl)) (pa_cons (pv 1) pa_nil))) (tupA K 2 rfl (pgs_cons (pg_name (i := 3) sc__law_dip.nd rfl (Or.inl rfl)) (pgs_cons (pg_name (i := 4) sc__law_dip.nd rfl (Or.inl rfl)) pgs_nil)))) (pss_cons (ps_asg (pv 3) (pg_sub (pv 0) pe_int set_list)) (pss_one (ps_ret (pv 4))))))))), fun x hx => ?_⟩
  obtain ⟨x, rfl⟩ : ∃ n : Nat, n = x := ⟨x, rfl⟩
  obtain ⟨hn0, hn1⟩ := hx
  have hn0 : 0 < x := hn0
  have hn1 : x < 100000 := hn1
  refine fun F σ W Dr g l => ?_
  obtain ⟨v0, e0, a, ev, hp, nn, tbl⟩ := g.val 0 .purse rfl
  obtain ⟨v1, e1, r1⟩ := g.val 1 (.int x) rfl
  subst ev
  rw [show v1 = V.int x from r1] at e1
  have l2 : 2 < σ.length := by rw [← g.len]; exact (show 2 < 5 by decide)
  have l3 : 3 < σ.length := by rw [← g.len]; exact (show 3 < 5 by decide)
  have l4 : 4 < σ.length := by rw [← g.len]; exact (show 4 < 5 by decide)
  obtain ⟨⟨p, c⟩, q, hp0, hq0, hq1, hH⟩ := (g.ok.pu a hp).2.2.purse nn
  have hp0 : 0 ≤ p := hp0
  have hH : W.H a = some (.lst [.int p, .int q, .int c]) := hH
  have i0 : ∀ y c : Int, atI [V.int p, V.int y, V.int c] 0 = some (V.int p) := fun y c => atI_nat (j := 0) rfl
  have i1 : ∀ y c : Int, atI [V.int p, V.int y, V.int c] 1 = some (V.int y) := fun y c => atI_nat (j := 1) rfl
  have i2 : ∀ y c : Int, atI [V.int p, V.int y, V.int c] 2 = some (V.int c) := fun y c => atI_nat (j := 2) rfl
  have md : ∀ z : Int, ∃ r : Nat, r < x ∧ V.int (z % (x : Int)) = V.int r := fun z => ⟨(z % (x : Int)).toNat, by
    have h1 := Int.emod_nonneg z (show (x : Int) ≠ 0 by omega)
    have h2 := Int.emod_lt_of_pos z (show (0 : Int) < x by omega)
    omega, by
    have h1 := Int.emod_nonneg z (show (x : Int) ≠ 0 by omega)
    rw [Int.toNat_of_nonneg h1]⟩
  refine ⟨.ref a, e0, .inl ⟨a, _, 2, .int c, rfl, rfl, .of hH, i2 q c, .inl (.inl ⟨c, 1, rfl, rfl, ?_⟩)⟩⟩
  obtain ⟨st1, ok1⟩ := purse_step (x := p) (y := q) (c := c + 1) g.ok hp nn hp0 hq0 hq1
  refine ⟨.ref a, e0, a, _, 2, 2, rfl, rfl, hH, rfl, ?_⟩
  refine ⟨.ref a, e0, .inl ⟨a, [.int p, .int q, .int (c + 1)], 1, .int q, rfl, rfl, .of upd_same, i1 _ _, ?_⟩⟩
  refine ⟨.ref a, e0, .inl ⟨a, [.int p, .int q, .int (c + 1)], 2, .int (c + 1), rfl, rfl, .of upd_same, i2 _ _, .inl ⟨770551, c + 1, rfl, rfl, .inl ⟨by decide, by decide⟩, ?_⟩⟩⟩
  refine .inl (.inl ⟨_, _, rfl, rfl, .inl ⟨_, rfl, _, _, rfl, rfl, (show (0 : Int) < 2147483587 by decide), ?_⟩⟩)
  have b0 := Int.emod_nonneg (q + 770551 * (c + 1)) (show (2147483587 : Int) ≠ 0 by decide)
  have b1 := Int.emod_lt_of_pos (q + 770551 * (c + 1)) (show (0 : Int) < 2147483587 by decide)
  obtain ⟨m, hm⟩ : ∃ m : Int, (q + 770551 * (c + 1)) % 2147483587 = m := ⟨_, rfl⟩
  refine (show gName 2 (V.int ((q + 770551 * (c + 1)) % 2147483587)) σ _ _ from ?_)
  rw [hm] at b0 b1 ⊢
  have cm : CMulX m m := mulx_ok (a := 31) (b := 31) (by omega) (by omega) (by decide)
  have e0' : (σ.set 2 (some (V.int m)))[0]? = some (some (.ref a)) := (List.getElem?_set_ne (by decide)).trans e0
  have e1' : (σ.set 2 (some (V.int m)))[1]? = some (some (.int x)) := (List.getElem?_set_ne (by decide)).trans e1
  refine ⟨.int m, List.getElem?_set_self l2, .int m, List.getElem?_set_self l2, m, m, rfl, rfl, cm, ?_⟩
  refine ⟨.int m, List.getElem?_set_self l2, .inl ⟨2753159, m, rfl, rfl, .inl ⟨by decide, by decide⟩, ?_⟩⟩
  refine .inl (.inl ⟨_, _, rfl, rfl, .inl (.inl ⟨_, 519371, rfl, rfl, .inl ⟨_, rfl, _, _, rfl, rfl, (show (0 : Int) < 2147483587 by decide), ?_⟩⟩)⟩)
  have d0 := Int.emod_nonneg (m * m + 2753159 * m + 519371) (show (2147483587 : Int) ≠ 0 by decide)
  have d1 := Int.emod_lt_of_pos (m * m + 2753159 * m + 519371) (show (0 : Int) < 2147483587 by decide)
  obtain ⟨st2, ok2⟩ := purse_step (x := p) (y := (m * m + 2753159 * m + 519371) % 2147483587) (c := c + 1) ok1 hp nn hp0 d0 (Int.lt_trans d1 (by decide))
  refine ⟨.ref a, e0', a, _, 1, 1, rfl, rfl, upd_same, rfl, ?_⟩
  refine ⟨.ref a, e0', .inl ⟨a, [.int p, .int ((m * m + 2753159 * m + 519371) % 2147483587), .int (c + 1)], 0, .int p, rfl, rfl, .of upd_same, i0 _ _, .inl ⟨rfl, _, rfl, ?_⟩⟩⟩
  have ifB : ∀ {b : Bool} {A B : Prop}, (b = true → A) → (b = false → B) → (if b = true then A else B) := fun {b A B} h1 h2 => by
    cases b with
    | true => exact h1 rfl
    | false => exact h2 rfl
  refine ifB (fun hz => ?_) fun hz => ?_
  · have hz : p = 0 := by
      have := of_decide_eq_true hz
      injection this
    obtain ⟨r, hr1, hr2⟩ := md (((m * m + 2753159 * m + 519371) % 2147483587) / 103)
    refine ⟨.ref a, e0', .inl ⟨a, [.int p, .int ((m * m + 2753159 * m + 519371) % 2147483587), .int (c + 1)], 1, .int ((m * m + 2753159 * m + 519371) % 2147483587), rfl, rfl, .of upd_same, i1 _ _, _, 103, rfl, rfl, ⟨by decide, by decide⟩, .inl ⟨_, rfl, .int x, e1', _, _, rfl, rfl, (show (0 : Int) < x by omega), ?_⟩⟩⟩
    exact l.rt _ (Wd.at _ _) (.int r) (st1.trans st2) ok2 hr2 ⟨r, hr1, rfl⟩
  · have hz : ¬ p = 0 := fun h => by
      have := of_decide_eq_false hz
      exact this (congrArg V.int h)
    refine ⟨.ref a, e0', .inl ⟨a, [.int p, .int ((m * m + 2753159 * m + 519371) % 2147483587), .int (c + 1)], 0, .int p, rfl, rfl, .of upd_same, i0 _ _, .int x, e1', p, x, rfl, ⟨by omega, by omega⟩, fun t ht => ?_⟩⟩
    have na : a ≠ t := ne_of_none upd_same ht
    have s1 := same_upd (o := .tup [.int (p / x), .int (p % x)]) ht
    obtain ⟨st3, ok3⟩ := purse_step (x := p / x) (y := ((m * m + 2753159 * m + 519371) % 2147483587)) (c := c + 1) (ok2.same s1) hp nn (Int.ediv_nonneg hp0 (by omega)) d0 (Int.lt_trans d1 (by decide))
    obtain ⟨r, hr1, hr2⟩ := md p
    refine ⟨t, _, rfl, .of upd_same, rfl, .int (p / x), [.int (p % x)], rfl, .int (p % x), [], rfl, rfl, ?_⟩
    have e0'' : (((σ.set 2 (some (V.int m))).set 3 (some (V.int (p / x)))).set 4 (some (V.int (p % x))))[0]? = some (some (.ref a)) := (List.getElem?_set_ne (by decide)).trans ((List.getElem?_set_ne (by decide)).trans e0')
    have e3 : (((σ.set 2 (some (V.int m))).set 3 (some (V.int (p / x)))).set 4 (some (V.int (p % x))))[3]? = some (some (.int (p / x))) := (List.getElem?_set_ne (by decide)).trans (List.getElem?_set_self (by rw [List.length_set]; exact l3))
    have e4 : (((σ.set 2 (some (V.int m))).set 3 (some (V.int (p / x)))).set 4 (some (V.int (p % x))))[4]? = some (some (.int (p % x))) := List.getElem?_set_self (by rw [List.length_set, List.length_set]; exact l4)
    refine ⟨.int (p / x), e3, .ref a, e0'', a, _, 0, 0, rfl, rfl, (upd_ne na).trans upd_same, rfl, ?_⟩
    refine ⟨.int (p % x), e4, ?_⟩
    exact l.rt _ (Wd.at _ _) (.int r) ((st1.trans st2).trans ((Stp.of_same ok2 s1).trans st3)) ok3 hr2 ⟨r, hr1, rfl⟩
end K37

namespace K37
open PySem PySem.Spec PyProof.Rows L2 Dw
variable [Tabs0]
theorem d__law_pick {P : Program} {w : World} {K : PySem.W.Frag} {mg : Str → Option Value} {base : Heap} (T : Txt K w mg) : FnOk P w K mg base CX0 2 T.f__law_pick T.e__law_pick ["_law_jar", "_law_things"] (toSp (spAnyOf)) := by
  refine fn_ok T.F__law_pick sc__law_pick (fun _ => rfl) fun cdv A outer s' H E hr => ?_
  refine ⟨_, (pss_one (ps_ret (pe_ix (ixA K) (pv 1) (pe_call (d__law_dip T) (hr.mono (by decide)) (by rfl) T.m__law_dip T.F__law_dip.kp T.b__law_dip .nil pass0 (pa_cons (pv 0) (pa_cons (pe_callB (lenA K) (by rfl) T.n_len (by decide +kernel) (pa_cons (pv 1) pa_nil)) pa_nil))) (fun _ _ => rfl)))), fun x hx => ?_⟩
  obtain ⟨b, ds⟩ := x
  obtain ⟨h0, h1⟩ := hx
  have h0 : 0 < ds.length := h0
  have h1 : ds.length < 100000 := h1
  cases b with
  | true =>
    refine ds_ret (dl_op (Ev.dl (ev_var rfl) (dl_call (s := spDraw) (dla_cons (Ev.dl (ev_var rfl) (dla_cons (Ev.dl (ev_len (ds := ds) (ev_var rfl).b) (dla_nil ⟨ds.length, rfl, ⟨h0, h1⟩, fun d hd => ?_⟩))))))))
    obtain ⟨r, hr1, rfl⟩ := hd
    exact ⟨_, dr2_ixL (atI_nat (List.getElem?_eq_getElem hr1)), List.getElem_mem hr1⟩
  | false =>
    refine ds_ret (dl_op (Ev.dl (ev_var rfl) (dl_call (s := spDraw) (dla_cons (Ev.dl (ev_var rfl) (dla_cons (Ev.dl (ev_lenT (ds := ds) (ev_var rfl)) (dla_nil ⟨ds.length, rfl, ⟨h0, h1⟩, fun d hd => ?_⟩))))))))
    obtain ⟨r, hr1, rfl⟩ := hd
    exact ⟨_, dr2_ixT (atI_nat (List.getElem?_eq_getElem hr1)), List.getElem_mem hr1⟩
end K37

namespace K37
open PySem PySem.Spec PyProof.Rows L2 Dw
variable [Tabs0]
theorem d__law_tags {P : Program} {w : World} {K : PySem.W.Frag} {mg : Str → Option Value} {base : Heap} (T : Txt K w mg) : FnOk P w K mg base CX0 2 T.f__law_tags T.e__law_tags ["_law_jar", "_law_many"] (toSp (spTags)) := by
  refine fn_ok T.F__law_tags sc__law_tags (fun _ => rfl) fun cdv A outer s' H E hr => ?_
  refine ⟨_, (pss_cons (ps_set (i := 2) sc__law_tags.nd rfl (Or.inr rfl) (pe_lst (pa_cons pe_str (pa_cons pe_str (pa_cons pe_str (pa_cons pe_str (pa_cons pe_str (pa_cons pe_str (pa_cons pe_str (pa_cons pe_str (pa_cons pe_str (pa_cons pe_str (pa_cons pe_str (pa_cons pe_str (pa_cons pe_str pa_nil))))))))))))))) (pss_cons (ps_asg (pe_tup (pa_cons (pe_op (plusE K) (pv 2) (pe_lst (pa_cons pe_str (pa_cons pe_str (pa_cons pe_str (pa_cons pe_str pa_nil)))))) (pa_cons (pe_call (d__law_dip T) (hr.mono (by decide)) (by rfl) T.m__law_dip T.F__law_dip.kp T.b__law_dip .nil pass0 (pa_cons (pv 0) (pa_cons pe_int pa_nil))) (pa_cons (pe_op (plusE K) pe_int (pe_call (d__law_dip T) (hr.mono (by decide)) (by rfl) T.m__law_dip T.F__law_dip.kp T.b__law_dip .nil pass0 (pa_cons (pv 0) (pa_cons pe_int pa_nil)))) pa_nil)))) (tupA K 3 rfl (pgs_cons (pg_name (i := 2) sc__law_tags.nd rfl (Or.inr rfl)) (pgs_cons (pg_name (i := 3) sc__law_tags.nd rfl (Or.inr rfl)) (pgs_cons (pg_name (i := 4) sc__law_tags.nd rfl (Or.inr rfl)) pgs_nil))))) (pss_one (ps_ret (pe_callB (sortedA K) (by rfl) T.n_sorted (by decide +kernel) (pa_cons (pe_lc (own := [("_law_k", 5)]) rfl sc__law_tags.nd (pi_range1 (by rfl) T.n_range (pa_cons (pv 1) pa_nil)) (blkOk_by (own := [("_law_k", 5)]) (N := N__law_tags) (sc := (defScope s__law_tags)) (by decide +kernel)) (fun _ _ _ _ _ => pg_name (i := 5) sc__law_tags.nd rfl (Or.inl rfl)) (fun _ _ _ _ _ => pts_nil) (fun _ _ _ _ _ => (pe_ix (ixA K) (pv 2) (pe_op op_mod (pe_callTy call_int1 (by rfl) T.n_int (by decide +kernel) (pa_cons (pe_op (plusE K) (pv 3) (pe_op opTimes (pv 4) (pv 5))) pa_nil)) pe_int) (fun _ _ => rfl)))) pa_nil)))))), fun x hx => ?_⟩
  obtain ⟨n, rfl⟩ : ∃ l : Nat, l = x := ⟨x, rfl⟩
  obtain ⟨h1, h8⟩ := hx
  have h1 : 1 ≤ n := h1
  have h8 : n ≤ 8 := h8
  refine ds_seq (ds_asg (Ev.dl (EvN.ev (evn_lst (ds := (strs2.take 13).map D.str) (eva_cons ev_str (eva_cons ev_str (eva_cons ev_str (eva_cons ev_str (eva_cons ev_str (eva_cons ev_str (eva_cons ev_str (eva_cons ev_str (eva_cons ev_str (eva_cons ev_str (eva_cons ev_str (eva_cons ev_str (eva_cons ev_str eva_nil))))))))))))) (small (show 13 ≤ 100000 by decide)))) ?_))
  refine ds_seq (ds_asg_g (dl_tup (dla_cons (Ev.dl (ev_cast (d' := .lst (nameD lab2)) (congrArg D.lst lab2_D.symm) (EvN.ev (pl_evn (ds := (strs2.take 13).map D.str) (es := (strs2.drop 13).map D.str) (ev_var rfl).b (EvN.b (evn_lst (eva_cons ev_str (eva_cons ev_str (eva_cons ev_str (eva_cons ev_str eva_nil)))) (small (show 4 ≤ 100000 by decide)))) (small (show 13 + 4 ≤ 100000 by decide))))) (dla_cons (dl_call (s := spDraw) (dla_cons (Ev.dl (ev_var rfl) (dla_cons (Ev.dl ev_int (dla_nil ⟨(17 : Nat), rfl, ⟨by decide, by decide⟩, fun d hd => ?_⟩)))))))))))
  obtain ⟨a, ha, rfl⟩ := hd
  have ha : a < 17 := ha
  refine dla_cons (dl_op (Ev.dl ev_int (dl_call (s := spDraw) (dla_cons (Ev.dl (ev_var rfl) (dla_cons (Ev.dl ev_int (dla_nil ⟨(16 : Nat), rfl, ⟨by decide, by decide⟩, fun d hd => ?_⟩))))))))
  obtain ⟨q, hq, rfl⟩ := hd
  have hq : q < 16 := hq
  refine ⟨.int ((1 + q : Nat) : Int), ?pl, ?_⟩
  case pl =>
    have e := pl_int (K := K) (i := 1) (j := (q : Int))
    rw [show (1 : Int) + (q : Int) = ((1 + q : Nat) : Int) by omega] at e
    exact e
  generalize hs : 1 + q = st
  have s1 : 1 ≤ st := by omega
  have s17 : st < 17 := by omega
  refine dla_nil ⟨small (show 3 ≤ 100000 by decide), [2] ++ ([3] ++ [4]), _, dg_tup3J dg_name dg_name dg_name, ?_⟩
  have nd := tags_nd (n := n) ha s17 s1 h8
  refine ds_ret (dl_sortedS (Ev.dl (EvN.ev (evn_lc1 (xs := List.range n) (c := fun k : Nat => D.int k) (f := fun k => .str (tx (rowAt lab2 (stepAt a st k)))) (ei_range (n := n) (eva_cons (ev_var rfl) eva_nil) (by omega)) (by rw [List.length_range]; omega) fun k hk => ⟨[5], _, dg_name, fun i hi => hi, evt_yes, ev_ix (ds := nameD lab2) (ev_var rfl).b (ev_op (ev_int1 (ev_op (ev_var rfl) (ev_op (ev_var rfl) (ev_var rfl) (times_int (.inl ⟨by omega, by omega⟩))) pl_int)) ev_int (dr2_mod (by decide))) (at_step a st k)⟩)) ⟨((List.range n).map fun k => rowAt lab2 (stepAt a st k)).map tx, ?_, by rw [List.length_map, List.length_map, List.length_range]; omega, fun zs hz hs => ⟨zs.map fun s => s.cps.toList, ?_, names_ofN lab2_ok nd (fun l hl => ?_) hz hs (by rw [List.length_map, List.length_range]) h1 h8, ?_⟩⟩))
  · rw [List.map_map, List.map_map]; rfl
  · unfold nameD
    rw [List.map_map]
    exact congrArg D.lst (List.map_congr_left fun s _ => congrArg D.str (of_tx s)).symm
  · obtain ⟨k, _, rfl⟩ := List.mem_map.mp hl
    exact rowAt_mem (show _ < lab2.length from step_lt a st k)
  · rw [List.length_map, hz.length_eq, List.length_map, List.length_map, List.length_range]
end K37

namespace K37
open PySem PySem.Spec PyProof.Rows L2 Dw
variable [Tabs0]
theorem d__law_turned {P : Program} {w : World} {K : PySem.W.Frag} {mg : Str → Option Value} {base : Heap} (T : Txt K w mg) : FnOk P w K mg base CX0 1 T.f__law_turned T.e__law_turned ["_law_signs"] (toSp (spFlip)) := by
  refine fn_ok T.F__law_turned sc__law_turned (fun _ => rfl) fun cdv A outer s' H E hr => ?_
  refine ⟨_, (pss_one (ps_ret (joinA K pe_str (pe_lc (own := [("_law_sign", 1)]) rfl sc__law_turned.nd (piR K (pv 0)) (blkOk_by (own := [("_law_sign", 1)]) (N := N__law_turned) (sc := (defScope s__law_turned)) (by decide +kernel)) (fun _ _ _ _ _ => pg_name (i := 1) sc__law_turned.nd rfl (Or.inl rfl)) (fun _ _ _ _ _ => pts_nil) (fun _ _ _ _ _ => (pe_dget (hu_of hr) (pe_disp (pps_cons pe_str pe_str (pps_cons pe_str pe_str (pps_cons pe_str pe_str pps_nil))) (by rfl) (by rfl) (fun z => by cases z) (by decide)) (pv 1) (fun _ _ => rfl))))))), fun x hx => ?_⟩
  obtain ⟨l, rfl⟩ : ∃ l : List Nat, l = x := ⟨x, rfl⟩
  obtain ⟨n, hl, hn⟩ := hx
  have hl : RowOk l n := hl
  have it : Ei (iAnyR K (tVar 0)) (Gz0 2 (spFlip.args l)) (l.map fun c => D.str (ch c)) := by
    have := ej_str (K := K) (ta := tVar 0) (Γ := Gz0 2 (spFlip.args l)) (x := tx l) (ev_var rfl)
    rw [signs_tx, List.map_map] at this
    exact this
  refine ds_ret (Ev.dl (ev_join (x := Str.ofString "") (ys := (flipped l).map ch) ev_str (EvN.b ?_) ?_) ?_)
  · have e1 : (((flipped l).map ch).map D.str) = ((l.filter fun _ => true).map fun c => D.str (ch (flip1 c))) := by
      rw [List.filter_eq_self.mpr (fun _ _ => rfl)]
      unfold flipped
      rw [List.map_map, List.map_map]; rfl
    rw [e1]
    exact evn_lc (c := fun c => .str (ch c)) (p := fun _ => true) (f := fun c => .str (ch (flip1 c))) it (by rw [hl.len]; omega)
      fun c hc => ⟨[1], _, dg_name, fun i hi => hi, evt_yes, fun _ => ev_dget [(Str.ofString "+", Str.ofString "-"), (Str.ofString "-", Str.ofString "+"), (Str.ofString ".", Str.ofString ".")] rfl (by decide) (ev_var rfl) (flip_get (hl.all c hc))⟩
  · rw [chs_len]
    show (l.map flip1).length + ((l.map flip1).map ch).length * 0 ≤ _
    rw [List.length_map, hl.len]
    omega
  · show D.str _ = D.str _
    rw [join_chs]
end K37

namespace K37
open PySem PySem.Spec PyProof.Rows L2 Dw
variable [Tabs0]
theorem d__law_row {P : Program} {w : World} {K : PySem.W.Frag} {mg : Str → Option Value} {base : Heap} (T : Txt K w mg) : FnOk P w K mg base CX0 2 T.f__law_row T.e__law_row ["_law_jar", "_law_many"] (toSp (spSigns)) := by
  refine fn_ok T.F__law_row sc__law_row (fun _ => rfl) fun cdv A outer s' H E hr => ?_
  refine ⟨_, (pss_one (ps_ret (joinA K pe_str (pe_lc (own := [("_law_k", 2)]) rfl sc__law_row.nd (pi_range1 (by rfl) T.n_range (pa_cons (pv 1) pa_nil)) (blkOk_by (own := [("_law_k", 2)]) (N := N__law_row) (sc := (defScope s__law_row)) (by decide +kernel)) (fun _ _ _ _ _ => pg_name (i := 2) sc__law_row.nd rfl (Or.inl rfl)) (fun _ _ _ _ _ => pts_nil) (fun _ _ _ _ _ => (pe_ix (ixA K) pe_str (pe_call (d__law_dip T) (hr.mono (by decide)) (by rfl) T.m__law_dip T.F__law_dip.kp T.b__law_dip .nil pass0 (pa_cons (pv 0) (pa_cons pe_int pa_nil))) (fun _ _ => rfl))))))), fun x hx => ?_⟩
  obtain ⟨n, rfl⟩ : ∃ n : Nat, n = x := ⟨x, rfl⟩
  have hn : n ≤ 8 := hx
  refine ds_ret (dl_join ev_str (dl_lc (di_range (dla_cons (Ev.dl (ev_var rfl) (dla_nil ⟨n, rfl, by omega, by rw [rng_length]; omega, fun i acc Γ' => Γ' = wipeG (Gz0 3 (spSigns.args n)) [2] ∧ ∃ l : List Nat, acc = (l.map ch).map D.str ∧ RowOk l i, ⟨rfl, [], rfl, rfl, fun c h => absurd h (by simp)⟩, fun i x acc Γ' hx' ⟨e, l, ea, hl⟩ => ?_, fun acc Γ' ⟨e, l, ea, hl⟩ => ?_⟩))))))
  · subst e
    refine ⟨[2], _, dg_name, fun i hi => hi, dlt_yes ⟨fun _ => ?_, fun h => nomatch h⟩⟩
    refine dl_op (Ev.dl ev_str (dl_call (dla_cons (Ev.dl (ev_var rfl) (dla_cons (Ev.dl ev_int (dla_nil ⟨(5 : Nat), rfl, ⟨by decide, by decide⟩, fun d hd => ?_⟩)))))))
    obtain ⟨r, hr', ed⟩ := hd
    subst ed
    have : ∃ c, isSign c ∧ atI (Str.ofString "+-.+-").cps.toList (r : Int) = some c := by
      rcases (show r = 0 ∨ r = 1 ∨ r = 2 ∨ r = 3 ∨ r = 4 by omega) with rfl | rfl | rfl | rfl | rfl
      · exact ⟨43, .inl rfl, by decide +kernel⟩
      · exact ⟨45, .inr (.inl rfl), by decide +kernel⟩
      · exact ⟨46, .inr (.inr rfl), by decide +kernel⟩
      · exact ⟨43, .inl rfl, by decide +kernel⟩
      · exact ⟨45, .inr (.inl rfl), by decide +kernel⟩
    obtain ⟨c, hc, hat⟩ := this
    refine ⟨_, dr2_ixS (by decide +kernel) hat, rfl, l ++ [c], ?_, by rw [List.length_append, hl.len]; rfl, fun z hz => ?_⟩
    · rw [ea, List.map_append, List.map_append]; rfl
    · rcases List.mem_append.mp hz with hz | hz
      · exact hl.all z hz
      · rw [List.mem_singleton.mp hz]; exact hc
  · rw [rng_length] at hl
    refine ⟨l.map ch, congrArg D.lst ea, ?_, l, hl, by rw [join_chs]⟩
    rw [chs_len, List.length_map, hl.len]
    show n + n * 0 ≤ _
    omega
end K37

namespace K37
open PySem PySem.Spec PyProof.Rows L2 Dw
variable [Tabs0]
/-! lots struck -/
def butM (rs : List (List Nat)) (S : List Nat) : List Nat := (List.range rs.length).filter fun i => !decide (i ∈ S)
def restM (rs : List (List Nat)) (S : List Nat) : List (List Nat) := (butM rs S).map (rowAt rs)
def fitB (rs : List (List Nat)) (n : Nat) (S : List Nat) : Bool := decide (Still (restM rs S) n = [])
def struckM (rs : List (List Nat)) (n : Nat) : List (List Nat) := leastM (fitB rs n) (lotsO rs.length)
/-! the least ones of lots in order -/
theorem rest_ok {rs : List (List Nat)} {n : Nat} (hr : ∀ r ∈ rs, RowOk r n) (S : List Nat) : ∀ r ∈ restM rs S, RowOk r n := fun r h => by
  obtain ⟨i, hi, rfl⟩ := List.mem_map.mp h
  exact rowAt_ok hr (List.mem_range.mp (List.mem_filter.mp hi).1)
def spFW (C : Addr) : Spc where
  ty := List (List Nat) × List (List Nat) × List Nat
  args := fun x => [bookD C x.1 x.2.1, .tup (ordD x.2.2)]
  ok := fun x => BookOk x.1 x.2.1
  rel := fun x d => d = .bl (fitB x.2.1 x.1.length x.2.2)
def spStruck (C : Addr) : Spc where
  ty := Bk
  args := fun x => [.tag (bookD C x.1 x.2)]
  ok := fun x => BookOk x.1 x.2 ∧ x.2.length ≤ 10
  rel := fun x d => d = .tup (ordT (struckM x.2 x.1.length))
def spPageB : Spc where
  ty := Bk
  args := fun x => [.lst (nameD x.1), .lst (nameD x.2)]
  ok := fun x => BookOk x.1 x.2
  rel := fun x d => d = .str (tx (bookTx x.1 x.2))
def spAnyRows : Spc where
  ty := Nat × Nat
  args := fun x => [.purse, .int x.1, .int x.2]
  ok := fun x => x.1 ≤ 8 ∧ x.2 ≤ 1000
  rel := fun x d => ∃ rs, d = .lst (nameD rs) ∧ rs.length ≤ x.2 ∧ ∀ r ∈ rs, RowOk r x.1
theorem joinL_cons' (s a : List Nat) : ∀ rs : List (List Nat), TL.joinL s (a :: rs) = a ++ (rs.map (s ++ ·)).flatten
  | [] => by simp [TL.joinL]
  | q :: r => by
    show a ++ (s ++ TL.joinL s (q :: r)) = a ++ ((s ++ q) ++ (r.map (s ++ ·)).flatten)
    rw [joinL_cons' s q r, List.append_assoc]
theorem atI_last (ds : List D) (d : D) : atI (ds ++ [d]) (-1) = some d := by
  unfold atI
  have e : ixN (ds.length + 1) (-1) = some ds.length := by
    unfold ixN
    rw [if_neg (by decide)]
    split
    · exact congrArg some (by omega)
    · omega
  rw [List.length_append]
  show (ixN (ds.length + 1) (-1)).bind _ = _
  rw [e]
  simp
abbrev rNotNone : R2 := fun x y H Q => y = .non ∧ Q (.bl (!decide (x = .non))) H
theorem dr2_notN {d : D} {b : Bool} (h : ∀ (W : Wd) v, Rep W d v → (!decide (v = V.non)) = b) : DR2 rNotNone d .non (.bl b) := dr2_flat fun W u v Q r1 r2 k => ⟨r2, by rw [h W u r1]; exact k _ rfl⟩
theorem evt_castB {t : TT} {Γ : Gam} {a b : Bool} (e : b = a) (h : EvT t Γ b) : EvT t Γ a := e ▸ h
theorem ds_mid {t : TS} {Γ : Gam} {De : DE} (P : Gam → Prop) (h : Ds t Γ { De with nx := P }) (hq : ∀ Γ', P Γ' → De.nx Γ') : Ds t Γ De := fun F σ W Dr g l => h F σ W Dr g ⟨fun σ1 W1 Γ1 s g1 q => l.nx σ1 W1 Γ1 s g1 (hq Γ1 q), l.rt, l.bk, l.ct⟩
/-- an own list, lent for one expression whose answer is a text -/
theorem dl_lendS {Γ : Gam} {t : TE} {Q : D → Gam → Prop} (i : Nat) {ds : List D} (hi : Γ[i]? = some (.own ds)) (one : ∀ (j : Nat) (es : Ow), Γ[j]? = some (.ownX es) → j = i)
    (h : Dl t (Γ.set i (.val (.lst ds))) fun d Γ1 => Γ1 = Γ.set i (.val (.lst ds)) ∧ (∃ x : Str, d = .str x) ∧ Q d Γ) : Dl t Γ Q := fun F σ W R g k => by
  obtain ⟨a, vs, hs, ua, fa, pa, ea, ra⟩ := g.own i ds hi
  obtain ⟨st0, g0⟩ := g.freeze hi hs
  refine h F σ ⟨W.H, fun b => W.U b ∧ b ≠ a, W.P⟩ R g0 fun v W1 d Γ1 st g1 r ⟨eΓ, ⟨m, ed⟩, q⟩ => ?_
  subst eΓ; subst ed
  have ea1 := st.keep a _ ea fun z => z.2 rfl
  have hp : W1.P = W.P := st.pur
  have stp : Stp F W ⟨W1.H, fun b => W1.U b ∨ b = a, W1.P⟩ := ⟨fun b u e n => by
    have hb := st.keep b u e fun z => n z.1
    exact ⟨hb.1, fun z => z.elim hb.2 fun z => n (z ▸ ua)⟩, hp, fun b z => st.fr b z⟩
  refine k v ⟨W1.H, fun b => W1.U b ∨ b = a, W1.P⟩ (.str m) Γ stp ⟨⟨fun b z => z.elim (g1.ok.dom b) (fun z => by rw [z, ea1.1]; exact fun q => nomatch q), fun b z => .inl (g1.ok.fu b z), fun b z => let ⟨u, f, p⟩ := g1.ok.pu b z; ⟨.inl u, f, p.back ea1.1⟩⟩, g.len, fun j d' e => ?_, fun j es e => ?_, g.apartX⟩ r q
  · obtain ⟨v', e1, r'⟩ := g.val j d' e
    exact ⟨v', e1, r'.stp stp⟩
  · obtain rfl := one j es e
    rw [hi] at e; cases e
    exact ⟨a, vs, hs, .inr rfl, fa, by rw [hp]; exact pa, ea1.1, ra.stp stp⟩
def spRightJ : Spc where
  ty := Unit
  args := fun _ => [.purse]
  ok := fun _ => True
  rel := fun _ d => d = .bl true
end K37

namespace K37
open PySem PySem.Spec PyProof.Rows L2 Dw
variable [Tabs0]
theorem d_fits_without {P : Program} {w : World} {K : PySem.W.Frag} {mg : Str → Option Value} {base : Heap} (T : Txt K w mg) : FnOk P w K mg base CX0 4 T.f_fits_without T.e_fits_without ["book", "lot"] (toSp (spFW T.C_Book)) := by
  refine fn_ok T.F_fits_without sc_fits_without (fun _ => rfl) fun cdv A outer s' H E hr => ?_
  refine ⟨_, (pss_cons (ps_setLc (i := 2) (own := [("index", 3), ("row", 4)]) rfl sc_fits_without.nd rfl rfl (sw_true rfl rfl rfl (by decide +kernel)) (enumTA K (by rfl) T.n_enumerate (pa_cons (pe_prop (pv 0) T.cl_Book T.p_Book_rows (d_Book_rows T) (hr.mono (by decide)) T.b_Book_rows .nil pass0 rfl) pa_nil)) (blkOk_by (own := [("index", 3), ("row", 4)]) (N := N_fits_without) (sc := (defScope s_fits_without)) (by decide +kernel)) (fun _ _ _ _ _ => tupA K 2 rfl (pgs_cons (pg_name (i := 3) sc_fits_without.nd rfl (Or.inl rfl)) (pgs_cons (pg_name (i := 4) sc_fits_without.nd rfl (Or.inl rfl)) pgs_nil))) (fun _ _ _ _ _ => pts_one (pt_cmpR (ninA K) (pv 3) (pv 1) (by rfl))) (fun _ _ _ _ _ => (pv 4))) (pss_one (ps_ret (pe_call (d_some_fits T) (hr.mono (by decide)) (by rfl) T.m_some_fits T.F_some_fits.kp T.b_some_fits .nil pass0 (pa_cons (pv 2) (pa_cons (pe_callB (lenA K) (by rfl) T.n_len (by decide +kernel) (pa_cons (pe_prop (pv 0) T.cl_Book T.p_Book_names (d_Book_names T) (hr.mono (by decide)) T.b_Book_names .nil pass0 rfl) pa_nil)) pa_nil)))))), fun x hx => ?_⟩
  obtain ⟨ls, rs, S⟩ := x
  have hb : BookOk ls rs := hx
  have h20 := hb.few
  refine ds_seq (ds_asg (Ev.dl (ev_cast (d' := .lst (nameD (restM rs S))) ?c (EvN.ev (evn_lc (xs := List.range rs.length) (c := fun i : Nat => D.tup [.int i, .str (tx (rowAt rs i))]) (p := fun i => !decide (i ∈ S)) (f := fun i : Nat => .str (tx (rowAt rs i))) (by rw [← enum_rows]; exact ei_enumT (ev_prop (s := spBRows T.C_Book) (x := (ls, rs)) (ev_var rfl) rfl (np_book _ ls rs) trivial fun d h => h)) (by rw [List.length_range]; omega) fun i hi => ⟨[3] ++ [4], _, dg_tup2 dg_name dg_name, fun i hi => hi, evt_test (ev_inOT (neg := true) (ev_var rfl) (ev_var rfl)), fun _ => ev_var rfl⟩))) ?_))
  case c =>
    unfold restM butM nameD
    rw [List.map_map]; rfl
  have lr : (restM rs S).length ≤ rs.length := by
    unfold restM butM
    rw [List.length_map]
    exact Nat.le_trans (List.length_filter_le _ _) (by rw [List.length_range]; exact Nat.le_refl _)
  exact ds_ret (Ev.dl (ev_call (s := spSome) (d := .bl (fitB rs ls.length S)) (x := (restM rs S, ls.length, true)) (eva_cons (ev_var rfl) (eva_cons (ev_names (C := T.C_Book) (rs := rs) (ev_prop (s := spBNames T.C_Book) (x := (ls, rs)) (ev_var rfl) rfl (np_book _ ls rs) trivial fun d h => h)) eva_nil)) (np_rd (b := true) (r := [_]) rfl) ⟨rest_ok hb.rows S, hb.n8, by show (restM rs S).length ≤ 1000; omega⟩ fun d h => h) rfl)
end K37

namespace K37
open PySem PySem.Spec PyProof.Rows L2 Dw
variable [Tabs0]
/-! the least cost of a way, head by head -/
def lwIn (c : Nat → Nat → Nat) (head : Nat) (a : List (Option Nat)) (k : Nat) : List (Option Nat) :=
  match a.getD head none with
  | none => a
  | some w => match a.getD (head ||| 2 ^ k) none with
    | none => a.set (head ||| 2 ^ k) (some (w + c head k))
    | some u => if w + c head k < u then a.set (head ||| 2 ^ k) (some (w + c head k)) else a
def lwStep (c : Nat → Nat → Nat) (B : List (List Nat)) (a : List (Option Nat)) (head : Nat) : List (Option Nat) := (B.getD head []).foldl (lwIn c head) a
def lwTo (c : Nat → Nat → Nat) (B : List (List Nat)) (i : Nat) : List (Option Nat) := (List.range i).foldl (lwStep c B) (some 0 :: List.replicate (B.length - 1) none)
def lwM (c : Nat → Nat → Nat) (B : List (List Nat)) : List (Option Nat) := lwTo c B B.length
inductive CPre (B : List (List Nat)) (c : Nat → Nat → Nat) : Nat → Nat → Prop
  | nil : CPre B c 0 0
  | step {h w k : Nat} : CPre B c h w → k ∈ B.getD h [] → CPre B c (h ||| 2 ^ k) (w + c h k)
theorem getD_set {α : Type} {a : List α} {i j : Nat} {x d : α} (h : i < a.length) : (a.set i x).getD j d = if i = j then x else a.getD j d := by
  rw [List.getD_eq_getElem?_getD, List.getD_eq_getElem?_getD, List.getElem?_set]
  by_cases e : i = j
  · rw [if_pos e, if_pos e, if_pos h]; rfl
  · rw [if_neg e, if_neg e]
/-- what one step keeps -/
structure LwK (a b : List (Option Nat)) : Prop where
  len : b.length = a.length
  low : ∀ h u, a.getD h none = some u → ∃ v, v ≤ u ∧ b.getD h none = some v
theorem LwK.refl (a : List (Option Nat)) : LwK a a := ⟨rfl, fun h u e => ⟨u, Nat.le_refl _, e⟩⟩
theorem LwK.trans {a b c : List (Option Nat)} (h : LwK a b) (k : LwK b c) : LwK a c := ⟨k.len.trans h.len, fun i u e => by
  obtain ⟨v, hv, e1⟩ := h.low i u e
  obtain ⟨w, hw, e2⟩ := k.low i v e1
  exact ⟨w, Nat.le_trans hw hv, e2⟩⟩
def Sound (B : List (List Nat)) (c : Nat → Nat → Nat) (a : List (Option Nat)) : Prop := ∀ h w, a.getD h none = some w → CPre B c h w
theorem lwIn_ok {B : List (List Nat)} {c : Nat → Nat → Nat} {head k : Nat} {a : List (Option Nat)} (s : Sound B c a) (hk : k ∈ B.getD head []) (lt : head < head ||| 2 ^ k) (ll : head ||| 2 ^ k < a.length) :
    LwK a (lwIn c head a k) ∧ Sound B c (lwIn c head a k) ∧ (lwIn c head a k).getD head none = a.getD head none ∧ ∀ w, a.getD head none = some w → ∃ u, u ≤ w + c head k ∧ (lwIn c head a k).getD (head ||| 2 ^ k) none = some u := by
  unfold lwIn
  cases e : a.getD head none with
  | none => exact ⟨.refl a, s, e, fun w h => nomatch h⟩
  | some w =>
    have cp := CPre.step (s head w e) hk
    have ne : head ||| 2 ^ k ≠ head := by omega
    have key : (∀ u, a.getD (head ||| 2 ^ k) none = some u → w + c head k ≤ u) → LwK a (a.set (head ||| 2 ^ k) (some (w + c head k))) ∧ Sound B c (a.set (head ||| 2 ^ k) (some (w + c head k))) ∧ (a.set (head ||| 2 ^ k) (some (w + c head k))).getD head none = some w ∧ ∀ w', some w = some w' → ∃ u, u ≤ w' + c head k ∧ (a.set (head ||| 2 ^ k) (some (w + c head k))).getD (head ||| 2 ^ k) none = some u := fun hu => by
      refine ⟨⟨List.length_set .., fun h u eu => ?_⟩, fun h u eu => ?_, ?_, fun w' ew => ?_⟩
      · rw [getD_set ll]
        by_cases z : head ||| 2 ^ k = h
        · rw [if_pos z]
          exact ⟨_, hu u (by rw [z]; exact eu), rfl⟩
        · rw [if_neg z]; exact ⟨u, Nat.le_refl _, eu⟩
      · rw [getD_set ll] at eu
        by_cases z : head ||| 2 ^ k = h
        · rw [if_pos z] at eu
          cases eu
          rw [← z]; exact cp
        · rw [if_neg z] at eu; exact s h u eu
      · rw [getD_set ll, if_neg ne]; exact e
      · cases ew
        rw [getD_set ll, if_pos rfl]; exact ⟨_, Nat.le_refl _, rfl⟩
    cases e2 : a.getD (head ||| 2 ^ k) none with
    | none => exact key fun u eu => by rw [e2] at eu; cases eu
    | some u =>
      by_cases lt2 : w + c head k < u
      · simp only [lt2, if_true]
        exact key fun u' eu => by rw [e2] at eu; cases eu; omega
      · simp only [lt2, if_false]
        exact ⟨.refl a, s, e, fun w' ew => by cases ew; exact ⟨u, by omega, e2⟩⟩
theorem lwF_ok {B : List (List Nat)} {c : Nat → Nat → Nat} {head : Nat} : ∀ (ks : List Nat) (a : List (Option Nat)), Sound B c a → (∀ k ∈ ks, k ∈ B.getD head [] ∧ head < head ||| 2 ^ k ∧ head ||| 2 ^ k < a.length) →
    LwK a (ks.foldl (lwIn c head) a) ∧ Sound B c (ks.foldl (lwIn c head) a) ∧ (ks.foldl (lwIn c head) a).getD head none = a.getD head none ∧ ∀ w, a.getD head none = some w → ∀ k ∈ ks, ∃ u, u ≤ w + c head k ∧ (ks.foldl (lwIn c head) a).getD (head ||| 2 ^ k) none = some u
  | [], a, s, _ => ⟨.refl a, s, rfl, fun w _ k hk => by cases hk⟩
  | k :: ks, a, s, hk => by
    obtain ⟨b1, b2, b3⟩ := hk k List.mem_cons_self
    obtain ⟨h1, h2, h3, h4⟩ := lwIn_ok s b1 b2 b3
    obtain ⟨g1, g2, g3, g4⟩ := lwF_ok ks (lwIn c head a k) h2 fun j hj => by
      obtain ⟨c1, c2, c3⟩ := hk j (List.mem_cons_of_mem _ hj)
      exact ⟨c1, c2, by rw [h1.len]; exact c3⟩
    rw [List.foldl_cons]
    refine ⟨h1.trans g1, g2, g3.trans h3, fun w ew j hj => ?_⟩
    rcases List.mem_cons.mp hj with rfl | hj
    · obtain ⟨u, hu, eu⟩ := h4 w ew
      obtain ⟨v, hv, ev⟩ := g1.low _ u eu
      exact ⟨v, Nat.le_trans hv hu, ev⟩
    · exact g4 w (by rw [h3]; exact ew) j hj
theorem lwTo_succ (c : Nat → Nat → Nat) (B : List (List Nat)) (i : Nat) : lwTo c B (i + 1) = lwStep c B (lwTo c B i) i := by
  unfold lwTo
  rw [List.range_succ, List.foldl_append]; rfl
/-- all that is known behind the first i heads -/
structure LwI (B : List (List Nat)) (c : Nat → Nat → Nat) (i : Nat) (a : List (Option Nat)) : Prop where
  len : a.length = B.length
  sound : Sound B c a
  zero : ∃ u, u ≤ 0 ∧ a.getD 0 none = some u
  full : ∀ g, g < i → ∀ w, CPre B c g w → ∀ k ∈ B.getD g [], ∃ u, u ≤ w + c g k ∧ a.getD (g ||| 2 ^ k) none = some u
theorem lwI_to {B : List (List Nat)} {c : Nat → Nat → Nat} (sb : StepB B) : ∀ i, i ≤ B.length → LwI B c i (lwTo c B i)
  | 0, _ => by
    have lo := sb.lo
    refine ⟨?_, fun h w e => ?_, ⟨0, Nat.le_refl _, rfl⟩, fun g hg => absurd hg (Nat.not_lt_zero _)⟩
    · show (List.replicate (B.length - 1) none).length + 1 = _
      rw [List.length_replicate]; omega
    · cases h with
      | zero =>
        have e : some 0 = some w := e
        cases e
        exact .nil
      | succ h =>
        have e : (List.replicate (B.length - 1) (none : Option Nat)).getD h none = some w := e
        rw [List.getD_eq_getElem?_getD, List.getElem?_replicate] at e
        split at e <;> cases e
  | i + 1, hi => by
    have ih := lwI_to (c := c) sb i (by omega)
    have hil : i < B.length := by omega
    rw [lwTo_succ]
    unfold lwStep
    obtain ⟨g1, g2, g3, g4⟩ := lwF_ok (B.getD i []) (lwTo c B i) ih.sound fun k hk => ⟨hk, (sb.up i hil k hk).1, by rw [ih.len]; exact (sb.up i hil k hk).2⟩
    -- the head's own value is the least
    have own : ∀ w, CPre B c i w → ∃ u, u ≤ w ∧ (lwTo c B i).getD i none = some u := fun w cp => by
      generalize hh : i = h at cp
      cases cp with
      | nil => subst hh; exact ih.zero
      | @step g w' k cp' hk =>
        by_cases hg : g < B.length
        · have := (sb.up g hg k hk).1
          obtain ⟨u, hu, eu⟩ := ih.full g (by omega) w' cp' k hk
          exact ⟨u, hu, by rw [← hh] at eu ⊢; exact eu⟩
        · rw [List.getD_eq_getElem?_getD, List.getElem?_eq_none (by omega)] at hk
          cases hk
    refine ⟨g1.len.trans ih.len, g2, ?_, fun g hg w cp k hk => ?_⟩
    · obtain ⟨u, hu, eu⟩ := ih.zero
      obtain ⟨v, hv, ev⟩ := g1.low 0 u eu
      exact ⟨v, by omega, ev⟩
    · by_cases z : g = i
      · subst z
        obtain ⟨u, hu, eu⟩ := own w cp
        obtain ⟨v, hv, ev⟩ := g4 u eu k hk
        exact ⟨v, by omega, ev⟩
      · obtain ⟨u, hu, eu⟩ := ih.full g (by omega) w cp k hk
        obtain ⟨v, hv, ev⟩ := g1.low _ u eu
        exact ⟨v, by omega, ev⟩
/-- what stands at a head is the least cost of a way to it; None, where there is none -/
theorem lw_least {B : List (List Nat)} {c : Nat → Nat → Nat} (sb : StepB B) {h : Nat} (hh : h < B.length) : (∀ w, (lwM c B).getD h none = some w → CPre B c h w ∧ ∀ w', CPre B c h w' → w ≤ w') ∧ ((lwM c B).getD h none = none → ∀ w, ¬ CPre B c h w) := by
  have I := lwI_to (c := c) sb B.length (Nat.le_refl _)
  have low : ∀ w, CPre B c h w → ∃ u, u ≤ w ∧ (lwM c B).getD h none = some u := fun w cp => by
    cases cp with
    | nil => exact I.zero
    | @step g w' k cp' hk =>
      by_cases hg : g < B.length
      · exact I.full g hg w' cp' k hk
      · rw [List.getD_eq_getElem?_getD, List.getElem?_eq_none (by omega)] at hk
        cases hk
  refine ⟨fun w e => ⟨I.sound h w e, fun w' cp => ?_⟩, fun e w cp => ?_⟩
  · obtain ⟨u, hu, eu⟩ := low w' cp
    rw [e] at eu; cases eu
    exact hu
  · obtain ⟨u, _, eu⟩ := low w cp
    rw [e] at eu; cases eu
/-! what a way costs: the rows that fall on it -/
def dotsH (r : List Nat) (n h : Nat) : Bool := (List.range n).all fun j => !h.testBit j || decide (sgn r j = 46)
def fallC (rows : List (List Nat)) (n h k : Nat) : Nat := (rows.filter fun r => decide (sgn r k = 45) && dotsH r n h).length
def wrongN (rows : List (List Nat)) (o : List Nat) : Nat := (rows.filter fun r => !holdsB r o).length
theorem holds_sign {r p q : List Nat} (h : ∃ j ∈ p, sgn r j ≠ 46) : holdsB r (p ++ q) = holdsB r p := by
  unfold holdsB
  rw [told_app]
  have : told r p ≠ [] := fun z => by
    obtain ⟨j, hj, hs⟩ := h
    unfold told at z
    have := List.filter_eq_nil_iff.mp z (sgn r j) (List.mem_map.mpr ⟨j, hj, rfl⟩)
    simp at this
    exact hs this
  cases e : told r p with
  | nil => exact absurd e this
  | cons a l => rfl
theorem row_fall {r p : List Nat} {n h k : Nat} (hr : sgn r k = 43 ∨ sgn r k = 45 ∨ sgn r k = 46) (hp : ∀ j ∈ p, j < n) (hb : ∀ j, h.testBit j = decide (j ∈ p)) : ((!holdsB r (p ++ [k])) = ((!holdsB r p) || (decide (sgn r k = 45) && dotsH r n h))) ∧ ((!holdsB r p) = true → (decide (sgn r k = 45) && dotsH r n h) = false) := by
  by_cases d : ∀ j ∈ p, sgn r j = 46
  · have dh : dotsH r n h = true := by
      unfold dotsH
      rw [List.all_eq_true]
      intro j hj
      rw [hb j]
      by_cases z : j ∈ p
      · rw [decide_eq_true (d j z)]; simp
      · rw [decide_eq_false z]; rfl
    have e1 : holdsB r p = true := holds_dots d
    refine ⟨?_, fun z => by rw [e1] at z; cases z⟩
    rw [holds_pre d, e1, dh, Bool.and_true]
    rcases hr with z | z | z
    · rw [z]
      unfold holdsB told
      rw [List.map_cons, List.map_nil, z]; rfl
    · rw [z]
      unfold holdsB told
      rw [List.map_cons, List.map_nil, z]; rfl
    · rw [z]
      unfold holdsB told
      rw [List.map_cons, List.map_nil, z]; rfl
  · have ex : ∃ j ∈ p, sgn r j ≠ 46 := Classical.byContradiction fun z => d fun j hj => Classical.byContradiction fun y => z ⟨j, hj, y⟩
    have dh : dotsH r n h = false := by
      obtain ⟨j, hj, hs⟩ := ex
      cases z : dotsH r n h with
      | false => rfl
      | true =>
        unfold dotsH at z
        have := List.all_eq_true.mp z j (List.mem_range.mpr (hp j hj))
        rw [hb j, decide_eq_true hj, decide_eq_false hs] at this
        cases this
    rw [holds_sign ex, dh, Bool.and_false, Bool.or_false]
    exact ⟨rfl, fun _ => rfl⟩
theorem len_or {α : Type} {p q : α → Bool} : ∀ {l : List α}, (∀ a ∈ l, p a = true → q a = false) → (l.filter fun a => p a || q a).length = (l.filter p).length + (l.filter q).length
  | [], _ => rfl
  | a :: l, h => by
    have ih := len_or (l := l) fun b hb => h b (List.mem_cons_of_mem _ hb)
    have h0 := h a List.mem_cons_self
    cases e1 : p a with
    | true =>
      have e2 := h0 e1
      rw [List.filter_cons_of_pos (by rw [e1]; rfl), List.filter_cons_of_pos e1, List.filter_cons_of_neg (by rw [e2]; decide), List.length_cons, List.length_cons, ih]
      omega
    | false =>
      cases e2 : q a with
      | true =>
        rw [List.filter_cons_of_pos (by rw [e1, e2]; rfl), List.filter_cons_of_neg (by rw [e1]; decide), List.filter_cons_of_pos e2, List.length_cons, List.length_cons, ih]
        omega
      | false =>
        rw [List.filter_cons_of_neg (by rw [e1, e2]; decide), List.filter_cons_of_neg (by rw [e1]; decide), List.filter_cons_of_neg (by rw [e2]; decide), ih]
theorem wrong_snoc {rows : List (List Nat)} {p : List Nat} {n h k : Nat} (hr : ∀ r ∈ rows, RowOk r n) (hp : ∀ j ∈ p, j < n) (hb : ∀ j, h.testBit j = decide (j ∈ p)) : wrongN rows (p ++ [k]) = wrongN rows p + fallC rows n h k := by
  unfold wrongN fallC
  rw [← len_or fun r hr' => (row_fall (k := k) (sgn_is (hr r hr') k) hp hb).2]
  refine congrArg List.length (List.filter_congr fun r hr' => (row_fall (k := k) (sgn_is (hr r hr') k) hp hb).1)
theorem wrong_nil (rows : List (List Nat)) : wrongN rows [] = 0 := by
  unfold wrongN
  rw [List.filter_eq_nil_iff.mpr fun r _ => by rw [holds_dots fun k h => absurd h (by simp)]; decide]; rfl
theorem pre_cost {rs rows : List (List Nat)} {n h : Nat} {p : List Nat} (hr : ∀ r ∈ rows, RowOk r n) (w : Pre rs n h p) : CPre (stepsM rs n) (fallC rows n) h (wrongN rows p) ∧ ∀ j ∈ p, j < n := by
  induction w with
  | nil => exact ⟨by rw [wrong_nil]; exact .nil, fun j h => absurd h (by simp)⟩
  | snoc h k p hk ho w ih =>
    obtain ⟨hlt, hb⟩ := pre_bits w
    refine ⟨?_, fun j hj => ?_⟩
    · rw [wrong_snoc hr ih.2 hb]
      exact .step ih.1 (by rw [steps_at hlt]; exact List.mem_filter.mpr ⟨List.mem_range.mpr hk, ho⟩)
    · rcases List.mem_append.mp hj with hj | hj
      · exact ih.2 j hj
      · rw [List.mem_singleton.mp hj]; exact hk
theorem cost_pre {rs rows : List (List Nat)} {n h w : Nat} (hr : ∀ r ∈ rows, RowOk r n) (c : CPre (stepsM rs n) (fallC rows n) h w) : ∃ p, Pre rs n h p ∧ w = wrongN rows p := by
  induction c with
  | nil => exact ⟨[], .nil, (wrong_nil rows).symm⟩
  | @step h w k c hk ih =>
    obtain ⟨p, hp, e⟩ := ih
    obtain ⟨hlt, hb⟩ := pre_bits hp
    rw [steps_at hlt] at hk
    obtain ⟨k1, k2⟩ := List.mem_filter.mp hk
    refine ⟨p ++ [k], .snoc h k p (List.mem_range.mp k1) k2 hp, ?_⟩
    rw [wrong_snoc hr (pre_cost hr hp).2 hb, e]
theorem pre_full {rs : List (List Nat)} {n : Nat} {o : List Nat} (hr : ∀ r ∈ rs, RowOk r n) : Pre rs n (2 ^ n - 1) o ↔ o ∈ fitM rs n := by
  rw [← way_fit hr]
  constructor
  · intro h
    have := pre_way h .done
    rwa [List.append_nil] at this
  · intro h
    obtain ⟨g, hg, w⟩ := way_of (p := o) (o := []) (by rw [List.append_nil]; exact h)
    cases w
    exact hg
/-- the least number of wrong rows over the rankings that some rows allow -/
theorem least_wrong {rs rows : List (List Nat)} {n : Nat} (sb : StepB (stepsM rs n)) (hr : ∀ r ∈ rs, RowOk r n) (hq : ∀ r ∈ rows, RowOk r n) : (∀ w, (lwM (fallC rows n) (stepsM rs n)).getD (2 ^ n - 1) none = some w → (∃ o ∈ fitM rs n, wrongN rows o = w) ∧ ∀ o ∈ fitM rs n, w ≤ wrongN rows o) ∧ ((lwM (fallC rows n) (stepsM rs n)).getD (2 ^ n - 1) none = none → fitM rs n = []) := by
  have hl : 2 ^ n - 1 < (stepsM rs n).length := by
    rw [steps_len]
    have := Nat.two_pow_pos n
    omega
  obtain ⟨h1, h2⟩ := lw_least (c := fallC rows n) sb hl
  refine ⟨fun w e => ?_, fun e => List.eq_nil_iff_forall_not_mem.mpr fun o ho => ?_⟩
  · obtain ⟨c, lo⟩ := h1 w e
    obtain ⟨o, ho, ew⟩ := cost_pre hq c
    exact ⟨⟨o, (pre_full hr).mp ho, ew.symm⟩, fun o' ho' => lo _ (pre_cost hq ((pre_full hr).mpr ho')).1⟩
  · exact h2 e _ (pre_cost hq ((pre_full hr).mpr ho)).1

end K37

namespace K37
open PySem PySem.Spec PyProof.Rows L2 Dw
variable [Tabs0]
/-! what falls, and the least of it -/
def optW : Option Nat → D
  | none => .non
  | some w => .int (w : Nat)
theorem evt_castY {t : TT} {Γ : Gam} {a b : Bool} (e : b = a) (h : EvT t Γ b) : EvT t Γ a := e ▸ h
theorem evn_castY {t : TE} {Γ : Gam} {ds es : List D} (e : ds = es) (h : EvN t Γ ds) : EvN t Γ es := e ▸ h
theorem opt_isN (o : Option Nat) : ∀ (W : Wd) v, Rep W (optW o) v → decide (v = V.non) = o.isNone := fun W v r => by
  cases o with
  | none => rw [show v = V.non from r]; rfl
  | some w => rw [show v = V.int (w : Nat) from r]; rfl
theorem fall_bit {r : List Nat} {n h k : Nat} (hr : RowOk r n) (hh : h < 2 ^ n) : (decide (sideM 45 r &&& 2 ^ k ≠ 0) && !decide ((sideM 43 r ||| sideM 45 r) &&& h ≠ 0)) = (decide (sgn r k = 45) && dotsH r n h) := by
  have e1 : decide (sideM 45 r &&& 2 ^ k ≠ 0) = decide (sgn r k = 45) := by
    have := two_bit (a := sideM 45 r) (k := k)
    rw [side_bit (by decide)] at this
    rw [show decide (sideM 45 r &&& 2 ^ k ≠ 0) = !decide (sideM 45 r &&& 2 ^ k = 0) by rw [Bool.eq_iff_iff]; simp, this, Bool.not_not]
  have e2 : (!decide ((sideM 43 r ||| sideM 45 r) &&& h ≠ 0)) = dotsH r n h := by
    unfold dotsH
    rw [Bool.eq_iff_iff, Bool.not_eq_true', decide_eq_false_iff_not, Classical.not_not, and_zero, List.all_eq_true]
    constructor
    · intro z j hj
      have := z j
      rw [Nat.testBit_or, side_bit (by decide), side_bit (by decide)] at this
      cases hb : h.testBit j with
      | false => rfl
      | true =>
        rw [hb] at this
        rcases sgn_is hr j with y | y | y
        · exact absurd ⟨by rw [y]; rfl, rfl⟩ this
        · exact absurd ⟨by rw [y]; rfl, rfl⟩ this
        · rw [y]; rfl
    · rintro z j ⟨x1, x2⟩
      have jn : j < n := Classical.byContradiction fun y => by
        rw [Nat.testBit_lt_two_pow (Nat.lt_of_lt_of_le hh (Nat.pow_le_pow_right (by decide) (by omega)))] at x2
        cases x2
      have := z j (List.mem_range.mpr jn)
      rw [x2] at this
      have s46 : sgn r j = 46 := by simpa using this
      rw [Nat.testBit_or, side_bit (by decide), side_bit (by decide), s46] at x1
      cases x1
  rw [e1, e2]
def spFallen : Spc where
  ty := List (List Nat) × Nat × Nat × Nat
  args := fun x => [.lst (sidD (x.1.map sidesM)), .int (x.2.2.1 : Nat), .int (x.2.2.2 : Nat)]
  ok := fun x => (∀ r ∈ x.1, RowOk r x.2.1) ∧ x.2.1 ≤ 8 ∧ x.1.length ≤ 1000 ∧ x.2.2.1 < 2 ^ x.2.1 ∧ x.2.2.2 < x.2.1
  rel := fun x d => d = .int (fallC x.1 x.2.1 x.2.2.1 x.2.2.2 : Nat)
def spLeastW : Spc where
  ty := List (List Nat) × List Nat × Nat
  args := fun x => [.tup (nameD x.1), .str (tx x.2.1)]
  ok := fun x => (∀ r ∈ x.1, RowOk r x.2.2) ∧ RowOk x.2.1 x.2.2 ∧ x.2.2 ≤ 8 ∧ x.1.length ≤ 1000
  rel := fun x d => d = optW ((lwM (fallC x.1 x.2.2) (stepsM [x.2.1] x.2.2)).getD (2 ^ x.2.2 - 1) none)
theorem np_sid (o : List (Nat × Nat)) : noP (.lst (sidD o)) = true := noPs_map (f := fun s : Nat × Nat => D.tup [.int (s.1 : Nat), .int (s.2 : Nat)]) (fun _ => rfl) o
theorem opt_at {l : List (Option Nat)} {i : Nat} (h : i < l.length) : atI (l.map optW) (i : Int) = some (optW (l.getD i none)) := by
  rw [List.getD_eq_getElem?_getD, List.getElem?_eq_getElem h]
  exact atI_nat (by rw [List.getElem?_map, List.getElem?_eq_getElem h]; rfl)
theorem opt_last {l : List (Option Nat)} (h : 0 < l.length) : atI (l.map optW) (-1) = some (optW (l.getD (l.length - 1) none)) := by
  unfold atI
  have e : ixN l.length (-1) = some (l.length - 1) := by
    unfold ixN
    rw [if_neg (by decide)]
    split
    · exact congrArg some (by omega)
    · omega
  rw [List.length_map]
  show (ixN l.length (-1)).bind _ = _
  rw [e]
  show (l.map optW)[l.length - 1]? = _
  rw [List.getElem?_map, List.getD_eq_getElem?_getD, List.getElem?_eq_getElem (by omega)]; rfl
theorem opt_set (l : List (Option Nat)) (i w : Nat) : (l.map optW).set i (.int (w : Nat)) = (l.set i (some w)).map optW := by
  rw [List.map_set]; rfl
end K37

namespace K37
open PySem PySem.Spec PyProof.Rows L2 Dw
variable [Tabs0]
theorem d_count_fallen {P : Program} {w : World} {K : PySem.W.Frag} {mg : Str → Option Value} {base : Heap} (T : Txt K w mg) : FnOk P w K mg base CX0 1 T.f_count_fallen T.e_count_fallen ["told", "head", "rule"] (toSp (spFallen)) := by
  refine fn_ok T.F_count_fallen sc_count_fallen (fun _ => rfl) fun cdv A outer s' H E hr => ?_
  refine ⟨_, (pss_cons (ps_set (i := 3) sc_count_fallen.nd rfl (Or.inr rfl) (pe_op op_shl pe_int (pv 2))) (pss_one (ps_ret (pe_callB (lenA K) (by rfl) T.n_len (by decide +kernel) (pa_cons (pe_lc (own := [("better", 4), ("worse", 5)]) rfl sc_count_fallen.nd (piR K (pv 0)) (blkOk_by (own := [("better", 4), ("worse", 5)]) (N := N_count_fallen) (sc := (defScope s_count_fallen)) (by decide +kernel)) (fun _ _ _ _ _ => tupA K 2 rfl (pgs_cons (pg_name (i := 4) sc_count_fallen.nd rfl (Or.inl rfl)) (pgs_cons (pg_name (i := 5) sc_count_fallen.nd rfl (Or.inl rfl)) pgs_nil))) (fun _ _ _ _ _ => pts_one (PW.pt (pw_and (truA K (pe_op op_and (pv 5) (pv 3))) (pw_and1 (pt_not (truA K (pe_op op_and (pe_op op_or (pv 4) (pv 5)) (pv 1)))))))) (fun _ _ _ _ _ => (pv 5))) pa_nil))))), fun x hx => ?_⟩
  obtain ⟨rows, n, h, k⟩ := x
  obtain ⟨hr', h8, hz, hh, hk⟩ := hx
  have hr' : ∀ r ∈ rows, RowOk r n := hr'
  have h8 : n ≤ 8 := h8
  have hz : rows.length ≤ 1000 := hz
  have hh : h < 2 ^ n := hh
  have hk : k < n := hk
  refine ds_seq (ds_asg (Ev.dl (ev_op ev_int (ev_var (d := .int (k : Nat)) rfl) (dr2_shl1 (by omega))) ?_))
  refine ds_ret (Ev.dl (ev_cast (d' := .int (fallC rows n h k : Nat)) ?c (ev_len (EvN.b (evn_lc (xs := rows) (c := fun r => D.tup [.int (sideM 43 r : Nat), .int (sideM 45 r : Nat)]) (p := fun r => decide (sgn r k = 45) && dotsH r n h) (f := fun r => D.int (sideM 45 r : Nat)) (ej_list (Ev.b (ev_cast (congrArg D.lst (by unfold sidD; rw [List.map_map]; rfl)) (ev_var (d := .lst (sidD (rows.map sidesM))) rfl)))) (by omega) fun r hr => ⟨[4] ++ [5], _, dg_tup2 dg_name dg_name, fun i hi => hi, evt_castY (fall_bit (hr' r hr) hh) (evt_and (evt_castY (tru_nat _) (evt_tru_int (ev_op (ev_var (d := .int (sideM 45 r : Nat)) rfl) (ev_var (d := .int ((2 ^ k : Nat) : Int)) rfl) dr2_and))) fun _ => evt_not (evt_castY (tru_nat _) (evt_tru_int (ev_op (ev_op (ev_var (d := .int (sideM 43 r : Nat)) rfl) (ev_var (d := .int (sideM 45 r : Nat)) rfl) dr2_or) (ev_var (d := .int (h : Nat)) rfl) dr2_and)))), fun _ => ev_var rfl⟩)))) rfl)
  case c =>
    unfold fallC
    rw [List.length_map]
end K37

namespace K37
open PySem PySem.Spec PyProof.Rows L2 Dw
variable [Tabs0]
theorem d_least_wrong {P : Program} {w : World} {K : PySem.W.Frag} {mg : Str → Option Value} {base : Heap} (T : Txt K w mg) : FnOk P w K mg base CX0 4 T.f_least_wrong T.e_least_wrong ["rows", "row"] (toSp (spLeastW)) := by
  refine fn_ok T.F_least_wrong sc_least_wrong (fun _ => rfl) fun cdv A outer s' H E hr => ?_
  refine ⟨_, (pss_cons (ps_setLc (i := 2) (own := [("one", 10)]) rfl sc_least_wrong.nd rfl rfl (sw_true rfl rfl rfl (by decide +kernel)) (piR K (pv 0)) (blkOk_by (own := [("one", 10)]) (N := N_least_wrong) (sc := (defScope s_least_wrong)) (by decide +kernel)) (fun _ _ _ _ _ => pg_name (i := 10) sc_least_wrong.nd rfl (Or.inl rfl)) (fun _ _ _ _ _ => pts_nil) (fun _ _ _ _ _ => (pe_call (d_sides T) (hr.mono (by decide)) (by rfl) T.m_sides T.F_sides.kp T.b_sides .nil pass0 (pa_cons (pv 10) pa_nil)))) (pss_cons (ps_set (i := 3) sc_least_wrong.nd rfl (Or.inl rfl) (pe_call (d_steps T) (hr.mono (by decide)) (by rfl) T.m_steps T.F_steps.kp T.b_steps .nil pass0 (pa_cons (pe_tup (pa_cons (pv 1) pa_nil)) (pa_cons (pe_callB (lenA K) (by rfl) T.n_len (by decide +kernel) (pa_cons (pv 1) pa_nil)) pa_nil)))) (pss_cons (ps_setLc (i := 4) (own := [("_", 11)]) rfl sc_least_wrong.nd rfl rfl (sw_true rfl rfl rfl (by decide +kernel)) (piR K (pv 3)) (blkOk_by (own := [("_", 11)]) (N := N_least_wrong) (sc := (defScope s_least_wrong)) (by decide +kernel)) (fun _ _ _ _ _ => pg_name (i := 11) sc_least_wrong.nd rfl (Or.inl rfl)) (fun _ _ _ _ _ => pts_nil) (fun _ _ _ _ _ => pe_non)) (pss_cons (ps_asg pe_int (pg_sub (pv 4) pe_int set_list)) (pss_cons (ps_for PassesOwn.never rfl (enumTA K (by rfl) T.n_enumerate (pa_cons (pv 3) pa_nil)) (tupA K 2 rfl (pgs_cons (pg_name (i := 5) sc_least_wrong.nd rfl (Or.inl rfl)) (pgs_cons (pg_name (i := 6) sc_least_wrong.nd rfl (Or.inl rfl)) pgs_nil))) (pss_one (ps_for PassesOwn.never rfl (piR K (pv 6)) (pg_name (i := 7) sc_least_wrong.nd rfl (Or.inl rfl)) (pss_cons (ps_set (i := 8) sc_least_wrong.nd rfl (Or.inl rfl) (pe_op op_or (pv 5) (pe_op op_shl pe_int (pv 7)))) (pss_one (ps_if (pt_cmpR op_notN (pe_ix (ixA K) (pv 4) (pv 5) (fun _ _ => rfl)) pe_non (nomark _)) (pss_cons (ps_set (i := 9) sc_least_wrong.nd rfl (Or.inl rfl) (pe_op (plusE K) (pe_ix (ixA K) (pv 4) (pv 5) (fun _ _ => rfl)) (pe_call (d_count_fallen T) (hr.mono (by decide)) (by rfl) T.m_count_fallen T.F_count_fallen.kp T.b_count_fallen .nil pass0 (pa_cons (pv 2) (pa_cons (pv 5) (pa_cons (pv 7) pa_nil)))))) (pss_one (ps_if (PW.pt (pw_or (pt_cmpR op_isN (pe_ix (ixA K) (pv 4) (pv 8) (fun _ _ => rfl)) pe_non (nomark _)) (pw_or1 (pt_cmpR opLt (pv 9) (pe_ix (ixA K) (pv 4) (pv 8) (fun _ _ => rfl)) (nomark _))))) (pss_one (ps_asg (pv 9) (pg_sub (pv 4) (pv 8) set_list))) pss_nil))) pss_nil)))))) (pss_one (ps_ret (pe_ix (ixA K) (pv 4) (pe_un un_neg pe_int) (fun _ _ => rfl))))))))), fun x hx => ?_⟩
  obtain ⟨rows, row, n⟩ := x
  obtain ⟨hr', hrow, h8, hz⟩ := hx
  have hr' : ∀ r ∈ rows, RowOk r n := hr'
  have hrow : RowOk row n := hrow
  have h8 : n ≤ 8 := h8
  have hz : rows.length ≤ 1000 := hz
  have p8 := pow8 h8
  obtain ⟨B, eB⟩ : ∃ B, B = stepsM [row] n := ⟨_, rfl⟩
  obtain ⟨c, ec⟩ : ∃ c, c = fallC rows n := ⟨_, rfl⟩
  have sb : StepB B := by rw [eB]; exact steps_b [row] n
  have lB : B.length = 2 ^ n := by rw [eB]; exact steps_len _ _
  have bk : ∀ g, g < B.length → ∀ k ∈ B.getD g [], k < n := fun g hg k hk => by
    rw [eB, steps_at (by rw [← lB]; exact hg)] at hk
    exact List.mem_range.mp (List.mem_filter.mp hk).1
  refine ds_seq (ds_asg (Ev.dl (ev_cast (d' := .lst (sidD (rows.map sidesM))) (by unfold sidD; rw [List.map_map]; rfl) (EvN.ev (evn_lc1 (xs := rows) (c := fun r => D.str (tx r)) (f := fun r => D.tup [.int (sideM 43 r : Nat), .int (sideM 45 r : Nat)]) (ej_tup (ev_var (d := .tup (nameD rows)) rfl)) (by omega) fun r hr => ⟨[10], _, dg_name, fun i hi => hi, evt_yes, ev_call (s := spSides) (x := r) (eva_cons (ev_var rfl) eva_nil) rfl ⟨n, hr' r hr, h8⟩ fun d h => h⟩))) ?_))
  refine ds_seq (ds_asg (Ev.dl (ev_call (s := spSteps) (d := .lst (lolD B)) (x := ([row], n, false)) (eva_cons (ev_tup (ds := nameD [row]) (eva_cons (ev_var rfl) eva_nil) (small (show 1 ≤ 100000 by decide))) (eva_cons (ev_cast (congrArg (fun n : Nat => D.int n) (by rw [tx_len, hrow.len])) (ev_lenS (x := tx row) (ev_var rfl) (by rw [tx_len, hrow.len]; exact small (by omega)))) eva_nil)) (np_rd (b := false) (r := [_]) rfl) ⟨fun r h => by rw [List.mem_singleton.mp h]; exact hrow, h8, by show 1 ≤ 1000; decide⟩ fun d h => by rw [eB]; exact h) ?_))
  refine ds_seq (ds_asg_own (ds := (List.replicate B.length (none : Option Nat)).map optW) (evn_castY (by rw [List.map_replicate, List.map_const']; rfl) (evn_lc1 (xs := B) (c := fun l => D.lst (ordD l)) (f := fun _ => D.non) (ej_list (Ev.b (ev_var (d := .lst (lolD B)) rfl))) (by omega) fun l hl => ⟨[11], _, dg_name, fun i hi => hi, evt_yes, ev_non⟩)) ?_)
  have lo := sb.lo
  refine ds_seq (ds_sub ⟨_, rfl⟩ (Ev.dl ev_int ⟨(List.replicate B.length (none : Option Nat)).map optW, 0, rfl, ev_int, by rw [List.length_map, List.length_replicate]; omega, ?_⟩))
  have e0 : ((List.replicate B.length (none : Option Nat)).map optW).set 0 (.int 0) = (lwTo c B 0).map optW := by
    show ((List.replicate B.length (none : Option Nat)).map optW).set 0 (.int ((0 : Nat) : Int)) = _
    rw [opt_set]
    congr 1
    obtain ⟨m, hm⟩ : ∃ m, B.length = m + 1 := ⟨B.length - 1, by omega⟩
    unfold lwTo
    rw [hm]; rfl
  refine ds_seq (ds_for (fun xs i Γ' => xs = (List.range B.length).map (fun (h : Nat) => D.tup [.int h, .lst (ordD (B.getD h []))]) ∧ ∃ s5 s6 s7 s8 s9 : Sl, Γ' = [.val (.tup (nameD rows)), .val (.str (tx row)), .val (.lst (sidD (rows.map sidesM))), .val (.lst (lolD B)), .own ((lwTo c B i).map optW), s5, s6, s7, s8, s9, .unset, .unset])
    (di_enumL (Ev.dl (ev_var (d := .lst (lolD B)) rfl) ⟨_, rfl, ⟨enum_lol B, _, _, _, _, _, by rw [← e0]; rfl⟩, fun i x Γ' hx' ⟨exs, s5, s6, s7, s8, s9, e⟩ => ?_, fun Γ' ⟨exs, s5, s6, s7, s8, s9, e⟩ => ?_⟩)))
  · subst e
    rw [exs, List.getElem?_map] at hx'
    obtain ⟨h, hh, rfl⟩ := Option.map_eq_some_iff.mp hx'
    have hi : i < B.length := by
      have := (List.getElem?_eq_some_iff.mp hh).1
      rwa [List.length_range] at this
    have eh : h = i := by
      rw [List.getElem?_range hi] at hh
      exact (Option.some.inj hh).symm
    subst eh
    have I := lwI_to (c := c) sb h (by omega)
    obtain ⟨ks, eks⟩ : ∃ ks, ks = B.getD h [] := ⟨_, rfl⟩
    obtain ⟨a, ea⟩ : ∃ a, a = lwTo c B h := ⟨_, rfl⟩
    rw [← ea] at I
    rw [← eks, ← ea]
    have kup : ∀ k ∈ ks, k ∈ B.getD h [] ∧ h < h ||| 2 ^ k ∧ h ||| 2 ^ k < a.length := fun k hk => by
      rw [eks] at hk
      exact ⟨hk, (sb.up h hi k hk).1, by rw [I.len]; exact (sb.up h hi k hk).2⟩
    refine ⟨[5] ++ [6], _, dg_tup2 dg_name dg_name, ?_⟩
    refine ds_for (fun xs j Γ' => xs = ordD ks ∧ ∃ s7 s8 s9 : Sl, Γ' = [.val (.tup (nameD rows)), .val (.str (tx row)), .val (.lst (sidD (rows.map sidesM))), .val (.lst (lolD B)), .own (((ks.take j).foldl (lwIn c h) a).map optW), .val (.int (h : Nat)), .val (.lst (ordD ks)), s7, s8, s9, .unset, .unset])
      (dj_list (Ev.dl (ev_var rfl) ⟨_, rfl, ⟨rfl, _, _, _, rfl⟩, fun j x Γ' hx2 ⟨exs2, s7, s8, s9, e⟩ => ?_, fun Γ' ⟨exs2, s7, s8, s9, e⟩ => ?_⟩))
    · subst e
      rw [exs2] at hx2
      have hx2 : (ks.map fun k : Nat => D.int k)[j]? = some x := hx2
      rw [List.getElem?_map] at hx2
      obtain ⟨k, hk, rfl⟩ := Option.map_eq_some_iff.mp hx2
      have hkm := List.mem_of_getElem? hk
      obtain ⟨k1, k2, k3⟩ := kup k hkm
      have hkn := bk h hi k k1
      have et : (ks.take (j + 1)).foldl (lwIn c h) a = lwIn c h ((ks.take j).foldl (lwIn c h) a) k := by
        rw [List.take_add_one, hk, List.foldl_append]; rfl
      have lf := (lwF_ok (c := c) (ks.take j) a I.sound fun k hk => kup k (List.mem_of_mem_take hk)).1.len
      obtain ⟨b, eb⟩ : ∃ b, b = (ks.take j).foldl (lwIn c h) a := ⟨_, rfl⟩
      rw [← eb] at lf et
      rw [et, ← eb]
      have lb : b.length = B.length := lf.trans I.len
      refine ⟨[7], _, dg_name, ds_seq (ds_asg (Ev.dl (ev_op (ev_var (d := .int (h : Nat)) rfl) (ev_op ev_int (ev_var (d := .int (k : Nat)) rfl) (dr2_shl1 (by omega))) dr2_or) ?_))⟩
      have rd : ∀ {Γ : Gam} {t : TE} {g : Nat}, Γ[4]? = some (.own (b.map optW)) → Ev t Γ (.int (g : Nat)) → g < b.length → Ev (tOp (rIx K) (tVar 4) t) Γ (optW (b.getD g none)) := fun g4 ht hg => ev_ix (ds := b.map optW) (evb_own g4) ht (opt_at hg)
      refine ds_if (EvT.dl (b := !(b.getD h none).isNone) (evt_test (ev_op (rd rfl (ev_var (d := .int (h : Nat)) rfl) (by omega)) ev_non (dr2_notN fun W v r => congrArg not (opt_isN _ W v r)))) ⟨fun hn => ?_, fun hn => ds_next ⟨exs2, .val (.int (k : Nat)), .val (.int ((h ||| 2 ^ k : Nat) : Int)), s9, ?_⟩⟩)
      · cases ew : b.getD h none with
        | none => rw [ew] at hn; cases hn
        | some w =>
          have r1 : ∀ {Γ : Gam}, Γ[4]? = some (.own (b.map optW)) → Γ[5]? = some (.val (.int (h : Nat))) → Ev (tOp (rIx K) (tVar 4) (tVar 5)) Γ (.int (w : Nat)) := fun g4 g5 => by
            have := rd g4 (ev_var g5) (by omega : h < b.length)
            rw [ew] at this
            exact this
          refine ds_seq (ds_asg (Ev.dl (ev_cast (d' := .int ((w + c h k : Nat) : Int)) (by rw [Int.natCast_add]) (ev_op (r1 rfl rfl) (ev_call (s := spFallen) (d := .int (c h k : Nat)) (x := (rows, n, h, k)) (eva_cons (ev_var rfl) (eva_cons (ev_var rfl) (eva_cons (ev_var rfl) eva_nil))) (by show (noP (.lst (sidD (rows.map sidesM))) && true) = true; rw [np_sid]; rfl) ⟨hr', h8, hz, by show h < 2 ^ n; omega, hkn⟩ fun d h => by rw [ec]; exact h) pl_int)) ?_))
          have r2 : ∀ {Γ : Gam}, Γ[4]? = some (.own (b.map optW)) → Γ[8]? = some (.val (.int ((h ||| 2 ^ k : Nat) : Int))) → Ev (tOp (rIx K) (tVar 4) (tVar 8)) Γ (optW (b.getD (h ||| 2 ^ k) none)) := fun g4 g8 => rd g4 (ev_var g8) (by omega)
          cases eu : b.getD (h ||| 2 ^ k) none with
          | none =>
            have le : lwIn c h b k = b.set (h ||| 2 ^ k) (some (w + c h k)) := by
              unfold lwIn
              rw [ew]
              show (match b.getD (h ||| 2 ^ k) none with | none => _ | some u => _) = _
              rw [eu]
            refine ds_if (EvT.dl (b := true) (evt_castY (b := true || false) rfl (evt_or (evt_test (ev_op (r2 rfl rfl) ev_non (dr2_isN fun W v r => by rw [opt_isN _ W v r, eu]; rfl))) fun z => (nomatch z))) ⟨fun _ => ds_sub ⟨_, rfl⟩ (Ev.dl (ev_var (d := .int ((w + c h k : Nat) : Int)) rfl) ⟨b.map optW, h ||| 2 ^ k, rfl, ev_var rfl, by rw [List.length_map]; omega, exs2, .val (.int (k : Nat)), .val (.int ((h ||| 2 ^ k : Nat) : Int)), .val (.int ((w + c h k : Nat) : Int)), ?_⟩), fun z => (nomatch z)⟩)
            rw [le, ← opt_set]; rfl
          | some u =>
            have le : lwIn c h b k = if w + c h k < u then b.set (h ||| 2 ^ k) (some (w + c h k)) else b := by
              unfold lwIn
              rw [ew]
              show (match b.getD (h ||| 2 ^ k) none with | none => _ | some u => _) = _
              rw [eu]
            have r3 : ∀ {Γ : Gam}, Γ[4]? = some (.own (b.map optW)) → Γ[8]? = some (.val (.int ((h ||| 2 ^ k : Nat) : Int))) → Ev (tOp (rIx K) (tVar 4) (tVar 8)) Γ (.int (u : Nat)) := fun g4 g8 => by
              have := r2 g4 g8
              rw [eu] at this
              exact this
            refine ds_if (EvT.dl (b := decide (w + c h k < u)) (evt_castY (b := false || decide (w + c h k < u)) (Bool.false_or _) (evt_or (evt_test (ev_op (r2 rfl rfl) ev_non (dr2_isN fun W v r => by rw [opt_isN _ W v r, eu]; rfl))) fun _ => evt_test (ev_op (ev_var (d := .int ((w + c h k : Nat) : Int)) rfl) (r3 rfl rfl) (lt_b (decide_eq_decide.mpr (by omega)))))) ⟨fun hl => ds_sub ⟨_, rfl⟩ (Ev.dl (ev_var (d := .int ((w + c h k : Nat) : Int)) rfl) ⟨b.map optW, h ||| 2 ^ k, rfl, ev_var rfl, by rw [List.length_map]; omega, exs2, .val (.int (k : Nat)), .val (.int ((h ||| 2 ^ k : Nat) : Int)), .val (.int ((w + c h k : Nat) : Int)), ?_⟩), fun hl => ds_next ⟨exs2, .val (.int (k : Nat)), .val (.int ((h ||| 2 ^ k : Nat) : Int)), .val (.int ((w + c h k : Nat) : Int)), ?_⟩⟩)
            · rw [le, if_pos (of_decide_eq_true hl), ← opt_set]; rfl
            · rw [le, if_neg (of_decide_eq_false hl)]; rfl
      · have : lwIn c h b k = b := by
          unfold lwIn
          cases ew : b.getD h none with
          | none => rfl
          | some w => rw [ew] at hn; cases hn
        rw [this]; rfl
    · subst e
      rw [exs2, ordD_len, List.take_length]
      refine ⟨exs, .val (.int (h : Nat)), .val (.lst (ordD ks)), s7, s8, s9, ?_⟩
      rw [lwTo_succ]
      unfold lwStep
      rw [← eks, ← ea]
  · subst e
    have el : ((List.range B.length).map fun (h : Nat) => D.tup [.int h, .lst (ordD (B.getD h []))]).length = B.length := by rw [List.length_map, List.length_range]
    rw [exs, el]
    have I := lwI_to (c := c) sb B.length (Nat.le_refl _)
    refine ds_ret (Ev.dl (ev_ix (ds := (lwTo c B B.length).map optW) (evb_own rfl) (ev_neg ev_int) (opt_last (by rw [I.len]; omega))) ?_)
    have e2 : lwM (fallC rows n) (stepsM [row] n) = lwTo c B B.length := by rw [ec, eB]; rfl
    show optW _ = optW ((lwM (fallC rows n) (stepsM [row] n)).getD (2 ^ n - 1) none)
    rw [e2, I.len, lB]
end K37

namespace K37
open PySem PySem.Spec PyProof.Rows L2 Dw
variable [Tabs0]
def lwN (rows : List (List Nat)) (row : List Nat) (n : Nat) : Option Nat := (lwM (fallC rows n) (stepsM [row] n)).getD (2 ^ n - 1) none
def dotsN (n : Nat) : List Nat := List.replicate n 46
theorem dots_row (n : Nat) : RowOk (dotsN n) n := ⟨List.length_replicate, fun c hc => by
  rw [List.eq_of_mem_replicate hc]
  exact .inr (.inr rfl)⟩
theorem mul_dots {n : Nat} (h : n ≤ 8) : DR2 rMulS (.str ".") (.int (n : Nat)) (.str (tx (dotsN n))) := dr2_flat fun W u v Q a b k => by
  have e : MulOk "." (n : Nat) ∧ Txt.mul "." (n : Nat) = tx (dotsN n) := by
    rcases (show n = 0 ∨ n = 1 ∨ n = 2 ∨ n = 3 ∨ n = 4 ∨ n = 5 ∨ n = 6 ∨ n = 7 ∨ n = 8 by omega) with rfl | rfl | rfl | rfl | rfl | rfl | rfl | rfl | rfl <;> exact ⟨by unfold MulOk; decide +kernel, by decide +kernel⟩
  exact ⟨_, _, a, b, e.1, k _ (by rw [e.2]; rfl)⟩
def spFewAll (C : Addr) : Spc where
  ty := Bk
  args := fun x => [bookD C x.1 x.2]
  ok := fun x => BookOk x.1 x.2
  rel := fun x d => d = optW (lwN x.2 (dotsN x.1.length) x.1.length)
/-- the fewest wrong rows: there is such a number, and some ranking has it -/
theorem few_is {rs : List (List Nat)} {n : Nat} (hr : ∀ r ∈ rs, RowOk r n) : ∃ w, lwN rs (dotsN n) n = some w ∧ (∃ o, o.Perm (List.range n) ∧ wrongN rs o = w) ∧ ∀ o, o.Perm (List.range n) → w ≤ wrongN rs o := by
  have hd : ∀ r ∈ [dotsN n], RowOk r n := fun r h => by rw [List.mem_singleton.mp h]; exact dots_row n
  have all : ∀ o, o.Perm (List.range n) → o ∈ fitM [dotsN n] n := fun o ho => fitM_mem.mpr ⟨ho, fun r h => by
    rw [List.mem_singleton.mp h]
    refine holds_dots fun k _ => ?_
    unfold sgn dotsN
    rw [List.getD_eq_getElem?_getD, List.getElem?_replicate]
    split <;> rfl⟩
  obtain ⟨h1, h2⟩ := least_wrong (steps_b [dotsN n] n) hd hr
  cases e : lwN rs (dotsN n) n with
  | none =>
    have := h2 e
    have m := all (List.range n) (List.Perm.refl _)
    rw [this] at m; cases m
  | some w =>
    obtain ⟨⟨o, ho, ew⟩, lo⟩ := h1 w e
    exact ⟨w, rfl, ⟨o, (fitM_mem.mp ho).1, ew⟩, fun o ho => lo o (all o ho)⟩
end K37

namespace K37
open PySem PySem.Spec PyProof.Rows L2 Dw
variable [Tabs0]
theorem d_fewest_of_all {P : Program} {w : World} {K : PySem.W.Frag} {mg : Str → Option Value} {base : Heap} (T : Txt K w mg) : FnOk P w K mg base CX0 5 T.f_fewest_of_all T.e_fewest_of_all ["book"] (toSp (spFewAll T.C_Book)) := by
  refine fn_ok T.F_fewest_of_all sc_fewest_of_all (fun _ => rfl) fun cdv A outer s' H E hr => ?_
  refine ⟨_, (pss_one (ps_ret (pe_call (d_least_wrong T) (hr.mono (by decide)) (by rfl) T.m_least_wrong T.F_least_wrong.kp T.b_least_wrong .nil pass0 (pa_cons (pe_prop (pv 0) T.cl_Book T.p_Book_rows (d_Book_rows T) (hr.mono (by decide)) T.b_Book_rows .nil pass0 rfl) (pa_cons (pe_op op_mulS pe_str (pe_callB (lenA K) (by rfl) T.n_len (by decide +kernel) (pa_cons (pe_prop (pv 0) T.cl_Book T.p_Book_names (d_Book_names T) (hr.mono (by decide)) T.b_Book_names .nil pass0 rfl) pa_nil))) pa_nil))))), fun x hx => ?_⟩
  obtain ⟨ls, rs⟩ := x
  have hb : BookOk ls rs := hx
  have h8 := hb.n8
  refine ds_ret (Ev.dl (ev_call (s := spLeastW) (d := optW (lwN rs (dotsN ls.length) ls.length)) (x := (rs, dotsN ls.length, ls.length)) (eva_cons (ev_prop (s := spBRows T.C_Book) (x := (ls, rs)) (ev_var rfl) rfl (np_book _ ls rs) trivial fun d h => h) (eva_cons (ev_op ev_str (ev_names (C := T.C_Book) (rs := rs) (ev_prop (s := spBNames T.C_Book) (x := (ls, rs)) (ev_var rfl) rfl (np_book _ ls rs) trivial fun d h => h)) (mul_dots h8)) eva_nil)) (np_tn (r := [_]) rfl) ⟨hb.rows, dots_row _, h8, Nat.le_trans hb.few (by decide)⟩ fun d h => h) rfl)
end K37

namespace K37
open PySem PySem.Spec PyProof.Rows L2 Dw
variable [Tabs0]
theorem d__law_book_page {P : Program} {w : World} {K : PySem.W.Frag} {mg : Str → Option Value} {base : Heap} (T : Txt K w mg) : FnOk P w K mg base CX0 1 T.f__law_book_page T.e__law_book_page ["_law_tags_here", "_law_rows"] (toSp (spPageB)) := by
  refine fn_ok T.F__law_book_page sc__law_book_page (fun _ => rfl) fun cdv A outer s' H E hr => ?_
  refine ⟨_, (pss_one (ps_ret (pe_op (plusE K) (pe_op (plusE K) (joinA K pe_str (pe_callTy (listA K) (by rfl) T.n_list (by decide +kernel) (pa_cons (pv 0) pa_nil))) pe_str) (joinA K pe_str (pe_lc (own := [("_law_signs", 2)]) rfl sc__law_book_page.nd (piR K (pv 1)) (blkOk_by (own := [("_law_signs", 2)]) (N := N__law_book_page) (sc := (defScope s__law_book_page)) (by decide +kernel)) (fun _ _ _ _ _ => pg_name (i := 2) sc__law_book_page.nd rfl (Or.inl rfl)) (fun _ _ _ _ _ => pts_nil) (fun _ _ _ _ _ => (pe_op (plusE K) pe_str (pv 2)))))))), fun x hx => ?_⟩
  obtain ⟨ls, rs⟩ := x
  have hb : BookOk ls rs := hx
  have h8 := hb.names.hi
  have h20 := hb.few
  have hl := hb.hl
  have s1 := sum_tx (m := 8) ls fun p hp => (hb.names.all p hp).hi
  have s2 := sum_tx (m := 9) (rs.map ([32] ++ ·)) fun p hp => by
    obtain ⟨r, hr, rfl⟩ := List.mem_map.mp hp
    have := (hb.rows r hr).len
    rw [List.length_append, this]
    show 1 + ls.length ≤ 9
    omega
  rw [List.length_map] at s2
  have fl : ((rs.map ([32] ++ ·)).flatten).length ≤ 180 := by
    have := joinL_len (m := 9) (rs.map ([32] ++ ·)) fun p hp => by
      obtain ⟨r, hr, rfl⟩ := List.mem_map.mp hp
      have := (hb.rows r hr).len
      rw [List.length_append, this]
      show 1 + ls.length ≤ 9
      omega
    have e : ∀ l : List (List Nat), l.flatten.length ≤ (TL.joinL [32] l).length := fun l => by
      cases l with
      | nil => exact Nat.le_refl _
      | cons a l =>
        rw [joinL_cons', List.flatten_cons, List.length_append, List.length_append]
        have : ∀ l : List (List Nat), l.flatten.length ≤ ((l.map ([32] ++ ·)).flatten).length := fun l => by
          induction l with
          | nil => exact Nat.le_refl _
          | cons b l ih =>
            rw [List.map_cons, List.flatten_cons, List.flatten_cons, List.length_append, List.length_append, List.length_append]
            omega
        have := this l
        omega
    have e2 := e (rs.map ([32] ++ ·))
    have e3 : ((rs.map ([32] ++ ·)).flatten).length ≤ rs.length * 9 := by
      clear e e2 this
      have key : ∀ l : List (List Nat), (∀ p ∈ l, p.length ≤ 9) → l.flatten.length ≤ l.length * 9 := fun l => by
        induction l with
        | nil => exact fun _ => Nat.le_refl _
        | cons a l ih =>
          intro h
          rw [List.flatten_cons, List.length_append, List.length_cons, Nat.succ_mul]
          have := h a List.mem_cons_self
          have := ih fun p hp => h p (List.mem_cons_of_mem _ hp)
          omega
      have := key (rs.map ([32] ++ ·)) fun p hp => by
        obtain ⟨r, hr, rfl⟩ := List.mem_map.mp hp
        have := (hb.rows r hr).len
        rw [List.length_append, this]
        show 1 + ls.length ≤ 9
        omega
      rwa [List.length_map] at this
    omega
  refine ds_ret (Ev.dl (ev_cast (d := .str ((tx (TL.joinL [32] ls) ++ Str.ofString ":") ++ tx ((rs.map ([32] ++ ·)).flatten))) ?c (ev_op (ev_op (ev_cast (d' := .str (tx (TL.joinL [32] ls))) (congrArg D.str (join_sp ls)) (ev_join (x := Str.ofString " ") (ys := ls.map tx) ev_str ?b ?z1)) ev_str (dr2_l (plus_str ?z2))) (ev_cast (d' := .str (tx ((rs.map ([32] ++ ·)).flatten))) ?a2 (ev_join (x := Str.ofString "") (ys := (rs.map ([32] ++ ·)).map tx) ev_str ?b2 ?z3)) (dr2_l (plus_str ?z4)))) rfl)
  case c =>
    rw [colonS, tx_append, tx_append]
    unfold bookTx
    rw [joinL_cons']
  case b =>
    rw [nameD_map]
    exact EvN.b (evn_list (ev_var (d := .lst (nameD ls)) rfl).b)
  case z1 =>
    rw [List.length_map, spaceS, tx_len]
    show _ + ls.length * 1 ≤ _
    omega
  case z2 =>
    rw [tx_len, colonS, tx_len]
    show _ + 1 ≤ _
    exact small (by omega)
  case a2 =>
    rw [show Str.ofString "" = tx [] from by decide +kernel, join_tx, joinL_nil]
  case b2 =>
    have e : ((rs.map ([32] ++ ·)).map tx).map D.str = rs.map fun r => D.str (tx ([32] ++ r)) := by rw [List.map_map, List.map_map]; rfl
    rw [e]
    exact EvN.b (evn_lc1 (xs := rs) (c := fun r => D.str (tx r)) (f := fun r => D.str (tx ([32] ++ r))) (ej_list (ev_var (d := .lst (nameD rs)) rfl).b) (by omega) fun r hr => ⟨[2], _, dg_name, fun i hi => hi, evt_yes, ev_cast (congrArg D.str (by rw [spaceS, tx_append])) (ev_op ev_str (ev_var rfl) (dr2_l (plus_str (by
      have := (hb.rows r hr).len
      rw [spaceS, tx_len, tx_len, this]
      show 1 + ls.length ≤ _
      exact small (by omega)))))⟩)
  case z3 =>
    rw [List.length_map, List.length_map, show (Str.ofString "").length = 0 from rfl]
    omega
  case z4 =>
    rw [colonS, tx_append, tx_len, tx_len, List.length_append]
    show (TL.joinL [32] ls).length + 1 + _ ≤ _
    exact small (by omega)
end K37

namespace K37
open PySem PySem.Spec PyProof.Rows L2 Dw
variable [Tabs0]
theorem d__law_any_rows {P : Program} {w : World} {K : PySem.W.Frag} {mg : Str → Option Value} {base : Heap} (T : Txt K w mg) : FnOk P w K mg base CX0 3 T.f__law_any_rows T.e__law_any_rows ["_law_jar", "_law_many", "_law_top_here"] (toSp (spAnyRows)) := by
  refine fn_ok T.F__law_any_rows sc__law_any_rows (fun _ => rfl) fun cdv A outer s' H E hr => ?_
  refine ⟨_, (pss_cons (ps_set (i := 3) sc__law_any_rows.nd rfl (Or.inl rfl) (pe_lst pa_nil)) (pss_cons (ps_for PassesOwn.never rfl (pi_range1 (by rfl) T.n_range (pa_cons (pe_call (d__law_dip T) (hr.mono (by decide)) (by rfl) T.m__law_dip T.F__law_dip.kp T.b__law_dip .nil pass0 (pa_cons (pv 0) (pa_cons (pe_op (plusE K) (pv 2) pe_int) pa_nil))) pa_nil)) (pg_name (i := 4) sc__law_any_rows.nd rfl (Or.inl rfl)) (pss_cons (ps_set (i := 5) sc__law_any_rows.nd rfl (Or.inl rfl) (pe_call (d__law_row T) (hr.mono (by decide)) (by rfl) T.m__law_row T.F__law_row.kp T.b__law_row .nil pass0 (pa_cons (pv 0) (pa_cons (pv 1) pa_nil)))) (pss_cons (ps_if (PW.pt (pw_and (pt_cmpR (neA K hr.units) (pv 3) (pe_lst pa_nil) (nomark _)) (pw_and1 (pt_cmpR (eqA K hr.units) (pe_call (d__law_dip T) (hr.mono (by decide)) (by rfl) T.m__law_dip T.F__law_dip.kp T.b__law_dip .nil pass0 (pa_cons (pv 0) (pa_cons pe_int pa_nil))) pe_int (nomark _))))) (pss_one (ps_set (i := 5) sc__law_any_rows.nd rfl (Or.inl rfl) (pe_call (d__law_pick T) (hr.mono (by decide)) (by rfl) T.m__law_pick T.F__law_pick.kp T.b__law_pick .nil pass0 (pa_cons (pv 0) (pa_cons (pe_lst (pa_cons (pe_ix (ixA K) (pv 3) (pe_un un_neg pe_int) (fun _ _ => rfl)) (pa_cons (pe_call (d__law_turned T) (hr.mono (by decide)) (by rfl) T.m__law_turned T.F__law_turned.kp T.b__law_turned .nil pass0 (pa_cons (pe_call (d__law_pick T) (hr.mono (by decide)) (by rfl) T.m__law_pick T.F__law_pick.kp T.b__law_pick .nil pass0 (pa_cons (pv 0) (pa_cons (pv 3) pa_nil))) pa_nil)) pa_nil))) pa_nil))))) pss_nil) (pss_one (ps_expr (bmA K PySem.F.plainAttrs_list PySem.F.slot_list_append PySem.F.type_list_append mt_append (pv 3) (pa_cons (pv 5) pa_nil))))))) (pss_one (ps_ret (pv 3))))), fun x hx => ?_⟩
  obtain ⟨n, m⟩ := x
  obtain ⟨h8, hm⟩ := hx
  have h8 : n ≤ 8 := h8
  have hm : m ≤ 1000 := hm
  refine ds_seq (ds_asg_own (ds := nameD []) (evn_lst eva_nil (Nat.zero_le _)) ?_)
  refine ds_seq (ds_for (fun xs i Γ' => xs.length ≤ m ∧ ∃ (rs : List (List Nat)) (s4 s5 : Sl), Γ' = [.val .purse, .val (.int (n : Nat)), .val (.int (m : Nat)), .own (nameD rs), s4, s5] ∧ rs.length = i ∧ ∀ r ∈ rs, RowOk r n)
    (di_range (dla_cons (dl_call (s := spDraw) (dla_cons (Ev.dl (ev_var rfl) (dla_cons (Ev.dl (ev_op (ev_var (d := .int (m : Nat)) rfl) ev_int pl_int) (dla_nil ⟨m + 1, rfl, ⟨by omega, by omega⟩, fun d hd => ?_⟩)))))))))
  obtain ⟨q, hq, rfl⟩ := hd
  refine dla_nil ⟨q, rfl, by omega, ⟨by rw [rng_length]; omega, [], _, _, rfl, rfl, fun r h => absurd h (by simp)⟩, fun i x Γ' hx' ⟨hxs, rs, s4, s5, e, l1, l2⟩ => ?_, fun Γ' ⟨hxs, rs, s4, s5, e, l1, l2⟩ => ?_⟩
  · subst e
    obtain ⟨hi, rfl⟩ := rng_get hx'
    have hq9 : i < 1001 := by omega
    have okn : dOk 1 (.lst (nameD rs)) = true := dOks_map fun r hr => okS_tx fun c hc => ((l2 r hr).all c hc).lt
    refine ⟨[4], _, dg_name, ds_seq (ds_asg (dl_call (s := spSigns) (dla_cons (Ev.dl (ev_var rfl) (dla_cons (Ev.dl (ev_var rfl) (dla_nil ⟨n, rfl, h8, fun d hd => ?_⟩)))))))⟩
    obtain ⟨r, hr1, rfl⟩ := hd
    have hr1 : RowOk r n := hr1
    refine ds_seq (ds_mid (fun Γ' => ∃ r', RowOk r' n ∧ Γ' = [.val .purse, .val (.int (n : Nat)), .val (.int (m : Nat)), .own (nameD rs), .val (.int (i : Nat)), .val (.str (tx r'))]) (ds_if (dlt_and (EvT.dl (evt_lend 3 rfl (evt_test (ev_op (ev_var (d := .lst (nameD rs)) rfl) (EvN.ev (evn_lst eva_nil (Nat.zero_le _))) (ne_nil okn (by decide))))) ⟨fun hne => dlt_test (dl_op (dl_call (s := spDraw) (dla_cons (Ev.dl (ev_var rfl) (dla_cons (Ev.dl ev_int (dla_nil ⟨(3 : Nat), rfl, ⟨by decide, by decide⟩, fun d hd => ?_⟩))))))), fun _ => ⟨fun h => (nomatch h), fun _ => ds_next ⟨r, hr1, rfl⟩⟩⟩))) fun Γ' ⟨r', hr2, e⟩ => ?_)
    · obtain ⟨c, hc, rfl⟩ := hd
      have nr : rs ≠ [] := fun z => by rw [z] at hne; cases hne
      refine Ev.dl ev_int ⟨_, eq_int', _, rfl, fun _ => ?_, fun _ => ds_next ⟨r, hr1, rfl⟩⟩
      have lst : atI (nameD rs) (-1) = some (.str (tx (rs.getLast nr))) := by
        have e1 : rs = rs.dropLast ++ [rs.getLast nr] := (List.dropLast_concat_getLast nr).symm
        have e2 : nameD rs = nameD rs.dropLast ++ [D.str (tx (rs.getLast nr))] := by
          conv => lhs; rw [e1]
          unfold nameD
          rw [List.map_append]; rfl
        rw [e2]
        exact atI_last _ _
      refine ds_asg (dl_lendS 3 rfl ?one (dl_call (s := spAnyOf) (dla_cons (Ev.dl (ev_var rfl) (dla_cons (dl_lst (dla_cons (Ev.dl (ev_ix (ds := nameD rs) (ev_var rfl).b (ev_neg ev_int) lst) (dla_cons (dl_call (s := spFlip) (dla_cons (dl_call (s := spAnyOf) (dla_cons (Ev.dl (ev_var rfl) (dla_cons (Ev.dl (ev_var (d := .lst (nameD rs)) rfl) (dla_nil ⟨(true, nameD rs), rfl, ⟨?p1, ?p2⟩, fun d2 hd2 => ?_⟩)))))))))))))))))
      case one =>
        intro j es e
        rcases j with _ | _ | _ | _ | _ | _ | j <;> first | rfl | cases e
      case p1 =>
        rw [nameD_len]
        exact List.length_pos_iff.mpr nr
      case p2 =>
        rw [nameD_len]; omega
      obtain ⟨r2, hr2, rfl⟩ := List.mem_map.mp hd2
      refine dla_nil ⟨r2, rfl, ⟨n, l2 r2 hr2, h8⟩, fun d3 hd3 => ?_⟩
      have hd3 : d3 = .str (tx (flipped r2)) := hd3
      subst hd3
      refine dla_nil ⟨small (show 2 ≤ 100000 by decide), dla_nil ⟨(true, [.str (tx (rs.getLast nr)), .str (tx (flipped r2))]), rfl, ⟨by show 0 < 2; decide, by show 2 < 100000; decide⟩, fun d4 hd4 => ?_⟩⟩
      rcases List.mem_cons.mp hd4 with rfl | hd4
      · exact ⟨rfl, ⟨_, rfl⟩, rs.getLast nr, l2 _ (List.getLast_mem nr), rfl⟩
      · obtain rfl := List.mem_singleton.mp hd4
        exact ⟨rfl, ⟨_, rfl⟩, flipped r2, flipped_ok (l2 r2 hr2), rfl⟩
    subst e
    refine ds_drop (dl_append ⟨_, rfl⟩ (dla_cons (Ev.dl (ev_var rfl) (dla_nil ⟨_, nameD rs, rfl, rfl, ?lt, hxs, rs ++ [r'], .val (.int (i : Nat)), .val (.str (tx r')), ?nx, by rw [List.length_append, l1]; rfl, fun p hp => ?al⟩))))
    case lt => rw [nameD_len, l1]; exact Nat.lt_trans hq9 (by decide)
    case nx =>
      unfold nameD
      rw [List.map_append]; rfl
    case al =>
      rcases List.mem_append.mp hp with hp | hp
      · exact l2 p hp
      · rw [List.mem_singleton.mp hp]; exact hr2
  · subst e
    exact ds_ret_own rfl ⟨rs, rfl, by show rs.length ≤ m; omega, l2⟩
end K37

namespace K37
open PySem PySem.Spec PyProof.Rows L2 Dw
variable [Tabs0]
/-! rows that may be wrong -/
def hsB (rs : List (List Nat)) (r : List Nat) (n m : Nat) : Bool := match lwN rs r n with
  | none => false
  | some w => decide (w ≤ m)
def fewN (rs : List (List Nat)) (n : Nat) : Nat := (lwN rs (dotsN n) n).getD 0
theorem few_at {rs : List (List Nat)} {n : Nat} (hr : ∀ r ∈ rs, RowOk r n) : lwN rs (dotsN n) n = some (fewN rs n) := by
  obtain ⟨w, e, _⟩ := few_is hr
  unfold fewN
  rw [e]; rfl
theorem few_iff {rs : List (List Nat)} {n m : Nat} (hr : ∀ r ∈ rs, RowOk r n) : fewN rs n ≤ m ↔ ∃ o, o.Perm (List.range n) ∧ wrongN rs o ≤ m := by
  obtain ⟨w, e, ⟨o, ho, ew⟩, lo⟩ := few_is hr
  have : fewN rs n = w := by unfold fewN; rw [e]; rfl
  rw [this]
  exact ⟨fun h => ⟨o, ho, by omega⟩, fun ⟨o', a, b⟩ => Nat.le_trans (lo o' a) b⟩
theorem sign_at {l : List Nat} {n : Nat} (h : RowOk l n) (h45 : 45 ∈ l) {o : List Nat} (ho : o.Perm (List.range n)) : ∃ k ∈ o, sgn l k ≠ 46 := by
  obtain ⟨k, hk, e⟩ := List.mem_iff_getElem.mp h45
  refine ⟨k, ho.mem_iff.mpr (List.mem_range.mpr (by rw [← h.len]; exact hk)), ?_⟩
  unfold sgn
  rw [List.getD_eq_getElem?_getD, List.getElem?_eq_getElem hk]
  show l[k] ≠ 46
  rw [e]; decide
theorem flip_at {l : List Nat} {n : Nat} (h : RowOk l n) (h45 : 45 ∈ l) {o : List Nat} (ho : o.Perm (List.range n)) : holdsB (flipped l) o = !holdsB l o := flip_holds h o (fun k hk => List.mem_range.mp (ho.subset hk)) (sign_at h h45 ho)
def folB (rs : List (List Nat)) (r : List Nat) (n m : Nat) : Bool := !decide (45 ∈ r) || !hsB rs (flipped r) n m
/-! the law's own lists -/
def sureM (rs : List (List Nat)) (n m : Nat) : List Nat := (List.range rs.length).filter fun j => !hsB rs (rowAt rs j) n m
def spHS (C : Addr) : Spc where
  ty := Bk × List Nat × Nat
  args := fun x => [bookD C x.1.1 x.1.2, .str (tx x.2.1), .int (x.2.2 : Nat)]
  ok := fun x => BookOk x.1.1 x.1.2 ∧ RowOk x.2.1 x.1.1.length
  rel := fun x d => d = .bl (hsB x.1.2 x.2.1 x.1.1.length x.2.2)
def spSure (C : Addr) : Spc where
  ty := Bk × Nat
  args := fun x => [bookD C x.1.1 x.1.2, .int (x.2 : Nat)]
  ok := fun x => BookOk x.1.1 x.1.2 ∧ x.2 ≤ 20
  rel := fun x d => d = if fewN x.1.2 x.1.1.length ≤ x.2 then .tup (ordD (sureM x.1.2 x.1.1.length x.2)) else .non
def spCkMost : Spc where
  ty := Nat
  args := fun x => [.int (x : Nat)]
  ok := fun x => x ≤ 20
  rel := fun _ d => d = .non
def spFol (C : Addr) : Spc where
  ty := Bk × List Nat × Nat
  args := fun x => [bookD C x.1.1 x.1.2, .str (tx x.2.1), .int (x.2.2 : Nat)]
  ok := fun x => BookOk x.1.1 x.1.2 ∧ RowOk x.2.1 x.1.1.length ∧ x.2.2 ≤ 20 ∧ fewN x.1.2 x.1.1.length ≤ x.2.2
  rel := fun x d => d = .bl (folB x.1.2 x.2.1 x.1.1.length x.2.2)
end K37

namespace K37
open PySem PySem.Spec PyProof.Rows L2 Dw
variable [Tabs0]
theorem d_holds_for_some {P : Program} {w : World} {K : PySem.W.Frag} {mg : Str → Option Value} {base : Heap} (T : Txt K w mg) : FnOk P w K mg base CX0 5 T.f_holds_for_some T.e_holds_for_some ["book", "row", "most"] (toSp (spHS T.C_Book)) := by
  refine fn_ok T.F_holds_for_some sc_holds_for_some (fun _ => rfl) fun cdv A outer s' H E hr => ?_
  refine ⟨_, (pss_cons (ps_set (i := 3) sc_holds_for_some.nd rfl (Or.inl rfl) (pe_call (d_least_wrong T) (hr.mono (by decide)) (by rfl) T.m_least_wrong T.F_least_wrong.kp T.b_least_wrong .nil pass0 (pa_cons (pe_prop (pv 0) T.cl_Book T.p_Book_rows (d_Book_rows T) (hr.mono (by decide)) T.b_Book_rows .nil pass0 rfl) (pa_cons (pv 1) pa_nil)))) (pss_one (ps_ret (pe_and (pe_cmpR op_notN (pv 3) pe_non (nomark _)) (pe_one (pe_cmpR opLe (pv 3) (pv 2) (nomark _))))))), fun x hx => ?_⟩
  obtain ⟨⟨ls, rs⟩, r, m⟩ := x
  obtain ⟨hb, hr'⟩ := hx
  have hb : BookOk ls rs := hb
  have hr' : RowOk r ls.length := hr'
  refine ds_seq (ds_asg (Ev.dl (ev_call (s := spLeastW) (d := optW (lwN rs r ls.length)) (x := (rs, r, ls.length)) (eva_cons (ev_prop (s := spBRows T.C_Book) (x := (ls, rs)) (ev_var rfl) rfl (np_book _ ls rs) trivial fun d h => h) (eva_cons (ev_var rfl) eva_nil)) (np_tn (r := [_]) rfl) ⟨hb.rows, hr', hb.n8, Nat.le_trans hb.few (by decide)⟩ fun d h => h) ?_))
  show Ds _ [.val (bookD T.C_Book ls rs), .val (.str (tx r)), .val (.int (m : Nat)), .val (optW (lwN rs r ls.length))] _
  show Ds _ _ ⟨_, fun d => d = .bl (hsB rs r ls.length m), _, _⟩
  unfold hsB
  cases e : lwN rs r ls.length with
  | none => exact ds_ret (Ev.dl (ev_andV (a := false) (b := true) (ev_op (ev_var rfl) ev_non (dr2_notN fun W v q => by rw [opt_isN none W v q]; rfl)) fun z => (nomatch z)) rfl)
  | some w => exact ds_ret (Ev.dl (ev_andV (a := true) (b := decide (w ≤ m)) (ev_op (ev_var rfl) ev_non (dr2_notN fun W v q => by rw [opt_isN (some w) W v q]; rfl)) fun _ => ev_op (ev_var (d := .int (w : Nat)) rfl) (ev_var (d := .int (m : Nat)) rfl) (le_b (decide_eq_decide.mpr (by omega)))) rfl)
end K37

namespace K37
open PySem PySem.Spec PyProof.Rows L2 Dw
variable [Tabs0]
theorem d_turned {P : Program} {w : World} {K : PySem.W.Frag} {mg : Str → Option Value} {base : Heap} (T : Txt K w mg) : FnOk P w K mg base CX0 1 T.f_turned T.e_turned ["row"] (toSp (spFlip)) := by
  refine fn_ok T.F_turned sc_turned (fun _ => rfl) fun cdv A outer s' H E hr => ?_
  refine ⟨_, (pss_one (ps_ret (joinA K pe_str (pe_lc (own := [("sign", 1)]) rfl sc_turned.nd (piR K (pv 0)) (blkOk_by (own := [("sign", 1)]) (N := N_turned) (sc := (defScope s_turned)) (by decide +kernel)) (fun _ _ _ _ _ => pg_name (i := 1) sc_turned.nd rfl (Or.inl rfl)) (fun _ _ _ _ _ => pts_nil) (fun _ _ _ _ _ => (pe_ix (ixD K w) (pe_glob (v := .ref T.a_OPPOSITES) (by rfl) T.c_OPPOSITES rfl) (pv 1) (fun _ _ => rfl))))))), fun x hx => ?_⟩
  obtain ⟨l, rfl⟩ : ∃ l : List Nat, l = x := ⟨x, rfl⟩
  obtain ⟨n, hl, h8⟩ := hx
  have hl : RowOk l n := hl
  refine ds_ret (Ev.dl (ev_join (x := Str.ofString "") (ys := (flipped l).map ch) ev_str (EvN.b ?_) ?_) ?_)
  · have e1 : (((flipped l).map ch).map D.str) = (l.map fun c => D.str (ch (flip1 c))) := by
      unfold flipped
      rw [List.map_map, List.map_map]; rfl
    rw [e1]
    refine evn_lc1 (xs := l) (c := fun c => .str (ch c)) ?_ (by rw [hl.len]; omega) fun c hc => ⟨[1], _, dg_name, fun i hi => hi, evt_yes, ev_ixD (ev_var rfl) ?_⟩
    · have := ej_str (K := K) (ta := tVar 0) (Γ := Gz0 2 (spFlip.args l)) (x := tx l) (ev_var rfl)
      rw [signs_tx, List.map_map] at this
      exact this
    · rcases hl.all c hc with h | h | h <;> subst h
      · have e := T.w_OPPOSITES_43; rw [ch_plus, ch_minus] at e; exact e
      · have e := T.w_OPPOSITES_45; rw [ch_plus, ch_minus] at e; exact e
      · have e := T.w_OPPOSITES_46; rw [ch_dot] at e; exact e
  · rw [chs_len]
    show (l.map flip1).length + ((l.map flip1).map ch).length * 0 ≤ _
    rw [List.length_map, hl.len]
    omega
  · show D.str _ = D.str _
    rw [join_chs]
end K37

namespace K37
open PySem PySem.Spec PyProof.Rows L2 Dw
variable [Tabs0]
/-! what is refused of books, rows, numbers -/
theorem kit_tyK {K : PySem.W.Frag} {C : Addr} {d : D} (h : hasTy d = true) (hd : PySem.W.hasDictIn K C = true) (ht : PySem.W.typeIn K (.ref C) = some (.type "type")) : PySem.W.kitOne K (tyD d) (.ref C) = some false := by
  obtain ⟨cd, hc, _⟩ := PySem.W.any_some hd
  have main : ∀ n : String, PySem.W.subIn K (.type n) (.ref C) = some false → PySem.W.kitOne K (.type n) (.ref C) = some false := fun n e => by
    unfold PySem.W.kitOne
    rw [if_neg (by intro z; cases beq_iff_eq.mp z)]
    show (if ((PySem.W.clsIn K C).isSome && PySem.W.typeIn K (.ref C) == some (.type "type")) = true then PySem.W.subIn K (.type n) (.ref C) else none) = some false
    rw [if_pos (by rw [hc, ht]; rfl)]
    exact e
  cases d <;> first | exact main _ rfl | exact absurd h Bool.false_ne_true
theorem np_bookD (B : Addr) (ls rs : List (List Nat)) : noP (bookD B ls rs) = true := by
  have h : (noP (bookD B ls rs) && true) = true := np_book B ls rs
  simpa using h
def OdX (d : D) : Prop := hasTy d = true ∧ noP d = true
def spBkX (E : Addr) : SpcX where
  ty := D
  args := fun d => [d]
  ok := fun d => OdX d
  ex := fun d => ⟨E, [("given", d)]⟩
def BadRow (B : Addr) (n : Nat) (d : D) : Prop := PvO B d ∧ rowB d n = false
def BadNum (d : D) : Prop := Pv d ∧ idxB d 21 = false
def spRowX (B E : Addr) : SpcX where
  ty := D × Nat
  args := fun x => [x.1, .int x.2]
  ok := fun x => BadRow B x.2 x.1
  ex := fun x => ⟨E, [("given", x.1)]⟩
def spMostX (E : Addr) : SpcX where
  ty := D
  args := fun d => [d]
  ok := fun d => BadNum d
  ex := fun d => ⟨E, [("given", d)]⟩
abbrev StT : Type := D ⊕ Bk
def stA (C : Addr) : StT → D | .inl d => d | .inr b => bookD C b.1 b.2
def spStX (C E E2 : Addr) : SpcX where
  ty := StT
  args := fun x => [stA C x]
  ok := fun x => match x with | .inl d => OdX d | .inr b => BookOk b.1 b.2 ∧ 10 < b.2.length
  ex := fun x => match x with | .inl d => ⟨E, [("given", d)]⟩ | .inr b => ⟨E2, [("number", .int b.2.length)]⟩
abbrev SuT : Type := D × D ⊕ Bk × D
def suA (C : Addr) : SuT → D | .inl p => p.1 | .inr y => bookD C y.1.1 y.1.2
def suB : SuT → D | .inl p => p.2 | .inr y => y.2
def spSuX (C E E2 : Addr) : SpcX where
  ty := SuT
  args := fun x => [suA C x, suB x]
  ok := fun x => match x with | .inl p => OdX p.1 | .inr y => BadNum y.2
  ex := fun x => match x with | .inl p => ⟨E, [("given", p.1)]⟩ | .inr y => ⟨E2, [("given", y.2)]⟩
abbrev FoT : Type := D × D × D ⊕ (Bk × D × D ⊕ (Bk × List Nat × D ⊕ Bk × List Nat × Nat))
def foA (C : Addr) : FoT → D | .inl p => p.1 | .inr (.inl y) => bookD C y.1.1 y.1.2 | .inr (.inr (.inl y)) => bookD C y.1.1 y.1.2 | .inr (.inr (.inr y)) => bookD C y.1.1 y.1.2
def foB : FoT → D | .inl p => p.2.1 | .inr (.inl y) => y.2.1 | .inr (.inr (.inl y)) => .str (tx y.2.1) | .inr (.inr (.inr y)) => .str (tx y.2.1)
def foC : FoT → D | .inl p => p.2.2 | .inr (.inl y) => y.2.2 | .inr (.inr (.inl y)) => y.2.2 | .inr (.inr (.inr y)) => .int (y.2.2 : Nat)
def spFoX (C E E2 E3 E4 : Addr) : SpcX where
  ty := FoT
  args := fun x => [foA C x, foB x, foC x]
  ok := fun x => match x with
    | .inl p => OdX p.1
    | .inr (.inl y) => BadRow C y.1.1.length y.2.1
    | .inr (.inr (.inl y)) => (RowOk y.2.1 y.1.1.length ∧ 1 ≤ y.1.1.length ∧ y.1.1.length ≤ 8) ∧ BadNum y.2.2
    | .inr (.inr (.inr y)) => BookOk y.1.1 y.1.2 ∧ RowOk y.2.1 y.1.1.length ∧ y.2.2 ≤ 20 ∧ ¬ fewN y.1.2 y.1.1.length ≤ y.2.2
  ex := fun x => match x with
    | .inl p => ⟨E, [("given", p.1)]⟩
    | .inr (.inl y) => ⟨E2, [("given", y.2.1)]⟩
    | .inr (.inr (.inl y)) => ⟨E3, [("given", y.2.2)]⟩
    | .inr (.inr (.inr _)) => ⟨E4, []⟩
def spBText (C : Addr) : Spc where
  ty := Bk
  args := fun x => [bookD C x.1 x.2]
  ok := fun _ => True
  rel := fun x d => d = .str (tx (bookTx x.1 x.2))
end K37

namespace K37
open PySem PySem.Spec PyProof.Rows L2 Dw
variable [Tabs0]
theorem d_NotABook___init__ {P : Program} {w : World} {K : PySem.W.Frag} {mg : Str → Option Value} {base : Heap} (T : Txt K w mg) : FnOk P w K mg base CX0 1 T.f_NotABook___init__ T.e_NotABook___init__ ["self", "given"] (spXI T.C_NotABook "given") :=
  fn_xinit T.F_NotABook___init__ sc_NotABook___init__ rfl T.xo_NotABook T.xn_NotABook_given rfl fun cdv A outer s' H E => (pss_one (ps_ost (pv 0) (pv 1)))

end K37

namespace K37
open PySem PySem.Spec PyProof.Rows L2 Dw
variable [Tabs0]
theorem d_InvalidRow___init__ {P : Program} {w : World} {K : PySem.W.Frag} {mg : Str → Option Value} {base : Heap} (T : Txt K w mg) : FnOk P w K mg base CX0 1 T.f_InvalidRow___init__ T.e_InvalidRow___init__ ["self", "given"] (spXI T.C_InvalidRow "given") :=
  fn_xinit T.F_InvalidRow___init__ sc_InvalidRow___init__ rfl T.xo_InvalidRow T.xn_InvalidRow_given rfl fun cdv A outer s' H E => (pss_one (ps_ost (pv 0) (pv 1)))

end K37

namespace K37
open PySem PySem.Spec PyProof.Rows L2 Dw
variable [Tabs0]
theorem d_InvalidNumber___init__ {P : Program} {w : World} {K : PySem.W.Frag} {mg : Str → Option Value} {base : Heap} (T : Txt K w mg) : FnOk P w K mg base CX0 1 T.f_InvalidNumber___init__ T.e_InvalidNumber___init__ ["self", "given"] (spXI T.C_InvalidNumber "given") :=
  fn_xinit T.F_InvalidNumber___init__ sc_InvalidNumber___init__ rfl T.xo_InvalidNumber T.xn_InvalidNumber_given rfl fun cdv A outer s' H E => (pss_one (ps_ost (pv 0) (pv 1)))

end K37

namespace K37
open PySem PySem.Spec PyProof.Rows L2 Dw
variable [Tabs0]
theorem d_TooMany___init__ {P : Program} {w : World} {K : PySem.W.Frag} {mg : Str → Option Value} {base : Heap} (T : Txt K w mg) : FnOk P w K mg base CX0 1 T.f_TooMany___init__ T.e_TooMany___init__ ["self", "number"] (spXI T.C_TooMany "number") :=
  fn_ainit T.F_TooMany___init__ sc_TooMany___init__ rfl T.xo_TooMany T.xn_TooMany_number rfl fun cdv A outer s' H E => (pss_one (ps_oaf (pv 0) (pv 1)))

end K37

namespace K37
open PySem PySem.Spec PyProof.Rows L2 Dw
variable [Tabs0]
theorem d_Book___str__ {P : Program} {w : World} {K : PySem.W.Frag} {mg : Str → Option Value} {base : Heap} (T : Txt K w mg) : FnOk P w K mg base CX0 1 T.f_Book___str__ T.e_Book___str__ ["self"] (toSp (spBText T.C_Book)) := by
  refine fn_ok T.F_Book___str__ sc_Book___str__ (fun _ => rfl) fun cdv A outer s' H E hr => ?_
  refine ⟨_, (pss_one (ps_ret (pe_callTy SkE.call_str_str (by rfl) T.n_str (by decide +kernel) (pa_cons (fldA K (pv 0)) pa_nil)))), fun x hx => ?_⟩
  obtain ⟨ls, rs⟩ := x
  exact ds_ret (Ev.dl (ev_strS (ev_fld T.cl_Book T.no_text (ev_var rfl) (by rfl))) rfl)
end K37

namespace K37
open PySem PySem.Spec PyProof.Rows L2 Dw
variable [Tabs0]
theorem d_check_book {P : Program} {w : World} {K : PySem.W.Frag} {mg : Str → Option Value} {base : Heap} (T : Txt K w mg) : FnOk P w K mg base (L2.CX P w) 3 T.f_check_book T.e_check_book ["book"] (spRX (spCheck T.C_Book) (spBkX T.C_NotABook)) := by
  refine fn_okX T.F_check_book sc_check_book (fun _ => rfl) (fun _ => rfl) fun cdv A outer s' H E hr => ?_
  refine ⟨_, (pss_one (ps_if (pt_not (truA K (pe_callB (isiA K) (by rfl) T.n_isinstance (by decide +kernel) (pa_cons (pv 0) (pa_cons (pe_glob (v := .ref T.C_Book) (by rfl) T.m_Book rfl) pa_nil))))) (pss_one (ps_raise rfl (takes_of rfl rfl rfl rfl) (pmk_oex T.xo_NotABook T.xj_NotABook T.xy_NotABook (d_NotABook___init__ T) (hr.mono (by decide)) T.b_NotABook___init__ .nil pass0 (by rfl) T.m_NotABook (pa_cons (pv 0) pa_nil)))) pss_nil)), fun x hx => ?_, fun x hx => ?_⟩
  · obtain ⟨ls, rs⟩ := x
    exact ds_if (EvT.dl (b := false) (evt_not (a := true) (evt_tru_bl (ev_isi (ev_var rfl) ev_raw (.inr ⟨_, _, _, rfl, T.ins_Book⟩) (.own _) kit_self))) ⟨fun h => (nomatch h), fun _ => ds_next rfl⟩)
  · obtain ⟨d, rfl⟩ : ∃ l : D, l = x := ⟨x, rfl⟩
    have hx : OdX d := hx
    exact ers_ifT (evt_not (a := false) (evt_tru_bl (ev_isi (ev_var rfl) ev_raw (.inl hx.1) (.own _) (kit_tyK hx.1 T.cl_Book.hd T.ct_Book)))) (ers_raiseF rfl (eva_cons (ev_var rfl) eva_nil))
end K37

namespace K37
open PySem PySem.Spec PyProof.Rows L2 Dw
variable [Tabs0]
theorem d_check_row {P : Program} {w : World} {K : PySem.W.Frag} {mg : Str → Option Value} {base : Heap} (T : Txt K w mg) : FnOk P w K mg base (L2.CX P w) 3 T.f_check_row T.e_check_row ["row", "many"] (spRX (spCkRow) (spRowX T.C_Book T.C_InvalidRow)) := by
  refine fn_okX T.F_check_row sc_check_row (fun _ => rfl) (fun _ => rfl) fun cdv A outer s' H E hr => ?_
  refine ⟨_, (pss_one (ps_if (pt_not (truA K (pe_call (d_is_row T) (hr.mono (by decide)) (by rfl) T.m_is_row T.F_is_row.kp T.b_is_row .nil pass0 (pa_cons (pv 0) (pa_cons (pv 1) pa_nil))))) (pss_one (ps_raise rfl (takes_of rfl rfl rfl rfl) (pmk_oex T.xo_InvalidRow T.xj_InvalidRow T.xy_InvalidRow (d_InvalidRow___init__ T) (hr.mono (by decide)) T.b_InvalidRow___init__ .nil pass0 (by rfl) T.m_InvalidRow (pa_cons (pv 0) pa_nil)))) pss_nil)), fun x hx => ?_, fun x hx => ?_⟩
  · obtain ⟨l, n⟩ := x
    obtain ⟨hr', h1, h8⟩ := hx
    have hr' : RowOk l n := hr'
    exact ds_if (EvT.dl (b := false) (evt_not (a := true) (evt_tru_bl (ev_call (s := spRowO T.C_Book) (x := (.str (tx l), n)) (eva_cons (ev_var rfl) (eva_cons (ev_var rfl) eva_nil)) rfl (.inl (pv_row hr' h8)) fun d h => by rw [h, row_ok hr' h1 h8]))) ⟨fun h => (nomatch h), fun _ => ds_next rfl⟩)
  · obtain ⟨d, n⟩ := x
    obtain ⟨hp, hr'⟩ := hx
    have hp : PvO T.C_Book d := hp
    exact ers_ifT (evt_not (a := false) (evt_tru_bl (ev_call (s := spRowO T.C_Book) (d := .bl false) (x := (d, n)) (eva_cons (ev_var rfl) (eva_cons (ev_var rfl) eva_nil)) (np_consX hp.np rfl) hp fun e h => by rw [h]; exact congrArg D.bl hr'))) (ers_raiseF rfl (eva_cons (ev_var rfl) eva_nil))
end K37

namespace K37
open PySem PySem.Spec PyProof.Rows L2 Dw
variable [Tabs0]
theorem d_check_most {P : Program} {w : World} {K : PySem.W.Frag} {mg : Str → Option Value} {base : Heap} (T : Txt K w mg) : FnOk P w K mg base (L2.CX P w) 3 T.f_check_most T.e_check_most ["most"] (spRX (spCkMost) (spMostX T.C_InvalidNumber)) := by
  refine fn_okX T.F_check_most sc_check_most (fun _ => rfl) (fun _ => rfl) fun cdv A outer s' H E hr => ?_
  refine ⟨_, (pss_one (ps_if (pt_not (truA K (pe_call (d_is_index T) (hr.mono (by decide)) (by rfl) T.m_is_index T.F_is_index.kp T.b_is_index .nil pass0 (pa_cons (pv 0) (pa_cons (pe_op (plusE K) (pe_glob (v := .int 20) (by rfl) T.c_MOST_ROWS ⟨_, rfl⟩) pe_int) pa_nil))))) (pss_one (ps_raise rfl (takes_of rfl rfl rfl rfl) (pmk_oex T.xo_InvalidNumber T.xj_InvalidNumber T.xy_InvalidNumber (d_InvalidNumber___init__ T) (hr.mono (by decide)) T.b_InvalidNumber___init__ .nil pass0 (by rfl) T.m_InvalidNumber (pa_cons (pv 0) pa_nil)))) pss_nil)), fun x hx => ?_, fun x hx => ?_⟩
  · obtain ⟨k, rfl⟩ : ∃ k : Nat, k = x := ⟨x, rfl⟩
    have hk : k ≤ 20 := hx
    exact ds_if (EvT.dl (b := false) (evt_not (a := true) (evt_tru_bl (ev_call (s := spIndexG) (x := (.int (k : Nat), 21)) (eva_cons (ev_var rfl) (eva_cons (ev_op ev_int ev_int (pl_int (i := 20) (j := 1))) eva_nil)) rfl rfl fun d h => by rw [h]; show D.bl (decide (0 ≤ (k : Int)) && decide ((k : Int) < ((21 : Nat) : Int))) = .bl true; rw [decide_eq_true (by omega), decide_eq_true (by omega)]; rfl))) ⟨fun h => (nomatch h), fun _ => ds_next rfl⟩)
  · obtain ⟨d, rfl⟩ : ∃ l : D, l = x := ⟨x, rfl⟩
    obtain ⟨hp, hi⟩ := hx
    have hp : Pv d := hp
    exact ers_ifT (evt_not (a := false) (evt_tru_bl (ev_call (s := spIndexG) (d := .bl false) (x := (d, 21)) (eva_cons (ev_var rfl) (eva_cons (ev_op ev_int ev_int (pl_int (i := 20) (j := 1))) eva_nil)) (np_consX hp.np rfl) hp fun e h => by rw [h]; exact congrArg D.bl hi))) (ers_raiseF rfl (eva_cons (ev_var rfl) eva_nil))
end K37

namespace K37
open PySem PySem.Spec PyProof.Rows L2 Dw
variable [Tabs0]
theorem d_struck {P : Program} {w : World} {K : PySem.W.Frag} {mg : Str → Option Value} {base : Heap} (T : Txt K w mg) (TB_all_lots : LamX.TabB base mg T.lc_all_lots T.lt_all_lots) : FnOk P w K mg base (L2.CX P w) 5 T.f_struck T.e_struck ["book"] (spRX (spStruck T.C_Book) (spStX T.C_Book T.C_NotABook T.C_TooMany)) := by
  refine fn_okX T.F_struck sc_struck (fun _ => rfl) (fun _ => rfl) fun cdv A outer s' H E hr => ?_
  refine ⟨_, (pss_cons (ps_expr (pe_call (E := E) (d_check_book T) (hr.mono (by decide)) (by rfl) T.m_check_book T.F_check_book.kp T.b_check_book .nil (passes_call (takes_of rfl rfl rfl rfl) fun _ _ _ _ h => h) (pa_cons (pv 0) pa_nil))) (pss_cons (ps_set (i := 1) sc_struck.nd rfl (Or.inl rfl) (pe_callB (lenA K) (by rfl) T.n_len (by decide +kernel) (pa_cons (pe_prop (pv 0) T.cl_Book T.p_Book_rows (d_Book_rows T) (hr.mono (by decide)) T.b_Book_rows .nil pass0 rfl) pa_nil))) (pss_cons (ps_if (pt_cmpR opGt (pv 1) (pe_glob (v := .int 10) (by rfl) T.c_MOST_STRUCK ⟨_, rfl⟩) (nomark _)) (pss_one (ps_raise rfl (takes_of rfl rfl rfl rfl) (pmk_oax T.xo_TooMany T.xj_TooMany T.xy_TooMany (d_TooMany___init__ T) (hr.mono (by decide)) T.b_TooMany___init__ .nil pass0 (by rfl) T.m_TooMany (pa_cons (pv 1) pa_nil)))) pss_nil) (pss_cons (ps_set (i := 2) sc_struck.nd rfl (Or.inl rfl) (pe_lst pa_nil)) (pss_cons (ps_for (passes_of rfl) rfl (piR K (pe_call (d_all_lots T TB_all_lots) (hr.mono (by decide)) (by rfl) T.m_all_lots T.F_all_lots.kp T.b_all_lots .nil pass0 (pa_cons (pv 1) pa_nil))) (pg_name (i := 3) sc_struck.nd rfl (Or.inl rfl)) (pss_one (ps_if (PW.pt (pw_and (pt_not (truA K (pe_call (d_has_part T) (hr.mono (by decide)) (by rfl) T.m_has_part T.F_has_part.kp T.b_has_part .nil pass0 (pa_cons (pv 3) (pa_cons (pv 2) pa_nil))))) (pw_and1 (truA K (pe_call (d_fits_without T) (hr.mono (by decide)) (by rfl) T.m_fits_without T.F_fits_without.kp T.b_fits_without .nil pass0 (pa_cons (pv 0) (pa_cons (pv 3) pa_nil))))))) (pss_one (ps_expr (bmA K PySem.F.plainAttrs_list PySem.F.slot_list_append PySem.F.type_list_append mt_append (pv 2) (pa_cons (pv 3) pa_nil)))) pss_nil))) (pss_one (ps_ret (pe_callTy (tupleA K) (by rfl) T.n_tuple (by decide +kernel) (pa_cons (pv 2) pa_nil))))))))), fun x hx => ?_, fun x hx => ?_⟩
  · obtain ⟨ls, rs⟩ := x
    obtain ⟨hb, h10⟩ := hx
    have hb : BookOk ls rs := hb
    have h10 : rs.length ≤ 10 := h10
    obtain ⟨m, em⟩ : ∃ m, m = rs.length := ⟨_, rfl⟩
    obtain ⟨p, ep⟩ : ∃ p, p = fitB rs ls.length := ⟨_, rfl⟩
    have pw := pow10 (show m ≤ 10 by omega)
    refine ds_seq (ds_drop (Ev.dl (ev_call_or (s := spCheck T.C_Book) (x := (ls, rs)) (eva_cons (ev_untag (ev_var rfl)) eva_nil) (np_book _ ls rs) trivial fun d h => h) ?_))
    refine ds_seq (ds_asg (Ev.dl (ev_cast (d' := .int (m : Nat)) (by rw [em, nameD_len]) (ev_lenT (ds := nameD rs) (ev_prop (s := spBRows T.C_Book) (x := (ls, rs)) (ev_untag (ev_var rfl)) rfl (np_book _ ls rs) trivial fun d h => h))) ?_))
    refine ds_seq (ds_if (EvT.dl (b := false) (evt_test (ev_op (ev_var (d := .int (m : Nat)) rfl) ev_int (gt_b (decide_eq_false (by omega))))) ⟨fun h => (nomatch h), fun _ => ds_next ?_⟩))
    refine ds_seq (ds_asg_own (evn_lst eva_nil (Nat.zero_le _)) ?_)
    refine ds_seq (ds_for (fun xs i Γ' => xs = ordT (lotsO m) ∧ ∃ s3 : Sl, Γ' = [.val (.tag (bookD T.C_Book ls rs)), .val (.int (m : Nat)), .own (ordT (leastM p ((lotsO m).take i))), s3])
      (dj_list (dl_call (s := spAllLots) (dla_cons (Ev.dl (ev_tag (i := 0) rfl TgS.tag (ev_var rfl)) (dla_nil ⟨m, rfl, by show m ≤ 10; omega, fun d hd => ?_⟩))))))
    have hd : d = .lst (ordT (lotsO m)) := hd
    subst hd
    refine ⟨ordT (lotsO m), rfl, ⟨rfl, _, rfl⟩, fun i x Γ' hx' ⟨exs, s3, e⟩ => ?_, fun Γ' ⟨exs, s3, e⟩ => ?_⟩
    · subst e
      have hx3 : ((lotsO m).map fun o => D.tup (ordD o))[i]? = some x := hx'
      rw [List.getElem?_map] at hx3
      cases q : (lotsO m)[i]? with
      | none => rw [q] at hx3; cases hx3
      | some o =>
        rw [q] at hx3; cases hx3
        have hm : o ∈ lots m := lotsO_mem.mp (List.mem_of_getElem? q)
        have ok := lots_ok m o hm
        have ol := lot_len ok
        have tk : (lotsO m).take (i + 1) = (lotsO m).take i ++ [o] := by rw [List.take_add_one, q]; rfl
        have al : (leastM p ((lotsO m).take i)).length ≤ 1024 := by
          have := least_len (p := p) (ls := (lotsO m).take i) (acc := [])
          rw [List.length_take, lotsO_len] at this
          show ((lotsO m).take i |>.foldl (leastIn p) []).length ≤ 1024
          simp at this; omega
        have am : ∀ q ∈ leastM p ((lotsO m).take i), q.length ≤ 100000 := fun q hq => by
          rcases least_mem hq with hq | ⟨hq, _⟩
          · simp at hq
          · have := lot_len (lots_ok m q (lotsO_mem.mp (List.mem_of_mem_take hq)))
            omega
        refine ⟨[3], _, dg_name, ds_if (EvT.dl (b := p o && !partB o (leastM p ((lotsO m).take i))) (evt_castB (b := !partB o (leastM p ((lotsO m).take i)) && p o) (Bool.and_comm _ _) (evt_and (evt_not (evt_lend 2 rfl (evt_tru_bl (ev_call (s := spPart) (d := .bl (partB o (leastM p ((lotsO m).take i)))) (x := (o, leastM p ((lotsO m).take i))) (eva_cons (ev_var rfl) (eva_cons (ev_var rfl) eva_nil)) ?np ⟨by show (leastM p ((lotsO m).take i)).length ≤ 100000; omega, am⟩ fun d h => h)))) fun _ => evt_tru_bl (ev_call (s := spFW T.C_Book) (d := .bl (p o)) (x := (ls, rs, o)) (eva_cons (ev_untag (ev_var rfl)) (eva_cons (ev_var rfl) eva_nil)) (np_bk (np_to (r := []) rfl)) hb fun d h => by rw [ep]; exact h))) ⟨fun h => ?_, fun h => ds_next ?_⟩)⟩
        case np =>
          show (noPs (ordD o) && (noP (.lst (ordT _)) && true)) = true
          rw [np_ord, np_ot]; rfl
        · refine ds_drop (dl_append ⟨_, rfl⟩ (dla_cons (Ev.dl (ev_var rfl) (dla_nil ⟨_, ordT (leastM p ((lotsO m).take i)), rfl, rfl, ?_, rfl, .val (.tup (ordD o)), ?_⟩))))
          · rw [ordT_len]
            exact Nat.lt_of_le_of_lt (m := 1024) (by omega) (by decide)
          · rw [tk, least_snoc]
            unfold leastIn
            rw [if_pos h]
            unfold ordT
            rw [List.map_append]; rfl
        · refine ⟨rfl, .val (.tup (ordD o)), ?_⟩
          rw [tk, least_snoc]
          unfold leastIn
          rw [if_neg (by rw [h]; decide)]; rfl
    · subst e
      rw [ordT_len, List.take_length]
      refine ds_ret (Ev.dl (ev_tuple (evb_own (ds := ordT (leastM p (lotsO m))) rfl)) ?_)
      show D.tup _ = D.tup (ordT (struckM rs ls.length))
      unfold struckM
      rw [← ep, ← em]
  · rcases x with d | ⟨ls, rs⟩
    · exact (ers_first (ers_drop (ert_call (sx := spBkX T.C_NotABook) (x := d) (eva_cons (ev_var rfl) eva_nil) hx fun ed H' h => h)))
    · obtain ⟨hb, h10⟩ := hx
      have h10 : 10 < rs.length := h10
      refine ers_seq (pus_drop (ev_call_or (s := spCheck T.C_Book) (x := (ls, rs)) (eva_cons (ev_var rfl) eva_nil) (np_book _ ls rs) trivial fun d h => h)) ?_
      refine ers_seq (pus_asg (d := .int (rs.length : Nat)) (ev_cast (congrArg (fun n : Nat => D.int n) (nameD_len rs)) (ev_lenT (ds := nameD rs) (ev_prop (s := spBRows T.C_Book) (x := (ls, rs)) (ev_var rfl) rfl (np_book _ ls rs) trivial fun d h => h)))) ?_
      exact ers_first (ers_ifT (evt_test (ev_op (ev_var (d := .int (rs.length : Nat)) rfl) ev_int (gt_b (b := true) (decide_eq_true (by omega))))) (ers_raiseF rfl (eva_cons (ev_var rfl) eva_nil)))
end K37

namespace K37
open PySem PySem.Spec PyProof.Rows L2 Dw
variable [Tabs0]
theorem d_fewest_wrong {P : Program} {w : World} {K : PySem.W.Frag} {mg : Str → Option Value} {base : Heap} (T : Txt K w mg) : FnOk P w K mg base (L2.CX P w) 6 T.f_fewest_wrong T.e_fewest_wrong ["book"] (spRX (spFewAll T.C_Book) (spBkX T.C_NotABook)) := by
  refine fn_okX T.F_fewest_wrong sc_fewest_wrong (fun _ => rfl) (fun _ => rfl) fun cdv A outer s' H E hr => ?_
  refine ⟨_, (pss_cons (ps_expr (pe_call (E := E) (d_check_book T) (hr.mono (by decide)) (by rfl) T.m_check_book T.F_check_book.kp T.b_check_book .nil (passes_call (takes_of rfl rfl rfl rfl) fun _ _ _ _ h => h) (pa_cons (pv 0) pa_nil))) (pss_one (ps_ret (pe_call (d_fewest_of_all T) (hr.mono (by decide)) (by rfl) T.m_fewest_of_all T.F_fewest_of_all.kp T.b_fewest_of_all .nil pass0 (pa_cons (pv 0) pa_nil))))), fun x hx => ?_, fun x hx => ?_⟩
  · obtain ⟨ls, rs⟩ := x
    have hb : BookOk ls rs := hx
    refine ds_seq (ds_drop (Ev.dl (ev_call_or (s := spCheck T.C_Book) (x := (ls, rs)) (eva_cons (ev_var rfl) eva_nil) (np_book _ ls rs) trivial fun d h => h) ?_))
    exact ds_ret (Ev.dl (ev_call (s := spFewAll T.C_Book) (x := (ls, rs)) (eva_cons (ev_var rfl) eva_nil) (np_book _ ls rs) hb fun d h => h) rfl)
  · obtain ⟨d, rfl⟩ : ∃ l : D, l = x := ⟨x, rfl⟩
    exact (ers_first (ers_drop (ert_call (sx := spBkX T.C_NotABook) (x := d) (eva_cons (ev_var rfl) eva_nil) hx fun ed H' h => h)))
end K37

namespace K37
open PySem PySem.Spec PyProof.Rows L2 Dw
variable [Tabs0]
theorem d_surely_wrong {P : Program} {w : World} {K : PySem.W.Frag} {mg : Str → Option Value} {base : Heap} (T : Txt K w mg) : FnOk P w K mg base (L2.CX P w) 6 T.f_surely_wrong T.e_surely_wrong ["book", "most"] (spRX (spSure T.C_Book) (spSuX T.C_Book T.C_NotABook T.C_InvalidNumber)) := by
  refine fn_okX T.F_surely_wrong sc_surely_wrong (fun _ => rfl) (fun _ => rfl) fun cdv A outer s' H E hr => ?_
  refine ⟨_, (pss_cons (ps_expr (pe_call (E := E) (d_check_book T) (hr.mono (by decide)) (by rfl) T.m_check_book T.F_check_book.kp T.b_check_book .nil (passes_call (takes_of rfl rfl rfl rfl) fun _ _ _ _ h => h) (pa_cons (pv 0) pa_nil))) (pss_cons (ps_expr (pe_call (E := E) (d_check_most T) (hr.mono (by decide)) (by rfl) T.m_check_most T.F_check_most.kp T.b_check_most .nil (passes_call (takes_of rfl rfl rfl rfl) fun _ _ _ _ h => h) (pa_cons (pv 1) pa_nil))) (pss_cons (ps_if (pt_cmpR opGt (pe_call (d_fewest_of_all T) (hr.mono (by decide)) (by rfl) T.m_fewest_of_all T.F_fewest_of_all.kp T.b_fewest_of_all .nil pass0 (pa_cons (pv 0) pa_nil)) (pv 1) (nomark _)) (pss_one (ps_ret pe_non)) pss_nil) (pss_one (ps_ret (pe_callTy (tupleA K) (by rfl) T.n_tuple (by decide +kernel) (pa_cons (pe_lc (own := [("index", 2), ("row", 3)]) rfl sc_surely_wrong.nd (enumTA K (by rfl) T.n_enumerate (pa_cons (pe_prop (pv 0) T.cl_Book T.p_Book_rows (d_Book_rows T) (hr.mono (by decide)) T.b_Book_rows .nil pass0 rfl) pa_nil)) (blkOk_by (own := [("index", 2), ("row", 3)]) (N := N_surely_wrong) (sc := (defScope s_surely_wrong)) (by decide +kernel)) (fun _ _ _ _ _ => tupA K 2 rfl (pgs_cons (pg_name (i := 2) sc_surely_wrong.nd rfl (Or.inl rfl)) (pgs_cons (pg_name (i := 3) sc_surely_wrong.nd rfl (Or.inl rfl)) pgs_nil))) (fun _ _ _ _ _ => pts_one (pt_not (truA K (pe_call (d_holds_for_some T) (hr.mono (by decide)) (by rfl) T.m_holds_for_some T.F_holds_for_some.kp T.b_holds_for_some .nil pass0 (pa_cons (pv 0) (pa_cons (pv 3) (pa_cons (pv 1) pa_nil))))))) (fun _ _ _ _ _ => (pv 2))) pa_nil))))))), fun x hx => ?_, fun x hx => ?_⟩
  · obtain ⟨⟨ls, rs⟩, m⟩ := x
    obtain ⟨hb, hm⟩ := hx
    have hb : BookOk ls rs := hb
    have hm : m ≤ 20 := hm
    have h20 := hb.few
    refine ds_seq (ds_drop (Ev.dl (ev_call_or (s := spCheck T.C_Book) (x := (ls, rs)) (eva_cons (ev_var rfl) eva_nil) (np_book _ ls rs) trivial fun d h => h) ?_))
    refine ds_seq (ds_drop (Ev.dl (ev_call_or (s := spCkMost) (x := m) (eva_cons (ev_var rfl) eva_nil) rfl hm fun d h => h) ?_))
    refine ds_seq (ds_if (EvT.dl (b := decide (m < fewN rs ls.length)) (evt_test (ev_op (ev_call (s := spFewAll T.C_Book) (d := .int (fewN rs ls.length : Nat)) (x := (ls, rs)) (eva_cons (ev_var rfl) eva_nil) (np_book _ ls rs) hb fun d h => by rw [h]; show optW (lwN rs (dotsN ls.length) ls.length) = _; rw [few_at hb.rows]; rfl) (ev_var (d := .int (m : Nat)) rfl) (gt_b (decide_eq_decide.mpr (by omega))))) ⟨fun h => ?_, fun h => ds_next ?_⟩))
    · have h := of_decide_eq_true h
      exact ds_ret (Ev.dl ev_non (by show D.non = if fewN rs ls.length ≤ m then _ else _; rw [if_neg (by omega)]))
    · have h := of_decide_eq_false h
      refine ds_ret (Ev.dl (ev_tuple (EvN.b (evn_lc (xs := List.range rs.length) (c := fun i : Nat => D.tup [.int i, .str (tx (rowAt rs i))]) (p := fun i => !hsB rs (rowAt rs i) ls.length m) (f := fun i : Nat => D.int i) (by rw [← enum_rows]; exact ei_enumT (ev_prop (s := spBRows T.C_Book) (x := (ls, rs)) (ev_var rfl) rfl (np_book _ ls rs) trivial fun d h => h)) (by rw [List.length_range]; omega) fun i hi => ⟨[2] ++ [3], _, dg_tup2 dg_name dg_name, fun i hi => hi, evt_not (evt_tru_bl (ev_call (s := spHS T.C_Book) (x := ((ls, rs), rowAt rs i, m)) (eva_cons (ev_var rfl) (eva_cons (ev_var rfl) (eva_cons (ev_var rfl) eva_nil))) (np_bk (r := [_, _]) rfl) ⟨hb, rowAt_ok hb.rows (List.mem_range.mp hi)⟩ fun d h => h)), fun _ => ev_var rfl⟩))) ?_)
      show D.tup _ = if fewN rs ls.length ≤ m then _ else _
      rw [if_pos (by omega)]; rfl
  · rcases x with ⟨d, d1⟩ | ⟨⟨ls, rs⟩, d⟩
    · exact (ers_first (ers_drop (ert_call (sx := spBkX T.C_NotABook) (x := d) (eva_cons (ev_var rfl) eva_nil) hx fun ed H' h => h)))
    · exact ers_seq (pus_drop (ev_call_or (s := spCheck T.C_Book) (x := (ls, rs)) (eva_cons (ev_var rfl) eva_nil) (np_book _ ls rs) trivial fun d h => h)) (ers_first (ers_drop (ert_call (sx := spMostX T.C_InvalidNumber) (x := d) (eva_cons (ev_var rfl) eva_nil) hx fun ed H' h => h)))
end K37

namespace K37
open PySem PySem.Spec PyProof.Rows L2 Dw
variable [Tabs0]
theorem d_follows_with {P : Program} {w : World} {K : PySem.W.Frag} {mg : Str → Option Value} {base : Heap} (T : Txt K w mg) : FnOk P w K mg base (L2.CX P w) 6 T.f_follows_with T.e_follows_with ["book", "row", "most"] (spRX (spFol T.C_Book) (spFoX T.C_Book T.C_NotABook T.C_InvalidRow T.C_InvalidNumber T.C_NoRanking)) := by
  refine fn_okX T.F_follows_with sc_follows_with (fun _ => rfl) (fun _ => rfl) fun cdv A outer s' H E hr => ?_
  refine ⟨_, (pss_cons (ps_expr (pe_call (E := E) (d_check_book T) (hr.mono (by decide)) (by rfl) T.m_check_book T.F_check_book.kp T.b_check_book .nil (passes_call (takes_of rfl rfl rfl rfl) fun _ _ _ _ h => h) (pa_cons (pv 0) pa_nil))) (pss_cons (ps_expr (pe_call (E := E) (d_check_row T) (hr.mono (by decide)) (by rfl) T.m_check_row T.F_check_row.kp T.b_check_row .nil (passes_call (takes_of rfl rfl rfl rfl) fun _ _ _ _ h => h) (pa_cons (pv 1) (pa_cons (pe_callB (lenA K) (by rfl) T.n_len (by decide +kernel) (pa_cons (pe_prop (pv 0) T.cl_Book T.p_Book_names (d_Book_names T) (hr.mono (by decide)) T.b_Book_names .nil pass0 rfl) pa_nil)) pa_nil)))) (pss_cons (ps_expr (pe_call (E := E) (d_check_most T) (hr.mono (by decide)) (by rfl) T.m_check_most T.F_check_most.kp T.b_check_most .nil (passes_call (takes_of rfl rfl rfl rfl) fun _ _ _ _ h => h) (pa_cons (pv 2) pa_nil))) (pss_cons (ps_if (pt_cmpR opGt (pe_call (d_fewest_of_all T) (hr.mono (by decide)) (by rfl) T.m_fewest_of_all T.F_fewest_of_all.kp T.b_fewest_of_all .nil pass0 (pa_cons (pv 0) pa_nil)) (pv 2) (nomark _)) (pss_one (ps_raise rfl (takes_of rfl rfl rfl rfl) (pmk_own0 PySem.F.excBase_ArithmeticError T.xi_NoRanking T.m_NoRanking T.xp_NoRanking (raises_own T.xs_NoRanking T.xt_NoRanking) rfl))) pss_nil) (pss_one (ps_ret (pe_or (pe_cmpR (ninA K) pe_str (pv 1) (by rfl)) (pe_one (notA K (pe_call (d_holds_for_some T) (hr.mono (by decide)) (by rfl) T.m_holds_for_some T.F_holds_for_some.kp T.b_holds_for_some .nil pass0 (pa_cons (pv 0) (pa_cons (pe_call (d_turned T) (hr.mono (by decide)) (by rfl) T.m_turned T.F_turned.kp T.b_turned .nil pass0 (pa_cons (pv 1) pa_nil)) (pa_cons (pv 2) pa_nil))))))))))))), fun x hx => ?_, fun x hx => ?_⟩
  · obtain ⟨⟨ls, rs⟩, r, m⟩ := x
    obtain ⟨hb, hr', hm, hf⟩ := hx
    have hb : BookOk ls rs := hb
    have hr' : RowOk r ls.length := hr'
    have hm : m ≤ 20 := hm
    have hf : fewN rs ls.length ≤ m := hf
    have h20 := hb.few
    refine ds_seq (ds_drop (Ev.dl (ev_call_or (s := spCheck T.C_Book) (x := (ls, rs)) (eva_cons (ev_var rfl) eva_nil) (np_book _ ls rs) trivial fun d h => h) ?_))
    refine ds_seq (ds_drop (Ev.dl (ev_call_or (s := spCkRow) (x := (r, ls.length)) (eva_cons (ev_var rfl) (eva_cons (ev_names (C := T.C_Book) (rs := rs) (ev_prop (s := spBNames T.C_Book) (x := (ls, rs)) (ev_var rfl) rfl (np_book _ ls rs) trivial fun d h => h)) eva_nil)) rfl ⟨hr', hb.names.lo, hb.n8⟩ fun d h => h) ?_))
    refine ds_seq (ds_drop (Ev.dl (ev_call_or (s := spCkMost) (x := m) (eva_cons (ev_var rfl) eva_nil) rfl hm fun d h => h) ?_))
    refine ds_seq (ds_if (EvT.dl (b := false) (evt_test (ev_op (ev_call (s := spFewAll T.C_Book) (d := .int (fewN rs ls.length : Nat)) (x := (ls, rs)) (eva_cons (ev_var rfl) eva_nil) (np_book _ ls rs) hb fun d h => by rw [h]; show optW (lwN rs (dotsN ls.length) ls.length) = _; rw [few_at hb.rows]; rfl) (ev_var (d := .int (m : Nat)) rfl) (gt_b (decide_eq_false (by omega))))) ⟨fun h => (nomatch h), fun h => ds_next ?_⟩))
    exact ds_ret (Ev.dl (ev_orV (a := !decide (45 ∈ r)) (b := !hsB rs (flipped r) ls.length m) (ev_op ev_str (ev_var rfl) (by rw [ch_minus]; exact nin_code)) fun _ => ev_notT (evt_tru_bl (ev_call (s := spHS T.C_Book) (x := ((ls, rs), flipped r, m)) (eva_cons (ev_var rfl) (eva_cons (ev_call (s := spFlip) (x := r) (eva_cons (ev_var rfl) eva_nil) rfl ⟨ls.length, hr', hb.n8⟩ fun d h => h) (eva_cons (ev_var rfl) eva_nil))) (np_bk (r := [_, _]) rfl) ⟨hb, flipped_ok hr'⟩ fun d h => h))) rfl)
  · rcases x with ⟨d, d1, d2⟩ | ⟨⟨ls, rs⟩, d, d1⟩ | ⟨⟨ls, rs⟩, r, d⟩ | ⟨⟨ls, rs⟩, r, m⟩
    · exact (ers_first (ers_drop (ert_call (sx := spBkX T.C_NotABook) (x := d) (eva_cons (ev_var rfl) eva_nil) hx fun ed H' h => h)))
    · exact ers_seq (pus_drop (ev_call_or (s := spCheck T.C_Book) (x := (ls, rs)) (eva_cons (ev_var rfl) eva_nil) (np_book _ ls rs) trivial fun d h => h)) (ers_first (ers_drop (ert_call (sx := spRowX T.C_Book T.C_InvalidRow) (x := (d, ls.length)) (eva_cons (ev_var rfl) (eva_cons (ev_names (C := T.C_Book) (rs := rs) (ev_prop (s := spBNames T.C_Book) (x := (ls, rs)) (ev_var rfl) rfl (np_book _ ls rs) trivial fun d h => h)) eva_nil)) hx fun ed H' h => h)))
    · exact ers_seq (pus_drop (ev_call_or (s := spCheck T.C_Book) (x := (ls, rs)) (eva_cons (ev_var rfl) eva_nil) (np_book _ ls rs) trivial fun d h => h)) (ers_seq (pus_drop (ev_call_or (s := spCkRow) (x := (r, ls.length)) (eva_cons (ev_var rfl) (eva_cons (ev_names (C := T.C_Book) (rs := rs) (ev_prop (s := spBNames T.C_Book) (x := (ls, rs)) (ev_var rfl) rfl (np_book _ ls rs) trivial fun d h => h)) eva_nil)) rfl hx.1 fun d h => h)) (ers_first (ers_drop (ert_call (sx := spMostX T.C_InvalidNumber) (x := d) (eva_cons (ev_var rfl) eva_nil) hx.2 fun ed H' h => h))))
    · skip
      obtain ⟨hb, hr', hm, hf⟩ := hx
      have hb : BookOk ls rs := hb
      have hr' : RowOk r ls.length := hr'
      have hm : m ≤ 20 := hm
      have hf : ¬ fewN rs ls.length ≤ m := hf
      have h20 := hb.few
      refine ers_seq (pus_drop (ev_call_or (s := spCheck T.C_Book) (x := (ls, rs)) (eva_cons (ev_var rfl) eva_nil) (np_book _ ls rs) trivial fun d h => h)) ?_
      refine ers_seq (pus_drop (ev_call_or (s := spCkRow) (x := (r, ls.length)) (eva_cons (ev_var rfl) (eva_cons (ev_names (C := T.C_Book) (rs := rs) (ev_prop (s := spBNames T.C_Book) (x := (ls, rs)) (ev_var rfl) rfl (np_book _ ls rs) trivial fun d h => h)) eva_nil)) rfl ⟨hr', hb.names.lo, hb.n8⟩ fun d h => h)) ?_
      refine ers_seq (pus_drop (ev_call_or (s := spCkMost) (x := m) (eva_cons (ev_var rfl) eva_nil) rfl hm fun d h => h)) ?_
      exact ers_first (ers_ifT (evt_test (ev_op (ev_call (s := spFewAll T.C_Book) (d := .int (fewN rs ls.length : Nat)) (x := (ls, rs)) (eva_cons (ev_var rfl) eva_nil) (np_book _ ls rs) hb fun d h => by rw [h]; show optW (lwN rs (dotsN ls.length) ls.length) = _; rw [few_at hb.rows]; rfl) (ev_var (d := .int (m : Nat)) rfl) (gt_b (b := true) (decide_eq_true (by omega))))) (ers_raise rfl))
end K37

namespace K37
open PySem PySem.Spec PyProof.Rows L2 Dw
variable [Tabs0]
def reprB (n : Nat) : Str := Str.empty ++ Str.ofString "Book with " ++ Str.ofString (toString (n : Int)) ++ Str.ofString " rules"
def spBRepr (C : Addr) : Spc where
  ty := List (List Nat) × List (List Nat)
  args := fun x => [bookD C x.1 x.2]
  ok := fun x => x.1.length ≤ 8
  rel := fun x d => d = .str (reprB x.1.length)
theorem repr_lenB : ∀ n : Nat, n < 9 → (Str.empty ++ Str.ofString "Book with ").length ≤ 100 ∧ (Str.empty ++ Str.ofString "Book with " ++ Str.ofString (toString (n : Int))).length ≤ 100 ∧ (reprB n).length ≤ 100 := by decide +kernel
end K37

namespace K37
open PySem PySem.Spec PyProof.Rows L2 Dw
variable [Tabs0]
theorem d_Book___repr__ {P : Program} {w : World} {K : PySem.W.Frag} {mg : Str → Option Value} {base : Heap} (T : Txt K w mg) : FnOk P w K mg base CX0 1 T.f_Book___repr__ T.e_Book___repr__ ["self"] (toSp (spBRepr T.C_Book)) := by
  refine fn_ok T.F_Book___repr__ sc_Book___repr__ (fun _ => rfl) fun cdv A outer s' H E hr => ?_
  refine ⟨_, (pss_one (ps_ret (pe_joined (.cons pe_str (.cons (pe_fmt (pe_callB (lenA K) (by rfl) T.n_len (by decide +kernel) (pa_cons (fldA K (pv 0)) pa_nil))) (.cons pe_str .nil)))))), fun x hx => ?_⟩
  obtain ⟨ls, rs⟩ := x
  have h8 : ls.length ≤ 8 := hx
  obtain ⟨z1, z2, z3⟩ := repr_lenB ls.length (by omega)
  have hz : ((ls.length : Nat) : Int).natAbs.log2 < 1920 := by
    rw [Int.natAbs_natCast]
    exact Nat.lt_of_le_of_lt (Nat.log2_le_self _) (by omega)
  exact ds_ret (Ev.dl (ev_fstrI (ev_cast (d' := .int (ls.length : Nat)) (congrArg (fun k : Nat => D.int k) (nameD_len ls)) (ev_lenT (ds := nameD ls) (ev_fld T.cl_Book T.no_names (ev_var rfl) (by rfl)))) hz (small (by omega)) (small (by omega)) (small (show (reprB ls.length).length ≤ 100000 by omega))) rfl)
theorem d_Book___repr___H {P : Program} {w : World} {K : PySem.W.Frag} {mg : Str → Option Value} {base : Heap} (T : Txt K w mg) : FnT P w K mg base 1 T.f_Book___repr__ T.e_Book___repr__ ["self"] (toSp (spBRepr T.C_Book)) := by
  refine fnT_ok T.F_Book___repr__ sc_Book___repr__ (fun _ => rfl) fun cdv A outer s' H E p hr => ?_
  refine ⟨_, (pss_one (ps_ret (pe_joined (.cons pe_str (.cons (pe_fmt (pe_callB (lenA K) (by rfl) T.n_len (by decide +kernel) (pa_cons (fldA K (pv 0)) pa_nil))) (.cons pe_str .nil)))))), fun x hx => ?_⟩
  obtain ⟨ls, rs⟩ := x
  have h8 : ls.length ≤ 8 := hx
  obtain ⟨z1, z2, z3⟩ := repr_lenB ls.length (by omega)
  have hz : ((ls.length : Nat) : Int).natAbs.log2 < 1920 := by
    rw [Int.natAbs_natCast]
    exact Nat.lt_of_le_of_lt (Nat.log2_le_self _) (by omega)
  exact ds_ret (Ev.dl (ev_fstrI (ev_cast (d' := .int (ls.length : Nat)) (congrArg (fun k : Nat => D.int k) (nameD_len ls)) (ev_lenT (ds := nameD ls) (ev_fld T.cl_Book T.no_names (ev_var rfl) (by rfl)))) hz (small (by omega)) (small (by omega)) (small (show (reprB ls.length).length ≤ 100000 by omega))) rfl)

end K37

namespace K37
open PySem PySem.Spec PyProof.Rows L2 Dw
variable [Tabs0]
/-! data that repr tells -/
structure PgOk (l : List Nat) (m : Nat) : Prop where
  len : l.length ≤ m
  all : ∀ c ∈ l, c < 128
instance okSDec (x : Str) : Decidable (okS x) := inferInstanceAs (Decidable (PyData.strOk x = true))
theorem okS_app {x y : Str} (hx : okS x) (hy : okS y) : okS (x ++ y) := by
  rw [of_tx x, of_tx y, tx_append]
  rw [of_tx x] at hx
  rw [of_tx y] at hy
  refine okS_tx fun c hc => ?_
  rcases List.mem_append.mp hc with h | h
  · exact okS_codes hx c h
  · exact okS_codes hy c h
theorem rc_lt : ∀ q ∈ [34, 39], ∀ c < 128, ∀ d ∈ Builtin.Str.reprChar q c, d < 1114112 := by decide +kernel
theorem rf_lt {q : Nat} (hq : q ∈ [34, 39]) : ∀ (l : List Nat) (acc : Array Nat), (∀ d ∈ acc.toList, d < 1114112) → (∀ c ∈ l, c < 128) → ∀ d ∈ (l.foldl (fun out c => out ++ (Builtin.Str.reprChar q c).toArray) acc).toList, d < 1114112
  | [], acc, h, _ => h
  | c :: l, acc, h, hl => by
    refine rf_lt hq l _ (fun d hd => ?_) fun c' hc' => hl c' (List.mem_cons_of_mem _ hc')
    rw [Array.toList_append] at hd
    rcases List.mem_append.mp hd with hd | hd
    · exact h d hd
    · exact rc_lt q hq c (hl c List.mem_cons_self) d hd
theorem okS_rt {l : List Nat} (h : ∀ c ∈ l, c < 128) : okS (reprText (tx l)) := by
  have hq : reprQuote (tx l) ∈ [34, 39] := by
    unfold reprQuote
    split <;> simp
  rw [of_tx (reprText (tx l))]
  refine okS_tx fun c hc => ?_
  unfold reprText at hc
  have hc : c ∈ (((tx l).cps.foldl (fun out c => out ++ (Builtin.Str.reprChar (reprQuote (tx l)) c).toArray) #[reprQuote (tx l)]).push (reprQuote (tx l))).toList := hc
  rw [Array.toList_push, ← Array.foldl_toList, tx_cps] at hc
  have q1 : reprQuote (tx l) < 1114112 := by
    simp only [List.mem_cons, List.not_mem_nil, or_false] at hq
    omega
  rcases List.mem_append.mp hc with hc | hc
  · refine rf_lt hq l _ (fun d hd => ?_) h c hc
    rw [List.mem_singleton.mp hd]; exact q1
  · rw [List.mem_singleton.mp hc]; exact q1
theorem okS_from : ∀ (ts : List Str) (k : Nat) (acc : Str), okS acc → (∀ t ∈ ts, okS t) → okS (textFrom k acc ts)
  | [], _, _, h, _ => h
  | t :: ts, k, acc, h, ht => by
    refine okS_from ts (k + 1) _ (okS_app (okS_app h ?_) (ht t List.mem_cons_self)) fun u hu => ht u (List.mem_cons_of_mem _ hu)
    by_cases hk : k > 0
    · rw [if_pos hk]; decide +kernel
    · rw [if_neg hk]; decide +kernel
theorem okS_list {ts : List Str} (h : ∀ t ∈ ts, okS t) : okS (listText ts) := okS_app (okS_from ts 0 "[" (by decide +kernel) h) (by decide +kernel)
theorem okS_join : ∀ ts : List Str, (∀ t ∈ ts, okS t) → okS (Str.join ", " ts)
  | [], _ => by decide +kernel
  | [x], h => h x List.mem_cons_self
  | x :: y :: r, h => okS_app (okS_app (h x List.mem_cons_self) (by decide +kernel)) (okS_join (y :: r) fun t ht => h t (List.mem_cons_of_mem _ ht))
theorem okS_tup {ts : List Str} (h : ∀ t ∈ ts, okS t) : okS (tupleText ts) := by
  unfold tupleText
  refine okS_app (okS_app (by decide +kernel) (okS_join ts h)) ?_
  split <;> decide +kernel
mutual
theorem dOk_ok : ∀ (k : Nat) (d : D), dOk k d = true → okC d = true ∧ noP d = true
  | _, .non, _ => ⟨rfl, rfl⟩
  | _, .bl _, _ => ⟨rfl, rfl⟩
  | _, .int _, _ => ⟨rfl, rfl⟩
  | _, .str _, _ => ⟨rfl, rfl⟩
  | k + 1, .tup ds, h => dOks_ok k ds h
  | k + 1, .lst ds, h => dOks_ok k ds h
  | k + 1, .tupN ds, h => dOks_ok k ds h
  | k, .obj _ _ _, h => by cases k <;> exact nomatch h
  | k, .raw _, h => by cases k <;> exact nomatch h
  | k, .purse, h => by cases k <;> exact nomatch h
  | k, .rng _ _, h => by cases k <;> exact nomatch h
  | k, .dct _ _, h => by cases k <;> exact nomatch h
  | k, .scr _ _, h => by cases k <;> exact nomatch h
  | k, .tag _, h => by cases k <;> exact nomatch h
  | k, .fnv _ _, h => by cases k <;> exact nomatch h
  | k, .clo _ _ _, h => by cases k <;> exact nomatch h
  | 0, .tup _, h => nomatch h
  | 0, .lst _, h => nomatch h
  | 0, .tupN _, h => nomatch h
theorem dOks_ok : ∀ (k : Nat) (ds : List D), dOks k ds = true → okCs ds = true ∧ noPs ds = true
  | _, [], _ => ⟨rfl, rfl⟩
  | k, d :: ds, h => by
    have e : (dOk k d && dOks k ds) = true := by cases k <;> exact h
    rw [Bool.and_eq_true] at e
    obtain ⟨a1, a2⟩ := dOk_ok k d e.1
    obtain ⟨b1, b2⟩ := dOks_ok k ds e.2
    exact ⟨by show (okC d && okCs ds) = true; rw [a1, b1]; rfl, by show (noP d && noPs ds) = true; rw [a2, b2]; rfl⟩
end
structure Elt (k m : Nat) (d : D) : Prop where
  ok : dOk k d = true
  sh : shOk d = true
  few : shB d ≤ m
  txt : okS (PyData.shown (py d))
theorem elts {k m : Nat} {ds : List D} (h : ∀ d ∈ ds, Elt k m d) : dOks k ds = true ∧ shOks ds = true ∧ shBs ds ≤ (m + 2) * ds.length ∧ (∀ t ∈ PyData.shownAll (pys ds), okS t) := by
  induction ds with
  | nil => exact ⟨by cases k <;> rfl, rfl, Nat.zero_le _, (fun t ht => by cases ht)⟩
  | cons d r ih =>
    obtain ⟨i1, i2, i3, i4⟩ := ih fun e he => h e (List.mem_cons_of_mem _ he)
    have hd := h d List.mem_cons_self
    refine ⟨?_, ?_, ?_, fun t ht => ?_⟩
    · have e : dOks k (d :: r) = (dOk k d && dOks k r) := by cases k <;> rfl
      rw [e, hd.ok, i1]; rfl
    · show (shOk d && shOks r) = true
      rw [hd.sh, i2]; rfl
    · show shB d + 2 + shBs r ≤ (m + 2) * (r.length + 1)
      have := hd.few
      rw [Nat.mul_succ]
      omega
    · rcases List.mem_cons.mp ht with rfl | ht
      · exact hd.txt
      · exact i4 t ht
theorem elt_tup {k m n : Nat} {ds : List D} (h : ∀ d ∈ ds, Elt k m d) (hn : (m + 2) * ds.length + 4 ≤ n) : Elt (k + 1) n (.tup ds) := by
  obtain ⟨i1, i2, i3, i4⟩ := elts h
  exact ⟨i1, i2, by show shBs ds + 4 ≤ n; omega, okS_tup i4⟩
theorem elt_lst {k m n : Nat} {ds : List D} (h : ∀ d ∈ ds, Elt k m d) (hn : (m + 2) * ds.length + 4 ≤ n) : Elt (k + 1) n (.lst ds) := by
  obtain ⟨i1, i2, i3, i4⟩ := elts h
  exact ⟨i1, i2, by show shBs ds + 4 ≤ n; omega, okS_list i4⟩
theorem elt_str {k m n : Nat} {l : List Nat} (h : PgOk l m) (hn : 10 * m + 2 ≤ n) : Elt k n (.str (tx l)) := by
  have o : PyData.strOk (tx l) = true := okS_tx fun c hc => by have := h.all c hc; omega
  refine ⟨by cases k <;> exact o, rfl, ?_, ?_⟩
  · show 10 * (tx l).length + 2 ≤ n
    rw [tx_len]; have := h.len; omega
  · show okS (PyData.shown (.str (tx l)))
    rw [PyData.shown_str]
    exact okS_rt h.all
theorem elt_c {k n : Nat} {s : Str} (h1 : s.cps.toList.length ≤ 20) (h2 : ∀ c ∈ s.cps.toList, c < 128) (hn : 202 ≤ n) : Elt k n (.str s) := by
  rw [of_tx s]
  exact elt_str (m := 20) ⟨h1, h2⟩ (by omega)
theorem elt_nat {k m n : Nat} (h : n < 100) (hm : 10 ≤ m) : Elt k m (.int (n : Nat)) := by
  have a : ∀ n < 100, shOk (.int (n : Nat)) = true ∧ shB (.int (n : Nat)) ≤ 10 ∧ okS (PyData.shown (py (.int (n : Nat)))) := by decide +kernel
  obtain ⟨h1, h2, h3⟩ := a n h
  exact ⟨by cases k <;> rfl, h1, by omega, h3⟩
theorem elt_m1 {k m : Nat} (hm : 10 ≤ m) : Elt k m (.int (-1)) := by
  have a : shOk (.int (-1)) = true ∧ shB (.int (-1)) ≤ 10 ∧ okS (PyData.shown (py (.int (-1)))) := by decide +kernel
  exact ⟨by cases k <;> rfl, a.1, by have := a.2.1; omega, a.2.2⟩
theorem elt_non {k m : Nat} (hm : 10 ≤ m) : Elt k m .non := ⟨by cases k <;> rfl, rfl, by show 5 ≤ m; omega, by decide +kernel⟩
theorem elt_bl {k m : Nat} (b : Bool) (hm : 10 ≤ m) : Elt k m (.bl b) := ⟨by cases k <;> rfl, rfl, by show 5 ≤ m; omega, by cases b <;> decide +kernel⟩
theorem Elt.mono {k m n : Nat} {d : D} (h : Elt k m d) (hn : m ≤ n) : Elt k n d := ⟨h.ok, h.sh, Nat.le_trans h.few hn, h.txt⟩
/-- what repr tells here: data, a book -/
def RX (K : PySem.W.Frag) (B : Addr) : List V → Hp → VK → Prop := fun xs H Q => rReprY K xs H Q ∨ rRep1 K B (toSp (spBRepr B)) xs H Q
structure Thg (K : PySem.W.Frag) (B : Addr) (d : D) (z : Str) : Prop where
  rp : RpR (RX K B) d z
  ok : PyData.strOk z = true
  oc : okC d = true
  np : noP d = true
section
variable {K : PySem.W.Frag} {B : Addr}
theorem thg_elt {k m : Nat} {d : D} (h : Elt k m d) (hk : k ≤ 64) (hm : m ≤ 100000) : Thg K B d (PyData.shown (py d)) :=
  ⟨RpR.inl (RpR.y (.inl ⟨k, hk, h.ok, h.sh, Nat.le_trans (Nat.le_trans h.few hm) (by decide), rfl⟩)), h.txt, (dOk_ok k d h.ok).1, (dOk_ok k d h.ok).2⟩
theorem thg_dct : Thg K B (.dct [] []) "{}" := ⟨RpR.inl (RpR.y (.inr ⟨rfl, rfl⟩)), by decide +kernel, rfl, rfl⟩
theorem okCs_map {α : Type} {f : α → D} (h : ∀ x, okC (f x) = true) : ∀ l : List α, okCs (l.map f) = true
  | [] => rfl
  | x :: l => by
    show (okC (f x) && okCs (l.map f)) = true
    rw [h x, okCs_map h l]; rfl
theorem okC_book (B : Addr) (ls rs : List (List Nat)) : okC (bookD B ls rs) = true := by
  have a : okCs (nameD ls) = true := okCs_map (fun _ => rfl) ls
  have b : okCs (nameD rs) = true := okCs_map (fun _ => rfl) rs
  show (true && (okCs (nameD ls) && (okCs (nameD rs) && true))) = true
  rw [a, b]; rfl
theorem reprB_ok : ∀ n < 9, (reprB n).length ≤ 1000 ∧ okS (reprB n) ∧ okS (tupleText [reprB n]) := by decide +kernel
theorem thg_book {ls rs : List (List Nat)} (h8 : ls.length ≤ 8) : Thg K B (bookD B ls rs) (reprB ls.length) :=
  ⟨RpR.inr (RpR.o ⟨(ls, rs), _, _, _, rfl, np_book B ls rs, h8, fun d h => h, (reprB_ok ls.length (by omega)).1, .inr (.inr ⟨rfl, rfl⟩)⟩), (reprB_ok ls.length (by omega)).2.1, okC_book _ _ _, np_bookD _ _ _⟩
theorem thg_tbook {ls rs : List (List Nat)} (h8 : ls.length ≤ 8) : Thg K B (.tup [bookD B ls rs]) (tupleText [reprB ls.length]) :=
  ⟨RpR.inr (RpR.o ⟨(ls, rs), _, _, _, rfl, np_book B ls rs, h8, fun d h => h, (reprB_ok ls.length (by omega)).1, .inr (.inl ⟨rfl, rfl⟩)⟩), (reprB_ok ls.length (by omega)).2.2, by show (okC (bookD B ls rs) && true) = true; rw [okC_book]; rfl, np_book B ls rs⟩
end
end K37

namespace K37
open PySem PySem.Spec PyProof.Rows L2 Dw
variable [Tabs0]
/-! calls that are heard -/
structure Act (P : Program) (w : World) (K : PySem.W.Frag) (mg : Str → Option Value) (base : Heap) where
  l : LamP P w K mg base 14
  ds : List D
/-- the errors' classes here -/
structure Es where
  bk : Addr
  rw : Addr
  nm : Addr
  mn : Addr
  no : Addr
inductive HeardIs {P : Program} {w : World} {K : PySem.W.Frag} {mg : Str → Option Value} {base : Heap} (B : Addr) (e : Es) (a : Act P w K mg base) : List Str → Prop
  | told (h : ∀ E, Dl (a.l.t E) (a.ds.map fun d => Sl.val (.tag d)) fun _ _ => True) : HeardIs B e a ["told"]
  | err (C0 : Addr) (w0 f0 : Str) (hc : (C0, w0, f0) ∈ ([(e.bk, "book", "given"), (e.rw, "signs", "given"), (e.nm, "number", "given"), (e.mn, "many", "number")] : List (Addr × Str × Str))) (d : D) (z : Str) (h : ∀ E : XK, ErT (a.l.t E) (a.ds.map Sl.val) ⟨C0, [(f0, d)]⟩ fun ed H' => E (.ref C0) ed H') (hz : RpR (RX K B) d z) (hs : PyData.strOk z = true) : HeardIs B e a [w0, z]
  | none (h : ∀ E : XK, ErT (a.l.t E) (a.ds.map Sl.val) ⟨e.no, []⟩ fun ed H' => E (.ref e.no) ed H') : HeardIs B e a ["none"]
def spHeard (P : Program) (w : World) (K : PySem.W.Frag) (mg : Str → Option Value) (base : Heap) (B : Addr) (e : Es) : Spc where
  ty := Act P w K mg base × List Str
  args := fun x => [.tag (.clo x.1.l.L x.1.l.ns x.1.ds)]
  ok := fun x => okCs x.1.ds = true ∧ HeardIs B e x.1 x.2
  rel := fun x d => d = .lst (x.2.map D.str)
def spAllH (P : Program) (w : World) (K : PySem.W.Frag) (mg : Str → Option Value) (base : Heap) (B : Addr) (e : Es) : Spc where
  ty := List (Act P w K mg base) × List Str
  args := fun x => [.tag (.lst (x.1.map fun a => .clo a.l.L a.l.ns a.ds)), .lst (x.2.map D.str)]
  ok := fun x => x.1.length ≤ 100 ∧ (∀ a ∈ x.1, okCs a.ds = true ∧ noPs a.ds = true ∧ HeardIs B e a x.2) ∧ ∀ z ∈ x.2, PyData.strOk z = true
  rel := fun _ d => d = .bl true
section
variable {P : Program} {w : World} {K : PySem.W.Frag} {mg : Str → Option Value} {base : Heap} {k i : Nat} {Γ : Gam} {ds : List D} {E : XK} {x : Exn} {R : Option Addr → Hp → Prop}
/-- the closure raises x -/
theorem ert_actCT (l : LamP P w K mg base k) (h0 : Γ[i]? = some (.val (.tag (.clo l.L l.ns ds)))) (hok : okCs ds = true) (hb : ∀ E, ErT (l.t E) (ds.map Sl.val) x fun ed H' => E (.ref x.C) ed H') (hR : ∀ ed H', R ed H' → E (.ref x.C) ed H') : ErT (tActC (P := P) (w := w) (K := K) (mg := mg) (base := base) (k := k) i E) Γ x R := fun F σ W Q g kR => by
  obtain ⟨v, e, ⟨f, c, cl, vs, rfl, h1, n1, h2, n2, a1, a2, a3, a4, hcl, rr⟩, _⟩ := g.val i _ h0
  have cat := hcl.at
  have nu := hcl.nu
  refine ⟨l, f, cl, vs, e, ⟨⟨c, h1, h2, a3, a4⟩, a1, a2, W.U, hcl⟩, ?_⟩
  have okW : WOk W.U ⟨cutH W.H (cl.map (·.2)), W.U, fun _ => False⟩ := ⟨fun a u z => g.ok.dom a u ((cut_out fun m => nu a m u).symm.trans z), fun a u => u, fun a z => z.elim⟩
  refine hb (fun cls d H' => (∀ b ∈ cl.map (·.2), H' b = none) → E cls d (pasteH W.H H' (cl.map (·.2)))) W.U (vs.map some) ⟨cutH W.H (cl.map (·.2)), W.U, fun _ => False⟩ _ (vals_sr okW (RepL.cut cat ds vs hok rr)) fun ed H' s' ex => fun hn => hR ed _ (kR ed _ (same_paste s') ⟨fun dd ed' => ?_, ?_⟩)
  · have z : cutH W.H (cl.map (·.2)) dd = none := ex.1 dd ed'
    by_cases hm : dd ∈ cl.map (·.2)
    · exfalso
      have q := ex.2
      obtain ⟨C, fs⟩ := x
      cases fs with
      | nil => rw [show ed = none from q] at ed'; cases ed'
      | cons f0 fs =>
        obtain ⟨dd', ws, e1, _, e2, _⟩ := q
        rw [e1] at ed'; cases ed'
        have e2 : H' dd = some _ := e2
        rw [hn dd hm] at e2; cases e2
    · rw [cut_out hm] at z; exact z
  · exact ExHeld.mono (W := ⟨H', W.U, fun _ => False⟩) (W' := W.at (pasteH W.H H' (cl.map (·.2)))) (keep_paste (W := W) hn) (fun _ z => z.elim) ex.2
end
section
variable {K : PySem.W.Frag} {n i : Nat} {x : Exn} {d : D} {c : Value} {ts : Addr → Value → Option Addr → TS} {r : List (Value × Bool × (Addr → Value → Option Addr → TS))}
theorem takes_here (h1 : PySem.W.exmOne K (.ref x.C) c = some true) (h : SuitX ts n i x d) : Takes1 K n i x d ((c, true, ts) :: r) := .inl ⟨h1, by rw [if_pos rfl]; exact h⟩
theorem takes_next {b : Bool} (h1 : PySem.W.exmOne K (.ref x.C) c = some false) (h : Takes1 K n i x d r) : Takes1 K n i x d ((c, b, ts) :: r) := .inr ⟨h1, h⟩
end
theorem held_sr {F : Addr → Prop} {W : Wd} {σ : L2.St} {a : Addr} (ok : WOk F W) (hl : σ.length = 2) : SR F ((List.replicate 2 Sl.unset).set 1 (.val (.raw (.ref a)))) (σ.set 1 (some (.ref a))) W := by
  have g := (sr_unset ok σ).set (i := 1) (d := .raw (.ref a)) (v := .ref a) rfl
  rw [hl] at g
  exact g
theorem dOks_rep {k : Nat} {d : D} (h : dOk k d = true) : ∀ n : Nat, dOks k (List.replicate n d) = true
  | 0 => by cases k <;> rfl
  | n + 1 => by
    have := dOks_rep h n
    show dOks k (d :: List.replicate n d) = true
    have e : dOks k (d :: List.replicate n d) = (dOk k d && dOks k (List.replicate n d)) := by cases k <;> rfl
    rw [e, h, this]; rfl
theorem dOks_strs {k : Nat} : ∀ {zs : List Str}, (∀ z ∈ zs, PyData.strOk z = true) → dOks k (zs.map D.str) = true
  | [], _ => by cases k <;> rfl
  | z :: r, h => by
    have e : dOks k ((z :: r).map D.str) = (dOk k (.str z) && dOks k (r.map D.str)) := by cases k <;> rfl
    have e1 : dOk k (.str z) = PyData.strOk z := by cases k <;> rfl
    rw [e, e1, h z List.mem_cons_self, dOks_strs fun z hz => h z (List.mem_cons_of_mem _ hz)]; rfl
end K37

namespace K37
open PySem PySem.Spec PyProof.Rows L2 Dw
variable [Tabs0]
theorem d__law_heard {P : Program} {w : World} {K : PySem.W.Frag} {mg : Str → Option Value} {base : Heap} (T : Txt K w mg) : FnG P w K mg base 16 T.f__law_heard T.e__law_heard ["_law_act"] (spHeard P w K mg base T.C_Book ⟨T.C_NotABook, T.C_InvalidRow, T.C_InvalidNumber, T.C_TooMany, T.C_NoRanking⟩) := by
  refine fnG_ok T.F__law_heard sc__law_heard (fun _ => rfl) fun cdv A outer s' H E hr hG => ?_
  refine ⟨_, (pss_cons (ps_try_manyN (n := "e") (i := 1) rfl rfl sc__law_heard.nd (fun Wx pn xe tk po => (pss_one (ps_expr (pe_actCA (P := P) (w := w) (K := K) (mg := mg) (base := base) (k := 14) (i := 0) (E := fun cls d H1 => ∀ σ1, σ1.length = 2 → Wx cls d σ1 H1) (takes_len tk) (fun _ _ _ _ h hl => h _ hl) (hr.mono (by decide)) rfl (Or.inl rfl))))) (HdsN.named rfl rfl ⟨by rfl, by decide, Or.inl T.m_NotABook⟩ (fun a oe cls d pn hz hf => (pss_cls (PC := fun C => XfC K C ∧ PySem.W.findIn K (.ref C) "given" = some none) fun C hC hp => (pss_one (ps_ret (pe_lst (pa_cons pe_str (pa_cons (pe_callB (L2.CallR.or (reprHY K (roomHS hr) hG) (rep1HA K (p := (a, oe)) (k := 0) (d_Book___repr___H T) (L2H.RoomH.mono (roomHS hr) (by decide)) hG List.mem_cons_self T.or_Book T.ir_Book T.b_Book___repr__)) (by rfl) T.n_repr (by decide +kernel) (pa_cons (pe_xfP (a := a) (oe := oe) (ed := d) List.mem_cons_self hp.1 hp.2 (show Zc (.ref C) d oe from hC ▸ hz) hf (pv 1)) pa_nil)) pa_nil))))))) (HdsN.named rfl rfl ⟨by rfl, by decide, Or.inl T.m_NotACase⟩ (fun a oe cls d pn hz hf => (pss_cls (PC := fun C => XfC K C ∧ PySem.W.findIn K (.ref C) "given" = some none) fun C hC hp => (pss_one (ps_ret (pe_lst (pa_cons pe_str (pa_cons (pe_callB (L2.CallR.or (reprHY K (roomHS hr) hG) (rep1HA K (p := (a, oe)) (k := 0) (d_Book___repr___H T) (L2H.RoomH.mono (roomHS hr) (by decide)) hG List.mem_cons_self T.or_Book T.ir_Book T.b_Book___repr__)) (by rfl) T.n_repr (by decide +kernel) (pa_cons (pe_xfP (a := a) (oe := oe) (ed := d) List.mem_cons_self hp.1 hp.2 (show Zc (.ref C) d oe from hC ▸ hz) hf (pv 1)) pa_nil)) pa_nil))))))) (HdsN.named rfl rfl ⟨by rfl, by decide, Or.inl T.m_UnknownName⟩ (fun a oe cls d pn hz hf => (pss_cls (PC := fun C => XfC K C ∧ PySem.W.findIn K (.ref C) "given" = some none) fun C hC hp => (pss_one (ps_ret (pe_lst (pa_cons pe_str (pa_cons (pe_callB (L2.CallR.or (reprHY K (roomHS hr) hG) (rep1HA K (p := (a, oe)) (k := 0) (d_Book___repr___H T) (L2H.RoomH.mono (roomHS hr) (by decide)) hG List.mem_cons_self T.or_Book T.ir_Book T.b_Book___repr__)) (by rfl) T.n_repr (by decide +kernel) (pa_cons (pe_xfP (a := a) (oe := oe) (ed := d) List.mem_cons_self hp.1 hp.2 (show Zc (.ref C) d oe from hC ▸ hz) hf (pv 1)) pa_nil)) pa_nil))))))) (HdsN.named rfl rfl ⟨by rfl, by decide, Or.inl T.m_InvalidRanking⟩ (fun a oe cls d pn hz hf => (pss_cls (PC := fun C => XfC K C ∧ PySem.W.findIn K (.ref C) "given" = some none) fun C hC hp => (pss_one (ps_ret (pe_lst (pa_cons pe_str (pa_cons (pe_callB (L2.CallR.or (reprHY K (roomHS hr) hG) (rep1HA K (p := (a, oe)) (k := 0) (d_Book___repr___H T) (L2H.RoomH.mono (roomHS hr) (by decide)) hG List.mem_cons_self T.or_Book T.ir_Book T.b_Book___repr__)) (by rfl) T.n_repr (by decide +kernel) (pa_cons (pe_xfP (a := a) (oe := oe) (ed := d) List.mem_cons_self hp.1 hp.2 (show Zc (.ref C) d oe from hC ▸ hz) hf (pv 1)) pa_nil)) pa_nil))))))) (HdsN.named rfl rfl ⟨by rfl, by decide, Or.inl T.m_InvalidRow⟩ (fun a oe cls d pn hz hf => (pss_cls (PC := fun C => XfC K C ∧ PySem.W.findIn K (.ref C) "given" = some none) fun C hC hp => (pss_one (ps_ret (pe_lst (pa_cons pe_str (pa_cons (pe_callB (L2.CallR.or (reprHY K (roomHS hr) hG) (rep1HA K (p := (a, oe)) (k := 0) (d_Book___repr___H T) (L2H.RoomH.mono (roomHS hr) (by decide)) hG List.mem_cons_self T.or_Book T.ir_Book T.b_Book___repr__)) (by rfl) T.n_repr (by decide +kernel) (pa_cons (pe_xfP (a := a) (oe := oe) (ed := d) List.mem_cons_self hp.1 hp.2 (show Zc (.ref C) d oe from hC ▸ hz) hf (pv 1)) pa_nil)) pa_nil))))))) (HdsN.named rfl rfl ⟨by rfl, by decide, Or.inl T.m_InvalidNumber⟩ (fun a oe cls d pn hz hf => (pss_cls (PC := fun C => XfC K C ∧ PySem.W.findIn K (.ref C) "given" = some none) fun C hC hp => (pss_one (ps_ret (pe_lst (pa_cons pe_str (pa_cons (pe_callB (L2.CallR.or (reprHY K (roomHS hr) hG) (rep1HA K (p := (a, oe)) (k := 0) (d_Book___repr___H T) (L2H.RoomH.mono (roomHS hr) (by decide)) hG List.mem_cons_self T.or_Book T.ir_Book T.b_Book___repr__)) (by rfl) T.n_repr (by decide +kernel) (pa_cons (pe_xfP (a := a) (oe := oe) (ed := d) List.mem_cons_self hp.1 hp.2 (show Zc (.ref C) d oe from hC ▸ hz) hf (pv 1)) pa_nil)) pa_nil))))))) (HdsN.named rfl rfl ⟨by rfl, by decide, Or.inl T.m_InvalidCases⟩ (fun a oe cls d pn hz hf => (pss_cls (PC := fun C => XfC K C ∧ PySem.W.findIn K (.ref C) "index" = some none) fun C hC hp => (pss_one (ps_ret (pe_lst (pa_cons pe_str (pa_cons (pe_callB (L2.CallR.or (reprHY K (roomHS hr) hG) (rep1HA K (p := (a, oe)) (k := 0) (d_Book___repr___H T) (L2H.RoomH.mono (roomHS hr) (by decide)) hG List.mem_cons_self T.or_Book T.ir_Book T.b_Book___repr__)) (by rfl) T.n_repr (by decide +kernel) (pa_cons (pe_xfP (a := a) (oe := oe) (ed := d) List.mem_cons_self hp.1 hp.2 (show Zc (.ref C) d oe from hC ▸ hz) hf (pv 1)) pa_nil)) pa_nil))))))) (HdsN.named rfl rfl ⟨by rfl, by decide, Or.inl T.m_InvalidOffers⟩ (fun a oe cls d pn hz hf => (pss_cls (PC := fun C => XfC K C ∧ PySem.W.findIn K (.ref C) "index" = some none) fun C hC hp => (pss_one (ps_ret (pe_lst (pa_cons pe_str (pa_cons (pe_callB (L2.CallR.or (reprHY K (roomHS hr) hG) (rep1HA K (p := (a, oe)) (k := 0) (d_Book___repr___H T) (L2H.RoomH.mono (roomHS hr) (by decide)) hG List.mem_cons_self T.or_Book T.ir_Book T.b_Book___repr__)) (by rfl) T.n_repr (by decide +kernel) (pa_cons (pe_xfP (a := a) (oe := oe) (ed := d) List.mem_cons_self hp.1 hp.2 (show Zc (.ref C) d oe from hC ▸ hz) hf (pv 1)) pa_nil)) pa_nil))))))) (HdsN.named rfl rfl ⟨by rfl, by decide, Or.inl T.m_TooMany⟩ (fun a oe cls d pn hz hf => (pss_cls (PC := fun C => XfC K C ∧ PySem.W.findIn K (.ref C) "number" = some none) fun C hC hp => (pss_one (ps_ret (pe_lst (pa_cons pe_str (pa_cons (pe_callB (L2.CallR.or (reprHY K (roomHS hr) hG) (rep1HA K (p := (a, oe)) (k := 0) (d_Book___repr___H T) (L2H.RoomH.mono (roomHS hr) (by decide)) hG List.mem_cons_self T.or_Book T.ir_Book T.b_Book___repr__)) (by rfl) T.n_repr (by decide +kernel) (pa_cons (pe_xfP (a := a) (oe := oe) (ed := d) List.mem_cons_self hp.1 hp.2 (show Zc (.ref C) d oe from hC ▸ hz) hf (pv 1)) pa_nil)) pa_nil))))))) (HdsN.cons ⟨by rfl, by decide, Or.inl T.m_NoRanking⟩ (fun a oe cls d pn hz hf => (pss_one (ps_ret (pe_lst (pa_cons pe_str pa_nil))))) HdsN.nil))))))))))) (pss_one (ps_ret (pe_lst (pa_cons pe_str pa_nil))))), fun x hx => ?_⟩
  obtain ⟨a, out⟩ := x
  obtain ⟨hok, hh⟩ := hx
  have hok : okCs a.ds = true := hok
  have hh : HeardIs T.C_Book ⟨T.C_NotABook, T.C_InvalidRow, T.C_InvalidNumber, T.C_TooMany, T.C_NoRanking⟩ a out := hh
  cases hh with
  | told h => exact ds_seq (ds_try_manyR (tb := fun Wx => tDrop (tActC (P := P) (w := w) (K := K) (mg := mg) (base := base) (k := 14) 0 fun cls d H1 => ∀ σ1 : L2.St, σ1.length = 2 → Wx cls d σ1 H1)) fun Wx => ds_drop (dl_actC a.l rfl hok fun E F σ W R g k => h E F σ W R g fun v W1 d Γ1 st g1 r _ => k v W1 d Γ1 st g1 r (ds_ret (Ev.dl (EvN.ev (evn_lst (eva_cons ev_str eva_nil) (small (by simp)))) rfl))))
  | none h => exact ds_seq (ds_try_manyX (tb := fun Wx => tDrop (tActC (P := P) (w := w) (K := K) (mg := mg) (base := base) (k := 14) 0 fun cls d H1 => ∀ σ1 : L2.St, σ1.length = 2 → Wx cls d σ1 H1)) (x := ⟨T.C_NoRanking, []⟩) (d := .lst [.str "none"]) (n := 2) (fun Wx => ers_drop (ert_actCT a.l rfl hok h fun ed H' q => q)) (takes_next T.xh_NoRanking_NotABook (takes_next T.xh_NoRanking_NotACase (takes_next T.xh_NoRanking_UnknownName (takes_next T.xh_NoRanking_InvalidRanking (takes_next T.xh_NoRanking_InvalidRow (takes_next T.xh_NoRanking_InvalidNumber (takes_next T.xh_NoRanking_InvalidCases (takes_next T.xh_NoRanking_InvalidOffers (takes_next T.xh_NoRanking_TooMany (.inl ⟨T.xh_NoRanking_NoRanking, by rw [if_neg Bool.false_ne_true]; exact fun F W σ a Dr ed ok hl na hx k => EvN.ev (evn_lst (eva_cons ev_str eva_nil) (small (by simp))) F σ W _ (by have g := sr_unset ok σ; exact g) fun v H' s r => k v H' s r⟩)))))))))) rfl)
  | err C0 w0 f0 hc d z h hz hs =>
    have suit : ∀ {E : Addr} {wd fd : Str}, XfC K E → PySem.W.findIn K (.ref E) fd = some none → SuitX (fun a cls ed => fun D σ H => ∃ C, cls = .ref C ∧ (XfC K C ∧ PySem.W.findIn K (.ref C) fd = some none) ∧ tRet (tLst (tCons (tC (.str wd)) (tCons (tCB (RX K T.C_Book) (tCons (tXf a (.ref C) ed C fd (tVar 1)) tNil)) tNil))) D σ H) 2 1 ⟨E, [(fd, d)]⟩ (.lst [.str wd, .str z]) := fun h1 h2 => fun F W σ a Dr ed ok hl na hx k => ⟨_, rfl, ⟨h1, h2⟩, rts_ret (evh_lst (evha_cons (Ev.held ev_str) (evha_cons (evh_reprR (evh_xf (ev_var rfl) (by simp)) hz) evha_nil)) (small (by simp))) F _ W Dr (held_sr ok hl) hx k⟩
    simp only [List.mem_cons, List.not_mem_nil, or_false, Prod.mk.injEq] at hc
    rcases hc with ⟨rfl, rfl, rfl⟩ | ⟨rfl, rfl, rfl⟩ | ⟨rfl, rfl, rfl⟩ | ⟨rfl, rfl, rfl⟩
    · exact ds_seq (ds_try_manyX (tb := fun Wx => tDrop (tActC (P := P) (w := w) (K := K) (mg := mg) (base := base) (k := 14) 0 fun cls d H1 => ∀ σ1 : L2.St, σ1.length = 2 → Wx cls d σ1 H1)) (x := ⟨T.C_NotABook, [("given", d)]⟩) (d := .lst [.str "book", .str z]) (n := 2) (fun Wx => ers_drop (ert_actCT a.l rfl hok h fun ed H' q => q)) (takes_here T.xh_NotABook_NotABook (suit T.xf_NotABook T.xn_NotABook_given)) rfl)
    · exact ds_seq (ds_try_manyX (tb := fun Wx => tDrop (tActC (P := P) (w := w) (K := K) (mg := mg) (base := base) (k := 14) 0 fun cls d H1 => ∀ σ1 : L2.St, σ1.length = 2 → Wx cls d σ1 H1)) (x := ⟨T.C_InvalidRow, [("given", d)]⟩) (d := .lst [.str "signs", .str z]) (n := 2) (fun Wx => ers_drop (ert_actCT a.l rfl hok h fun ed H' q => q)) (takes_next T.xh_InvalidRow_NotABook (takes_next T.xh_InvalidRow_NotACase (takes_next T.xh_InvalidRow_UnknownName (takes_next T.xh_InvalidRow_InvalidRanking (takes_here T.xh_InvalidRow_InvalidRow (suit T.xf_InvalidRow T.xn_InvalidRow_given)))))) rfl)
    · exact ds_seq (ds_try_manyX (tb := fun Wx => tDrop (tActC (P := P) (w := w) (K := K) (mg := mg) (base := base) (k := 14) 0 fun cls d H1 => ∀ σ1 : L2.St, σ1.length = 2 → Wx cls d σ1 H1)) (x := ⟨T.C_InvalidNumber, [("given", d)]⟩) (d := .lst [.str "number", .str z]) (n := 2) (fun Wx => ers_drop (ert_actCT a.l rfl hok h fun ed H' q => q)) (takes_next T.xh_InvalidNumber_NotABook (takes_next T.xh_InvalidNumber_NotACase (takes_next T.xh_InvalidNumber_UnknownName (takes_next T.xh_InvalidNumber_InvalidRanking (takes_next T.xh_InvalidNumber_InvalidRow (takes_here T.xh_InvalidNumber_InvalidNumber (suit T.xf_InvalidNumber T.xn_InvalidNumber_given))))))) rfl)
    · exact ds_seq (ds_try_manyX (tb := fun Wx => tDrop (tActC (P := P) (w := w) (K := K) (mg := mg) (base := base) (k := 14) 0 fun cls d H1 => ∀ σ1 : L2.St, σ1.length = 2 → Wx cls d σ1 H1)) (x := ⟨T.C_TooMany, [("number", d)]⟩) (d := .lst [.str "many", .str z]) (n := 2) (fun Wx => ers_drop (ert_actCT a.l rfl hok h fun ed H' q => q)) (takes_next T.xh_TooMany_NotABook (takes_next T.xh_TooMany_NotACase (takes_next T.xh_TooMany_UnknownName (takes_next T.xh_TooMany_InvalidRanking (takes_next T.xh_TooMany_InvalidRow (takes_next T.xh_TooMany_InvalidNumber (takes_next T.xh_TooMany_InvalidCases (takes_next T.xh_TooMany_InvalidOffers (takes_here T.xh_TooMany_TooMany (suit T.xf_TooMany T.xn_TooMany_number)))))))))) rfl)
end K37

namespace K37
open PySem PySem.Spec PyProof.Rows L2 Dw
variable [Tabs0]
theorem d__law_all_heard {P : Program} {w : World} {K : PySem.W.Frag} {mg : Str → Option Value} {base : Heap} (T : Txt K w mg) : FnG P w K mg base 17 T.f__law_all_heard T.e__law_all_heard ["_law_acts", "_law_due"] (spAllH P w K mg base T.C_Book ⟨T.C_NotABook, T.C_InvalidRow, T.C_InvalidNumber, T.C_TooMany, T.C_NoRanking⟩) := by
  refine fnG_ok T.F__law_all_heard sc__law_all_heard (fun _ => rfl) fun cdv A outer s' H E hr hG => ?_
  refine ⟨_, (pss_one (ps_ret (pe_cmpR (eqA K hr.units) (pe_lc (own := [("_law_act", 2)]) rfl sc__law_all_heard.nd (piR K (pv 0)) (blkOk_by (own := [("_law_act", 2)]) (N := N__law_all_heard) (sc := (defScope s__law_all_heard)) (by decide +kernel)) (fun _ _ _ _ _ => pg_name (i := 2) sc__law_all_heard.nd rfl (Or.inl rfl)) (fun _ _ _ _ _ => pts_nil) (fun _ _ _ _ _ => (pe_callG (E := E0) (d__law_heard T) (hr.mono (by decide)) hG (by rfl) T.m__law_heard T.F__law_heard.kp T.b__law_heard (pa_cons (pv 2) pa_nil)))) (pe_op opTimes (pe_lst (pa_cons (pv 1) pa_nil)) (pe_callB (lenA K) (by rfl) T.n_len (by decide +kernel) (pa_cons (pv 0) pa_nil))) (nomark _)))), fun x hx => ?_⟩
  obtain ⟨acts, out⟩ := x
  obtain ⟨h1, h2, h3⟩ := hx
  have h1 : acts.length ≤ 100 := h1
  have h3 : ∀ z ∈ out, PyData.strOk z = true := h3
  have e2 : (List.replicate acts.length [D.lst (out.map D.str)]).flatten = List.replicate acts.length (D.lst (out.map D.str)) := List.flatten_replicate_singleton
  have dk : dOk 2 (.lst (List.replicate acts.length (D.lst (out.map D.str)))) = true := by
    show dOks 1 _ = true
    exact dOks_rep (by show dOks 0 _ = true; exact dOks_strs h3) _
  have lm : (acts.map fun a => D.clo a.l.L a.l.ns a.ds).length = acts.length := List.length_map ..
  refine ds_ret (dl_op (dl_lc (dj_list (Ev.dl (ev_untag (ev_var (d := .tag (.lst (acts.map fun a => .clo a.l.L a.l.ns a.ds))) rfl)) ⟨_, rfl, by rw [lm]; omega, fun i acc Γ' => Γ' = [.val (.tag (.lst (acts.map fun a => .clo a.l.L a.l.ns a.ds))), .val (.lst (out.map D.str)), .unset] ∧ acc = List.replicate i (D.lst (out.map D.str)), ⟨rfl, rfl⟩, fun i x acc Γ' hx' ⟨e, ea⟩ => ?_, fun acc Γ' ⟨e, ea⟩ => ?_⟩))))
  · subst e
    rw [List.getElem?_map] at hx'
    obtain ⟨a, ha, rfl⟩ := Option.map_eq_some_iff.mp hx'
    have ham := List.mem_of_getElem? ha
    refine ⟨[2], _, dg_name, fun i hi => hi, dlt_yes ⟨fun _ => dl_call (s := spHeard P w K mg base T.C_Book ⟨T.C_NotABook, T.C_InvalidRow, T.C_InvalidNumber, T.C_TooMany, T.C_NoRanking⟩) (dla_cons (Ev.dl (ev_tag (i := 0) rfl TgS.tag (ev_var (d := .clo a.l.L a.l.ns a.ds) rfl)) (dla_nil ⟨(a, out), rfl, ⟨(h2 a ham).1, (h2 a ham).2.2⟩, fun d hd => ?_⟩))), fun h => nomatch h⟩⟩
    cases hd
    refine ⟨rfl, ?_⟩
    rw [ea, List.replicate_succ']
  · subst e
    rw [ea, lm]
    refine Ev.dl (EvN.ev (evn_rep (n := acts.length) (EvN.b (evn_lst (eva_cons (ev_var (d := .lst (out.map D.str)) rfl) eva_nil) (small (by simp)))) (ev_cast (congrArg (fun n : Nat => D.int n) lm) (ev_len (ev_untag (ev_var (d := .tag (.lst (acts.map fun a => .clo a.l.L a.l.ns a.ds))) rfl)).b)) (by show 1 * acts.length ≤ sizeLine; exact small (by omega)) (by omega))) ⟨.bl true, ?_, rfl⟩
    rw [e2]
    exact eq_self dk (by decide)
end K37

namespace K37
open PySem PySem.Spec PyProof.Rows L2 Dw
variable [Tabs0]
/-! calls of closures, all heard -/
section
variable {P : Program} {w : World} {K : PySem.W.Frag} {mg : Str → Option Value} {base : Heap} {B : Addr} {e : Es}
def FnAll (X : Cx) : List D → List (Act P w K mg base) → Prop
  | [], [] => True
  | f :: fs, a :: as => f = .fnv a.l.L (a.l.ns.map fun y => (y, adX X y)) ∧ FnAll X fs as
  | _, _ => False
theorem fnAll_eq {X : Cx} : ∀ {fs : List D} {as : List (Act P w K mg base)}, FnAll X fs as → fs = (as.map fun a => (a.l.L, a.l.ns, a.ds)).map (fnvD X)
  | [], [], _ => rfl
  | f :: fs, a :: as, h => by
    rw [h.1, fnAll_eq h.2]; rfl
  | [], _ :: _, h => (show False from h).elim
  | _ :: _, [], h => (show False from h).elim
theorem fnv_eq {X : Cx} {a : Act P w K mg base} {cl : List (Str × Addr)} {ns : List Str} (h : cl = ns.map fun y => (y, adX X y)) (hn : a.l.ns = ns) : D.fnv a.l.L cl = .fnv a.l.L (a.l.ns.map fun y => (y, adX X y)) := by rw [hn, h]
structure ActOk (B : Addr) (e : Es) (cd : List (Nat × Str × D)) (out : List Str) (a : Act P w K mg base) : Prop where
  nd : a.l.ns.Nodup
  cap : CapL cd a.l.ns a.ds
  ok : okCs a.ds = true
  np : noPs a.ds = true
  heard : HeardIs B e a out
theorem act_ok {cd : List (Nat × Str × D)} {out : List Str} {a : Act P w K mg base} {ns : List Str} (hn : a.l.ns = ns) (nd : ns.Nodup) (cap : CapL cd ns a.ds) (ok : okCs a.ds = true) (np : noPs a.ds = true) (h : HeardIs B e a out) : ActOk B e cd out a := ⟨by rw [hn]; exact nd, by rw [hn]; exact cap, ok, np, h⟩
theorem heard_err {a : Act P w K mg base} {t' : XK → TE} (q : ∀ E, a.l.t E = t' E) {C0 : Addr} {w0 f0 : Str} (hc : (C0, w0, f0) ∈ ([(e.bk, "book", "given"), (e.rw, "signs", "given"), (e.nm, "number", "given"), (e.mn, "many", "number")] : List (Addr × Str × Str))) {d : D} {z : Str} (t : Thg K B d z) (h : ∀ E : XK, ErT (t' E) (a.ds.map Sl.val) ⟨C0, [(f0, d)]⟩ fun ed H' => E (.ref C0) ed H') : HeardIs B e a [w0, z] :=
  .err C0 w0 f0 hc d z (fun E => by rw [q E]; exact h E) t.rp t.ok
theorem heard_none {a : Act P w K mg base} {t' : XK → TE} (q : ∀ E, a.l.t E = t' E) (h : ∀ E : XK, ErT (t' E) (a.ds.map Sl.val) ⟨e.no, []⟩ fun ed H' => E (.ref e.no) ed H') : HeardIs B e a ["none"] := .none fun E => by rw [q E]; exact h E
theorem heard_told {a : Act P w K mg base} {t' : XK → TE} (q : ∀ E, a.l.t E = t' E) (h : ∀ E, Dl (t' E) (a.ds.map fun d => Sl.val (.tag d)) fun _ _ => True) : HeardIs B e a ["told"] := .told fun E => by rw [q E]; exact h E
theorem dl_all {X : Cx} {Γ : Gam} {E : XK} {t : TA} {Q : D → Gam → Prop} (h : DlA t Γ fun ds Γ1 => ∃ (cd : List (Nat × Str × D)) (fs : List D) (acts : List (Act P w K mg base)) (out : List Str), ds = [.lst fs, .lst (out.map D.str)] ∧ FnAll X fs acts ∧ CapD X Γ1 cd ∧ (∀ a ∈ acts, ActOk B e cd out a) ∧ acts.length ≤ 100 ∧ (∀ z ∈ out, PyData.strOk z = true) ∧ Γ1[0]? = some (.val .purse) ∧ Q (.bl true) Γ1) : Dl (tCallC X (toSp (spAllH P w K mg base B e)) E t) Γ Q :=
  dl_callT (s := spAllH P w K mg base B e) fun F σ W R g k => h F σ W R g fun vs W1 ds Γ1 st g1 r ⟨cd, fs, acts, out, e1, hf, hcd, ha, hl, ho, hp, q⟩ => k vs W1 ds Γ1 st g1 r ⟨cd, acts.map fun a => (a.l.L, a.l.ns, a.ds), .lst (out.map D.str), (acts, out), true, 0, _, hp, TgS.purse, by rw [e1, fnAll_eq hf], hcd, fun q hq => by
    obtain ⟨a, ham, rfl⟩ := List.mem_map.mp hq
    exact ⟨(ha a ham).nd, (ha a ham).cap⟩, by
      show [D.tag (.lst (acts.map fun a => D.clo a.l.L a.l.ns a.ds)), D.lst (out.map D.str)] = _
      rw [List.map_map]; rfl, by
      rw [List.map_map]
      have : ∀ l : List (Act P w K mg base), (∀ a ∈ l, noPs a.ds = true) → noPs (l.map (cloD ∘ fun a => (a.l.L, a.l.ns, a.ds))) = true := fun l => by
        induction l with
        | nil => exact fun _ => rfl
        | cons a l ih =>
          intro h
          show (noPs a.ds && noPs (l.map (cloD ∘ fun a => (a.l.L, a.l.ns, a.ds)))) = true
          rw [h a List.mem_cons_self, ih fun b hb => h b (List.mem_cons_of_mem _ hb)]; rfl
      exact this acts fun a ha' => (ha a ha').np, by
      show noPs (out.map D.str) = true
      exact noPs_map (f := fun z => D.str z) (fun _ => rfl) out, ⟨hl, fun a ham => ⟨(ha a ham).ok, (ha a ham).np, (ha a ham).heard⟩, ho⟩, fun d' h => h, q⟩
end
theorem kg1 {a : D} : ∀ (W : Wd) (vs zs : List V), RepL W [] vs → RepL W [a] zs → RepL W [a] ((fun us ws => match us, ws with | [], [k0] => [k0] | _, _ => [] : List V → List V → List V) vs zs) := fun W vs zs e ⟨x, _, ez, rx, eb⟩ => by
  rw [show vs = [] from e, ez, show _ = [] from eb]
  exact ⟨x, _, rfl, rx, rfl⟩
theorem kg2 {a b : D} : ∀ (W : Wd) (vs zs : List V), RepL W [] vs → RepL W [a, b] zs → RepL W [b, a] ((fun us ws => match us, ws with | [], [k0, k1] => [k1, k0] | _, _ => [] : List V → List V → List V) vs zs) := fun W vs zs e ⟨x, _, ez, rx, y, _, ey, ry, eb⟩ => by
  rw [show vs = [] from e, ez, ey, show _ = [] from eb]
  exact ⟨y, _, rfl, ry, x, _, rfl, rx, rfl⟩
theorem kg3 {a b c : D} : ∀ (W : Wd) (vs zs : List V), RepL W [] vs → RepL W [a, b, c] zs → RepL W [c, b, a] ((fun us ws => match us, ws with | [], [k0, k1, k2] => [k2, k1, k0] | _, _ => [] : List V → List V → List V) vs zs) := fun W vs zs e ⟨x, _, ez, rx, y, _, ey, ry, u, _, eu, ru, eb⟩ => by
  rw [show vs = [] from e, ez, ey, eu, show _ = [] from eb]
  exact ⟨u, _, rfl, ru, y, _, rfl, ry, x, _, rfl, rx, rfl⟩
end K37

namespace K37
open PySem PySem.Spec PyProof.Rows L2 Dw
variable [Tabs0]
/-! things that are no books, rows, numbers -/
def tot (ws : List (List Nat)) : Nat := (ws.map fun w => w.length + 1).sum
theorem join_tot {sep : List Nat} (hs : sep.length ≤ 2) : ∀ ws : List (List Nat), (TL.joinL sep ws).length ≤ 2 * tot ws
  | [] => Nat.zero_le _
  | [p] => by
    show p.length ≤ 2 * (p.length + 1 + 0)
    omega
  | p :: q :: r => by
    have ih := join_tot hs (q :: r)
    show (p ++ (sep ++ TL.joinL sep (q :: r))).length ≤ 2 * (p.length + 1 + tot (q :: r))
    rw [List.length_append, List.length_append]
    omega
theorem join_mem {sep : List Nat} {c : Nat} : ∀ ws : List (List Nat), c ∈ TL.joinL sep ws → c ∈ sep ∨ ∃ w ∈ ws, c ∈ w
  | [], h => absurd h (by simp [TL.joinL])
  | [p], h => .inr ⟨p, List.mem_cons_self, h⟩
  | p :: q :: r, h => by
    have h : c ∈ p ++ (sep ++ TL.joinL sep (q :: r)) := h
    rcases List.mem_append.mp h with h | h
    · exact .inr ⟨p, List.mem_cons_self, h⟩
    · rcases List.mem_append.mp h with h | h
      · exact .inl h
      · rcases join_mem (q :: r) h with h | ⟨w, hw, h⟩
        · exact .inl h
        · exact .inr ⟨w, List.mem_cons_of_mem _ hw, h⟩
theorem tot_le {ws : List (List Nat)} {m : Nat} (h : ∀ w ∈ ws, w.length ≤ m) : tot ws ≤ ws.length * (m + 1) := by
  induction ws with
  | nil => exact Nat.zero_le _
  | cons a r ih =>
    have h1 := h a List.mem_cons_self
    have h2 := ih fun w hw => h w (List.mem_cons_of_mem _ hw)
    show a.length + 1 + tot r ≤ (r.length + 1) * (m + 1)
    rw [Nat.succ_mul]; omega
theorem book_pg {ls rs : List (List Nat)} (hb : BookOk ls rs) : PgOk (bookTx ls rs) 600 := by
  have n8 := hb.names.hi
  have t1 : tot ls ≤ 8 * 9 := Nat.le_trans (tot_le (m := 8) fun w hw => (hb.names.all w hw).hi) (Nat.mul_le_mul_right _ n8)
  have t2 : tot rs ≤ 20 * 9 := Nat.le_trans (tot_le (m := 8) fun w hw => by rw [(hb.rows w hw).len]; exact n8) (Nat.mul_le_mul_right _ hb.few)
  have j1 := join_tot (sep := [32]) (by decide) ls
  have j2 := join_tot (sep := [32]) (by decide) ([] :: rs)
  have t3 : tot ([] :: rs) = 1 + tot rs := by show 0 + 1 + tot rs = _; omega
  refine ⟨?_, fun c hc => ?_⟩
  · rw [bookTx_eq, List.length_append, List.length_append]
    show _ + (1 + _) ≤ 600
    omega
  · rw [bookTx_eq] at hc
    have h32 : ∀ z ∈ ([32] : List Nat), z < 128 := by decide
    rcases List.mem_append.mp hc with hc | hc
    · rcases join_mem _ hc with hc | ⟨w, hw, hc⟩
      · exact h32 c hc
      · have := (hb.names.all w hw).all c hc; omega
    · rcases List.mem_append.mp hc with hc | hc
      · rw [List.mem_singleton.mp hc]; decide
      · rcases join_mem _ hc with hc | ⟨w, hw, hc⟩
        · exact h32 c hc
        · rcases List.mem_cons.mp hw with rfl | hw
          · cases hc
          · have := (hb.rows w hw).all c hc
            unfold isSign at this
            omega
instance pvDec (d : D) : Decidable (Pv d) := by unfold Pv; infer_instance
def goodL (n : Nat) : List Nat := 43 :: 45 :: List.replicate (n - 2) 46
theorem good_ok {n : Nat} (h : 2 ≤ n) : RowOk (goodL n) n := ⟨by unfold goodL; rw [List.length_cons, List.length_cons, List.length_replicate]; omega, fun c hc => by
  unfold goodL at hc
  rcases List.mem_cons.mp hc with rfl | hc
  · exact .inl rfl
  · rcases List.mem_cons.mp hc with rfl | hc
    · exact .inr (.inl rfl)
    · rw [List.eq_of_mem_replicate hc]; exact .inr (.inr rfl)⟩
theorem good_tx (n : Nat) : Str.ofString "+-" ++ tx (dotsN (n - 2)) = tx (goodL n) := by
  rw [show Str.ofString "+-" = tx [43, 45] from by decide +kernel, tx_append]; rfl
theorem mul_xs : ∀ n < 9, Txt.mul (Str.ofString "x") (n : Nat) = tx (List.replicate n 120) := by decide +kernel
theorem mul_xo : ∀ n < 9, MulOk (Str.ofString "x") (n : Nat) := by
  intro n hn
  unfold MulOk
  rcases n with _ | _ | _ | _ | _ | _ | _ | _ | _ | n <;> first | decide | omega
theorem elt_row {k n : Nat} {r : List Nat} (h : RowOk r n) (h8 : n ≤ 8) : Elt k 202 (.str (tx r)) := elt_str (m := 20) ⟨by rw [h.len]; omega, fun c hc => by
  rcases h.all c hc with z | z | z <;> rw [z] <;> decide⟩ (by decide)
def ThB (K : PySem.W.Frag) (B : Addr) (d : D) : Prop := OdX d ∧ ∃ z, Thg K B d z
theorem thb_dat {K : PySem.W.Frag} {B : Addr} {k m : Nat} {d : D} (h : Elt k m d) (hk : k ≤ 64) (hm : m ≤ 100000) (h1 : hasTy d = true) : ThB K B d := ⟨⟨h1, (dOk_ok k d h.ok).2⟩, _, thg_elt h hk hm⟩
def bkThings (B : Addr) (L R : List (List Nat)) : List D := [.non, .str (tx (bookTx L R)), .lst (nameD R), .tup [bookD B L R], .int 0, .dct [] [], .bl true, .lst (nameD L)]
theorem bk_things {K : PySem.W.Frag} {B : Addr} {L R : List (List Nat)} (hb : BookOk L R) : ∀ d ∈ bkThings B L R, ThB K B d := by
  have n8 := hb.names.hi
  have h20 := hb.few
  have en : ∀ d ∈ nameD L, Elt 1 202 d := fun d hd => by
    obtain ⟨l, hl, rfl⟩ := List.mem_map.mp hd
    have n0 := hb.names.all l hl
    exact elt_str (m := 20) ⟨by have := n0.hi; omega, fun c hc => by have := n0.all c hc; omega⟩ (by decide)
  have er : ∀ d ∈ nameD R, Elt 1 202 d := fun d hd => by
    obtain ⟨l, hl, rfl⟩ := List.mem_map.mp hd
    exact elt_row (hb.rows l hl) n8
  intro d hd
  unfold bkThings at hd
  simp only [List.mem_cons, List.not_mem_nil, or_false] at hd
  rcases hd with rfl | rfl | rfl | rfl | rfl | rfl | rfl | rfl
  · exact thb_dat (elt_non (k := 2) (m := 10) (by decide)) (by decide) (by decide) rfl
  · exact thb_dat (elt_str (k := 2) (n := 7000) (book_pg hb) (by decide)) (by decide) (by decide) rfl
  · exact thb_dat (elt_lst (n := 10000) er (by rw [nameD_len]; omega)) (by decide) (by decide) rfl
  · exact ⟨⟨rfl, np_book _ _ _⟩, _, thg_tbook n8⟩
  · exact thb_dat (elt_nat (k := 2) (m := 10) (n := 0) (by decide) (by decide)) (by decide) (by decide) rfl
  · exact ⟨⟨rfl, rfl⟩, _, thg_dct⟩
  · exact thb_dat (elt_bl (k := 2) (m := 10) true (by decide)) (by decide) (by decide) rfl
  · exact thb_dat (elt_lst (n := 10000) en (by rw [nameD_len]; omega)) (by decide) (by decide) rfl
def ThR (K : PySem.W.Frag) (B : Addr) (n : Nat) (d : D) : Prop := BadRow B n d ∧ ∃ z, Thg K B d z
theorem row_no {l : List Nat} {n : Nat} (h : ¬ RowOk l n) : rowB (.str (tx l)) n = false := by
  cases q : rowB (.str (tx l)) n with
  | false => rfl
  | true =>
    obtain ⟨l', e, h', _⟩ := rowB_iff.mp q
    injection e with e
    rw [tx_eq.mp e] at h
    exact absurd h' h
theorem pv_strX {l : List Nat} (h : ∀ c ∈ l, c < 128) (hl : l.length ≤ 100) : Pv (.str (tx l)) := by
  show (PyData.strOk (tx l) && decide ((tx l).length ≤ 100000)) = true
  rw [show PyData.strOk (tx l) = true from okS_tx fun c hc => by have := h c hc; omega, decide_eq_true (by rw [tx_len]; omega)]; rfl
theorem thr_str {K : PySem.W.Frag} {B : Addr} {n : Nat} {l : List Nat} (h : ∀ c ∈ l, c < 128) (hl : l.length ≤ 20) (hr : ¬ RowOk l n) : ThR K B n (.str (tx l)) :=
  ⟨⟨.inl (pv_strX h (by omega)), row_no hr⟩, _, thg_elt (k := 2) (m := 202) (elt_str (m := 20) ⟨hl, h⟩ (by decide)) (by decide) (by decide)⟩
def rwThings (B : Addr) (L R : List (List Nat)) (n : Nat) : List D := [.non, .str (tx []), .str (tx (goodL n ++ [46])), .str (tx ((goodL n).drop 1)), .str (tx (List.replicate n 120)), .tup [.str (tx (goodL n))], .lst [.str (tx (goodL n))], .int 0, .dct [] [], bookD B L R]
theorem rw_things {K : PySem.W.Frag} {B : Addr} {L R : List (List Nat)} {n : Nat} (hb : BookOk L R) (h2 : 2 ≤ n) (h8 : n ≤ 8) : ∀ d ∈ rwThings B L R n, ThR K B n d := by
  have g := good_ok h2
  have gc : ∀ c ∈ goodL n, c < 128 := fun c hc => by rcases g.all c hc with z | z | z <;> rw [z] <;> decide
  have eg : ∀ d ∈ [D.str (tx (goodL n))], Elt 1 202 d := fun d hd => by rw [List.mem_singleton.mp hd]; exact elt_row g h8
  have pg : plBs 11 [D.str (tx (goodL n))] = true := by
    rw [plBs_iff]
    intro d hd
    rw [List.mem_singleton.mp hd]
    have := pv_strX gc (by rw [g.len]; omega)
    exact this
  intro d hd
  unfold rwThings at hd
  simp only [List.mem_cons, List.not_mem_nil, or_false] at hd
  rcases hd with rfl | rfl | rfl | rfl | rfl | rfl | rfl | rfl | rfl | rfl
  · exact ⟨⟨.inl rfl, rfl⟩, _, thg_elt (elt_non (k := 2) (m := 10) (by decide)) (by decide) (by decide)⟩
  · exact thr_str (fun c hc => absurd hc (by simp)) (by decide) fun h => by have := h.len; simp at this; omega
  · exact thr_str (fun c hc => by
      rcases List.mem_append.mp hc with hc | hc
      · exact gc c hc
      · rw [List.mem_singleton.mp hc]; decide) (by rw [List.length_append, g.len]; show n + 1 ≤ 20; omega) fun h => by have := h.len; rw [List.length_append, g.len] at this; simp at this
  · exact thr_str (fun c hc => gc c (List.mem_of_mem_drop hc)) (by rw [List.length_drop, g.len]; omega) fun h => by have := h.len; rw [List.length_drop, g.len] at this; omega
  · exact thr_str (fun c hc => by rw [List.eq_of_mem_replicate hc]; decide) (by rw [List.length_replicate]; omega) fun h => by
      have := h.all 120 (List.mem_replicate.mpr ⟨by omega, rfl⟩)
      rcases this with z | z | z <;> cases z
  · exact ⟨⟨.inl (by show (decide (1 ≤ 60) && plBs 11 _) = true; rw [pg]; rfl), rfl⟩, _, thg_elt (elt_tup (n := 1000) eg (show (202 + 2) * 1 + 4 ≤ 1000 by decide)) (by decide) (by decide)⟩
  · exact ⟨⟨.inl (by show (decide (1 ≤ 60) && plBs 11 _) = true; rw [pg]; rfl), rfl⟩, _, thg_elt (elt_lst (n := 1000) eg (show (202 + 2) * 1 + 4 ≤ 1000 by decide)) (by decide) (by decide)⟩
  · exact ⟨⟨.inl rfl, rfl⟩, _, thg_elt (elt_nat (k := 2) (m := 10) (n := 0) (by decide) (by decide)) (by decide) (by decide)⟩
  · exact ⟨⟨.inl (by show plB 12 _ = true; decide +kernel), rfl⟩, _, thg_dct⟩
  · exact ⟨⟨.inr ⟨_, _, rfl, np_bookD _ _ _⟩, rfl⟩, _, thg_book hb.names.hi⟩
def ThM (K : PySem.W.Frag) (B : Addr) (d : D) : Prop := BadNum d ∧ ∃ z, Thg K B d z
def nmThings : List D := [.non, .int (-1), .int 21, .bl true, .bl false, .str "1", .tup [.int 1], .lst [], .dct [] [], .int ((10 : Int) ^ (30 : Int).toNat)]
theorem nm_things {K : PySem.W.Frag} {B : Addr} : ∀ d ∈ nmThings, ThM K B d := by
  intro d hd
  unfold nmThings at hd
  simp only [List.mem_cons, List.not_mem_nil, or_false] at hd
  have e1 : ∀ d ∈ [D.int 1], Elt 1 10 d := fun d hd => by rw [List.mem_singleton.mp hd]; exact elt_nat (n := 1) (by decide) (by decide)
  rcases hd with rfl | rfl | rfl | rfl | rfl | rfl | rfl | rfl | rfl | rfl
  · exact ⟨⟨rfl, rfl⟩, _, thg_elt (elt_non (k := 2) (m := 10) (by decide)) (by decide) (by decide)⟩
  · exact ⟨⟨rfl, rfl⟩, _, thg_elt (elt_m1 (k := 2) (m := 10) (by decide)) (by decide) (by decide)⟩
  · exact ⟨⟨rfl, by decide +kernel⟩, _, thg_elt (elt_nat (k := 2) (m := 10) (n := 21) (by decide) (by decide)) (by decide) (by decide)⟩
  · exact ⟨⟨rfl, rfl⟩, _, thg_elt (elt_bl (k := 2) (m := 10) true (by decide)) (by decide) (by decide)⟩
  · exact ⟨⟨rfl, rfl⟩, _, thg_elt (elt_bl (k := 2) (m := 10) false (by decide)) (by decide) (by decide)⟩
  · exact ⟨⟨by show plB 12 _ = true; decide +kernel, rfl⟩, _, thg_elt (elt_c (k := 2) (n := 202) (s := "1") (by decide +kernel) (by decide +kernel) (by decide)) (by decide) (by decide)⟩
  · exact ⟨⟨by show plB 12 _ = true; decide +kernel, rfl⟩, _, thg_elt (elt_tup (n := 100) e1 (by decide)) (by decide) (by decide)⟩
  · exact ⟨⟨by show plB 12 _ = true; decide +kernel, rfl⟩, _, thg_elt (elt_lst (k := 1) (m := 10) (n := 100) (ds := []) (fun d hd => absurd hd (by simp)) (by decide)) (by decide) (by decide)⟩
  · exact ⟨⟨by show plB 12 _ = true; decide +kernel, rfl⟩, _, thg_dct⟩
  · exact ⟨⟨rfl, by decide +kernel⟩, _, thg_elt (k := 2) (m := 100) ⟨by decide +kernel, by decide +kernel, by decide +kernel, by decide +kernel⟩ (by decide) (by decide)⟩
/-! ### a book of a row and its opposite -/
def badR (n : Nat) : List (List Nat) := [goodL n, flipped (goodL n)]
theorem bad_wr {n : Nat} (h2 : 2 ≤ n) {o : List Nat} (ho : o.Perm (List.range n)) : wrongN (badR n) o = 1 := by
  have f := flip_at (good_ok h2) (by unfold goodL; simp) ho
  unfold wrongN badR
  cases q : holdsB (goodL n) o with
  | true => rw [List.filter_cons_of_neg (by rw [q]; decide), List.filter_cons_of_pos (by rw [f, q]; decide)]; rfl
  | false => rw [List.filter_cons_of_pos (by rw [q]; decide), List.filter_cons_of_neg (by rw [f, q]; decide)]; rfl
theorem bad_rows {n : Nat} (h2 : 2 ≤ n) : ∀ r ∈ badR n, RowOk r n := fun r hr => by
  rcases List.mem_cons.mp hr with rfl | hr
  · exact good_ok h2
  · rw [List.mem_singleton.mp hr]; exact flipped_ok (good_ok h2)
theorem bad_0 {n : Nat} (h2 : 2 ≤ n) : ¬ fewN (badR n) n ≤ 0 := fun h => by
  obtain ⟨o, ho, hw⟩ := (few_iff (bad_rows h2)).mp h
  rw [bad_wr h2 ho] at hw; omega
theorem bad_1 {n : Nat} (h2 : 2 ≤ n) : fewN (badR n) n ≤ 1 := (few_iff (bad_rows h2)).mpr ⟨List.range n, List.Perm.refl _, by rw [bad_wr h2 (List.Perm.refl _)]; omega⟩
theorem few_all {rs : List (List Nat)} {n m : Nat} (hr : ∀ r ∈ rs, RowOk r n) (h : rs.length ≤ m) : fewN rs n ≤ m := (few_iff hr).mpr ⟨List.range n, List.Perm.refl _, by
  unfold wrongN
  exact Nat.le_trans (List.length_filter_le _ _) h⟩
end K37

namespace K37
open PySem PySem.Spec PyProof.Rows L2 Dw
variable [Tabs0]
theorem mulS_gx {s : Str} {n : Int} (h1 : MulOk s n) : DR2 rMulS (.str s) (.int n) (.str (Txt.mul s n)) := dr2_flat fun W u v Q a b k => ⟨_, _, a, b, h1, k _ rfl⟩
end K37

namespace K37
open PySem PySem.Spec PyProof.Rows L2 Dw
variable [Tabs0]
theorem d__law_right {P : Program} {w : World} {K : PySem.W.Frag} {mg : Str → Option Value} {base : Heap} (T : Txt K w mg) (TB__law_right : LamX.TabB base mg T.lc__law_right T.lt__law_right) (TB_all_lots : LamX.TabB base mg T.lc_all_lots T.lt_all_lots) : FnG P w K mg base 18 T.f__law_right T.e__law_right ["_law_jar"] (spRightJ) := by
  refine fnGC_ok T.FC__law_right sc__law_right (fun _ => rfl) fun A outer s' H E hr hG => ?_
  refine ⟨_, (pss_cons (ps_set (i := 8) sc__law_right.nd rfl (Or.inr rfl) (pe_op (plusE K) pe_int (pe_call (d__law_dip T) (hr.mono (by decide)) (by rfl) T.m__law_dip T.F__law_dip.kp T.b__law_dip .nil pass0 (pa_cons (pv 0) (pa_cons pe_int pa_nil))))) (pss_cons (ps_asg (pe_tup (pa_cons (pe_call (d__law_tags T) (hr.mono (by decide)) (by rfl) T.m__law_tags T.F__law_tags.kp T.b__law_tags .nil pass0 (pa_cons (pv 0) (pa_cons (pv 8) pa_nil))) (pa_cons (pe_call (d__law_any_rows T) (hr.mono (by decide)) (by rfl) T.m__law_any_rows T.F__law_any_rows.kp T.b__law_any_rows .nil pass0 (pa_cons (pv 0) (pa_cons (pv 8) (pa_cons pe_int pa_nil)))) (pa_cons (pe_op (plusE K) pe_str (pe_op op_mulS pe_str (pe_op op_sub (pv 8) pe_int))) pa_nil)))) (tupA K 3 rfl (pgs_cons (pg_name (i := 1) sc__law_right.nd rfl (Or.inl rfl)) (pgs_cons (pg_name (i := 2) sc__law_right.nd rfl (Or.inl rfl)) (pgs_cons (pg_name (i := 7) sc__law_right.nd rfl (Or.inr rfl)) pgs_nil))))) (pss_cons (ps_asg (pe_tup (pa_cons (pe_make T.mk_Book (d_Book___init__ T) (hr.mono (by decide)) (by rfl) T.m_Book T.b_Book___init__ .nil pass0 (pa_cons (pe_call (d__law_book_page T) (hr.mono (by decide)) (by rfl) T.m__law_book_page T.F__law_book_page.kp T.b__law_book_page .nil pass0 (pa_cons (pv 1) (pa_cons (pv 2) pa_nil))) pa_nil)) (pa_cons (pe_op (plusE K) pe_int (pe_call (d__law_dip T) (hr.mono (by decide)) (by rfl) T.m__law_dip T.F__law_dip.kp T.b__law_dip .nil pass0 (pa_cons (pv 0) (pa_cons pe_int pa_nil)))) pa_nil))) (tupA K 2 rfl (pgs_cons (pg_name (i := 6) sc__law_right.nd rfl (Or.inr rfl)) (pgs_cons (pg_name (i := 3) sc__law_right.nd rfl (Or.inl rfl)) pgs_nil)))) (pss_cons (ps_set (i := 10) sc__law_right.nd rfl (Or.inr rfl) (pe_make T.mk_Book (d_Book___init__ T) (hr.mono (by decide)) (by rfl) T.m_Book T.b_Book___init__ .nil pass0 (pa_cons (pe_call (d__law_book_page T) (hr.mono (by decide)) (by rfl) T.m__law_book_page T.F__law_book_page.kp T.b__law_book_page .nil pass0 (pa_cons (pv 1) (pa_cons (pe_lc (own := [("_law_k", 11)]) rfl sc__law_right.nd (pi_range1 (by rfl) T.n_range (pa_cons (pv 3) pa_nil)) (blkOk_by (own := [("_law_k", 11)]) (N := N__law_right) (sc := (defScope s__law_right)) (by decide +kernel)) (fun _ _ _ _ _ => pg_name (i := 11) sc__law_right.nd rfl (Or.inl rfl)) (fun _ _ _ _ _ => pts_nil) (fun _ _ _ _ _ => (pe_call (d__law_row T) (hr.mono (by decide)) (by rfl) T.m__law_row T.F__law_row.kp T.b__law_row .nil pass0 (pa_cons (pv 0) (pa_cons (pv 8) pa_nil))))) pa_nil))) pa_nil))) (pss_cons (ps_set (i := 5) sc__law_right.nd rfl (Or.inr rfl) (pe_make T.mk_Book (d_Book___init__ T) (hr.mono (by decide)) (by rfl) T.m_Book T.b_Book___init__ .nil pass0 (pa_cons (pe_call (d__law_book_page T) (hr.mono (by decide)) (by rfl) T.m__law_book_page T.F__law_book_page.kp T.b__law_book_page .nil pass0 (pa_cons (pv 1) (pa_cons (pe_lst (pa_cons (pv 7) (pa_cons (pe_call (d__law_turned T) (hr.mono (by decide)) (by rfl) T.m__law_turned T.F__law_turned.kp T.b__law_turned .nil pass0 (pa_cons (pv 7) pa_nil)) pa_nil))) pa_nil))) pa_nil))) (pss_cons (ps_for PassesOwn.never rfl (piR K (pe_lst (pa_cons pe_non (pa_cons (pe_callTy (cr_strOwn (d_Book___str__ T) (hr.mono (by decide)) T.os_Book T.is_Book T.b_Book___str__) (by rfl) T.n_str (by decide +kernel) (pa_cons (pv 6) pa_nil)) (pa_cons (pv 2) (pa_cons (pe_tup (pa_cons (pv 6) pa_nil)) (pa_cons pe_int (pa_cons pe_dnewK (pa_cons pe_bl (pa_cons (pv 1) pa_nil)))))))))) (pg_name (i := 9) sc__law_right.nd rfl (Or.inr rfl)) (pss_cons (ps_set (i := 4) sc__law_right.nd rfl (Or.inl rfl) (pe_lst (pa_cons (pe_lamP (X := (cxOf CX0 P w K mg base N__law_right "_law_right" (defScope s__law_right) T.f__law_right (.ref T.lc__law_right) A outer s' H E).nox) (P := P) (w := w) (K := K) (mg := mg) (base := base) (T := T.tts) (c := T.lc__law_right) (Pt := T.lt__law_right) (k := 14) (ns := ["_law_thing"]) TB__law_right rfl T.hm__law_right (T.tabs.uniq T.hm__law_right) (show LamX.LamS (defScope s__law_right) _ from LamX.lamS_by (by decide +kernel)) rfl (cloS_by (by decide +kernel)) (fun _ _ _ _ _ => rfl) (fun cl A1 outer1 s1 H1 E f1 c1 hr => (pe_call (E := E) (d_struck T TB_all_lots) (hr.mono (by decide)) (by rfl) T.m_struck T.F_struck.kp T.b_struck .nil (passes_call (takes_of rfl rfl rfl rfl) fun _ _ _ _ h => h) (pa_cons (pv 0) pa_nil)))) pa_nil))) (pss_cons (ps_expr (bmA K PySem.F.plainAttrs_list PySem.F.slot_list_append PySem.F.type_list_append mt_append (pv 4) (pa_cons (pe_lamP (X := (cxOf CX0 P w K mg base N__law_right "_law_right" (defScope s__law_right) T.f__law_right (.ref T.lc__law_right) A outer s' H E).nox) (P := P) (w := w) (K := K) (mg := mg) (base := base) (T := T.tts) (c := T.lc__law_right) (Pt := T.lt__law_right) (k := 14) (ns := ["_law_thing"]) TB__law_right rfl T.hm__law_right (T.tabs.uniq T.hm__law_right) (show LamX.LamS (defScope s__law_right) _ from LamX.lamS_by (by decide +kernel)) rfl (cloS_by (by decide +kernel)) (fun _ _ _ _ _ => rfl) (fun cl A1 outer1 s1 H1 E f1 c1 hr => (pe_callK0 (E := E) (d_fewest_wrong T) (hr.mono (by decide)) (by rfl) T.m_fewest_wrong T.F_fewest_wrong.kp T.k_fewest_wrong_book (passes_call (takes_of rfl rfl rfl rfl) fun _ _ _ _ h => h) (pk_cons (pv 0) pk_nil)))) pa_nil))) (pss_cons (ps_expr (bmA K PySem.F.plainAttrs_list PySem.F.slot_list_append PySem.F.type_list_append mt_append (pv 4) (pa_cons (pe_lamP (X := (cxOf CX0 P w K mg base N__law_right "_law_right" (defScope s__law_right) T.f__law_right (.ref T.lc__law_right) A outer s' H E).nox) (P := P) (w := w) (K := K) (mg := mg) (base := base) (T := T.tts) (c := T.lc__law_right) (Pt := T.lt__law_right) (k := 14) (ns := ["_law_thing"]) TB__law_right rfl T.hm__law_right (T.tabs.uniq T.hm__law_right) (show LamX.LamS (defScope s__law_right) _ from LamX.lamS_by (by decide +kernel)) rfl (cloS_by (by decide +kernel)) (fun _ _ _ _ _ => rfl) (fun cl A1 outer1 s1 H1 E f1 c1 hr => (pe_call (E := E) (d_surely_wrong T) (hr.mono (by decide)) (by rfl) T.m_surely_wrong T.F_surely_wrong.kp T.b_surely_wrong .nil (passes_call (takes_of rfl rfl rfl rfl) fun _ _ _ _ h => h) (pa_cons (pv 0) (pa_cons pe_non pa_nil))))) pa_nil))) (pss_cons (ps_expr (bmA K PySem.F.plainAttrs_list PySem.F.slot_list_append PySem.F.type_list_append mt_append (pv 4) (pa_cons (pe_lamP (X := (cxOf CX0 P w K mg base N__law_right "_law_right" (defScope s__law_right) T.f__law_right (.ref T.lc__law_right) A outer s' H E).nox) (P := P) (w := w) (K := K) (mg := mg) (base := base) (T := T.tts) (c := T.lc__law_right) (Pt := T.lt__law_right) (k := 14) (ns := ["_law_thing"]) TB__law_right rfl T.hm__law_right (T.tabs.uniq T.hm__law_right) (show LamX.LamS (defScope s__law_right) _ from LamX.lamS_by (by decide +kernel)) rfl (cloS_by (by decide +kernel)) (fun _ _ _ _ _ => rfl) (fun cl A1 outer1 s1 H1 E f1 c1 hr => (pe_callK0 (E := E) (d_follows_with T) (hr.mono (by decide)) (by rfl) T.m_follows_with T.F_follows_with.kp T.k_follows_with_most_row_book (passes_call (takes_of rfl rfl rfl rfl) fun _ _ _ _ h => h) (pk_cons pe_non (pk_cons pe_non (pk_cons (pv 0) pk_nil)))))) pa_nil))) (pss_one (ps_if (pt_not (truA K (pe_callGC (E := E0) (d__law_all_heard T) (hr.mono (by decide)) hG (fun _ _ => rfl) (by rfl) T.m__law_all_heard T.F__law_all_heard.kp T.b__law_all_heard (pa_cons (pv 4) (pa_cons (pe_lst (pa_cons pe_str (pa_cons (pe_callB (L2.CallR.or (reprY K hr hG) (rep1A K (d_Book___repr__ T) (hr.mono (by decide)) hG T.or_Book T.ir_Book T.b_Book___repr__)) (by rfl) T.n_repr (by decide +kernel) (pa_cons (pv 9) pa_nil)) pa_nil))) pa_nil))))) (pss_one (ps_ret pe_bl)) pss_nil))))))) (pss_cons (ps_for PassesOwn.never rfl (piR K (pe_lst (pa_cons pe_non (pa_cons pe_str (pa_cons (pe_op (plusE K) (pv 7) pe_str) (pa_cons (pe_slice sl_str (pv 7) (po_some pe_int) po_none) (pa_cons (pe_op op_mulS pe_str (pv 8)) (pa_cons (pe_tup (pa_cons (pv 7) pa_nil)) (pa_cons (pe_lst (pa_cons (pv 7) pa_nil)) (pa_cons pe_int (pa_cons pe_dnewK (pa_cons (pv 6) pa_nil)))))))))))) (pg_name (i := 9) sc__law_right.nd rfl (Or.inr rfl)) (pss_cons (ps_set (i := 4) sc__law_right.nd rfl (Or.inl rfl) (pe_lst (pa_cons (pe_lamP (X := (cxOf CX0 P w K mg base N__law_right "_law_right" (defScope s__law_right) T.f__law_right (.ref T.lc__law_right) A outer s' H E).nox) (P := P) (w := w) (K := K) (mg := mg) (base := base) (T := T.tts) (c := T.lc__law_right) (Pt := T.lt__law_right) (k := 14) (ns := ["_law_thing", "_law_base"]) TB__law_right rfl T.hm__law_right (T.tabs.uniq T.hm__law_right) (show LamX.LamS (defScope s__law_right) _ from LamX.lamS_by (by decide +kernel)) rfl (cloS_by (by decide +kernel)) (fun _ _ _ _ _ => rfl) (fun cl A1 outer1 s1 H1 E f1 c1 hr => (pe_call (E := E) (d_follows_with T) (hr.mono (by decide)) (by rfl) T.m_follows_with T.F_follows_with.kp T.b_follows_with .nil (passes_call (takes_of rfl rfl rfl rfl) fun _ _ _ _ h => h) (pa_cons (pv 1) (pa_cons (pv 0) (pa_cons pe_non pa_nil)))))) pa_nil))) (pss_cons (ps_expr (bmA K PySem.F.plainAttrs_list PySem.F.slot_list_append PySem.F.type_list_append mt_append (pv 4) (pa_cons (pe_lamP (X := (cxOf CX0 P w K mg base N__law_right "_law_right" (defScope s__law_right) T.f__law_right (.ref T.lc__law_right) A outer s' H E).nox) (P := P) (w := w) (K := K) (mg := mg) (base := base) (T := T.tts) (c := T.lc__law_right) (Pt := T.lt__law_right) (k := 14) (ns := ["_law_thing", "_law_bad"]) TB__law_right rfl T.hm__law_right (T.tabs.uniq T.hm__law_right) (show LamX.LamS (defScope s__law_right) _ from LamX.lamS_by (by decide +kernel)) rfl (cloS_by (by decide +kernel)) (fun _ _ _ _ _ => rfl) (fun cl A1 outer1 s1 H1 E f1 c1 hr => (pe_callK0 (E := E) (d_follows_with T) (hr.mono (by decide)) (by rfl) T.m_follows_with T.F_follows_with.kp T.k_follows_with_most_row_book (passes_call (takes_of rfl rfl rfl rfl) fun _ _ _ _ h => h) (pk_cons pe_int (pk_cons (pv 0) (pk_cons (pv 1) pk_nil)))))) pa_nil))) (pss_one (ps_if (pt_not (truA K (pe_callGC (E := E0) (d__law_all_heard T) (hr.mono (by decide)) hG (fun _ _ => rfl) (by rfl) T.m__law_all_heard T.F__law_all_heard.kp T.b__law_all_heard (pa_cons (pv 4) (pa_cons (pe_lst (pa_cons pe_str (pa_cons (pe_callB (L2.CallR.or (reprY K hr hG) (rep1A K (d_Book___repr__ T) (hr.mono (by decide)) hG T.or_Book T.ir_Book T.b_Book___repr__)) (by rfl) T.n_repr (by decide +kernel) (pa_cons (pv 9) pa_nil)) pa_nil))) pa_nil))))) (pss_one (ps_ret pe_bl)) pss_nil))))) (pss_cons (ps_for PassesOwn.never rfl (piR K (pe_lst (pa_cons pe_non (pa_cons (pe_un un_neg pe_int) (pa_cons pe_int (pa_cons pe_bl (pa_cons pe_bl (pa_cons pe_str (pa_cons (pe_tup (pa_cons pe_int pa_nil)) (pa_cons (pe_lst pa_nil) (pa_cons pe_dnewK (pa_cons (pe_op op_pow pe_int pe_int) pa_nil)))))))))))) (pg_name (i := 9) sc__law_right.nd rfl (Or.inr rfl)) (pss_cons (ps_set (i := 4) sc__law_right.nd rfl (Or.inl rfl) (pe_lst (pa_cons (pe_lamP (X := (cxOf CX0 P w K mg base N__law_right "_law_right" (defScope s__law_right) T.f__law_right (.ref T.lc__law_right) A outer s' H E).nox) (P := P) (w := w) (K := K) (mg := mg) (base := base) (T := T.tts) (c := T.lc__law_right) (Pt := T.lt__law_right) (k := 14) (ns := ["_law_thing", "_law_base"]) TB__law_right rfl T.hm__law_right (T.tabs.uniq T.hm__law_right) (show LamX.LamS (defScope s__law_right) _ from LamX.lamS_by (by decide +kernel)) rfl (cloS_by (by decide +kernel)) (fun _ _ _ _ _ => rfl) (fun cl A1 outer1 s1 H1 E f1 c1 hr => (pe_call (E := E) (d_surely_wrong T) (hr.mono (by decide)) (by rfl) T.m_surely_wrong T.F_surely_wrong.kp T.b_surely_wrong .nil (passes_call (takes_of rfl rfl rfl rfl) fun _ _ _ _ h => h) (pa_cons (pv 1) (pa_cons (pv 0) pa_nil))))) pa_nil))) (pss_cons (ps_expr (bmA K PySem.F.plainAttrs_list PySem.F.slot_list_append PySem.F.type_list_append mt_append (pv 4) (pa_cons (pe_lamP (X := (cxOf CX0 P w K mg base N__law_right "_law_right" (defScope s__law_right) T.f__law_right (.ref T.lc__law_right) A outer s' H E).nox) (P := P) (w := w) (K := K) (mg := mg) (base := base) (T := T.tts) (c := T.lc__law_right) (Pt := T.lt__law_right) (k := 14) (ns := ["_law_thing", "_law_bad"]) TB__law_right rfl T.hm__law_right (T.tabs.uniq T.hm__law_right) (show LamX.LamS (defScope s__law_right) _ from LamX.lamS_by (by decide +kernel)) rfl (cloS_by (by decide +kernel)) (fun _ _ _ _ _ => rfl) (fun cl A1 outer1 s1 H1 E f1 c1 hr => (pe_callK0 (E := E) (d_surely_wrong T) (hr.mono (by decide)) (by rfl) T.m_surely_wrong T.F_surely_wrong.kp T.k_surely_wrong_most_book (passes_call (takes_of rfl rfl rfl rfl) fun _ _ _ _ h => h) (pk_cons (pv 0) (pk_cons (pv 1) pk_nil))))) pa_nil))) (pss_cons (ps_expr (bmA K PySem.F.plainAttrs_list PySem.F.slot_list_append PySem.F.type_list_append mt_append (pv 4) (pa_cons (pe_lamP (X := (cxOf CX0 P w K mg base N__law_right "_law_right" (defScope s__law_right) T.f__law_right (.ref T.lc__law_right) A outer s' H E).nox) (P := P) (w := w) (K := K) (mg := mg) (base := base) (T := T.tts) (c := T.lc__law_right) (Pt := T.lt__law_right) (k := 14) (ns := ["_law_thing", "_law_good", "_law_bad"]) TB__law_right rfl T.hm__law_right (T.tabs.uniq T.hm__law_right) (show LamX.LamS (defScope s__law_right) _ from LamX.lamS_by (by decide +kernel)) rfl (cloS_by (by decide +kernel)) (fun _ _ _ _ _ => rfl) (fun cl A1 outer1 s1 H1 E f1 c1 hr => (pe_call (E := E) (d_follows_with T) (hr.mono (by decide)) (by rfl) T.m_follows_with T.F_follows_with.kp T.b_follows_with .nil (passes_call (takes_of rfl rfl rfl rfl) fun _ _ _ _ h => h) (pa_cons (pv 2) (pa_cons (pv 1) (pa_cons (pv 0) pa_nil)))))) pa_nil))) (pss_one (ps_if (pt_not (truA K (pe_callGC (E := E0) (d__law_all_heard T) (hr.mono (by decide)) hG (fun _ _ => rfl) (by rfl) T.m__law_all_heard T.F__law_all_heard.kp T.b__law_all_heard (pa_cons (pv 4) (pa_cons (pe_lst (pa_cons pe_str (pa_cons (pe_callB (L2.CallR.or (reprY K hr hG) (rep1A K (d_Book___repr__ T) (hr.mono (by decide)) hG T.or_Book T.ir_Book T.b_Book___repr__)) (by rfl) T.n_repr (by decide +kernel) (pa_cons (pv 9) pa_nil)) pa_nil))) pa_nil))))) (pss_one (ps_ret pe_bl)) pss_nil)))))) (pss_cons (ps_set (i := 4) sc__law_right.nd rfl (Or.inl rfl) (pe_lst (pa_cons (pe_lamP (X := (cxOf CX0 P w K mg base N__law_right "_law_right" (defScope s__law_right) T.f__law_right (.ref T.lc__law_right) A outer s' H E).nox) (P := P) (w := w) (K := K) (mg := mg) (base := base) (T := T.tts) (c := T.lc__law_right) (Pt := T.lt__law_right) (k := 14) (ns := ["_law_wide"]) TB__law_right rfl T.hm__law_right (T.tabs.uniq T.hm__law_right) (show LamX.LamS (defScope s__law_right) _ from LamX.lamS_by (by decide +kernel)) rfl (cloS_by (by decide +kernel)) (fun _ _ _ _ _ => rfl) (fun cl A1 outer1 s1 H1 E f1 c1 hr => (pe_call (E := E) (d_struck T TB_all_lots) (hr.mono (by decide)) (by rfl) T.m_struck T.F_struck.kp T.b_struck .nil (passes_call (takes_of rfl rfl rfl rfl) fun _ _ _ _ h => h) (pa_cons (pv 0) pa_nil)))) pa_nil))) (pss_cons (ps_expr (bmA K PySem.F.plainAttrs_list PySem.F.slot_list_append PySem.F.type_list_append mt_append (pv 4) (pa_cons (pe_lamP (X := (cxOf CX0 P w K mg base N__law_right "_law_right" (defScope s__law_right) T.f__law_right (.ref T.lc__law_right) A outer s' H E).nox) (P := P) (w := w) (K := K) (mg := mg) (base := base) (T := T.tts) (c := T.lc__law_right) (Pt := T.lt__law_right) (k := 14) (ns := ["_law_wide"]) TB__law_right rfl T.hm__law_right (T.tabs.uniq T.hm__law_right) (show LamX.LamS (defScope s__law_right) _ from LamX.lamS_by (by decide +kernel)) rfl (cloS_by (by decide +kernel)) (fun _ _ _ _ _ => rfl) (fun cl A1 outer1 s1 H1 E f1 c1 hr => (pe_callK0 (E := E) (d_struck T TB_all_lots) (hr.mono (by decide)) (by rfl) T.m_struck T.F_struck.kp T.k_struck_book (passes_call (takes_of rfl rfl rfl rfl) fun _ _ _ _ h => h) (pk_cons (pv 0) pk_nil)))) pa_nil))) (pss_cons (ps_if (PW.pt (pw_or (pt_not (truA K (pe_callGC (E := E0) (d__law_all_heard T) (hr.mono (by decide)) hG (fun _ _ => rfl) (by rfl) T.m__law_all_heard T.F__law_all_heard.kp T.b__law_all_heard (pa_cons (pv 4) (pa_cons (pe_lst (pa_cons pe_str (pa_cons (pe_callB (L2.CallR.or (reprY K hr hG) (rep1A K (d_Book___repr__ T) (hr.mono (by decide)) hG T.or_Book T.ir_Book T.b_Book___repr__)) (by rfl) T.n_repr (by decide +kernel) (pa_cons (pv 3) pa_nil)) pa_nil))) pa_nil))))) (pw_or1 (pt_cmpR op_notN (pe_call (E := fun _ _ _ => False) (d_surely_wrong T) (hr.mono (by decide)) (by rfl) T.m_surely_wrong T.F_surely_wrong.kp T.b_surely_wrong .nil (passes_call LamX.takes0 fun _ _ _ _ h => h) (pa_cons (pv 5) (pa_cons pe_int pa_nil))) pe_non (nomark _))))) (pss_one (ps_ret pe_bl)) pss_nil) (pss_cons (ps_set (i := 4) sc__law_right.nd rfl (Or.inl rfl) (pe_lst (pa_cons (pe_lamP (X := (cxOf CX0 P w K mg base N__law_right "_law_right" (defScope s__law_right) T.f__law_right (.ref T.lc__law_right) A outer s' H E).nox) (P := P) (w := w) (K := K) (mg := mg) (base := base) (T := T.tts) (c := T.lc__law_right) (Pt := T.lt__law_right) (k := 14) (ns := ["_law_good", "_law_bad"]) TB__law_right rfl T.hm__law_right (T.tabs.uniq T.hm__law_right) (show LamX.LamS (defScope s__law_right) _ from LamX.lamS_by (by decide +kernel)) rfl (cloS_by (by decide +kernel)) (fun _ _ _ _ _ => rfl) (fun cl A1 outer1 s1 H1 E f1 c1 hr => (pe_call (E := E) (d_follows_with T) (hr.mono (by decide)) (by rfl) T.m_follows_with T.F_follows_with.kp T.b_follows_with .nil (passes_call (takes_of rfl rfl rfl rfl) fun _ _ _ _ h => h) (pa_cons (pv 1) (pa_cons (pv 0) (pa_cons pe_int pa_nil)))))) pa_nil))) (pss_cons (ps_expr (bmA K PySem.F.plainAttrs_list PySem.F.slot_list_append PySem.F.type_list_append mt_append (pv 4) (pa_cons (pe_lamP (X := (cxOf CX0 P w K mg base N__law_right "_law_right" (defScope s__law_right) T.f__law_right (.ref T.lc__law_right) A outer s' H E).nox) (P := P) (w := w) (K := K) (mg := mg) (base := base) (T := T.tts) (c := T.lc__law_right) (Pt := T.lt__law_right) (k := 14) (ns := ["_law_many", "_law_bad"]) TB__law_right rfl T.hm__law_right (T.tabs.uniq T.hm__law_right) (show LamX.LamS (defScope s__law_right) _ from LamX.lamS_by (by decide +kernel)) rfl (cloS_by (by decide +kernel)) (fun _ _ _ _ _ => rfl) (fun cl A1 outer1 s1 H1 E f1 c1 hr => (pe_callK0 (E := E) (d_follows_with T) (hr.mono (by decide)) (by rfl) T.m_follows_with T.F_follows_with.kp T.k_follows_with_most_row_book (passes_call (takes_of rfl rfl rfl rfl) fun _ _ _ _ h => h) (pk_cons pe_int (pk_cons (pe_op op_mulS pe_str (pv 0)) (pk_cons (pv 1) pk_nil)))))) pa_nil))) (pss_cons (ps_if (pt_not (truA K (pe_callGC (E := E0) (d__law_all_heard T) (hr.mono (by decide)) hG (fun _ _ => rfl) (by rfl) T.m__law_all_heard T.F__law_all_heard.kp T.b__law_all_heard (pa_cons (pv 4) (pa_cons (pe_lst (pa_cons pe_str pa_nil)) pa_nil))))) (pss_one (ps_ret pe_bl)) pss_nil) (pss_cons (ps_set (i := 4) sc__law_right.nd rfl (Or.inl rfl) (pe_lst (pa_cons (pe_lamP (X := (cxOf CX0 P w K mg base N__law_right "_law_right" (defScope s__law_right) T.f__law_right (.ref T.lc__law_right) A outer s' H E).nox) (P := P) (w := w) (K := K) (mg := mg) (base := base) (T := T.tts) (c := T.lc__law_right) (Pt := T.lt__law_right) (k := 14) (ns := ["_law_base"]) TB__law_right rfl T.hm__law_right (T.tabs.uniq T.hm__law_right) (show LamX.LamS (defScope s__law_right) _ from LamX.lamS_by (by decide +kernel)) rfl (cloS_by (by decide +kernel)) (fun _ _ _ _ _ => rfl) (fun cl A1 outer1 s1 H1 E f1 c1 hr => (pe_call (E := E) (d_struck T TB_all_lots) (hr.mono (by decide)) (by rfl) T.m_struck T.F_struck.kp T.b_struck .nil (passes_call (takes_of rfl rfl rfl rfl) fun _ _ _ _ h => h) (pa_cons (pv 0) pa_nil)))) pa_nil))) (pss_cons (ps_expr (bmA K PySem.F.plainAttrs_list PySem.F.slot_list_append PySem.F.type_list_append mt_append (pv 4) (pa_cons (pe_lamP (X := (cxOf CX0 P w K mg base N__law_right "_law_right" (defScope s__law_right) T.f__law_right (.ref T.lc__law_right) A outer s' H E).nox) (P := P) (w := w) (K := K) (mg := mg) (base := base) (T := T.tts) (c := T.lc__law_right) (Pt := T.lt__law_right) (k := 14) (ns := ["_law_wide"]) TB__law_right rfl T.hm__law_right (T.tabs.uniq T.hm__law_right) (show LamX.LamS (defScope s__law_right) _ from LamX.lamS_by (by decide +kernel)) rfl (cloS_by (by decide +kernel)) (fun _ _ _ _ _ => rfl) (fun cl A1 outer1 s1 H1 E f1 c1 hr => (pe_call (E := E) (d_fewest_wrong T) (hr.mono (by decide)) (by rfl) T.m_fewest_wrong T.F_fewest_wrong.kp T.b_fewest_wrong .nil (passes_call (takes_of rfl rfl rfl rfl) fun _ _ _ _ h => h) (pa_cons (pv 0) pa_nil)))) pa_nil))) (pss_cons (ps_expr (bmA K PySem.F.plainAttrs_list PySem.F.slot_list_append PySem.F.type_list_append mt_append (pv 4) (pa_cons (pe_lamP (X := (cxOf CX0 P w K mg base N__law_right "_law_right" (defScope s__law_right) T.f__law_right (.ref T.lc__law_right) A outer s' H E).nox) (P := P) (w := w) (K := K) (mg := mg) (base := base) (T := T.tts) (c := T.lc__law_right) (Pt := T.lt__law_right) (k := 14) (ns := ["_law_wide"]) TB__law_right rfl T.hm__law_right (T.tabs.uniq T.hm__law_right) (show LamX.LamS (defScope s__law_right) _ from LamX.lamS_by (by decide +kernel)) rfl (cloS_by (by decide +kernel)) (fun _ _ _ _ _ => rfl) (fun cl A1 outer1 s1 H1 E f1 c1 hr => (pe_call (E := E) (d_surely_wrong T) (hr.mono (by decide)) (by rfl) T.m_surely_wrong T.F_surely_wrong.kp T.b_surely_wrong .nil (passes_call (takes_of rfl rfl rfl rfl) fun _ _ _ _ h => h) (pa_cons (pv 0) (pa_cons pe_int pa_nil))))) pa_nil))) (pss_cons (ps_expr (bmA K PySem.F.plainAttrs_list PySem.F.slot_list_append PySem.F.type_list_append mt_append (pv 4) (pa_cons (pe_lamP (X := (cxOf CX0 P w K mg base N__law_right "_law_right" (defScope s__law_right) T.f__law_right (.ref T.lc__law_right) A outer s' H E).nox) (P := P) (w := w) (K := K) (mg := mg) (base := base) (T := T.tts) (c := T.lc__law_right) (Pt := T.lt__law_right) (k := 14) (ns := ["_law_good", "_law_bad"]) TB__law_right rfl T.hm__law_right (T.tabs.uniq T.hm__law_right) (show LamX.LamS (defScope s__law_right) _ from LamX.lamS_by (by decide +kernel)) rfl (cloS_by (by decide +kernel)) (fun _ _ _ _ _ => rfl) (fun cl A1 outer1 s1 H1 E f1 c1 hr => (pe_call (E := E) (d_follows_with T) (hr.mono (by decide)) (by rfl) T.m_follows_with T.F_follows_with.kp T.b_follows_with .nil (passes_call (takes_of rfl rfl rfl rfl) fun _ _ _ _ h => h) (pa_cons (pv 1) (pa_cons (pv 0) (pa_cons pe_int pa_nil)))))) pa_nil))) (pss_one (ps_ret (pe_callGC (E := E0) (d__law_all_heard T) (hr.mono (by decide)) hG (fun _ _ => rfl) (by rfl) T.m__law_all_heard T.F__law_all_heard.kp T.b__law_all_heard (pa_cons (pe_op (plusE K) (pv 4) (pe_lst (pa_cons (pe_lamP (X := (cxOf CX0 P w K mg base N__law_right "_law_right" (defScope s__law_right) T.f__law_right (.ref T.lc__law_right) A outer s' H E).nox) (P := P) (w := w) (K := K) (mg := mg) (base := base) (T := T.tts) (c := T.lc__law_right) (Pt := T.lt__law_right) (k := 14) (ns := ["_law_wide", "_law_good"]) TB__law_right rfl T.hm__law_right (T.tabs.uniq T.hm__law_right) (show LamX.LamS (defScope s__law_right) _ from LamX.lamS_by (by decide +kernel)) rfl (cloS_by (by decide +kernel)) (fun _ _ _ _ _ => rfl) (fun cl A1 outer1 s1 H1 E f1 c1 hr => (pe_call (E := E) (d_follows_with T) (hr.mono (by decide)) (by rfl) T.m_follows_with T.F_follows_with.kp T.b_follows_with .nil (passes_call (takes_of rfl rfl rfl rfl) fun _ _ _ _ h => h) (pa_cons (pv 0) (pa_cons (pv 1) (pa_cons pe_int pa_nil)))))) pa_nil))) (pa_cons (pe_lst (pa_cons pe_str pa_nil)) pa_nil))))))))))))))))))))))), fun x hx => ?_⟩
  refine ds_seq (ds_asg (dl_op (Ev.dl ev_int (dl_call (s := spDraw) (dla_cons (Ev.dl (ev_var rfl) (dla_cons (Ev.dl ev_int (dla_nil ⟨(4 : Nat), rfl, ⟨by decide, by decide⟩, fun d hd => ?_⟩)))))))))
  obtain ⟨q, hq, rfl⟩ := hd
  have hq : q < 4 := hq
  refine ⟨.int ((2 + q : Nat) : Int), ?pl, ?_⟩
  case pl =>
    have e := pl_int (K := K) (i := 2) (j := (q : Int))
    rw [show (2 : Int) + (q : Int) = ((2 + q : Nat) : Int) by omega] at e
    exact e
  obtain ⟨n, en⟩ : ∃ n, n = 2 + q := ⟨_, rfl⟩
  rw [← en]
  have n2 : 2 ≤ n := by omega
  have n5 : n ≤ 5 := by omega
  have n8 : n ≤ 8 := by omega
  have g := good_ok n2
  have zg : (tx (goodL n)).length = n := by rw [tx_len]; exact g.len
  refine ds_seq (ds_asg_g (dl_tup (dla_cons (dl_call (s := spTags) (dla_cons (Ev.dl (ev_var rfl) (dla_cons (Ev.dl (ev_var rfl) (dla_nil ⟨n, rfl, ⟨by show 1 ≤ n; omega, n8⟩, fun d hd => ?_⟩)))))))))
  obtain ⟨L, rfl, hL, lL⟩ := hd
  have lL : L.length = n := lL
  refine dla_cons (dl_call (s := spAnyRows) (dla_cons (Ev.dl (ev_var rfl) (dla_cons (Ev.dl (ev_var rfl) (dla_cons (Ev.dl (ev_int (z := ((10 : Nat) : Int))) (dla_nil ⟨(n, 10), rfl, ⟨n8, by show 10 ≤ 1000; decide⟩, fun d hd => ?_⟩))))))))
  obtain ⟨R, rfl, lR, hR⟩ := hd
  have lR : R.length ≤ 10 := lR
  have hR : ∀ r ∈ R, RowOk r n := hR
  refine dla_cons (Ev.dl (ev_cast (d' := .str (tx (goodL n))) (congrArg D.str (good_tx n)) (ev_op ev_str (ev_op ev_str (ev_cast (d' := .int ((n - 2 : Nat) : Int)) (congrArg D.int (by omega)) (ev_op (ev_var (d := .int (n : Nat)) rfl) ev_int dr2_sub)) (mul_dots (n := n - 2) (by omega))) (pl_str (by rw [tx_len]; show 2 + (List.replicate (n - 2) 46).length ≤ _; rw [List.length_replicate]; exact small (by omega))))) (dla_nil ⟨(small (show 3 ≤ 100000 by decide)), [1] ++ ([2] ++ [7]), _, dg_tup3J dg_name dg_name dg_name, ?_⟩))
  show Ds _ [.val .purse, .val (.lst (nameD L)), .val (.lst (nameD R)), .unset, .unset, .unset, .unset, .val (.str (tx (goodL n))), .val (.int (n : Nat)), .unset, .unset, .unset] _
  have hb : BookOk L R := ⟨hL, by omega, fun r hr => by rw [lL]; exact hR r hr⟩
  refine ds_seq (ds_asg_g (dl_tup (dla_cons (dl_make (s := spInit) (dla_cons (Ev.dl (ev_call (s := spPageB) (x := (L, R)) (eva_cons (ev_var rfl) (eva_cons (ev_var rfl) eva_nil)) (np_ln (np_ln (r := []) rfl)) hb fun d h => h) (dla_nil ⟨(L, R), rfl, hb, fun es hes => ?_⟩)))))))
  cases hes
  refine dla_cons (dl_op (Ev.dl ev_int (dl_call (s := spDraw) (dla_cons (Ev.dl (ev_var rfl) (dla_cons (Ev.dl ev_int (dla_nil ⟨(10 : Nat), rfl, ⟨by decide, by decide⟩, fun d hd => ?_⟩))))))))
  obtain ⟨q2, hq2, rfl⟩ := hd
  have hq2 : q2 < 10 := hq2
  refine ⟨.int ((11 + q2 : Nat) : Int), ?pl2, dla_nil ⟨(small (show 2 ≤ 100000 by decide)), [6] ++ [3], _, dg_tup2 dg_name dg_name, ?_⟩⟩
  case pl2 =>
    have e := pl_int (K := K) (i := 11) (j := (q2 : Int))
    rw [show (11 : Int) + (q2 : Int) = ((11 + q2 : Nat) : Int) by omega] at e
    exact e
  obtain ⟨sz, esz⟩ : ∃ sz, sz = 11 + q2 := ⟨_, rfl⟩
  rw [← esz]
  have s11 : 11 ≤ sz := by omega
  have s20 : sz ≤ 20 := by omega
  show Ds _ [.val .purse, .val (.lst (nameD L)), .val (.lst (nameD R)), .val (.int (sz : Nat)), .unset, .unset, .val (bookD T.C_Book L R), .val (.str (tx (goodL n))), .val (.int (n : Nat)), .unset, .unset, .unset] _
  refine ds_seq (ds_asg (dl_make (s := spInit) (dla_cons (dl_call (s := spPageB) (dla_cons (Ev.dl (ev_var rfl) (dla_cons (dl_lc (di_range (dla_cons (Ev.dl (ev_var rfl) (dla_nil ⟨sz, rfl, by omega, by rw [rng_length]; omega, fun i acc Γ' => Γ' = [.val .purse, .val (.lst (nameD L)), .val (.lst (nameD R)), .val (.int (sz : Nat)), .unset, .unset, .val (bookD T.C_Book L R), .val (.str (tx (goodL n))), .val (.int (n : Nat)), .unset, .unset, .unset] ∧ ∃ W : List (List Nat), acc = nameD W ∧ W.length = i ∧ ∀ r ∈ W, RowOk r n, ⟨rfl, [], rfl, rfl, fun r h => absurd h (by simp)⟩, fun i x acc Γ' hx' ⟨e, W, ea, lW, hW⟩ => ?_, fun acc Γ' ⟨e, W, ea, lW, hW⟩ => ?_⟩))))))))))))
  · subst e
    subst ea
    refine ⟨[11], _, dg_name, fun i hi => hi, dlt_yes ⟨fun _ => dl_call (s := spSigns) (dla_cons (Ev.dl (ev_var rfl) (dla_cons (Ev.dl (ev_var rfl) (dla_nil ⟨n, rfl, n8, fun d hd => ?_⟩))))), fun h => nomatch h⟩⟩
    obtain ⟨l, hl, rfl⟩ := hd
    refine ⟨rfl, W ++ [l], nameD_app W [l], by rw [List.length_append, lW]; rfl, fun r hr => ?_⟩
    rcases List.mem_append.mp hr with hr | hr
    · exact hW r hr
    · rw [List.mem_singleton.mp hr]; exact hl
  subst e
  subst ea
  rw [rng_length] at lW
  have hw : BookOk L W := ⟨hL, by omega, fun r hr => by rw [lL]; exact hW r hr⟩
  refine dla_nil ⟨(L, W), rfl, hw, fun d hd => ?_⟩
  cases hd
  refine dla_nil ⟨(L, W), rfl, hw, fun es hes => ?_⟩
  cases hes
  have hbd : BookOk L (badR n) := ⟨hL, by show 2 ≤ 20; decide, fun r hr => by rw [lL]; exact bad_rows n2 r hr⟩
  refine ds_seq (ds_asg (dl_make (s := spInit) (dla_cons (Ev.dl (ev_call (s := spPageB) (x := (L, badR n)) (eva_cons (ev_var rfl) (eva_cons (EvN.ev (evn_lst (eva_cons (ev_var rfl) (eva_cons (ev_call (s := spFlip) (x := goodL n) (eva_cons (ev_var rfl) eva_nil) rfl ⟨n, g, n8⟩ fun d h => h) eva_nil)) (small (show 2 ≤ 100000 by decide)))) eva_nil)) (np_ln (np_ln (r := []) rfl)) hbd fun d h => h) (dla_nil ⟨(L, badR n), rfl, hbd, fun es hes => ?_⟩)))))
  cases hes
  show Ds _ [.val .purse, .val (.lst (nameD L)), .val (.lst (nameD R)), .val (.int (sz : Nat)), .unset, .val (bookD T.C_Book L (badR n)), .val (bookD T.C_Book L R), .val (.str (tx (goodL n))), .val (.int (n : Nat)), .unset, .val (bookD T.C_Book L W), .unset] _
  have c1 : okC (bookD T.C_Book L R) = true := okC_book _ _ _
  have c2 : okC (bookD T.C_Book L W) = true := okC_book _ _ _
  have c3 : okC (bookD T.C_Book L (badR n)) = true := okC_book _ _ _
  have p1 : noP (bookD T.C_Book L R) = true := np_bookD _ _ _
  have p2 : noP (bookD T.C_Book L W) = true := np_bookD _ _ _
  have p3 : noP (bookD T.C_Book L (badR n)) = true := np_bookD _ _ _
  have gl : RowOk (goodL n) L.length := by rw [lL]; exact g
  have dl : RowOk (dotsN n) L.length := by rw [lL]; exact dots_row n
  have f0 : ¬ fewN (badR n) L.length ≤ 0 := by rw [lL]; exact bad_0 n2
  have f1 : fewN (badR n) L.length ≤ 1 := by rw [lL]; exact bad_1 n2
  have fw : fewN W L.length ≤ 20 := few_all hw.rows (by omega)
  have zz : ∀ {w0 z : Str}, PyData.strOk w0 = true → PyData.strOk z = true → ∀ s ∈ [w0, z], PyData.strOk s = true := fun h1 h2 s hs => by
    rcases List.mem_cons.mp hs with rfl | hs
    · exact h1
    · rw [List.mem_singleton.mp hs]; exact h2
  refine ds_seq (ds_for (fun xs i Γ' => xs = bkThings T.C_Book L R ∧ ∃ s4 s9 : Sl, Γ' = [.val .purse, .val (.lst (nameD L)), .val (.lst (nameD R)), .val (.int (sz : Nat)), s4, .val (bookD T.C_Book L (badR n)), .val (bookD T.C_Book L R), .val (.str (tx (goodL n))), .val (.int (n : Nat)), s9, .val (bookD T.C_Book L W), .unset]) (dj_list (Ev.dl (d := .lst (bkThings T.C_Book L R)) (EvN.ev (evn_lst (eva_cons ev_non (eva_cons (ev_own1 (s := spBText T.C_Book) (x := (L, R)) (ev_var rfl) rfl (np_book _ L R) trivial fun d h => h) (eva_cons (ev_var rfl) (eva_cons (ev_tup (eva_cons (ev_var rfl) eva_nil) (small (show 1 ≤ 100000 by decide))) (eva_cons ev_int (eva_cons ev_dnew (eva_cons ev_bl (eva_cons (ev_var rfl) eva_nil)))))))) (small (show 8 ≤ 100000 by decide)))) ⟨_, rfl, ⟨rfl, _, _, rfl⟩, fun i x Γ' hx' ⟨exs, s4, s9, e⟩ => ?_, fun Γ' ⟨exs, s4, s9, e⟩ => ?_⟩)))
  · subst e
    rw [exs] at hx'
    obtain ⟨hbad, z, th⟩ := bk_things (K := K) (B := T.C_Book) hb x (List.mem_of_getElem? hx')
    have okd := th.oc
    have npd := th.np
    refine ⟨[9], _, dg_name, ds_seq (ds_asg_ownL (dla_cons (dl_lamP (i := 0) T.tabs T.hm__law_right rfl TgS.purse fun l1 e1 t1 => dla_nil ⟨(small (show 1 ≤ 100000 by decide)), ?_⟩)))⟩
    refine ds_seq (ds_drop (dl_append ⟨_, rfl⟩ (dla_cons (dl_lamP (i := 0) T.tabs T.hm__law_right rfl TgS.purse fun l2 e2 t2 => dla_nil ⟨_, _, rfl, rfl, Nat.lt_of_lt_of_le (show 1 < 100000 by decide) (by decide), ?_⟩))))
    refine ds_seq (ds_drop (dl_append ⟨_, rfl⟩ (dla_cons (dl_lamP (i := 0) T.tabs T.hm__law_right rfl TgS.purse fun l3 e3 t3 => dla_nil ⟨_, _, rfl, rfl, Nat.lt_of_lt_of_le (show 2 < 100000 by decide) (by decide), ?_⟩))))
    refine ds_seq (ds_drop (dl_append ⟨_, rfl⟩ (dla_cons (dl_lamP (i := 0) T.tabs T.hm__law_right rfl TgS.purse fun l4 e4 t4 => dla_nil ⟨_, _, rfl, rfl, Nat.lt_of_lt_of_le (show 3 < 100000 by decide) (by decide), ?_⟩))))
    refine ds_freeze 4 rfl (ds_if (dlt_not (dlt_tru_bl (dl_all (B := T.C_Book) (e := ⟨T.C_NotABook, T.C_InvalidRow, T.C_InvalidNumber, T.C_TooMany, T.C_NoRanking⟩) (dla_cons (Ev.dl (ev_var rfl) (dla_cons (Ev.dl (EvN.ev (evn_lst (eva_cons ev_str (eva_cons (ev_reprR (ev_var rfl) th.rp) eva_nil)) (small (show 2 ≤ 100000 by decide)))) (dla_nil ⟨[(9, "_law_thing", x), (5, "_law_bad", bookD T.C_Book L (badR n)), (6, "_law_base", bookD T.C_Book L R), (7, "_law_good", .str (tx (goodL n))), (8, "_law_many", .int (n : Nat)), (10, "_law_wide", bookD T.C_Book L W)], _, [⟨l1, [x]⟩, ⟨l2, [x]⟩, ⟨l3, [x]⟩, ⟨l4, [x]⟩], ["book", z], rfl, ?fnA, (capD_cons rfl rfl rfl (capD_cons rfl rfl rfl (capD_cons rfl rfl rfl (capD_cons rfl rfl rfl (capD_cons rfl rfl rfl (capD_cons rfl rfl rfl capD_nil)))))), ?actsA, by simp, zz (by decide +kernel) th.ok, rfl, true, rfl, (fun h => nomatch h), fun _ => ds_next ⟨exs, _, _, rfl⟩⟩)))))))))
    case fnA => exact ⟨(by refine fnv_eq (a := ⟨l1, _⟩) (ns := ["_law_thing"]) ?_ e1; rfl), (by refine fnv_eq (a := ⟨l2, _⟩) (ns := ["_law_thing"]) ?_ e2; rfl), (by refine fnv_eq (a := ⟨l3, _⟩) (ns := ["_law_thing"]) ?_ e3; rfl), (by refine fnv_eq (a := ⟨l4, _⟩) (ns := ["_law_thing"]) ?_ e4; rfl), trivial⟩
    case actsA =>
      intro a ha
      simp only [List.mem_cons, List.not_mem_nil, or_false] at ha
      rcases ha with rfl | rfl | rfl | rfl
      · exact act_ok (ns := ["_law_thing"]) e1 (by decide) (capL_cons List.mem_cons_self capL_nil) (by simp [okCs, okC, okd, c1, c2, c3]) (by simp [noPs, noP, npd, p1, p2, p3]) (heard_err t1 (w0 := "book") (by simp) th fun E => ert_call (sx := spStX T.C_Book T.C_NotABook T.C_TooMany) (x := .inl x) (eva_cons (ev_var rfl) eva_nil) hbad fun ed H' h => h)
      · exact act_ok (ns := ["_law_thing"]) e2 (by decide) (capL_cons List.mem_cons_self capL_nil) (by simp [okCs, okC, okd, c1, c2, c3]) (by simp [noPs, noP, npd, p1, p2, p3]) (heard_err t2 (w0 := "book") (by simp) th fun E => ert_callK (sx := spBkX T.C_NotABook) (x := x) eva_nil (eva_cons (ev_var rfl) eva_nil) kg1 hbad fun ed H' h => h)
      · exact act_ok (ns := ["_law_thing"]) e3 (by decide) (capL_cons List.mem_cons_self capL_nil) (by simp [okCs, okC, okd, c1, c2, c3]) (by simp [noPs, noP, npd, p1, p2, p3]) (heard_err t3 (w0 := "book") (by simp) th fun E => ert_call (sx := spSuX T.C_Book T.C_NotABook T.C_InvalidNumber) (x := .inl (x, .non)) (eva_cons (ev_var rfl) (eva_cons ev_non eva_nil)) hbad fun ed H' h => h)
      · exact act_ok (ns := ["_law_thing"]) e4 (by decide) (capL_cons List.mem_cons_self capL_nil) (by simp [okCs, okC, okd, c1, c2, c3]) (by simp [noPs, noP, npd, p1, p2, p3]) (heard_err t4 (w0 := "book") (by simp) th fun E => ert_callK (sx := spFoX T.C_Book T.C_NotABook T.C_InvalidRow T.C_InvalidNumber T.C_NoRanking) (x := .inl (x, .non, .non)) eva_nil (eva_cons ev_non (eva_cons ev_non (eva_cons (ev_var rfl) eva_nil))) kg3 hbad fun ed H' h => h)
  subst e
  refine ds_seq (ds_for (fun xs i Γ' => xs = rwThings T.C_Book L R n ∧ ∃ s4 s9 : Sl, Γ' = [.val .purse, .val (.lst (nameD L)), .val (.lst (nameD R)), .val (.int (sz : Nat)), s4, .val (bookD T.C_Book L (badR n)), .val (bookD T.C_Book L R), .val (.str (tx (goodL n))), .val (.int (n : Nat)), s9, .val (bookD T.C_Book L W), .unset]) (dj_list (Ev.dl (d := .lst (rwThings T.C_Book L R n)) (EvN.ev (evn_lst (eva_cons ev_non (eva_cons ev_str (eva_cons (ev_cast (congrArg D.str (by rw [show Str.ofString "." = tx [46] from by decide +kernel, tx_append])) (ev_op (ev_var rfl) ev_str (pl_str (by rw [zg]; show n + 1 ≤ _; exact small (by omega))))) (eva_cons (ev_cast (congrArg D.str (cutS_drop (goodL n) 1)) (ev_sliceS (ev_var (d := .str (tx (goodL n))) rfl) (by rw [zg]; exact small (by omega)) (eo_some (ev_int (z := ((1 : Nat) : Int)))) eo_none)) (eva_cons (ev_cast (congrArg D.str (mul_xs n (by omega))) (ev_op ev_str (ev_var rfl) (mulS_gx (mul_xo n (by omega))))) (eva_cons (ev_tup (eva_cons (ev_var rfl) eva_nil) (small (show 1 ≤ 100000 by decide))) (eva_cons (EvN.ev (evn_lst (eva_cons (ev_var rfl) eva_nil) (small (show 1 ≤ 100000 by decide)))) (eva_cons ev_int (eva_cons ev_dnew (eva_cons (ev_var rfl) eva_nil)))))))))) (small (show 10 ≤ 100000 by decide)))) ⟨_, rfl, ⟨rfl, _, _, rfl⟩, fun i x Γ' hx' ⟨exs, s4, s9, e⟩ => ?_, fun Γ' ⟨exs, s4, s9, e⟩ => ?_⟩)))
  · subst e
    rw [exs] at hx'
    obtain ⟨hbad, z, th⟩ := rw_things (K := K) (B := T.C_Book) hb n2 n8 x (List.mem_of_getElem? hx')
    have okd := th.oc
    have npd := th.np
    refine ⟨[9], _, dg_name, ds_seq (ds_asg_ownL (dla_cons (dl_lamP (i := 0) T.tabs T.hm__law_right rfl TgS.purse fun l1 e1 t1 => dla_nil ⟨(small (show 1 ≤ 100000 by decide)), ?_⟩)))⟩
    refine ds_seq (ds_drop (dl_append ⟨_, rfl⟩ (dla_cons (dl_lamP (i := 0) T.tabs T.hm__law_right rfl TgS.purse fun l2 e2 t2 => dla_nil ⟨_, _, rfl, rfl, Nat.lt_of_lt_of_le (show 1 < 100000 by decide) (by decide), ?_⟩))))
    refine ds_freeze 4 rfl (ds_if (dlt_not (dlt_tru_bl (dl_all (B := T.C_Book) (e := ⟨T.C_NotABook, T.C_InvalidRow, T.C_InvalidNumber, T.C_TooMany, T.C_NoRanking⟩) (dla_cons (Ev.dl (ev_var rfl) (dla_cons (Ev.dl (EvN.ev (evn_lst (eva_cons ev_str (eva_cons (ev_reprR (ev_var rfl) th.rp) eva_nil)) (small (show 2 ≤ 100000 by decide)))) (dla_nil ⟨[(9, "_law_thing", x), (5, "_law_bad", bookD T.C_Book L (badR n)), (6, "_law_base", bookD T.C_Book L R), (7, "_law_good", .str (tx (goodL n))), (8, "_law_many", .int (n : Nat)), (10, "_law_wide", bookD T.C_Book L W)], _, [⟨l1, [x, bookD T.C_Book L R]⟩, ⟨l2, [x, bookD T.C_Book L (badR n)]⟩], ["signs", z], rfl, ?fnB, (capD_cons rfl rfl rfl (capD_cons rfl rfl rfl (capD_cons rfl rfl rfl (capD_cons rfl rfl rfl (capD_cons rfl rfl rfl (capD_cons rfl rfl rfl capD_nil)))))), ?actsB, by simp, zz (by decide +kernel) th.ok, rfl, true, rfl, (fun h => nomatch h), fun _ => ds_next ⟨exs, _, _, rfl⟩⟩)))))))))
    case fnB => exact ⟨(by refine fnv_eq (a := ⟨l1, _⟩) (ns := ["_law_thing", "_law_base"]) ?_ e1; rfl), (by refine fnv_eq (a := ⟨l2, _⟩) (ns := ["_law_thing", "_law_bad"]) ?_ e2; rfl), trivial⟩
    case actsB =>
      intro a ha
      simp only [List.mem_cons, List.not_mem_nil, or_false] at ha
      rcases ha with rfl | rfl
      · exact act_ok (ns := ["_law_thing", "_law_base"]) e1 (by decide) (capL_cons List.mem_cons_self (capL_cons (List.mem_cons_of_mem _ (List.mem_cons_of_mem _ List.mem_cons_self)) capL_nil)) (by simp [okCs, okC, okd, c1, c2, c3]) (by simp [noPs, noP, npd, p1, p2, p3]) (heard_err t1 (w0 := "signs") (by simp) th fun E => ert_call (sx := spFoX T.C_Book T.C_NotABook T.C_InvalidRow T.C_InvalidNumber T.C_NoRanking) (x := .inr (.inl ((L, R), x, .non))) (eva_cons (ev_var rfl) (eva_cons (ev_var rfl) (eva_cons ev_non eva_nil))) (by show BadRow _ L.length x; rw [lL]; exact hbad) fun ed H' h => h)
      · exact act_ok (ns := ["_law_thing", "_law_bad"]) e2 (by decide) (capL_cons List.mem_cons_self (capL_cons (List.mem_cons_of_mem _ List.mem_cons_self) capL_nil)) (by simp [okCs, okC, okd, c1, c2, c3]) (by simp [noPs, noP, npd, p1, p2, p3]) (heard_err t2 (w0 := "signs") (by simp) th fun E => ert_callK (sx := spFoX T.C_Book T.C_NotABook T.C_InvalidRow T.C_InvalidNumber T.C_NoRanking) (x := .inr (.inl ((L, badR n), x, .int 0))) eva_nil (eva_cons ev_int (eva_cons (ev_var rfl) (eva_cons (ev_var rfl) eva_nil))) kg3 (by show BadRow _ L.length x; rw [lL]; exact hbad) fun ed H' h => h)
  subst e
  refine ds_seq (ds_for (fun xs i Γ' => xs = nmThings ∧ ∃ s4 s9 : Sl, Γ' = [.val .purse, .val (.lst (nameD L)), .val (.lst (nameD R)), .val (.int (sz : Nat)), s4, .val (bookD T.C_Book L (badR n)), .val (bookD T.C_Book L R), .val (.str (tx (goodL n))), .val (.int (n : Nat)), s9, .val (bookD T.C_Book L W), .unset]) (dj_list (Ev.dl (d := .lst (nmThings)) (EvN.ev (evn_lst (eva_cons ev_non (eva_cons (ev_neg ev_int) (eva_cons ev_int (eva_cons ev_bl (eva_cons ev_bl (eva_cons ev_str (eva_cons (ev_tup (eva_cons ev_int eva_nil) (small (show 1 ≤ 100000 by decide))) (eva_cons (EvN.ev (evn_lst eva_nil (Nat.zero_le _))) (eva_cons ev_dnew (eva_cons (ev_op ev_int ev_int (dr2_pow ⟨by decide, by decide, by decide⟩)) eva_nil)))))))))) (small (show 10 ≤ 100000 by decide)))) ⟨_, rfl, ⟨rfl, _, _, rfl⟩, fun i x Γ' hx' ⟨exs, s4, s9, e⟩ => ?_, fun Γ' ⟨exs, s4, s9, e⟩ => ?_⟩)))
  · subst e
    rw [exs] at hx'
    obtain ⟨hbad, z, th⟩ := nm_things (K := K) (B := T.C_Book) x (List.mem_of_getElem? hx')
    have okd := th.oc
    have npd := th.np
    refine ⟨[9], _, dg_name, ds_seq (ds_asg_ownL (dla_cons (dl_lamP (i := 0) T.tabs T.hm__law_right rfl TgS.purse fun l1 e1 t1 => dla_nil ⟨(small (show 1 ≤ 100000 by decide)), ?_⟩)))⟩
    refine ds_seq (ds_drop (dl_append ⟨_, rfl⟩ (dla_cons (dl_lamP (i := 0) T.tabs T.hm__law_right rfl TgS.purse fun l2 e2 t2 => dla_nil ⟨_, _, rfl, rfl, Nat.lt_of_lt_of_le (show 1 < 100000 by decide) (by decide), ?_⟩))))
    refine ds_seq (ds_drop (dl_append ⟨_, rfl⟩ (dla_cons (dl_lamP (i := 0) T.tabs T.hm__law_right rfl TgS.purse fun l3 e3 t3 => dla_nil ⟨_, _, rfl, rfl, Nat.lt_of_lt_of_le (show 2 < 100000 by decide) (by decide), ?_⟩))))
    refine ds_freeze 4 rfl (ds_if (dlt_not (dlt_tru_bl (dl_all (B := T.C_Book) (e := ⟨T.C_NotABook, T.C_InvalidRow, T.C_InvalidNumber, T.C_TooMany, T.C_NoRanking⟩) (dla_cons (Ev.dl (ev_var rfl) (dla_cons (Ev.dl (EvN.ev (evn_lst (eva_cons ev_str (eva_cons (ev_reprR (ev_var rfl) th.rp) eva_nil)) (small (show 2 ≤ 100000 by decide)))) (dla_nil ⟨[(9, "_law_thing", x), (5, "_law_bad", bookD T.C_Book L (badR n)), (6, "_law_base", bookD T.C_Book L R), (7, "_law_good", .str (tx (goodL n))), (8, "_law_many", .int (n : Nat)), (10, "_law_wide", bookD T.C_Book L W)], _, [⟨l1, [x, bookD T.C_Book L R]⟩, ⟨l2, [x, bookD T.C_Book L (badR n)]⟩, ⟨l3, [x, .str (tx (goodL n)), bookD T.C_Book L (badR n)]⟩], ["number", z], rfl, ?fnC, (capD_cons rfl rfl rfl (capD_cons rfl rfl rfl (capD_cons rfl rfl rfl (capD_cons rfl rfl rfl (capD_cons rfl rfl rfl (capD_cons rfl rfl rfl capD_nil)))))), ?actsC, by simp, zz (by decide +kernel) th.ok, rfl, true, rfl, (fun h => nomatch h), fun _ => ds_next ⟨exs, _, _, rfl⟩⟩)))))))))
    case fnC => exact ⟨(by refine fnv_eq (a := ⟨l1, _⟩) (ns := ["_law_thing", "_law_base"]) ?_ e1; rfl), (by refine fnv_eq (a := ⟨l2, _⟩) (ns := ["_law_thing", "_law_bad"]) ?_ e2; rfl), (by refine fnv_eq (a := ⟨l3, _⟩) (ns := ["_law_thing", "_law_good", "_law_bad"]) ?_ e3; rfl), trivial⟩
    case actsC =>
      intro a ha
      simp only [List.mem_cons, List.not_mem_nil, or_false] at ha
      rcases ha with rfl | rfl | rfl
      · exact act_ok (ns := ["_law_thing", "_law_base"]) e1 (by decide) (capL_cons List.mem_cons_self (capL_cons (List.mem_cons_of_mem _ (List.mem_cons_of_mem _ List.mem_cons_self)) capL_nil)) (by simp [okCs, okC, okd, c1, c2, c3]) (by simp [noPs, noP, npd, p1, p2, p3]) (heard_err t1 (w0 := "number") (by simp) th fun E => ert_call (sx := spSuX T.C_Book T.C_NotABook T.C_InvalidNumber) (x := .inr ((L, R), x)) (eva_cons (ev_var rfl) (eva_cons (ev_var rfl) eva_nil)) hbad fun ed H' h => h)
      · exact act_ok (ns := ["_law_thing", "_law_bad"]) e2 (by decide) (capL_cons List.mem_cons_self (capL_cons (List.mem_cons_of_mem _ List.mem_cons_self) capL_nil)) (by simp [okCs, okC, okd, c1, c2, c3]) (by simp [noPs, noP, npd, p1, p2, p3]) (heard_err t2 (w0 := "number") (by simp) th fun E => ert_callK (sx := spSuX T.C_Book T.C_NotABook T.C_InvalidNumber) (x := .inr ((L, badR n), x)) eva_nil (eva_cons (ev_var rfl) (eva_cons (ev_var rfl) eva_nil)) kg2 hbad fun ed H' h => h)
      · exact act_ok (ns := ["_law_thing", "_law_good", "_law_bad"]) e3 (by decide) (capL_cons List.mem_cons_self (capL_cons (List.mem_cons_of_mem _ (List.mem_cons_of_mem _ (List.mem_cons_of_mem _ List.mem_cons_self))) (capL_cons (List.mem_cons_of_mem _ List.mem_cons_self) capL_nil))) (by simp [okCs, okC, okd, c1, c2, c3]) (by simp [noPs, noP, npd, p1, p2, p3]) (heard_err t3 (w0 := "number") (by simp) th fun E => ert_call (sx := spFoX T.C_Book T.C_NotABook T.C_InvalidRow T.C_InvalidNumber T.C_NoRanking) (x := .inr (.inr (.inl ((L, badR n), goodL n, x)))) (eva_cons (ev_var rfl) (eva_cons (ev_var rfl) (eva_cons (ev_var rfl) eva_nil))) ⟨⟨gl, (by show 1 ≤ L.length; omega), (by show L.length ≤ 8; omega)⟩, hbad⟩ fun ed H' h => h)
  subst e
  have eW : D.int ((W.length : Nat) : Int) = .int (sz : Nat) := by rw [lW]
  have thS : Thg K T.C_Book (.int (sz : Nat)) _ := thg_elt (elt_nat (k := 2) (m := 10) (n := sz) (by omega) (by decide)) (by decide) (by decide)
  have thW : Thg K T.C_Book (.int (W.length : Nat)) (PyData.shown (py (.int (sz : Nat)))) := by rw [eW]; exact thS
  refine ds_seq (ds_asg_ownL (dla_cons (dl_lamP (i := 0) T.tabs T.hm__law_right rfl TgS.purse fun l1 e1 t1 => dla_nil ⟨(small (show 1 ≤ 100000 by decide)), ?_⟩)))
  refine ds_seq (ds_drop (dl_append ⟨_, rfl⟩ (dla_cons (dl_lamP (i := 0) T.tabs T.hm__law_right rfl TgS.purse fun l2 e2 t2 => dla_nil ⟨_, _, rfl, rfl, Nat.lt_of_lt_of_le (show 1 < 100000 by decide) (by decide), ?_⟩))))
  have np_bookN : noPs [bookD T.C_Book L (badR n), .int ((0 : Nat) : Int)] = true := np_consX p3 rfl
  refine ds_freeze 4 rfl (ds_seq (ds_if (dlt_or (dlt_not (dlt_tru_bl (dl_all (B := T.C_Book) (e := ⟨T.C_NotABook, T.C_InvalidRow, T.C_InvalidNumber, T.C_TooMany, T.C_NoRanking⟩) (dla_cons (Ev.dl (ev_var rfl) (dla_cons (Ev.dl (EvN.ev (evn_lst (eva_cons ev_str (eva_cons (ev_reprR (ev_var rfl) thS.rp) eva_nil)) (small (show 2 ≤ 100000 by decide)))) (dla_nil ⟨[(5, "_law_bad", bookD T.C_Book L (badR n)), (6, "_law_base", bookD T.C_Book L R), (7, "_law_good", .str (tx (goodL n))), (8, "_law_many", .int (n : Nat)), (10, "_law_wide", bookD T.C_Book L W)], _, [⟨l1, [bookD T.C_Book L W]⟩, ⟨l2, [bookD T.C_Book L W]⟩], ["many", _], rfl, ?fnD, (capD_cons rfl rfl rfl (capD_cons rfl rfl rfl (capD_cons rfl rfl rfl (capD_cons rfl rfl rfl (capD_cons rfl rfl rfl capD_nil))))), ?actsD, by simp, zz (by decide +kernel) thS.ok, rfl, true, rfl, (fun _ => EvT.dl (b := false) (evt_test (ev_op (ev_call_or (s := spSure T.C_Book) (d := .non) (x := ((L, badR n), 0)) (eva_cons (ev_var rfl) (eva_cons (ev_int (z := ((0 : Nat) : Int))) eva_nil)) (by exact np_bookN) ⟨hbd, (by show 0 ≤ 20; decide)⟩ fun d h => by rw [h]; exact if_neg f0) ev_non (dr2_notN fun W v q => by rw [show v = V.non from q]; rfl))) ⟨fun h => (nomatch h), fun _ => ds_next ?_⟩), fun h => nomatch h⟩)))))))))))
  case fnD => exact ⟨(by refine fnv_eq (a := ⟨l1, _⟩) (ns := ["_law_wide"]) ?_ e1; rfl), (by refine fnv_eq (a := ⟨l2, _⟩) (ns := ["_law_wide"]) ?_ e2; rfl), trivial⟩
  case actsD =>
    intro a ha
    simp only [List.mem_cons, List.not_mem_nil, or_false] at ha
    rcases ha with rfl | rfl
    · exact act_ok (ns := ["_law_wide"]) e1 (by decide) (capL_cons (List.mem_cons_of_mem _ (List.mem_cons_of_mem _ (List.mem_cons_of_mem _ (List.mem_cons_of_mem _ List.mem_cons_self)))) capL_nil) (by simp [okCs, okC, c1, c2, c3]) (by simp [noPs, noP, p1, p2, p3]) (heard_err t1 (w0 := "many") (by simp) thW fun E => ert_call (sx := spStX T.C_Book T.C_NotABook T.C_TooMany) (x := .inr (L, W)) (eva_cons (ev_var rfl) eva_nil) ⟨hw, (by show 10 < W.length; omega)⟩ fun ed H' h => h)
    · exact act_ok (ns := ["_law_wide"]) e2 (by decide) (capL_cons (List.mem_cons_of_mem _ (List.mem_cons_of_mem _ (List.mem_cons_of_mem _ (List.mem_cons_of_mem _ List.mem_cons_self)))) capL_nil) (by simp [okCs, okC, c1, c2, c3]) (by simp [noPs, noP, p1, p2, p3]) (heard_err t2 (w0 := "many") (by simp) thW fun E => ert_callK (sx := spStX T.C_Book T.C_NotABook T.C_TooMany) (x := .inr (L, W)) eva_nil (eva_cons (ev_var rfl) eva_nil) kg1 ⟨hw, (by show 10 < W.length; omega)⟩ fun ed H' h => h)
  refine ds_seq (ds_asg_ownL (dla_cons (dl_lamP (i := 0) T.tabs T.hm__law_right rfl TgS.purse fun l1 e1 t1 => dla_nil ⟨(small (show 1 ≤ 100000 by decide)), ?_⟩)))
  refine ds_seq (ds_drop (dl_append ⟨_, rfl⟩ (dla_cons (dl_lamP (i := 0) T.tabs T.hm__law_right rfl TgS.purse fun l2 e2 t2 => dla_nil ⟨_, _, rfl, rfl, Nat.lt_of_lt_of_le (show 1 < 100000 by decide) (by decide), ?_⟩))))
  refine ds_freeze 4 rfl (ds_seq (ds_if (dlt_not (dlt_tru_bl (dl_all (B := T.C_Book) (e := ⟨T.C_NotABook, T.C_InvalidRow, T.C_InvalidNumber, T.C_TooMany, T.C_NoRanking⟩) (dla_cons (Ev.dl (ev_var rfl) (dla_cons (Ev.dl (EvN.ev (evn_lst (eva_cons ev_str eva_nil) (small (show 1 ≤ 100000 by decide)))) (dla_nil ⟨[(5, "_law_bad", bookD T.C_Book L (badR n)), (6, "_law_base", bookD T.C_Book L R), (7, "_law_good", .str (tx (goodL n))), (8, "_law_many", .int (n : Nat)), (10, "_law_wide", bookD T.C_Book L W)], _, [⟨l1, [.str (tx (goodL n)), bookD T.C_Book L (badR n)]⟩, ⟨l2, [.int (n : Nat), bookD T.C_Book L (badR n)]⟩], ["none"], rfl, ?fnE, (capD_cons rfl rfl rfl (capD_cons rfl rfl rfl (capD_cons rfl rfl rfl (capD_cons rfl rfl rfl (capD_cons rfl rfl rfl capD_nil))))), ?actsE, by simp, ?zE, rfl, true, rfl, (fun h => nomatch h), fun _ => ds_next ?_⟩))))))))))
  case fnE => exact ⟨(by refine fnv_eq (a := ⟨l1, _⟩) (ns := ["_law_good", "_law_bad"]) ?_ e1; rfl), (by refine fnv_eq (a := ⟨l2, _⟩) (ns := ["_law_many", "_law_bad"]) ?_ e2; rfl), trivial⟩
  case zE =>
    intro s hs
    rw [List.mem_singleton.mp hs]; decide +kernel
  case actsE =>
    intro a ha
    simp only [List.mem_cons, List.not_mem_nil, or_false] at ha
    rcases ha with rfl | rfl
    · exact act_ok (ns := ["_law_good", "_law_bad"]) e1 (by decide) (capL_cons (List.mem_cons_of_mem _ (List.mem_cons_of_mem _ List.mem_cons_self)) (capL_cons List.mem_cons_self capL_nil)) (by simp [okCs, okC, c1, c2, c3]) (by simp [noPs, noP, p1, p2, p3]) (heard_none t1 fun E => ert_call (sx := spFoX T.C_Book T.C_NotABook T.C_InvalidRow T.C_InvalidNumber T.C_NoRanking) (x := .inr (.inr (.inr ((L, badR n), goodL n, 0)))) (eva_cons (ev_var rfl) (eva_cons (ev_var rfl) (eva_cons (ev_int (z := ((0 : Nat) : Int))) eva_nil))) ⟨hbd, gl, (by show 0 ≤ 20; decide), f0⟩ fun ed H' h => h)
    · exact act_ok (ns := ["_law_many", "_law_bad"]) e2 (by decide) (capL_cons (List.mem_cons_of_mem _ (List.mem_cons_of_mem _ (List.mem_cons_of_mem _ List.mem_cons_self))) (capL_cons List.mem_cons_self capL_nil)) (by simp [okCs, okC, c1, c2, c3]) (by simp [noPs, noP, p1, p2, p3]) (heard_none t2 fun E => ert_callK (sx := spFoX T.C_Book T.C_NotABook T.C_InvalidRow T.C_InvalidNumber T.C_NoRanking) (x := .inr (.inr (.inr ((L, badR n), dotsN n, 0)))) eva_nil (eva_cons (ev_int (z := ((0 : Nat) : Int))) (eva_cons (ev_op ev_str (ev_var rfl) (mul_dots n8)) (eva_cons (ev_var rfl) eva_nil))) kg3 ⟨hbd, dl, (by show 0 ≤ 20; decide), f0⟩ fun ed H' h => h)
  refine ds_seq (ds_asg_ownL (dla_cons (dl_lamP (i := 0) T.tabs T.hm__law_right rfl TgS.purse fun l1 e1 t1 => dla_nil ⟨(small (show 1 ≤ 100000 by decide)), ?_⟩)))
  refine ds_seq (ds_drop (dl_append ⟨_, rfl⟩ (dla_cons (dl_lamP (i := 0) T.tabs T.hm__law_right rfl TgS.purse fun l2 e2 t2 => dla_nil ⟨_, _, rfl, rfl, Nat.lt_of_lt_of_le (show 1 < 100000 by decide) (by decide), ?_⟩))))
  refine ds_seq (ds_drop (dl_append ⟨_, rfl⟩ (dla_cons (dl_lamP (i := 0) T.tabs T.hm__law_right rfl TgS.purse fun l3 e3 t3 => dla_nil ⟨_, _, rfl, rfl, Nat.lt_of_lt_of_le (show 2 < 100000 by decide) (by decide), ?_⟩))))
  refine ds_seq (ds_drop (dl_append ⟨_, rfl⟩ (dla_cons (dl_lamP (i := 0) T.tabs T.hm__law_right rfl TgS.purse fun l4 e4 t4 => dla_nil ⟨_, _, rfl, rfl, Nat.lt_of_lt_of_le (show 3 < 100000 by decide) (by decide), ?_⟩))))
  refine ds_freeze 4 rfl (ds_ret (dl_all (B := T.C_Book) (e := ⟨T.C_NotABook, T.C_InvalidRow, T.C_InvalidNumber, T.C_TooMany, T.C_NoRanking⟩) (dla_cons (dl_op (Ev.dl (ev_var rfl) (dl_lst (dla_cons (dl_lamP (i := 0) T.tabs T.hm__law_right rfl TgS.purse fun l5 e5 t5 => dla_nil ⟨(small (show 1 ≤ 100000 by decide)), _, pl_lst (small (show 4 + 1 ≤ 100000 by decide)), dla_cons (Ev.dl (EvN.ev (evn_lst (eva_cons ev_str eva_nil) (small (show 1 ≤ 100000 by decide)))) (dla_nil ⟨[(5, "_law_bad", bookD T.C_Book L (badR n)), (6, "_law_base", bookD T.C_Book L R), (7, "_law_good", .str (tx (goodL n))), (8, "_law_many", .int (n : Nat)), (10, "_law_wide", bookD T.C_Book L W)], _, [⟨l1, [bookD T.C_Book L R]⟩, ⟨l2, [bookD T.C_Book L W]⟩, ⟨l3, [bookD T.C_Book L W]⟩, ⟨l4, [.str (tx (goodL n)), bookD T.C_Book L (badR n)]⟩, ⟨l5, [bookD T.C_Book L W, .str (tx (goodL n))]⟩], ["told"], rfl, ?fnF, (capD_cons rfl rfl rfl (capD_cons rfl rfl rfl (capD_cons rfl rfl rfl (capD_cons rfl rfl rfl (capD_cons rfl rfl rfl capD_nil))))), ?actsF, by simp, ?zF, rfl, rfl⟩))⟩))))))))
  case fnF => exact ⟨(by refine fnv_eq (a := ⟨l1, _⟩) (ns := ["_law_base"]) ?_ e1; rfl), (by refine fnv_eq (a := ⟨l2, _⟩) (ns := ["_law_wide"]) ?_ e2; rfl), (by refine fnv_eq (a := ⟨l3, _⟩) (ns := ["_law_wide"]) ?_ e3; rfl), (by refine fnv_eq (a := ⟨l4, _⟩) (ns := ["_law_good", "_law_bad"]) ?_ e4; rfl), (by refine fnv_eq (a := ⟨l5, _⟩) (ns := ["_law_wide", "_law_good"]) ?_ e5; rfl), trivial⟩
  case zF =>
    intro s hs
    rw [List.mem_singleton.mp hs]; decide +kernel
  case actsF =>
    intro a ha
    simp only [List.mem_cons, List.not_mem_nil, or_false] at ha
    rcases ha with rfl | rfl | rfl | rfl | rfl
    · exact act_ok (ns := ["_law_base"]) e1 (by decide) (capL_cons (List.mem_cons_of_mem _ List.mem_cons_self) capL_nil) (by simp [okCs, okC, c1, c2, c3]) (by simp [noPs, noP, p1, p2, p3]) (heard_told t1 fun E => dl_call_or (s := spStruck T.C_Book) (dla_cons (Ev.dl (ev_var rfl) (dla_nil ⟨(L, R), rfl, ⟨hb, lR⟩, fun d h => trivial⟩))))
    · exact act_ok (ns := ["_law_wide"]) e2 (by decide) (capL_cons (List.mem_cons_of_mem _ (List.mem_cons_of_mem _ (List.mem_cons_of_mem _ (List.mem_cons_of_mem _ List.mem_cons_self)))) capL_nil) (by simp [okCs, okC, c1, c2, c3]) (by simp [noPs, noP, p1, p2, p3]) (heard_told t2 fun E => Ev.dl (ev_call_or (s := spFewAll T.C_Book) (x := (L, W)) (eva_cons (ev_untag (ev_var rfl)) eva_nil) (np_book _ L W) hw fun d h => h) trivial)
    · exact act_ok (ns := ["_law_wide"]) e3 (by decide) (capL_cons (List.mem_cons_of_mem _ (List.mem_cons_of_mem _ (List.mem_cons_of_mem _ (List.mem_cons_of_mem _ List.mem_cons_self)))) capL_nil) (by simp [okCs, okC, c1, c2, c3]) (by simp [noPs, noP, p1, p2, p3]) (heard_told t3 fun E => Ev.dl (ev_call_or (s := spSure T.C_Book) (x := ((L, W), 20)) (eva_cons (ev_untag (ev_var rfl)) (eva_cons (ev_int (z := ((20 : Nat) : Int))) eva_nil)) (np_consX p2 rfl) ⟨hw, (by show 20 ≤ 20; decide)⟩ fun d h => h) trivial)
    · exact act_ok (ns := ["_law_good", "_law_bad"]) e4 (by decide) (capL_cons (List.mem_cons_of_mem _ (List.mem_cons_of_mem _ List.mem_cons_self)) (capL_cons List.mem_cons_self capL_nil)) (by simp [okCs, okC, c1, c2, c3]) (by simp [noPs, noP, p1, p2, p3]) (heard_told t4 fun E => Ev.dl (ev_call_or (s := spFol T.C_Book) (x := ((L, badR n), goodL n, 1)) (eva_cons (ev_untag (ev_var rfl)) (eva_cons (ev_untag (ev_var rfl)) (eva_cons (ev_int (z := ((1 : Nat) : Int))) eva_nil))) (np_consX p3 rfl) ⟨hbd, gl, (by show 1 ≤ 20; decide), f1⟩ fun d h => h) trivial)
    · exact act_ok (ns := ["_law_wide", "_law_good"]) e5 (by decide) (capL_cons (List.mem_cons_of_mem _ (List.mem_cons_of_mem _ (List.mem_cons_of_mem _ (List.mem_cons_of_mem _ List.mem_cons_self)))) (capL_cons (List.mem_cons_of_mem _ (List.mem_cons_of_mem _ List.mem_cons_self)) capL_nil)) (by simp [okCs, okC, c1, c2, c3]) (by simp [noPs, noP, p1, p2, p3]) (heard_told t5 fun E => Ev.dl (ev_call_or (s := spFol T.C_Book) (x := ((L, W), goodL n, 20)) (eva_cons (ev_untag (ev_var rfl)) (eva_cons (ev_untag (ev_var rfl)) (eva_cons (ev_int (z := ((20 : Nat) : Int))) eva_nil))) (np_consX p2 rfl) ⟨hw, gl, (by show 20 ≤ 20; decide), fw⟩ fun d h => h) trivial)

end K37

namespace K37
open PySem PySem.Spec PyProof.Rows L2 Dw
variable [Tabs0]
def spLaw (K : PySem.W.Frag) : Spc where
  ty := List Int
  args := fun ns => [.scr K (ns.map V.int)]
  ok := fun ns => ns.length ≤ 63 ∧ ∀ z ∈ ns, Builtin.Int.intBits z ≤ 1048576
  rel := fun _ d => d = .bl true
end K37

namespace K37
open PySem PySem.Spec PyProof.Rows L2 Dw
variable [Tabs0]
theorem d_law {P : Program} {w : World} {K : PySem.W.Frag} {mg : Str → Option Value} {base : Heap} (T : Txt K w mg) (TB__law_right : LamX.TabB base mg T.lc__law_right T.lt__law_right) (TB_all_lots : LamX.TabB base mg T.lc_all_lots T.lt_all_lots) : FnG P w K mg base 19 T.f_law T.e_law ["_law_cells"] (spLaw K) := by
  refine fnG_ok T.F_law sc_law (fun _ => rfl) fun cdv A outer s' H E hr hG => ?_
  refine ⟨_, (pss_one (ps_ret (pe_cmpR (eqA K hr.units) (pe_lc (own := [("_law_k", 1)]) rfl sc_law.nd (pi_range1 (by rfl) T.n_range (pa_cons (pe_callB (call_max2 rfl) (by rfl) T.n_max (by decide +kernel) (pa_cons pe_int (pa_cons (pe_callB (call_min2 rfl) (by rfl) T.n_min (by decide +kernel) (pa_cons (pe_callB (lenA K) (by rfl) T.n_len (by decide +kernel) (pa_cons (pv 0) pa_nil)) (pa_cons pe_int pa_nil))) pa_nil))) pa_nil)) (blkOk_by (own := [("_law_k", 1)]) (N := N_law) (sc := (defScope s_law)) (by decide +kernel)) (fun _ _ _ _ _ => pg_name (i := 1) sc_law.nd rfl (Or.inl rfl)) (fun _ _ _ _ _ => pts_one (pt_not (truA K (pe_callG (E := E0) (d__law_right T TB__law_right TB_all_lots) (hr.mono (by decide)) hG (by rfl) T.m__law_right T.F__law_right.kp T.b__law_right (pa_cons (pe_call (d__law_well T) (hr.mono (by decide)) (by rfl) T.m__law_well T.F__law_well.kp T.b__law_well .nil pass0 (pa_cons (pe_call (d__law_cell T) (hr.mono (by decide)) (by rfl) T.m__law_cell T.F__law_cell.kp T.b__law_cell .nil pass0 (pa_cons (pv 0) (pa_cons (pv 1) pa_nil))) pa_nil)) pa_nil))))) (fun _ _ _ _ _ => (pv 1))) (pe_lst pa_nil) (nomark _)))), fun x hx => ?_⟩
  obtain ⟨ns, rfl⟩ : ∃ l : List Int, l = x := ⟨x, rfl⟩
  obtain ⟨hn, hbit⟩ := hx
  have hn : ns.length ≤ 63 := hn
  have l0 : (ns.map V.int).length = ns.length := List.length_map ..
  have em : ∃ m : Nat, m ≤ 63 ∧ (if (if (4 : Int) < ((ns.map V.int).length : Int) then (4 : Int) else ((ns.map V.int).length : Int)) > 2 then (if (4 : Int) < ((ns.map V.int).length : Int) then (4 : Int) else ((ns.map V.int).length : Int)) else 2) = (m : Int) := by
    rw [l0]
    by_cases h : (4 : Int) < (ns.length : Int)
    · rw [if_pos h, if_pos (by decide)]; exact ⟨4, by decide, rfl⟩
    · rw [if_neg h]
      by_cases h2 : (ns.length : Int) > 2
      · rw [if_pos h2]; exact ⟨ns.length, by omega, rfl⟩
      · rw [if_neg h2]; exact ⟨2, by decide, rfl⟩
  obtain ⟨m, hm, em⟩ := em
  refine ds_ret (dl_op (dl_lc (di_range (dla_cons (Ev.dl (ev_max2 ev_int (ev_min2 (ev_lenX (ev_var rfl)) ev_int)) (dla_nil ⟨m, ?_, by omega, by rw [rng_length]; omega, fun i acc Γ' => Γ' = [.val (.scr K (ns.map V.int)), .unset] ∧ acc = [], ⟨rfl, rfl⟩, fun i x acc Γ' hx' ⟨e, ea⟩ => ?_, fun acc Γ' ⟨e, ea⟩ => ?_⟩))))))
  · rw [em]
  · subst e
    subst ea
    obtain ⟨hi, rfl⟩ := rng_get hx'
    exact ⟨[1], _, dg_name, fun i hi => hi, dlt_not (dlt_tru_bl (dl_wellT (K := K) (s := spRightJ) (x := ()) rfl trivial (fun d h => h) (dl_call (s := spCell K) (dla_cons (Ev.dl (ev_var rfl) (dla_cons (Ev.dl (ev_var rfl) (dla_nil ⟨(ns, i), rfl, hn, fun d hd => ⟨hd, ⟨0, _, rfl⟩, true, rfl, (fun h => nomatch h), fun _ => ⟨rfl, rfl⟩⟩⟩))))))))⟩
  · subst e
    subst ea
    exact Ev.dl (EvN.ev (evn_lst eva_nil (Nat.zero_le _))) ⟨.bl true, eq_nil (k := 1) rfl (by decide), rfl⟩

end K37

namespace K37
open PySem PySem.Spec PyProof.Rows L2 Dw
variable [Tabs0]
theorem kit_cs {K : PySem.W.Frag} {C : Addr} (h : PySem.W.subIn K (.ref C) (.type "str") = some false) : PySem.W.kitOne K (.ref C) (.type "str") = some false := by
  unfold PySem.W.kitOne
  rw [if_neg (by intro z; cases beq_iff_eq.mp z)]
  show (if PySem.W.kitMeta "str" = true then PySem.W.subIn K (.ref C) (.type "str") else none) = some false
  rw [if_pos (by decide +kernel)]
  exact h

end K37

namespace Dw
open PySem PySem.Spec PyProof.Rows L2
/-! the answers of isinstance and of an except clause, from what the written part says -/
theorem kit_cls_of {K : PySem.W.Frag} {D0 C : Addr} {b : Bool} (hd : PySem.W.hasDictIn K C = true) (ht : PySem.W.typeIn K (.ref C) = some (.type "type")) (hs : PySem.W.subIn K (.ref D0) (.ref C) = some b) : PySem.W.kitCls K (.ref D0) (.ref C) = some b := by
  obtain ⟨cd, hc, _⟩ := PySem.W.any_some hd
  show (if ((PySem.W.clsIn K C).isSome && PySem.W.typeIn K (.ref C) == some (.type "type")) = true then PySem.W.subIn K (.ref D0) (.ref C) else none) = some b
  rw [if_pos (by rw [hc, ht]; rfl)]
  exact hs
theorem exm_one1 {K : PySem.W.Frag} {D0 C : Addr} {b : Bool} (s1 : PySem.W.subIn K (.ref C) (.type "BaseException") = some true) (hd : PySem.W.hasDictIn K C = true) (ht : PySem.W.typeIn K (.ref C) = some (.type "type")) (h : PySem.W.subIn K (.ref D0) (.ref C) = some b) : PySem.W.exmOne K (.ref D0) (.ref C) = some b := by
  unfold PySem.W.exmOne
  rw [if_pos (by rw [s1]; rfl)]
  exact kit_cls_of hd ht h
end Dw

namespace K37
open PySem PySem.Spec PyProof.Rows L2 Dw
theorem kb_fewest_wrong_book {K : PySem.W.Frag} {f : Addr} {od an : Option Addr} {sl : Array (Option Value)} {oc kV dc pm cd ct : Value} (l : K.lookup f = some ⟨oc, od, .func (PySem.W.fnOf "fewest_wrong" "fewest_wrong" (defArgs s_fewest_wrong) (defBody s_fewest_wrong) (defScope s_fewest_wrong) .none kV dc pm an cd ct), sl⟩) (c : PySem.W.codeIn K cd "fewest_wrong" = true) (k : PySem.W.keepIn K (.ref f) = true) : KBinds K (PySem.W.fnOf "fewest_wrong" "fewest_wrong" (defArgs s_fewest_wrong) (defBody s_fewest_wrong) (defScope s_fewest_wrong) .none kV dc pm an cd ct) ["book"] ["book"] (fun us ws => match us, ws with | [], [k0] => [k0] | _, _ => []) (fun us ws => match us, ws with | [], [k0] => [k0] | _, _ => []) := by
  refine ⟨fun s us ws X hl => ?_, fun {vs us zs ws} r r' => ?_⟩
  · match us, ws, hl with
    | [], [k0], _ => exact .of_eq rfl
    | _ :: _, _, hl => exact absurd (show (0 : Nat) = 1 from hl) (by decide)
    | [], [], hl => exact absurd (show (0 : Nat) = 1 from hl) (by decide)
    | [], _ :: _ :: _, hl => exact absurd (show (0 : Nat) = 1 from hl) (by decide)
  · match vs, us, zs, ws, r, r' with
    | _, _, _, _, .nil, .cons q0 (.nil) => exact .cons q0 (.nil)
    | _, _, _, _, .cons p0 _, _ => exact .nil
    | _, _, _, _, .nil, .nil => exact .nil
    | _, _, _, _, .nil, .cons q0 (.cons q1 _) => exact .nil
theorem kb_follows_with_most_row_book {K : PySem.W.Frag} {f : Addr} {od an : Option Addr} {sl : Array (Option Value)} {oc kV dc pm cd ct : Value} (l : K.lookup f = some ⟨oc, od, .func (PySem.W.fnOf "follows_with" "follows_with" (defArgs s_follows_with) (defBody s_follows_with) (defScope s_follows_with) .none kV dc pm an cd ct), sl⟩) (c : PySem.W.codeIn K cd "follows_with" = true) (k : PySem.W.keepIn K (.ref f) = true) : KBinds K (PySem.W.fnOf "follows_with" "follows_with" (defArgs s_follows_with) (defBody s_follows_with) (defScope s_follows_with) .none kV dc pm an cd ct) ["book", "row", "most"] ["most", "row", "book"] (fun us ws => match us, ws with | [], [k0, k1, k2] => [k2, k1, k0] | _, _ => []) (fun us ws => match us, ws with | [], [k0, k1, k2] => [k2, k1, k0] | _, _ => []) := by
  refine ⟨fun s us ws X hl => ?_, fun {vs us zs ws} r r' => ?_⟩
  · match us, ws, hl with
    | [], [k0, k1, k2], _ => exact .of_eq rfl
    | _ :: _, _, hl => exact absurd (show (0 : Nat) = 3 from hl) (by decide)
    | [], [], hl => exact absurd (show (0 : Nat) = 3 from hl) (by decide)
    | [], [_], hl => exact absurd (show (0 : Nat) = 3 from hl) (by decide)
    | [], [_, _], hl => exact absurd (show (0 : Nat) = 3 from hl) (by decide)
    | [], _ :: _ :: _ :: _ :: _, hl => exact absurd (show (0 : Nat) = 3 from hl) (by decide)
  · match vs, us, zs, ws, r, r' with
    | _, _, _, _, .nil, .cons q0 (.cons q1 (.cons q2 (.nil))) => exact .cons q2 (.cons q1 (.cons q0 (.nil)))
    | _, _, _, _, .cons p0 _, _ => exact .nil
    | _, _, _, _, .nil, .nil => exact .nil
    | _, _, _, _, .nil, .cons q0 (.nil) => exact .nil
    | _, _, _, _, .nil, .cons q0 (.cons q1 (.nil)) => exact .nil
    | _, _, _, _, .nil, .cons q0 (.cons q1 (.cons q2 (.cons q3 _))) => exact .nil
theorem kb_struck_book {K : PySem.W.Frag} {f : Addr} {od an : Option Addr} {sl : Array (Option Value)} {oc kV dc pm cd ct : Value} (l : K.lookup f = some ⟨oc, od, .func (PySem.W.fnOf "struck" "struck" (defArgs s_struck) (defBody s_struck) (defScope s_struck) .none kV dc pm an cd ct), sl⟩) (c : PySem.W.codeIn K cd "struck" = true) (k : PySem.W.keepIn K (.ref f) = true) : KBinds K (PySem.W.fnOf "struck" "struck" (defArgs s_struck) (defBody s_struck) (defScope s_struck) .none kV dc pm an cd ct) ["book"] ["book"] (fun us ws => match us, ws with | [], [k0] => [k0] | _, _ => []) (fun us ws => match us, ws with | [], [k0] => [k0] | _, _ => []) := by
  refine ⟨fun s us ws X hl => ?_, fun {vs us zs ws} r r' => ?_⟩
  · match us, ws, hl with
    | [], [k0], _ => exact .of_eq rfl
    | _ :: _, _, hl => exact absurd (show (0 : Nat) = 1 from hl) (by decide)
    | [], [], hl => exact absurd (show (0 : Nat) = 1 from hl) (by decide)
    | [], _ :: _ :: _, hl => exact absurd (show (0 : Nat) = 1 from hl) (by decide)
  · match vs, us, zs, ws, r, r' with
    | _, _, _, _, .nil, .cons q0 (.nil) => exact .cons q0 (.nil)
    | _, _, _, _, .cons p0 _, _ => exact .nil
    | _, _, _, _, .nil, .nil => exact .nil
    | _, _, _, _, .nil, .cons q0 (.cons q1 _) => exact .nil
theorem kb_surely_wrong_most_book {K : PySem.W.Frag} {f : Addr} {od an : Option Addr} {sl : Array (Option Value)} {oc kV dc pm cd ct : Value} (l : K.lookup f = some ⟨oc, od, .func (PySem.W.fnOf "surely_wrong" "surely_wrong" (defArgs s_surely_wrong) (defBody s_surely_wrong) (defScope s_surely_wrong) .none kV dc pm an cd ct), sl⟩) (c : PySem.W.codeIn K cd "surely_wrong" = true) (k : PySem.W.keepIn K (.ref f) = true) : KBinds K (PySem.W.fnOf "surely_wrong" "surely_wrong" (defArgs s_surely_wrong) (defBody s_surely_wrong) (defScope s_surely_wrong) .none kV dc pm an cd ct) ["book", "most"] ["most", "book"] (fun us ws => match us, ws with | [], [k0, k1] => [k1, k0] | _, _ => []) (fun us ws => match us, ws with | [], [k0, k1] => [k1, k0] | _, _ => []) := by
  refine ⟨fun s us ws X hl => ?_, fun {vs us zs ws} r r' => ?_⟩
  · match us, ws, hl with
    | [], [k0, k1], _ => exact .of_eq rfl
    | _ :: _, _, hl => exact absurd (show (0 : Nat) = 2 from hl) (by decide)
    | [], [], hl => exact absurd (show (0 : Nat) = 2 from hl) (by decide)
    | [], [_], hl => exact absurd (show (0 : Nat) = 2 from hl) (by decide)
    | [], _ :: _ :: _ :: _, hl => exact absurd (show (0 : Nat) = 2 from hl) (by decide)
  · match vs, us, zs, ws, r, r' with
    | _, _, _, _, .nil, .cons q0 (.cons q1 (.nil)) => exact .cons q1 (.cons q0 (.nil))
    | _, _, _, _, .cons p0 _, _ => exact .nil
    | _, _, _, _, .nil, .nil => exact .nil
    | _, _, _, _, .nil, .cons q0 (.nil) => exact .nil
    | _, _, _, _, .nil, .cons q0 (.cons q1 (.cons q2 _)) => exact .nil
abbrev qn_all_lots (f c : Addr) : Str := (envOfC "all_lots" (defScope s_all_lots) 0 f (.ref c)).qual ++ "<lambda>"
abbrev qn__law_right (f c : Addr) : Str := (envOfC "_law_right" (defScope s__law_right) 0 f (.ref c)).qual ++ "<lambda>"
theorem all_mk {l : PySem.W.OpenLaw} {q : Program} {w : World} {K : PySem.W.Frag} {h : Heap} {mg : Str → Option Value} {fa : Addr} (X : K.In h) (G : h.Ns mainGlobals mg) (hfa : mg "law" = some (.ref fa)) (tb : ∀ (y : Str) (f : Addr), ((recsOf q).any fun e => e.name == y) = true → mg y = some (.ref f) → TabOf K f h)
    {C_Book : Addr}
    {C_InvalidCases : Addr}
    {C_InvalidNumber : Addr}
    {C_InvalidOffers : Addr}
    {C_InvalidRanking : Addr}
    {C_InvalidRow : Addr}
    {C_NoRanking : Addr}
    {C_NotABook : Addr}
    {C_NotACase : Addr}
    {C_TooMany : Addr}
    {C_UnknownName : Addr}
    {xnm_InvalidNumber : Str} {xq_InvalidNumber : Str} {xN_InvalidNumber : Addr} {xbs_InvalidNumber xbm_InvalidNumber : List Value} {xw0_InvalidNumber : List Str} {xw1_InvalidNumber : List Value} {xw2_InvalidNumber : Bool} {xw3_InvalidNumber : Option Bool} {xw4_InvalidNumber : Option Addr} {xw5_InvalidNumber xw6_InvalidNumber xw7_InvalidNumber xw8_InvalidNumber xw9_InvalidNumber : Option Value}
    {xnm_InvalidRow : Str} {xq_InvalidRow : Str} {xN_InvalidRow : Addr} {xbs_InvalidRow xbm_InvalidRow : List Value} {xw0_InvalidRow : List Str} {xw1_InvalidRow : List Value} {xw2_InvalidRow : Bool} {xw3_InvalidRow : Option Bool} {xw4_InvalidRow : Option Addr} {xw5_InvalidRow xw6_InvalidRow xw7_InvalidRow xw8_InvalidRow xw9_InvalidRow : Option Value}
    {xnm_NotABook : Str} {xq_NotABook : Str} {xN_NotABook : Addr} {xbs_NotABook xbm_NotABook : List Value} {xw0_NotABook : List Str} {xw1_NotABook : List Value} {xw2_NotABook : Bool} {xw3_NotABook : Option Bool} {xw4_NotABook : Option Addr} {xw5_NotABook xw6_NotABook xw7_NotABook xw8_NotABook xw9_NotABook : Option Value}
    {xnm_TooMany : Str} {xq_TooMany : Str} {xN_TooMany : Addr} {xbs_TooMany xbm_TooMany : List Value} {xw0_TooMany : List Str} {xw1_TooMany : List Value} {xw2_TooMany : Bool} {xw3_TooMany : Option Bool} {xw4_TooMany : Option Addr} {xw5_TooMany xw6_TooMany xw7_TooMany xw8_TooMany xw9_TooMany : Option Value}
    {f_is_name : Addr} {od_is_name an_is_name : Option Addr} {sl_is_name : Array (Option Value)} {oc_is_name kV_is_name dc_is_name pm_is_name cd_is_name ct_is_name : Value}
    {f_are_names : Addr} {od_are_names an_are_names : Option Addr} {sl_are_names : Array (Option Value)} {oc_are_names kV_are_names dc_are_names pm_are_names cd_are_names ct_are_names : Value}
    {f_is_any_row : Addr} {od_is_any_row an_is_any_row : Option Addr} {sl_is_any_row : Array (Option Value)} {oc_is_any_row kV_is_any_row dc_is_any_row pm_is_any_row cd_is_any_row ct_is_any_row : Value}
    {f_is_row : Addr} {od_is_row an_is_row : Option Addr} {sl_is_row : Array (Option Value)} {oc_is_row kV_is_row dc_is_row pm_is_row cd_is_row ct_is_row : Value}
    {f_is_whole : Addr} {od_is_whole an_is_whole : Option Addr} {sl_is_whole : Array (Option Value)} {oc_is_whole kV_is_whole dc_is_whole pm_is_whole cd_is_whole ct_is_whole : Value}
    {f_is_index : Addr} {od_is_index an_is_index : Option Addr} {sl_is_index : Array (Option Value)} {oc_is_index kV_is_index dc_is_index pm_is_index cd_is_index ct_is_index : Value}
    {f_InvalidRow___init__ : Addr} {od_InvalidRow___init__ an_InvalidRow___init__ : Option Addr} {sl_InvalidRow___init__ : Array (Option Value)} {oc_InvalidRow___init__ kV_InvalidRow___init__ dc_InvalidRow___init__ pm_InvalidRow___init__ cd_InvalidRow___init__ ct_InvalidRow___init__ : Value}
    {f_check_row : Addr} {od_check_row an_check_row : Option Addr} {sl_check_row : Array (Option Value)} {oc_check_row kV_check_row dc_check_row pm_check_row cd_check_row ct_check_row : Value}
    {f_read_book : Addr} {od_read_book an_read_book : Option Addr} {sl_read_book : Array (Option Value)} {oc_read_book kV_read_book dc_read_book pm_read_book cd_read_book ct_read_book : Value}
    {f_turned : Addr} {od_turned an_turned : Option Addr} {sl_turned : Array (Option Value)} {oc_turned kV_turned dc_turned pm_turned cd_turned ct_turned : Value}
    {f_NotABook___init__ : Addr} {od_NotABook___init__ an_NotABook___init__ : Option Addr} {sl_NotABook___init__ : Array (Option Value)} {oc_NotABook___init__ kV_NotABook___init__ dc_NotABook___init__ pm_NotABook___init__ cd_NotABook___init__ ct_NotABook___init__ : Value}
    {f_check_book : Addr} {od_check_book an_check_book : Option Addr} {sl_check_book : Array (Option Value)} {oc_check_book kV_check_book dc_check_book pm_check_book cd_check_book ct_check_book : Value}
    {f_head_of : Addr} {od_head_of an_head_of : Option Addr} {sl_head_of : Array (Option Value)} {oc_head_of kV_head_of dc_head_of pm_head_of cd_head_of ct_head_of : Value}
    {f_rules_of : Addr} {od_rules_of an_rules_of : Option Addr} {sl_rules_of : Array (Option Value)} {oc_rules_of kV_rules_of dc_rules_of pm_rules_of cd_rules_of ct_rules_of : Value}
    {f_sides : Addr} {od_sides an_sides : Option Addr} {sl_sides : Array (Option Value)} {oc_sides kV_sides dc_sides pm_sides cd_sides ct_sides : Value}
    {f_rules_behind : Addr} {od_rules_behind an_rules_behind : Option Addr} {sl_rules_behind : Array (Option Value)} {oc_rules_behind kV_rules_behind dc_rules_behind pm_rules_behind cd_rules_behind ct_rules_behind : Value}
    {f_steps : Addr} {od_steps an_steps : Option Addr} {sl_steps : Array (Option Value)} {oc_steps kV_steps dc_steps pm_steps cd_steps ct_steps : Value}
    {f_has_sign : Addr} {od_has_sign an_has_sign : Option Addr} {sl_has_sign : Array (Option Value)} {oc_has_sign kV_has_sign dc_has_sign pm_has_sign cd_has_sign ct_has_sign : Value}
    {f_split : Addr} {od_split an_split : Option Addr} {sl_split : Array (Option Value)} {oc_split kV_split dc_split pm_split cd_split ct_split : Value}
    {f_some_fits : Addr} {od_some_fits an_some_fits : Option Addr} {sl_some_fits : Array (Option Value)} {oc_some_fits kV_some_fits dc_some_fits pm_some_fits cd_some_fits ct_some_fits : Value}
    {f_all_lots : Addr} {od_all_lots an_all_lots : Option Addr} {sl_all_lots : Array (Option Value)} {oc_all_lots kV_all_lots dc_all_lots pm_all_lots ct_all_lots : Value}
    {lc_all_lots lt_all_lots : Addr} {lo_all_lots : Value} {ld_all_lots : Option Addr} {lv_all_lots : Array Value} {ls_all_lots : Array (Option Value)}
    {f_has_part : Addr} {od_has_part an_has_part : Option Addr} {sl_has_part : Array (Option Value)} {oc_has_part kV_has_part dc_has_part pm_has_part cd_has_part ct_has_part : Value}
    {f_InvalidNumber___init__ : Addr} {od_InvalidNumber___init__ an_InvalidNumber___init__ : Option Addr} {sl_InvalidNumber___init__ : Array (Option Value)} {oc_InvalidNumber___init__ kV_InvalidNumber___init__ dc_InvalidNumber___init__ pm_InvalidNumber___init__ cd_InvalidNumber___init__ ct_InvalidNumber___init__ : Value}
    {f_check_most : Addr} {od_check_most an_check_most : Option Addr} {sl_check_most : Array (Option Value)} {oc_check_most kV_check_most dc_check_most pm_check_most cd_check_most ct_check_most : Value}
    {f_Book_names : Addr} {od_Book_names an_Book_names : Option Addr} {sl_Book_names : Array (Option Value)} {oc_Book_names kV_Book_names dc_Book_names pm_Book_names cd_Book_names ct_Book_names : Value}
    {q_Book_names : Addr} {rest_Book_names : List Value}
    {f_Book_rows : Addr} {od_Book_rows an_Book_rows : Option Addr} {sl_Book_rows : Array (Option Value)} {oc_Book_rows kV_Book_rows dc_Book_rows pm_Book_rows cd_Book_rows ct_Book_rows : Value}
    {q_Book_rows : Addr} {rest_Book_rows : List Value}
    {f_fits_without : Addr} {od_fits_without an_fits_without : Option Addr} {sl_fits_without : Array (Option Value)} {oc_fits_without kV_fits_without dc_fits_without pm_fits_without cd_fits_without ct_fits_without : Value}
    {f_TooMany___init__ : Addr} {od_TooMany___init__ an_TooMany___init__ : Option Addr} {sl_TooMany___init__ : Array (Option Value)} {oc_TooMany___init__ kV_TooMany___init__ dc_TooMany___init__ pm_TooMany___init__ cd_TooMany___init__ ct_TooMany___init__ : Value}
    {f_struck : Addr} {od_struck an_struck : Option Addr} {sl_struck : Array (Option Value)} {oc_struck kV_struck dc_struck pm_struck cd_struck ct_struck : Value}
    {f_count_fallen : Addr} {od_count_fallen an_count_fallen : Option Addr} {sl_count_fallen : Array (Option Value)} {oc_count_fallen kV_count_fallen dc_count_fallen pm_count_fallen cd_count_fallen ct_count_fallen : Value}
    {f_least_wrong : Addr} {od_least_wrong an_least_wrong : Option Addr} {sl_least_wrong : Array (Option Value)} {oc_least_wrong kV_least_wrong dc_least_wrong pm_least_wrong cd_least_wrong ct_least_wrong : Value}
    {f_fewest_of_all : Addr} {od_fewest_of_all an_fewest_of_all : Option Addr} {sl_fewest_of_all : Array (Option Value)} {oc_fewest_of_all kV_fewest_of_all dc_fewest_of_all pm_fewest_of_all cd_fewest_of_all ct_fewest_of_all : Value}
    {f_fewest_wrong : Addr} {od_fewest_wrong an_fewest_wrong : Option Addr} {sl_fewest_wrong : Array (Option Value)} {oc_fewest_wrong kV_fewest_wrong dc_fewest_wrong pm_fewest_wrong cd_fewest_wrong ct_fewest_wrong : Value}
    {f_holds_for_some : Addr} {od_holds_for_some an_holds_for_some : Option Addr} {sl_holds_for_some : Array (Option Value)} {oc_holds_for_some kV_holds_for_some dc_holds_for_some pm_holds_for_some cd_holds_for_some ct_holds_for_some : Value}
    {f_surely_wrong : Addr} {od_surely_wrong an_surely_wrong : Option Addr} {sl_surely_wrong : Array (Option Value)} {oc_surely_wrong kV_surely_wrong dc_surely_wrong pm_surely_wrong cd_surely_wrong ct_surely_wrong : Value}
    {f_follows_with : Addr} {od_follows_with an_follows_with : Option Addr} {sl_follows_with : Array (Option Value)} {oc_follows_with kV_follows_with dc_follows_with pm_follows_with cd_follows_with ct_follows_with : Value}
    {f__law_cell : Addr} {od__law_cell an__law_cell : Option Addr} {sl__law_cell : Array (Option Value)} {oc__law_cell kV__law_cell dc__law_cell pm__law_cell cd__law_cell ct__law_cell : Value}
    {f__law_well : Addr} {od__law_well an__law_well : Option Addr} {sl__law_well : Array (Option Value)} {oc__law_well kV__law_well dc__law_well pm__law_well cd__law_well ct__law_well : Value}
    {f__law_dip : Addr} {od__law_dip an__law_dip : Option Addr} {sl__law_dip : Array (Option Value)} {oc__law_dip kV__law_dip dc__law_dip pm__law_dip cd__law_dip ct__law_dip : Value}
    {f__law_pick : Addr} {od__law_pick an__law_pick : Option Addr} {sl__law_pick : Array (Option Value)} {oc__law_pick kV__law_pick dc__law_pick pm__law_pick cd__law_pick ct__law_pick : Value}
    {f__law_tags : Addr} {od__law_tags an__law_tags : Option Addr} {sl__law_tags : Array (Option Value)} {oc__law_tags kV__law_tags dc__law_tags pm__law_tags cd__law_tags ct__law_tags : Value}
    {f__law_turned : Addr} {od__law_turned an__law_turned : Option Addr} {sl__law_turned : Array (Option Value)} {oc__law_turned kV__law_turned dc__law_turned pm__law_turned cd__law_turned ct__law_turned : Value}
    {f__law_row : Addr} {od__law_row an__law_row : Option Addr} {sl__law_row : Array (Option Value)} {oc__law_row kV__law_row dc__law_row pm__law_row cd__law_row ct__law_row : Value}
    {f__law_book_page : Addr} {od__law_book_page an__law_book_page : Option Addr} {sl__law_book_page : Array (Option Value)} {oc__law_book_page kV__law_book_page dc__law_book_page pm__law_book_page cd__law_book_page ct__law_book_page : Value}
    {f_Book___repr__ : Addr} {od_Book___repr__ an_Book___repr__ : Option Addr} {sl_Book___repr__ : Array (Option Value)} {oc_Book___repr__ kV_Book___repr__ dc_Book___repr__ pm_Book___repr__ cd_Book___repr__ ct_Book___repr__ : Value}
    {f__law_heard : Addr} {od__law_heard an__law_heard : Option Addr} {sl__law_heard : Array (Option Value)} {oc__law_heard kV__law_heard dc__law_heard pm__law_heard cd__law_heard ct__law_heard : Value}
    {f__law_all_heard : Addr} {od__law_all_heard an__law_all_heard : Option Addr} {sl__law_all_heard : Array (Option Value)} {oc__law_all_heard kV__law_all_heard dc__law_all_heard pm__law_all_heard cd__law_all_heard ct__law_all_heard : Value}
    {f__law_any_rows : Addr} {od__law_any_rows an__law_any_rows : Option Addr} {sl__law_any_rows : Array (Option Value)} {oc__law_any_rows kV__law_any_rows dc__law_any_rows pm__law_any_rows cd__law_any_rows ct__law_any_rows : Value}
    {f_Book___init__ : Addr} {od_Book___init__ an_Book___init__ : Option Addr} {sl_Book___init__ : Array (Option Value)} {oc_Book___init__ kV_Book___init__ dc_Book___init__ pm_Book___init__ cd_Book___init__ ct_Book___init__ : Value}
    {f_Book___str__ : Addr} {od_Book___str__ an_Book___str__ : Option Addr} {sl_Book___str__ : Array (Option Value)} {oc_Book___str__ kV_Book___str__ dc_Book___str__ pm_Book___str__ cd_Book___str__ ct_Book___str__ : Value}
    {f__law_right : Addr} {od__law_right an__law_right : Option Addr} {sl__law_right : Array (Option Value)} {oc__law_right kV__law_right dc__law_right pm__law_right ct__law_right : Value}
    {lc__law_right lt__law_right : Addr} {lo__law_right : Value} {ld__law_right : Option Addr} {lv__law_right : Array Value} {ls__law_right : Array (Option Value)}
    {f_law : Addr} {od_law an_law : Option Addr} {sl_law : Array (Option Value)} {oc_law kV_law dc_law pm_law cd_law ct_law : Value}
    {t_LETTERS : Tok}
    {t_MOST_LETTERS : Tok}
    {t_MOST_ROWS : Tok}
    {t_MOST_RULES : Tok}
    {t_MOST_STRUCK : Tok}
    {a_OPPOSITES : Addr} {es_OPPOSITES : Array DictEntry} {n_OPPOSITES : Nat}
    {tk_OPPOSITES_43 : Tok}
    {tk_OPPOSITES_45 : Tok}
    {tk_OPPOSITES_46 : Tok}
    {t_SIGNS : Tok}
    (cm_Book : PySem.W.nsIn K mainGlobals "Book" = some (some (.ref C_Book)))
    (cpg_Book : PySem.W.plainGet K C_Book Str.empty = true)
    (chd_Book : PySem.W.hasDictIn K C_Book = true)
    (cpo_Book : PySem.W.plainOver K C_Book = true)
    (csa_Book : PySem.W.findIn K (.ref C_Book) "__setattr__" = some (some (.builtin "object.__setattr__")))
    (cmk_Book : PySem.W.makesIn K C_Book = true)
    (ckc_Book : PySem.W.keepIn K (.ref C_Book) = true)
    (cia_Book : PySem.W.findIn K (.ref C_Book) "__class__" = some (some (.builtin "object.__class__")))
    (cim_Book : PySem.W.mroIn K C_Book (.type "object") = some true)
    (cm_InvalidCases : PySem.W.nsIn K mainGlobals "InvalidCases" = some (some (.ref C_InvalidCases)))
    (cm_InvalidNumber : PySem.W.nsIn K mainGlobals "InvalidNumber" = some (some (.ref C_InvalidNumber)))
    (cm_InvalidOffers : PySem.W.nsIn K mainGlobals "InvalidOffers" = some (some (.ref C_InvalidOffers)))
    (cm_InvalidRanking : PySem.W.nsIn K mainGlobals "InvalidRanking" = some (some (.ref C_InvalidRanking)))
    (cm_InvalidRow : PySem.W.nsIn K mainGlobals "InvalidRow" = some (some (.ref C_InvalidRow)))
    (cm_NoRanking : PySem.W.nsIn K mainGlobals "NoRanking" = some (some (.ref C_NoRanking)))
    (cm_NotABook : PySem.W.nsIn K mainGlobals "NotABook" = some (some (.ref C_NotABook)))
    (cm_NotACase : PySem.W.nsIn K mainGlobals "NotACase" = some (some (.ref C_NotACase)))
    (cm_TooMany : PySem.W.nsIn K mainGlobals "TooMany" = some (some (.ref C_TooMany)))
    (cm_UnknownName : PySem.W.nsIn K mainGlobals "UnknownName" = some (some (.ref C_UnknownName)))
    (xh_InvalidCases : PySem.W.hasDictIn K C_InvalidCases = true)
    (xt_InvalidCases : PySem.W.typeIn K (.ref C_InvalidCases) = some (.type "type"))
    (xh_InvalidNumber : PySem.W.hasDictIn K C_InvalidNumber = true)
    (xt_InvalidNumber : PySem.W.typeIn K (.ref C_InvalidNumber) = some (.type "type"))
    (xh_InvalidOffers : PySem.W.hasDictIn K C_InvalidOffers = true)
    (xt_InvalidOffers : PySem.W.typeIn K (.ref C_InvalidOffers) = some (.type "type"))
    (xh_InvalidRanking : PySem.W.hasDictIn K C_InvalidRanking = true)
    (xt_InvalidRanking : PySem.W.typeIn K (.ref C_InvalidRanking) = some (.type "type"))
    (xh_InvalidRow : PySem.W.hasDictIn K C_InvalidRow = true)
    (xt_InvalidRow : PySem.W.typeIn K (.ref C_InvalidRow) = some (.type "type"))
    (xh_NoRanking : PySem.W.hasDictIn K C_NoRanking = true)
    (xt_NoRanking : PySem.W.typeIn K (.ref C_NoRanking) = some (.type "type"))
    (xh_NotABook : PySem.W.hasDictIn K C_NotABook = true)
    (xt_NotABook : PySem.W.typeIn K (.ref C_NotABook) = some (.type "type"))
    (xh_NotACase : PySem.W.hasDictIn K C_NotACase = true)
    (xt_NotACase : PySem.W.typeIn K (.ref C_NotACase) = some (.type "type"))
    (xh_TooMany : PySem.W.hasDictIn K C_TooMany = true)
    (xt_TooMany : PySem.W.typeIn K (.ref C_TooMany) = some (.type "type"))
    (xh_UnknownName : PySem.W.hasDictIn K C_UnknownName = true)
    (xt_UnknownName : PySem.W.typeIn K (.ref C_UnknownName) = some (.type "type"))
    (xs_InvalidCases : PySem.W.subIn K (.ref C_InvalidCases) (.type "BaseException") = some true)
    (xs_InvalidNumber : PySem.W.subIn K (.ref C_InvalidNumber) (.type "BaseException") = some true)
    (xs_InvalidOffers : PySem.W.subIn K (.ref C_InvalidOffers) (.type "BaseException") = some true)
    (xs_InvalidRanking : PySem.W.subIn K (.ref C_InvalidRanking) (.type "BaseException") = some true)
    (xs_InvalidRow : PySem.W.subIn K (.ref C_InvalidRow) (.type "BaseException") = some true)
    (xs_NoRanking : PySem.W.subIn K (.ref C_NoRanking) (.type "BaseException") = some true)
    (xs_NotABook : PySem.W.subIn K (.ref C_NotABook) (.type "BaseException") = some true)
    (xs_NotACase : PySem.W.subIn K (.ref C_NotACase) (.type "BaseException") = some true)
    (xs_TooMany : PySem.W.subIn K (.ref C_TooMany) (.type "BaseException") = some true)
    (xs_UnknownName : PySem.W.subIn K (.ref C_UnknownName) (.type "BaseException") = some true)
    (xga_InvalidNumber : PySem.W.findIn K (.ref C_InvalidNumber) "__getattribute__" = some (some (.builtin "BaseException.__getattribute__")))
    (xgt_InvalidNumber : PySem.W.findIn K (.ref C_InvalidNumber) "__getattr__" = some (none))
    (xcl_InvalidNumber : PySem.W.findIn K (.ref C_InvalidNumber) "__class__" = some (some (.builtin "object.__class__")))
    (xo_InvalidNumber : PySem.W.mroIn K C_InvalidNumber (.type "object") = some true)
    (xp_InvalidNumber : PySem.W.keepIn K (.ref C_InvalidNumber) = true)
    (xu_InvalidNumber_InvalidNumber : PySem.W.subIn K (.ref C_InvalidNumber) (.ref C_InvalidNumber) = some true)
    (xu_InvalidNumber_NotABook : PySem.W.subIn K (.ref C_InvalidNumber) (.ref C_NotABook) = some false)
    (xu_InvalidNumber_NotACase : PySem.W.subIn K (.ref C_InvalidNumber) (.ref C_NotACase) = some false)
    (xu_InvalidNumber_UnknownName : PySem.W.subIn K (.ref C_InvalidNumber) (.ref C_UnknownName) = some false)
    (xu_InvalidNumber_InvalidRanking : PySem.W.subIn K (.ref C_InvalidNumber) (.ref C_InvalidRanking) = some false)
    (xu_InvalidNumber_InvalidRow : PySem.W.subIn K (.ref C_InvalidNumber) (.ref C_InvalidRow) = some false)
    (xL_InvalidNumber : K.lookup C_InvalidNumber = some (PySem.excClassObj xnm_InvalidNumber xq_InvalidNumber C_InvalidNumber xN_InvalidNumber xbs_InvalidNumber xbm_InvalidNumber true xw0_InvalidNumber xw1_InvalidNumber xw2_InvalidNumber xw3_InvalidNumber xw4_InvalidNumber xw5_InvalidNumber xw6_InvalidNumber xw7_InvalidNumber xw8_InvalidNumber xw9_InvalidNumber "ValueError.__new__"))
    (xR_InvalidNumber : HandSPX.refsVE xbm_InvalidNumber = true)
    (xa_InvalidNumber : PySem.W.findIn K (.ref C_InvalidNumber) "__setattr__" = some (some (.builtin "object.__setattr__")))
    (xn_InvalidNumber_given : PySem.W.findIn K (.ref C_InvalidNumber) "given" = some none)
    (xn_InvalidNumber_index : PySem.W.findIn K (.ref C_InvalidNumber) "index" = some none)
    (xn_InvalidNumber_number : PySem.W.findIn K (.ref C_InvalidNumber) "number" = some none)
    (xn_InvalidNumber_told : PySem.W.findIn K (.ref C_InvalidNumber) "told" = some none)
    (xga_InvalidRow : PySem.W.findIn K (.ref C_InvalidRow) "__getattribute__" = some (some (.builtin "BaseException.__getattribute__")))
    (xgt_InvalidRow : PySem.W.findIn K (.ref C_InvalidRow) "__getattr__" = some (none))
    (xcl_InvalidRow : PySem.W.findIn K (.ref C_InvalidRow) "__class__" = some (some (.builtin "object.__class__")))
    (xo_InvalidRow : PySem.W.mroIn K C_InvalidRow (.type "object") = some true)
    (xp_InvalidRow : PySem.W.keepIn K (.ref C_InvalidRow) = true)
    (xu_InvalidRow_InvalidRow : PySem.W.subIn K (.ref C_InvalidRow) (.ref C_InvalidRow) = some true)
    (xu_InvalidRow_NotABook : PySem.W.subIn K (.ref C_InvalidRow) (.ref C_NotABook) = some false)
    (xu_InvalidRow_NotACase : PySem.W.subIn K (.ref C_InvalidRow) (.ref C_NotACase) = some false)
    (xu_InvalidRow_UnknownName : PySem.W.subIn K (.ref C_InvalidRow) (.ref C_UnknownName) = some false)
    (xu_InvalidRow_InvalidRanking : PySem.W.subIn K (.ref C_InvalidRow) (.ref C_InvalidRanking) = some false)
    (xL_InvalidRow : K.lookup C_InvalidRow = some (PySem.excClassObj xnm_InvalidRow xq_InvalidRow C_InvalidRow xN_InvalidRow xbs_InvalidRow xbm_InvalidRow true xw0_InvalidRow xw1_InvalidRow xw2_InvalidRow xw3_InvalidRow xw4_InvalidRow xw5_InvalidRow xw6_InvalidRow xw7_InvalidRow xw8_InvalidRow xw9_InvalidRow "ValueError.__new__"))
    (xR_InvalidRow : HandSPX.refsVE xbm_InvalidRow = true)
    (xa_InvalidRow : PySem.W.findIn K (.ref C_InvalidRow) "__setattr__" = some (some (.builtin "object.__setattr__")))
    (xn_InvalidRow_given : PySem.W.findIn K (.ref C_InvalidRow) "given" = some none)
    (xn_InvalidRow_index : PySem.W.findIn K (.ref C_InvalidRow) "index" = some none)
    (xn_InvalidRow_number : PySem.W.findIn K (.ref C_InvalidRow) "number" = some none)
    (xn_InvalidRow_told : PySem.W.findIn K (.ref C_InvalidRow) "told" = some none)
    (xga_NoRanking : PySem.W.findIn K (.ref C_NoRanking) "__getattribute__" = some (some (.builtin "BaseException.__getattribute__")))
    (xgt_NoRanking : PySem.W.findIn K (.ref C_NoRanking) "__getattr__" = some (none))
    (xcl_NoRanking : PySem.W.findIn K (.ref C_NoRanking) "__class__" = some (some (.builtin "object.__class__")))
    (xo_NoRanking : PySem.W.mroIn K C_NoRanking (.type "object") = some true)
    (xi_NoRanking : PySem.W.excIn K C_NoRanking [.type "ArithmeticError", .type "Exception", .type "BaseException", .type "object"] "ArithmeticError.__new__" = true)
    (xp_NoRanking : PySem.W.keepIn K (.ref C_NoRanking) = true)
    (xu_NoRanking_NoRanking : PySem.W.subIn K (.ref C_NoRanking) (.ref C_NoRanking) = some true)
    (xu_NoRanking_NotABook : PySem.W.subIn K (.ref C_NoRanking) (.ref C_NotABook) = some false)
    (xu_NoRanking_NotACase : PySem.W.subIn K (.ref C_NoRanking) (.ref C_NotACase) = some false)
    (xu_NoRanking_UnknownName : PySem.W.subIn K (.ref C_NoRanking) (.ref C_UnknownName) = some false)
    (xu_NoRanking_InvalidRanking : PySem.W.subIn K (.ref C_NoRanking) (.ref C_InvalidRanking) = some false)
    (xu_NoRanking_InvalidRow : PySem.W.subIn K (.ref C_NoRanking) (.ref C_InvalidRow) = some false)
    (xu_NoRanking_InvalidNumber : PySem.W.subIn K (.ref C_NoRanking) (.ref C_InvalidNumber) = some false)
    (xu_NoRanking_InvalidCases : PySem.W.subIn K (.ref C_NoRanking) (.ref C_InvalidCases) = some false)
    (xu_NoRanking_InvalidOffers : PySem.W.subIn K (.ref C_NoRanking) (.ref C_InvalidOffers) = some false)
    (xu_NoRanking_TooMany : PySem.W.subIn K (.ref C_NoRanking) (.ref C_TooMany) = some false)
    (xga_NotABook : PySem.W.findIn K (.ref C_NotABook) "__getattribute__" = some (some (.builtin "BaseException.__getattribute__")))
    (xgt_NotABook : PySem.W.findIn K (.ref C_NotABook) "__getattr__" = some (none))
    (xcl_NotABook : PySem.W.findIn K (.ref C_NotABook) "__class__" = some (some (.builtin "object.__class__")))
    (xo_NotABook : PySem.W.mroIn K C_NotABook (.type "object") = some true)
    (xp_NotABook : PySem.W.keepIn K (.ref C_NotABook) = true)
    (xu_NotABook_NotABook : PySem.W.subIn K (.ref C_NotABook) (.ref C_NotABook) = some true)
    (xL_NotABook : K.lookup C_NotABook = some (PySem.excClassObj xnm_NotABook xq_NotABook C_NotABook xN_NotABook xbs_NotABook xbm_NotABook true xw0_NotABook xw1_NotABook xw2_NotABook xw3_NotABook xw4_NotABook xw5_NotABook xw6_NotABook xw7_NotABook xw8_NotABook xw9_NotABook "ValueError.__new__"))
    (xR_NotABook : HandSPX.refsVE xbm_NotABook = true)
    (xa_NotABook : PySem.W.findIn K (.ref C_NotABook) "__setattr__" = some (some (.builtin "object.__setattr__")))
    (xn_NotABook_given : PySem.W.findIn K (.ref C_NotABook) "given" = some none)
    (xn_NotABook_index : PySem.W.findIn K (.ref C_NotABook) "index" = some none)
    (xn_NotABook_number : PySem.W.findIn K (.ref C_NotABook) "number" = some none)
    (xn_NotABook_told : PySem.W.findIn K (.ref C_NotABook) "told" = some none)
    (xga_TooMany : PySem.W.findIn K (.ref C_TooMany) "__getattribute__" = some (some (.builtin "BaseException.__getattribute__")))
    (xgt_TooMany : PySem.W.findIn K (.ref C_TooMany) "__getattr__" = some (none))
    (xcl_TooMany : PySem.W.findIn K (.ref C_TooMany) "__class__" = some (some (.builtin "object.__class__")))
    (xo_TooMany : PySem.W.mroIn K C_TooMany (.type "object") = some true)
    (xp_TooMany : PySem.W.keepIn K (.ref C_TooMany) = true)
    (xu_TooMany_TooMany : PySem.W.subIn K (.ref C_TooMany) (.ref C_TooMany) = some true)
    (xu_TooMany_NotABook : PySem.W.subIn K (.ref C_TooMany) (.ref C_NotABook) = some false)
    (xu_TooMany_NotACase : PySem.W.subIn K (.ref C_TooMany) (.ref C_NotACase) = some false)
    (xu_TooMany_UnknownName : PySem.W.subIn K (.ref C_TooMany) (.ref C_UnknownName) = some false)
    (xu_TooMany_InvalidRanking : PySem.W.subIn K (.ref C_TooMany) (.ref C_InvalidRanking) = some false)
    (xu_TooMany_InvalidRow : PySem.W.subIn K (.ref C_TooMany) (.ref C_InvalidRow) = some false)
    (xu_TooMany_InvalidNumber : PySem.W.subIn K (.ref C_TooMany) (.ref C_InvalidNumber) = some false)
    (xu_TooMany_InvalidCases : PySem.W.subIn K (.ref C_TooMany) (.ref C_InvalidCases) = some false)
    (xu_TooMany_InvalidOffers : PySem.W.subIn K (.ref C_TooMany) (.ref C_InvalidOffers) = some false)
    (xL_TooMany : K.lookup C_TooMany = some (PySem.excClassObj xnm_TooMany xq_TooMany C_TooMany xN_TooMany xbs_TooMany xbm_TooMany true xw0_TooMany xw1_TooMany xw2_TooMany xw3_TooMany xw4_TooMany xw5_TooMany xw6_TooMany xw7_TooMany xw8_TooMany xw9_TooMany "ArithmeticError.__new__"))
    (xR_TooMany : PySem.W.excTail PySem.AeX.aeEnd xbm_TooMany = true)
    (xa_TooMany : PySem.W.findIn K (.ref C_TooMany) "__setattr__" = some (some (.builtin "object.__setattr__")))
    (xn_TooMany_given : PySem.W.findIn K (.ref C_TooMany) "given" = some none)
    (xn_TooMany_index : PySem.W.findIn K (.ref C_TooMany) "index" = some none)
    (xn_TooMany_number : PySem.W.findIn K (.ref C_TooMany) "number" = some none)
    (xn_TooMany_told : PySem.W.findIn K (.ref C_TooMany) "told" = some none)
    (ihn : PySem.W.specialIn K (.builtin "object.__class__") "__get__" = some (some (.builtin "getset_descriptor.__get__")))
    (iht : PySem.W.takesIn K (.builtin "object.__class__") = some true)
    (a_is_name : PySem.W.nsIn K mainGlobals "is_name" = some (some (.ref f_is_name)))
    (l_is_name : K.lookup f_is_name = some ⟨oc_is_name, od_is_name, .func (PySem.W.fnOf "is_name" "is_name" (defArgs s_is_name) (defBody s_is_name) (defScope s_is_name) .none kV_is_name dc_is_name pm_is_name an_is_name cd_is_name ct_is_name), sl_is_name⟩)
    (c_is_name : PySem.W.codeIn K cd_is_name "is_name" = true)
    (k_is_name : PySem.W.keepIn K (.ref f_is_name) = true)
    (a_are_names : PySem.W.nsIn K mainGlobals "are_names" = some (some (.ref f_are_names)))
    (l_are_names : K.lookup f_are_names = some ⟨oc_are_names, od_are_names, .func (PySem.W.fnOf "are_names" "are_names" (defArgs s_are_names) (defBody s_are_names) (defScope s_are_names) .none kV_are_names dc_are_names pm_are_names an_are_names cd_are_names ct_are_names), sl_are_names⟩)
    (c_are_names : PySem.W.codeIn K cd_are_names "are_names" = true)
    (k_are_names : PySem.W.keepIn K (.ref f_are_names) = true)
    (a_is_any_row : PySem.W.nsIn K mainGlobals "is_any_row" = some (some (.ref f_is_any_row)))
    (l_is_any_row : K.lookup f_is_any_row = some ⟨oc_is_any_row, od_is_any_row, .func (PySem.W.fnOf "is_any_row" "is_any_row" (defArgs s_is_any_row) (defBody s_is_any_row) (defScope s_is_any_row) .none kV_is_any_row dc_is_any_row pm_is_any_row an_is_any_row cd_is_any_row ct_is_any_row), sl_is_any_row⟩)
    (c_is_any_row : PySem.W.codeIn K cd_is_any_row "is_any_row" = true)
    (k_is_any_row : PySem.W.keepIn K (.ref f_is_any_row) = true)
    (a_is_row : PySem.W.nsIn K mainGlobals "is_row" = some (some (.ref f_is_row)))
    (l_is_row : K.lookup f_is_row = some ⟨oc_is_row, od_is_row, .func (PySem.W.fnOf "is_row" "is_row" (defArgs s_is_row) (defBody s_is_row) (defScope s_is_row) .none kV_is_row dc_is_row pm_is_row an_is_row cd_is_row ct_is_row), sl_is_row⟩)
    (c_is_row : PySem.W.codeIn K cd_is_row "is_row" = true)
    (k_is_row : PySem.W.keepIn K (.ref f_is_row) = true)
    (a_is_whole : PySem.W.nsIn K mainGlobals "is_whole" = some (some (.ref f_is_whole)))
    (l_is_whole : K.lookup f_is_whole = some ⟨oc_is_whole, od_is_whole, .func (PySem.W.fnOf "is_whole" "is_whole" (defArgs s_is_whole) (defBody s_is_whole) (defScope s_is_whole) .none kV_is_whole dc_is_whole pm_is_whole an_is_whole cd_is_whole ct_is_whole), sl_is_whole⟩)
    (c_is_whole : PySem.W.codeIn K cd_is_whole "is_whole" = true)
    (k_is_whole : PySem.W.keepIn K (.ref f_is_whole) = true)
    (a_is_index : PySem.W.nsIn K mainGlobals "is_index" = some (some (.ref f_is_index)))
    (l_is_index : K.lookup f_is_index = some ⟨oc_is_index, od_is_index, .func (PySem.W.fnOf "is_index" "is_index" (defArgs s_is_index) (defBody s_is_index) (defScope s_is_index) .none kV_is_index dc_is_index pm_is_index an_is_index cd_is_index ct_is_index), sl_is_index⟩)
    (c_is_index : PySem.W.codeIn K cd_is_index "is_index" = true)
    (k_is_index : PySem.W.keepIn K (.ref f_is_index) = true)
    (a_InvalidRow___init__ : PySem.W.findIn K (.ref C_InvalidRow) "__init__" = some (some (.ref f_InvalidRow___init__)))
    (i_InvalidRow___init__ : PySem.W.isFn K (.ref f_InvalidRow___init__) = true)
    (xy_InvalidRow : PySem.W.typeIn K (.ref f_InvalidRow___init__) = some (.type "function"))
    (l_InvalidRow___init__ : K.lookup f_InvalidRow___init__ = some ⟨oc_InvalidRow___init__, od_InvalidRow___init__, .func (PySem.W.fnOf "__init__" "InvalidRow.__init__" (defArgs s_InvalidRow___init__) (defBody s_InvalidRow___init__) (defScope s_InvalidRow___init__) .none kV_InvalidRow___init__ dc_InvalidRow___init__ pm_InvalidRow___init__ an_InvalidRow___init__ cd_InvalidRow___init__ ct_InvalidRow___init__), sl_InvalidRow___init__⟩)
    (c_InvalidRow___init__ : PySem.W.codeIn K cd_InvalidRow___init__ "InvalidRow.__init__" = true)
    (k_InvalidRow___init__ : PySem.W.keepIn K (.ref f_InvalidRow___init__) = true)
    (a_check_row : PySem.W.nsIn K mainGlobals "check_row" = some (some (.ref f_check_row)))
    (l_check_row : K.lookup f_check_row = some ⟨oc_check_row, od_check_row, .func (PySem.W.fnOf "check_row" "check_row" (defArgs s_check_row) (defBody s_check_row) (defScope s_check_row) .none kV_check_row dc_check_row pm_check_row an_check_row cd_check_row ct_check_row), sl_check_row⟩)
    (c_check_row : PySem.W.codeIn K cd_check_row "check_row" = true)
    (k_check_row : PySem.W.keepIn K (.ref f_check_row) = true)
    (a_read_book : PySem.W.nsIn K mainGlobals "read_book" = some (some (.ref f_read_book)))
    (l_read_book : K.lookup f_read_book = some ⟨oc_read_book, od_read_book, .func (PySem.W.fnOf "read_book" "read_book" (defArgs s_read_book) (defBody s_read_book) (defScope s_read_book) .none kV_read_book dc_read_book pm_read_book an_read_book cd_read_book ct_read_book), sl_read_book⟩)
    (c_read_book : PySem.W.codeIn K cd_read_book "read_book" = true)
    (k_read_book : PySem.W.keepIn K (.ref f_read_book) = true)
    (a_turned : PySem.W.nsIn K mainGlobals "turned" = some (some (.ref f_turned)))
    (l_turned : K.lookup f_turned = some ⟨oc_turned, od_turned, .func (PySem.W.fnOf "turned" "turned" (defArgs s_turned) (defBody s_turned) (defScope s_turned) .none kV_turned dc_turned pm_turned an_turned cd_turned ct_turned), sl_turned⟩)
    (c_turned : PySem.W.codeIn K cd_turned "turned" = true)
    (k_turned : PySem.W.keepIn K (.ref f_turned) = true)
    (a_NotABook___init__ : PySem.W.findIn K (.ref C_NotABook) "__init__" = some (some (.ref f_NotABook___init__)))
    (i_NotABook___init__ : PySem.W.isFn K (.ref f_NotABook___init__) = true)
    (xy_NotABook : PySem.W.typeIn K (.ref f_NotABook___init__) = some (.type "function"))
    (l_NotABook___init__ : K.lookup f_NotABook___init__ = some ⟨oc_NotABook___init__, od_NotABook___init__, .func (PySem.W.fnOf "__init__" "NotABook.__init__" (defArgs s_NotABook___init__) (defBody s_NotABook___init__) (defScope s_NotABook___init__) .none kV_NotABook___init__ dc_NotABook___init__ pm_NotABook___init__ an_NotABook___init__ cd_NotABook___init__ ct_NotABook___init__), sl_NotABook___init__⟩)
    (c_NotABook___init__ : PySem.W.codeIn K cd_NotABook___init__ "NotABook.__init__" = true)
    (k_NotABook___init__ : PySem.W.keepIn K (.ref f_NotABook___init__) = true)
    (a_check_book : PySem.W.nsIn K mainGlobals "check_book" = some (some (.ref f_check_book)))
    (l_check_book : K.lookup f_check_book = some ⟨oc_check_book, od_check_book, .func (PySem.W.fnOf "check_book" "check_book" (defArgs s_check_book) (defBody s_check_book) (defScope s_check_book) .none kV_check_book dc_check_book pm_check_book an_check_book cd_check_book ct_check_book), sl_check_book⟩)
    (c_check_book : PySem.W.codeIn K cd_check_book "check_book" = true)
    (k_check_book : PySem.W.keepIn K (.ref f_check_book) = true)
    (a_head_of : PySem.W.nsIn K mainGlobals "head_of" = some (some (.ref f_head_of)))
    (l_head_of : K.lookup f_head_of = some ⟨oc_head_of, od_head_of, .func (PySem.W.fnOf "head_of" "head_of" (defArgs s_head_of) (defBody s_head_of) (defScope s_head_of) .none kV_head_of dc_head_of pm_head_of an_head_of cd_head_of ct_head_of), sl_head_of⟩)
    (c_head_of : PySem.W.codeIn K cd_head_of "head_of" = true)
    (k_head_of : PySem.W.keepIn K (.ref f_head_of) = true)
    (a_rules_of : PySem.W.nsIn K mainGlobals "rules_of" = some (some (.ref f_rules_of)))
    (l_rules_of : K.lookup f_rules_of = some ⟨oc_rules_of, od_rules_of, .func (PySem.W.fnOf "rules_of" "rules_of" (defArgs s_rules_of) (defBody s_rules_of) (defScope s_rules_of) .none kV_rules_of dc_rules_of pm_rules_of an_rules_of cd_rules_of ct_rules_of), sl_rules_of⟩)
    (c_rules_of : PySem.W.codeIn K cd_rules_of "rules_of" = true)
    (k_rules_of : PySem.W.keepIn K (.ref f_rules_of) = true)
    (a_sides : PySem.W.nsIn K mainGlobals "sides" = some (some (.ref f_sides)))
    (l_sides : K.lookup f_sides = some ⟨oc_sides, od_sides, .func (PySem.W.fnOf "sides" "sides" (defArgs s_sides) (defBody s_sides) (defScope s_sides) .none kV_sides dc_sides pm_sides an_sides cd_sides ct_sides), sl_sides⟩)
    (c_sides : PySem.W.codeIn K cd_sides "sides" = true)
    (k_sides : PySem.W.keepIn K (.ref f_sides) = true)
    (a_rules_behind : PySem.W.nsIn K mainGlobals "rules_behind" = some (some (.ref f_rules_behind)))
    (l_rules_behind : K.lookup f_rules_behind = some ⟨oc_rules_behind, od_rules_behind, .func (PySem.W.fnOf "rules_behind" "rules_behind" (defArgs s_rules_behind) (defBody s_rules_behind) (defScope s_rules_behind) .none kV_rules_behind dc_rules_behind pm_rules_behind an_rules_behind cd_rules_behind ct_rules_behind), sl_rules_behind⟩)
    (c_rules_behind : PySem.W.codeIn K cd_rules_behind "rules_behind" = true)
    (k_rules_behind : PySem.W.keepIn K (.ref f_rules_behind) = true)
    (a_steps : PySem.W.nsIn K mainGlobals "steps" = some (some (.ref f_steps)))
    (l_steps : K.lookup f_steps = some ⟨oc_steps, od_steps, .func (PySem.W.fnOf "steps" "steps" (defArgs s_steps) (defBody s_steps) (defScope s_steps) .none kV_steps dc_steps pm_steps an_steps cd_steps ct_steps), sl_steps⟩)
    (c_steps : PySem.W.codeIn K cd_steps "steps" = true)
    (k_steps : PySem.W.keepIn K (.ref f_steps) = true)
    (a_has_sign : PySem.W.nsIn K mainGlobals "has_sign" = some (some (.ref f_has_sign)))
    (l_has_sign : K.lookup f_has_sign = some ⟨oc_has_sign, od_has_sign, .func (PySem.W.fnOf "has_sign" "has_sign" (defArgs s_has_sign) (defBody s_has_sign) (defScope s_has_sign) .none kV_has_sign dc_has_sign pm_has_sign an_has_sign cd_has_sign ct_has_sign), sl_has_sign⟩)
    (c_has_sign : PySem.W.codeIn K cd_has_sign "has_sign" = true)
    (k_has_sign : PySem.W.keepIn K (.ref f_has_sign) = true)
    (a_split : PySem.W.nsIn K mainGlobals "split" = some (some (.ref f_split)))
    (l_split : K.lookup f_split = some ⟨oc_split, od_split, .func (PySem.W.fnOf "split" "split" (defArgs s_split) (defBody s_split) (defScope s_split) .none kV_split dc_split pm_split an_split cd_split ct_split), sl_split⟩)
    (c_split : PySem.W.codeIn K cd_split "split" = true)
    (k_split : PySem.W.keepIn K (.ref f_split) = true)
    (a_some_fits : PySem.W.nsIn K mainGlobals "some_fits" = some (some (.ref f_some_fits)))
    (l_some_fits : K.lookup f_some_fits = some ⟨oc_some_fits, od_some_fits, .func (PySem.W.fnOf "some_fits" "some_fits" (defArgs s_some_fits) (defBody s_some_fits) (defScope s_some_fits) .none kV_some_fits dc_some_fits pm_some_fits an_some_fits cd_some_fits ct_some_fits), sl_some_fits⟩)
    (c_some_fits : PySem.W.codeIn K cd_some_fits "some_fits" = true)
    (k_some_fits : PySem.W.keepIn K (.ref f_some_fits) = true)
    (a_all_lots : PySem.W.nsIn K mainGlobals "all_lots" = some (some (.ref f_all_lots)))
    (l_all_lots : K.lookup f_all_lots = some ⟨oc_all_lots, od_all_lots, .func (PySem.W.fnOf "all_lots" "all_lots" (defArgs s_all_lots) (defBody s_all_lots) (defScope s_all_lots) .none kV_all_lots dc_all_lots pm_all_lots an_all_lots (.ref lc_all_lots) ct_all_lots), sl_all_lots⟩)
    (c_all_lots : PySem.W.codeIn K (.ref lc_all_lots) "all_lots" = true)
    (k_all_lots : PySem.W.keepIn K (.ref f_all_lots) = true)
    (lk_all_lots : K.lookup lc_all_lots = some ⟨lo_all_lots, ld_all_lots, .fields lv_all_lots, ls_all_lots⟩)
    (lp_all_lots : lv_all_lots[11]? = some (.ref lt_all_lots))
    (ln_all_lots : K.lookup lt_all_lots = none)
    (lr_all_lots : ((recsOf q).any fun e => e.name == "all_lots") = true)
    (a_has_part : PySem.W.nsIn K mainGlobals "has_part" = some (some (.ref f_has_part)))
    (l_has_part : K.lookup f_has_part = some ⟨oc_has_part, od_has_part, .func (PySem.W.fnOf "has_part" "has_part" (defArgs s_has_part) (defBody s_has_part) (defScope s_has_part) .none kV_has_part dc_has_part pm_has_part an_has_part cd_has_part ct_has_part), sl_has_part⟩)
    (c_has_part : PySem.W.codeIn K cd_has_part "has_part" = true)
    (k_has_part : PySem.W.keepIn K (.ref f_has_part) = true)
    (a_InvalidNumber___init__ : PySem.W.findIn K (.ref C_InvalidNumber) "__init__" = some (some (.ref f_InvalidNumber___init__)))
    (i_InvalidNumber___init__ : PySem.W.isFn K (.ref f_InvalidNumber___init__) = true)
    (xy_InvalidNumber : PySem.W.typeIn K (.ref f_InvalidNumber___init__) = some (.type "function"))
    (l_InvalidNumber___init__ : K.lookup f_InvalidNumber___init__ = some ⟨oc_InvalidNumber___init__, od_InvalidNumber___init__, .func (PySem.W.fnOf "__init__" "InvalidNumber.__init__" (defArgs s_InvalidNumber___init__) (defBody s_InvalidNumber___init__) (defScope s_InvalidNumber___init__) .none kV_InvalidNumber___init__ dc_InvalidNumber___init__ pm_InvalidNumber___init__ an_InvalidNumber___init__ cd_InvalidNumber___init__ ct_InvalidNumber___init__), sl_InvalidNumber___init__⟩)
    (c_InvalidNumber___init__ : PySem.W.codeIn K cd_InvalidNumber___init__ "InvalidNumber.__init__" = true)
    (k_InvalidNumber___init__ : PySem.W.keepIn K (.ref f_InvalidNumber___init__) = true)
    (a_check_most : PySem.W.nsIn K mainGlobals "check_most" = some (some (.ref f_check_most)))
    (l_check_most : K.lookup f_check_most = some ⟨oc_check_most, od_check_most, .func (PySem.W.fnOf "check_most" "check_most" (defArgs s_check_most) (defBody s_check_most) (defScope s_check_most) .none kV_check_most dc_check_most pm_check_most an_check_most cd_check_most ct_check_most), sl_check_most⟩)
    (c_check_most : PySem.W.codeIn K cd_check_most "check_most" = true)
    (k_check_most : PySem.W.keepIn K (.ref f_check_most) = true)
    (a_Book_names : PySem.W.findIn K (.ref C_Book) "names" = some (some (.ref q_Book_names)))
    (g_Book_names : PySem.W.specialIn K (.ref q_Book_names) "__get__" = some (some (.builtin "property.__get__")))
    (t_Book_names : PySem.W.takesIn K (.ref q_Book_names) = some true)
    (r_Book_names : PySem.W.recIn K q_Book_names "property" = some (.ref f_Book_names :: rest_Book_names))
    (l_Book_names : K.lookup f_Book_names = some ⟨oc_Book_names, od_Book_names, .func (PySem.W.fnOf "names" "Book.names" (defArgs s_Book_names) (defBody s_Book_names) (defScope s_Book_names) .none kV_Book_names dc_Book_names pm_Book_names an_Book_names cd_Book_names ct_Book_names), sl_Book_names⟩)
    (c_Book_names : PySem.W.codeIn K cd_Book_names "Book.names" = true)
    (k_Book_names : PySem.W.keepIn K (.ref f_Book_names) = true)
    (a_Book_rows : PySem.W.findIn K (.ref C_Book) "rows" = some (some (.ref q_Book_rows)))
    (g_Book_rows : PySem.W.specialIn K (.ref q_Book_rows) "__get__" = some (some (.builtin "property.__get__")))
    (t_Book_rows : PySem.W.takesIn K (.ref q_Book_rows) = some true)
    (r_Book_rows : PySem.W.recIn K q_Book_rows "property" = some (.ref f_Book_rows :: rest_Book_rows))
    (l_Book_rows : K.lookup f_Book_rows = some ⟨oc_Book_rows, od_Book_rows, .func (PySem.W.fnOf "rows" "Book.rows" (defArgs s_Book_rows) (defBody s_Book_rows) (defScope s_Book_rows) .none kV_Book_rows dc_Book_rows pm_Book_rows an_Book_rows cd_Book_rows ct_Book_rows), sl_Book_rows⟩)
    (c_Book_rows : PySem.W.codeIn K cd_Book_rows "Book.rows" = true)
    (k_Book_rows : PySem.W.keepIn K (.ref f_Book_rows) = true)
    (a_fits_without : PySem.W.nsIn K mainGlobals "fits_without" = some (some (.ref f_fits_without)))
    (l_fits_without : K.lookup f_fits_without = some ⟨oc_fits_without, od_fits_without, .func (PySem.W.fnOf "fits_without" "fits_without" (defArgs s_fits_without) (defBody s_fits_without) (defScope s_fits_without) .none kV_fits_without dc_fits_without pm_fits_without an_fits_without cd_fits_without ct_fits_without), sl_fits_without⟩)
    (c_fits_without : PySem.W.codeIn K cd_fits_without "fits_without" = true)
    (k_fits_without : PySem.W.keepIn K (.ref f_fits_without) = true)
    (a_TooMany___init__ : PySem.W.findIn K (.ref C_TooMany) "__init__" = some (some (.ref f_TooMany___init__)))
    (i_TooMany___init__ : PySem.W.isFn K (.ref f_TooMany___init__) = true)
    (xy_TooMany : PySem.W.typeIn K (.ref f_TooMany___init__) = some (.type "function"))
    (l_TooMany___init__ : K.lookup f_TooMany___init__ = some ⟨oc_TooMany___init__, od_TooMany___init__, .func (PySem.W.fnOf "__init__" "TooMany.__init__" (defArgs s_TooMany___init__) (defBody s_TooMany___init__) (defScope s_TooMany___init__) .none kV_TooMany___init__ dc_TooMany___init__ pm_TooMany___init__ an_TooMany___init__ cd_TooMany___init__ ct_TooMany___init__), sl_TooMany___init__⟩)
    (c_TooMany___init__ : PySem.W.codeIn K cd_TooMany___init__ "TooMany.__init__" = true)
    (k_TooMany___init__ : PySem.W.keepIn K (.ref f_TooMany___init__) = true)
    (a_struck : PySem.W.nsIn K mainGlobals "struck" = some (some (.ref f_struck)))
    (l_struck : K.lookup f_struck = some ⟨oc_struck, od_struck, .func (PySem.W.fnOf "struck" "struck" (defArgs s_struck) (defBody s_struck) (defScope s_struck) .none kV_struck dc_struck pm_struck an_struck cd_struck ct_struck), sl_struck⟩)
    (c_struck : PySem.W.codeIn K cd_struck "struck" = true)
    (k_struck : PySem.W.keepIn K (.ref f_struck) = true)
    (a_count_fallen : PySem.W.nsIn K mainGlobals "count_fallen" = some (some (.ref f_count_fallen)))
    (l_count_fallen : K.lookup f_count_fallen = some ⟨oc_count_fallen, od_count_fallen, .func (PySem.W.fnOf "count_fallen" "count_fallen" (defArgs s_count_fallen) (defBody s_count_fallen) (defScope s_count_fallen) .none kV_count_fallen dc_count_fallen pm_count_fallen an_count_fallen cd_count_fallen ct_count_fallen), sl_count_fallen⟩)
    (c_count_fallen : PySem.W.codeIn K cd_count_fallen "count_fallen" = true)
    (k_count_fallen : PySem.W.keepIn K (.ref f_count_fallen) = true)
    (a_least_wrong : PySem.W.nsIn K mainGlobals "least_wrong" = some (some (.ref f_least_wrong)))
    (l_least_wrong : K.lookup f_least_wrong = some ⟨oc_least_wrong, od_least_wrong, .func (PySem.W.fnOf "least_wrong" "least_wrong" (defArgs s_least_wrong) (defBody s_least_wrong) (defScope s_least_wrong) .none kV_least_wrong dc_least_wrong pm_least_wrong an_least_wrong cd_least_wrong ct_least_wrong), sl_least_wrong⟩)
    (c_least_wrong : PySem.W.codeIn K cd_least_wrong "least_wrong" = true)
    (k_least_wrong : PySem.W.keepIn K (.ref f_least_wrong) = true)
    (a_fewest_of_all : PySem.W.nsIn K mainGlobals "fewest_of_all" = some (some (.ref f_fewest_of_all)))
    (l_fewest_of_all : K.lookup f_fewest_of_all = some ⟨oc_fewest_of_all, od_fewest_of_all, .func (PySem.W.fnOf "fewest_of_all" "fewest_of_all" (defArgs s_fewest_of_all) (defBody s_fewest_of_all) (defScope s_fewest_of_all) .none kV_fewest_of_all dc_fewest_of_all pm_fewest_of_all an_fewest_of_all cd_fewest_of_all ct_fewest_of_all), sl_fewest_of_all⟩)
    (c_fewest_of_all : PySem.W.codeIn K cd_fewest_of_all "fewest_of_all" = true)
    (k_fewest_of_all : PySem.W.keepIn K (.ref f_fewest_of_all) = true)
    (a_fewest_wrong : PySem.W.nsIn K mainGlobals "fewest_wrong" = some (some (.ref f_fewest_wrong)))
    (l_fewest_wrong : K.lookup f_fewest_wrong = some ⟨oc_fewest_wrong, od_fewest_wrong, .func (PySem.W.fnOf "fewest_wrong" "fewest_wrong" (defArgs s_fewest_wrong) (defBody s_fewest_wrong) (defScope s_fewest_wrong) .none kV_fewest_wrong dc_fewest_wrong pm_fewest_wrong an_fewest_wrong cd_fewest_wrong ct_fewest_wrong), sl_fewest_wrong⟩)
    (c_fewest_wrong : PySem.W.codeIn K cd_fewest_wrong "fewest_wrong" = true)
    (k_fewest_wrong : PySem.W.keepIn K (.ref f_fewest_wrong) = true)
    (a_holds_for_some : PySem.W.nsIn K mainGlobals "holds_for_some" = some (some (.ref f_holds_for_some)))
    (l_holds_for_some : K.lookup f_holds_for_some = some ⟨oc_holds_for_some, od_holds_for_some, .func (PySem.W.fnOf "holds_for_some" "holds_for_some" (defArgs s_holds_for_some) (defBody s_holds_for_some) (defScope s_holds_for_some) .none kV_holds_for_some dc_holds_for_some pm_holds_for_some an_holds_for_some cd_holds_for_some ct_holds_for_some), sl_holds_for_some⟩)
    (c_holds_for_some : PySem.W.codeIn K cd_holds_for_some "holds_for_some" = true)
    (k_holds_for_some : PySem.W.keepIn K (.ref f_holds_for_some) = true)
    (a_surely_wrong : PySem.W.nsIn K mainGlobals "surely_wrong" = some (some (.ref f_surely_wrong)))
    (l_surely_wrong : K.lookup f_surely_wrong = some ⟨oc_surely_wrong, od_surely_wrong, .func (PySem.W.fnOf "surely_wrong" "surely_wrong" (defArgs s_surely_wrong) (defBody s_surely_wrong) (defScope s_surely_wrong) .none kV_surely_wrong dc_surely_wrong pm_surely_wrong an_surely_wrong cd_surely_wrong ct_surely_wrong), sl_surely_wrong⟩)
    (c_surely_wrong : PySem.W.codeIn K cd_surely_wrong "surely_wrong" = true)
    (k_surely_wrong : PySem.W.keepIn K (.ref f_surely_wrong) = true)
    (a_follows_with : PySem.W.nsIn K mainGlobals "follows_with" = some (some (.ref f_follows_with)))
    (l_follows_with : K.lookup f_follows_with = some ⟨oc_follows_with, od_follows_with, .func (PySem.W.fnOf "follows_with" "follows_with" (defArgs s_follows_with) (defBody s_follows_with) (defScope s_follows_with) .none kV_follows_with dc_follows_with pm_follows_with an_follows_with cd_follows_with ct_follows_with), sl_follows_with⟩)
    (c_follows_with : PySem.W.codeIn K cd_follows_with "follows_with" = true)
    (k_follows_with : PySem.W.keepIn K (.ref f_follows_with) = true)
    (a__law_cell : PySem.W.nsIn K mainGlobals "_law_cell" = some (some (.ref f__law_cell)))
    (l__law_cell : K.lookup f__law_cell = some ⟨oc__law_cell, od__law_cell, .func (PySem.W.fnOf "_law_cell" "_law_cell" (defArgs s__law_cell) (defBody s__law_cell) (defScope s__law_cell) .none kV__law_cell dc__law_cell pm__law_cell an__law_cell cd__law_cell ct__law_cell), sl__law_cell⟩)
    (c__law_cell : PySem.W.codeIn K cd__law_cell "_law_cell" = true)
    (k__law_cell : PySem.W.keepIn K (.ref f__law_cell) = true)
    (a__law_well : PySem.W.nsIn K mainGlobals "_law_well" = some (some (.ref f__law_well)))
    (l__law_well : K.lookup f__law_well = some ⟨oc__law_well, od__law_well, .func (PySem.W.fnOf "_law_well" "_law_well" (defArgs s__law_well) (defBody s__law_well) (defScope s__law_well) .none kV__law_well dc__law_well pm__law_well an__law_well cd__law_well ct__law_well), sl__law_well⟩)
    (c__law_well : PySem.W.codeIn K cd__law_well "_law_well" = true)
    (k__law_well : PySem.W.keepIn K (.ref f__law_well) = true)
    (a__law_dip : PySem.W.nsIn K mainGlobals "_law_dip" = some (some (.ref f__law_dip)))
    (l__law_dip : K.lookup f__law_dip = some ⟨oc__law_dip, od__law_dip, .func (PySem.W.fnOf "_law_dip" "_law_dip" (defArgs s__law_dip) (defBody s__law_dip) (defScope s__law_dip) .none kV__law_dip dc__law_dip pm__law_dip an__law_dip cd__law_dip ct__law_dip), sl__law_dip⟩)
    (c__law_dip : PySem.W.codeIn K cd__law_dip "_law_dip" = true)
    (k__law_dip : PySem.W.keepIn K (.ref f__law_dip) = true)
    (a__law_pick : PySem.W.nsIn K mainGlobals "_law_pick" = some (some (.ref f__law_pick)))
    (l__law_pick : K.lookup f__law_pick = some ⟨oc__law_pick, od__law_pick, .func (PySem.W.fnOf "_law_pick" "_law_pick" (defArgs s__law_pick) (defBody s__law_pick) (defScope s__law_pick) .none kV__law_pick dc__law_pick pm__law_pick an__law_pick cd__law_pick ct__law_pick), sl__law_pick⟩)
    (c__law_pick : PySem.W.codeIn K cd__law_pick "_law_pick" = true)
    (k__law_pick : PySem.W.keepIn K (.ref f__law_pick) = true)
    (a__law_tags : PySem.W.nsIn K mainGlobals "_law_tags" = some (some (.ref f__law_tags)))
    (l__law_tags : K.lookup f__law_tags = some ⟨oc__law_tags, od__law_tags, .func (PySem.W.fnOf "_law_tags" "_law_tags" (defArgs s__law_tags) (defBody s__law_tags) (defScope s__law_tags) .none kV__law_tags dc__law_tags pm__law_tags an__law_tags cd__law_tags ct__law_tags), sl__law_tags⟩)
    (c__law_tags : PySem.W.codeIn K cd__law_tags "_law_tags" = true)
    (k__law_tags : PySem.W.keepIn K (.ref f__law_tags) = true)
    (a__law_turned : PySem.W.nsIn K mainGlobals "_law_turned" = some (some (.ref f__law_turned)))
    (l__law_turned : K.lookup f__law_turned = some ⟨oc__law_turned, od__law_turned, .func (PySem.W.fnOf "_law_turned" "_law_turned" (defArgs s__law_turned) (defBody s__law_turned) (defScope s__law_turned) .none kV__law_turned dc__law_turned pm__law_turned an__law_turned cd__law_turned ct__law_turned), sl__law_turned⟩)
    (c__law_turned : PySem.W.codeIn K cd__law_turned "_law_turned" = true)
    (k__law_turned : PySem.W.keepIn K (.ref f__law_turned) = true)
    (a__law_row : PySem.W.nsIn K mainGlobals "_law_row" = some (some (.ref f__law_row)))
    (l__law_row : K.lookup f__law_row = some ⟨oc__law_row, od__law_row, .func (PySem.W.fnOf "_law_row" "_law_row" (defArgs s__law_row) (defBody s__law_row) (defScope s__law_row) .none kV__law_row dc__law_row pm__law_row an__law_row cd__law_row ct__law_row), sl__law_row⟩)
    (c__law_row : PySem.W.codeIn K cd__law_row "_law_row" = true)
    (k__law_row : PySem.W.keepIn K (.ref f__law_row) = true)
    (a__law_book_page : PySem.W.nsIn K mainGlobals "_law_book_page" = some (some (.ref f__law_book_page)))
    (l__law_book_page : K.lookup f__law_book_page = some ⟨oc__law_book_page, od__law_book_page, .func (PySem.W.fnOf "_law_book_page" "_law_book_page" (defArgs s__law_book_page) (defBody s__law_book_page) (defScope s__law_book_page) .none kV__law_book_page dc__law_book_page pm__law_book_page an__law_book_page cd__law_book_page ct__law_book_page), sl__law_book_page⟩)
    (c__law_book_page : PySem.W.codeIn K cd__law_book_page "_law_book_page" = true)
    (k__law_book_page : PySem.W.keepIn K (.ref f__law_book_page) = true)
    (a_Book___repr__ : PySem.W.findIn K (.ref C_Book) "__repr__" = some (some (.ref f_Book___repr__)))
    (i_Book___repr__ : PySem.W.isFn K (.ref f_Book___repr__) = true)
    (l_Book___repr__ : K.lookup f_Book___repr__ = some ⟨oc_Book___repr__, od_Book___repr__, .func (PySem.W.fnOf "__repr__" "Book.__repr__" (defArgs s_Book___repr__) (defBody s_Book___repr__) (defScope s_Book___repr__) .none kV_Book___repr__ dc_Book___repr__ pm_Book___repr__ an_Book___repr__ cd_Book___repr__ ct_Book___repr__), sl_Book___repr__⟩)
    (c_Book___repr__ : PySem.W.codeIn K cd_Book___repr__ "Book.__repr__" = true)
    (k_Book___repr__ : PySem.W.keepIn K (.ref f_Book___repr__) = true)
    (a__law_heard : PySem.W.nsIn K mainGlobals "_law_heard" = some (some (.ref f__law_heard)))
    (l__law_heard : K.lookup f__law_heard = some ⟨oc__law_heard, od__law_heard, .func (PySem.W.fnOf "_law_heard" "_law_heard" (defArgs s__law_heard) (defBody s__law_heard) (defScope s__law_heard) .none kV__law_heard dc__law_heard pm__law_heard an__law_heard cd__law_heard ct__law_heard), sl__law_heard⟩)
    (c__law_heard : PySem.W.codeIn K cd__law_heard "_law_heard" = true)
    (k__law_heard : PySem.W.keepIn K (.ref f__law_heard) = true)
    (a__law_all_heard : PySem.W.nsIn K mainGlobals "_law_all_heard" = some (some (.ref f__law_all_heard)))
    (l__law_all_heard : K.lookup f__law_all_heard = some ⟨oc__law_all_heard, od__law_all_heard, .func (PySem.W.fnOf "_law_all_heard" "_law_all_heard" (defArgs s__law_all_heard) (defBody s__law_all_heard) (defScope s__law_all_heard) .none kV__law_all_heard dc__law_all_heard pm__law_all_heard an__law_all_heard cd__law_all_heard ct__law_all_heard), sl__law_all_heard⟩)
    (c__law_all_heard : PySem.W.codeIn K cd__law_all_heard "_law_all_heard" = true)
    (k__law_all_heard : PySem.W.keepIn K (.ref f__law_all_heard) = true)
    (a__law_any_rows : PySem.W.nsIn K mainGlobals "_law_any_rows" = some (some (.ref f__law_any_rows)))
    (l__law_any_rows : K.lookup f__law_any_rows = some ⟨oc__law_any_rows, od__law_any_rows, .func (PySem.W.fnOf "_law_any_rows" "_law_any_rows" (defArgs s__law_any_rows) (defBody s__law_any_rows) (defScope s__law_any_rows) .none kV__law_any_rows dc__law_any_rows pm__law_any_rows an__law_any_rows cd__law_any_rows ct__law_any_rows), sl__law_any_rows⟩)
    (c__law_any_rows : PySem.W.codeIn K cd__law_any_rows "_law_any_rows" = true)
    (k__law_any_rows : PySem.W.keepIn K (.ref f__law_any_rows) = true)
    (a_Book___init__ : PySem.W.findIn K (.ref C_Book) "__init__" = some (some (.ref f_Book___init__)))
    (i_Book___init__ : PySem.W.isFn K (.ref f_Book___init__) = true)
    (l_Book___init__ : K.lookup f_Book___init__ = some ⟨oc_Book___init__, od_Book___init__, .func (PySem.W.fnOf "__init__" "Book.__init__" (defArgs s_Book___init__) (defBody s_Book___init__) (defScope s_Book___init__) .none kV_Book___init__ dc_Book___init__ pm_Book___init__ an_Book___init__ cd_Book___init__ ct_Book___init__), sl_Book___init__⟩)
    (c_Book___init__ : PySem.W.codeIn K cd_Book___init__ "Book.__init__" = true)
    (k_Book___init__ : PySem.W.keepIn K (.ref f_Book___init__) = true)
    (a_Book___str__ : PySem.W.findIn K (.ref C_Book) "__str__" = some (some (.ref f_Book___str__)))
    (i_Book___str__ : PySem.W.isFn K (.ref f_Book___str__) = true)
    (l_Book___str__ : K.lookup f_Book___str__ = some ⟨oc_Book___str__, od_Book___str__, .func (PySem.W.fnOf "__str__" "Book.__str__" (defArgs s_Book___str__) (defBody s_Book___str__) (defScope s_Book___str__) .none kV_Book___str__ dc_Book___str__ pm_Book___str__ an_Book___str__ cd_Book___str__ ct_Book___str__), sl_Book___str__⟩)
    (c_Book___str__ : PySem.W.codeIn K cd_Book___str__ "Book.__str__" = true)
    (k_Book___str__ : PySem.W.keepIn K (.ref f_Book___str__) = true)
    (a__law_right : PySem.W.nsIn K mainGlobals "_law_right" = some (some (.ref f__law_right)))
    (l__law_right : K.lookup f__law_right = some ⟨oc__law_right, od__law_right, .func (PySem.W.fnOf "_law_right" "_law_right" (defArgs s__law_right) (defBody s__law_right) (defScope s__law_right) .none kV__law_right dc__law_right pm__law_right an__law_right (.ref lc__law_right) ct__law_right), sl__law_right⟩)
    (c__law_right : PySem.W.codeIn K (.ref lc__law_right) "_law_right" = true)
    (k__law_right : PySem.W.keepIn K (.ref f__law_right) = true)
    (lk__law_right : K.lookup lc__law_right = some ⟨lo__law_right, ld__law_right, .fields lv__law_right, ls__law_right⟩)
    (lp__law_right : lv__law_right[11]? = some (.ref lt__law_right))
    (ln__law_right : K.lookup lt__law_right = none)
    (lr__law_right : ((recsOf q).any fun e => e.name == "_law_right") = true)
    (a_law : PySem.W.nsIn K mainGlobals "law" = some (some (.ref f_law)))
    (l_law : K.lookup f_law = some ⟨oc_law, od_law, .func (PySem.W.fnOf "law" "law" (defArgs s_law) (defBody s_law) (defScope s_law) .none kV_law dc_law pm_law an_law cd_law ct_law), sl_law⟩)
    (c_law : PySem.W.codeIn K cd_law "law" = true)
    (k_law : PySem.W.keepIn K (.ref f_law) = true)
    (z_abs : PySem.W.nsIn K mainGlobals "abs" = some none)
    (z_all : PySem.W.nsIn K mainGlobals "all" = some none)
    (z_any : PySem.W.nsIn K mainGlobals "any" = some none)
    (z_bool : PySem.W.nsIn K mainGlobals "bool" = some none)
    (z_divmod : PySem.W.nsIn K mainGlobals "divmod" = some none)
    (z_enumerate : PySem.W.nsIn K mainGlobals "enumerate" = some none)
    (z_int : PySem.W.nsIn K mainGlobals "int" = some none)
    (z_isinstance : PySem.W.nsIn K mainGlobals "isinstance" = some none)
    (z_len : PySem.W.nsIn K mainGlobals "len" = some none)
    (z_list : PySem.W.nsIn K mainGlobals "list" = some none)
    (z_max : PySem.W.nsIn K mainGlobals "max" = some none)
    (z_min : PySem.W.nsIn K mainGlobals "min" = some none)
    (z_range : PySem.W.nsIn K mainGlobals "range" = some none)
    (z_repr : PySem.W.nsIn K mainGlobals "repr" = some none)
    (z_sorted : PySem.W.nsIn K mainGlobals "sorted" = some none)
    (z_str : PySem.W.nsIn K mainGlobals "str" = some none)
    (z_sum : PySem.W.nsIn K mainGlobals "sum" = some none)
    (z_tuple : PySem.W.nsIn K mainGlobals "tuple" = some none)
    (z_zip : PySem.W.nsIn K mainGlobals "zip" = some none)
    (v_LETTERS : PySem.W.nsIn K mainGlobals "LETTERS" = some (some (.str "abcdefghijklmnopqrstuvwxyz" t_LETTERS)))
    (v_MOST_LETTERS : PySem.W.nsIn K mainGlobals "MOST_LETTERS" = some (some (.int 8 t_MOST_LETTERS)))
    (v_MOST_ROWS : PySem.W.nsIn K mainGlobals "MOST_ROWS" = some (some (.int 20 t_MOST_ROWS)))
    (v_MOST_RULES : PySem.W.nsIn K mainGlobals "MOST_RULES" = some (some (.int 8 t_MOST_RULES)))
    (v_MOST_STRUCK : PySem.W.nsIn K mainGlobals "MOST_STRUCK" = some (some (.int 10 t_MOST_STRUCK)))
    (v_OPPOSITES : PySem.W.nsIn K mainGlobals "OPPOSITES" = some (some (.ref a_OPPOSITES)))
    (dl_OPPOSITES : K.lookup a_OPPOSITES = some ⟨.type "dict", none, .dict es_OPPOSITES n_OPPOSITES, #[]⟩)
    (dk_OPPOSITES : PySem.W.KeysLit w.params es_OPPOSITES.toList)
    (w_OPPOSITES_43 : PySem.W.nsIn K a_OPPOSITES "+" = some (some (.str "-" tk_OPPOSITES_43)))
    (w_OPPOSITES_45 : PySem.W.nsIn K a_OPPOSITES "-" = some (some (.str "+" tk_OPPOSITES_45)))
    (w_OPPOSITES_46 : PySem.W.nsIn K a_OPPOSITES "." = some (some (.str "." tk_OPPOSITES_46)))
    (v_SIGNS : PySem.W.nsIn K mainGlobals "SIGNS" = some (some (.str "+-." t_SIGNS)))
    (no1 : PySem.W.findIn K (.ref C_Book) "_text" = some none)
    (no2 : PySem.W.findIn K (.ref C_Book) "_names" = some none)
    (no3 : PySem.W.findIn K (.ref C_Book) "_rows" = some none)
    (no7 : PySem.W.typeIn K (.ref C_Book) = some (.type "type"))
    (nx5 : PySem.W.subIn K (.ref C_Book) (.type "str") = some false)
    (ltnd : [lt_all_lots, lt__law_right].Nodup) :
    EndT l w K mg 19 fa "_law_cells" h (spLaw K) := by
  have e := hfa.symm.trans (PySem.W.mg_of X G a_law)
  cases e
  have o_all_lots := tb "all_lots" f_all_lots lr_all_lots (PySem.W.mg_of X G a_all_lots) lc_all_lots lt_all_lots _ _ _ _ _ _ l_all_lots rfl rfl lk_all_lots lp_all_lots
  have o__law_right := tb "_law_right" f__law_right lr__law_right (PySem.W.mg_of X G a__law_right) lc__law_right lt__law_right _ _ _ _ _ _ l__law_right rfl rfl lk__law_right lp__law_right
  letI I : Tabs0 := ⟨fun a => List.lookup a [(lt_all_lots, qn_all_lots f_all_lots lc_all_lots), (lt__law_right, qn__law_right f__law_right lc__law_right)]⟩
  have ok : TabsOk [(lt_all_lots, qn_all_lots f_all_lots lc_all_lots), (lt__law_right, qn__law_right f__law_right lc__law_right)] := tabsOk_of ltnd
  let T : Txt K w mg := {
    C_Book := C_Book,
    m_Book := PySem.W.mg_of X G cm_Book,
    cl_Book := ⟨cpg_Book, chd_Book, cpo_Book, csa_Book⟩,
    C_InvalidCases := C_InvalidCases,
    m_InvalidCases := PySem.W.mg_of X G cm_InvalidCases,
    C_InvalidNumber := C_InvalidNumber,
    m_InvalidNumber := PySem.W.mg_of X G cm_InvalidNumber,
    C_InvalidOffers := C_InvalidOffers,
    m_InvalidOffers := PySem.W.mg_of X G cm_InvalidOffers,
    C_InvalidRanking := C_InvalidRanking,
    m_InvalidRanking := PySem.W.mg_of X G cm_InvalidRanking,
    C_InvalidRow := C_InvalidRow,
    m_InvalidRow := PySem.W.mg_of X G cm_InvalidRow,
    C_NoRanking := C_NoRanking,
    m_NoRanking := PySem.W.mg_of X G cm_NoRanking,
    C_NotABook := C_NotABook,
    m_NotABook := PySem.W.mg_of X G cm_NotABook,
    C_NotACase := C_NotACase,
    m_NotACase := PySem.W.mg_of X G cm_NotACase,
    C_TooMany := C_TooMany,
    m_TooMany := PySem.W.mg_of X G cm_TooMany,
    C_UnknownName := C_UnknownName,
    m_UnknownName := PySem.W.mg_of X G cm_UnknownName,
    xk_InvalidNumber := ⟨xga_InvalidNumber, xgt_InvalidNumber, xs_InvalidNumber, xh_InvalidNumber, xcl_InvalidNumber, ihn, iht, xo_InvalidNumber⟩,
    xh_InvalidNumber_NotABook := exm_one1 xs_NotABook xh_NotABook xt_NotABook xu_InvalidNumber_NotABook,
    xh_InvalidNumber_NotACase := exm_one1 xs_NotACase xh_NotACase xt_NotACase xu_InvalidNumber_NotACase,
    xh_InvalidNumber_UnknownName := exm_one1 xs_UnknownName xh_UnknownName xt_UnknownName xu_InvalidNumber_UnknownName,
    xh_InvalidNumber_InvalidRanking := exm_one1 xs_InvalidRanking xh_InvalidRanking xt_InvalidRanking xu_InvalidNumber_InvalidRanking,
    xh_InvalidNumber_InvalidRow := exm_one1 xs_InvalidRow xh_InvalidRow xt_InvalidRow xu_InvalidNumber_InvalidRow,
    xh_InvalidNumber_InvalidNumber := exm_one1 xs_InvalidNumber xh_InvalidNumber xt_InvalidNumber xu_InvalidNumber_InvalidNumber,
    xe_InvalidNumber := exm_one1 xs_InvalidNumber xh_InvalidNumber xt_InvalidNumber xu_InvalidNumber_InvalidNumber,
    xo_InvalidNumber := ⟨⟨_, _, _, _, _, _, _, _, _, _, _, _, _, _, _, xL_InvalidNumber, xR_InvalidNumber⟩, xa_InvalidNumber, xs_InvalidNumber, xt_InvalidNumber, xp_InvalidNumber⟩,
    xf_InvalidNumber := ⟨xga_InvalidNumber, xgt_InvalidNumber, xs_InvalidNumber, xh_InvalidNumber⟩,
    xn_InvalidNumber_given := xn_InvalidNumber_given,
    xn_InvalidNumber_index := xn_InvalidNumber_index,
    xn_InvalidNumber_number := xn_InvalidNumber_number,
    xn_InvalidNumber_told := xn_InvalidNumber_told,
    xj_InvalidNumber := a_InvalidNumber___init__,
    xy_InvalidNumber := xy_InvalidNumber,
    xk_InvalidRow := ⟨xga_InvalidRow, xgt_InvalidRow, xs_InvalidRow, xh_InvalidRow, xcl_InvalidRow, ihn, iht, xo_InvalidRow⟩,
    xh_InvalidRow_NotABook := exm_one1 xs_NotABook xh_NotABook xt_NotABook xu_InvalidRow_NotABook,
    xh_InvalidRow_NotACase := exm_one1 xs_NotACase xh_NotACase xt_NotACase xu_InvalidRow_NotACase,
    xh_InvalidRow_UnknownName := exm_one1 xs_UnknownName xh_UnknownName xt_UnknownName xu_InvalidRow_UnknownName,
    xh_InvalidRow_InvalidRanking := exm_one1 xs_InvalidRanking xh_InvalidRanking xt_InvalidRanking xu_InvalidRow_InvalidRanking,
    xh_InvalidRow_InvalidRow := exm_one1 xs_InvalidRow xh_InvalidRow xt_InvalidRow xu_InvalidRow_InvalidRow,
    xe_InvalidRow := exm_one1 xs_InvalidRow xh_InvalidRow xt_InvalidRow xu_InvalidRow_InvalidRow,
    xo_InvalidRow := ⟨⟨_, _, _, _, _, _, _, _, _, _, _, _, _, _, _, xL_InvalidRow, xR_InvalidRow⟩, xa_InvalidRow, xs_InvalidRow, xt_InvalidRow, xp_InvalidRow⟩,
    xf_InvalidRow := ⟨xga_InvalidRow, xgt_InvalidRow, xs_InvalidRow, xh_InvalidRow⟩,
    xn_InvalidRow_given := xn_InvalidRow_given,
    xn_InvalidRow_index := xn_InvalidRow_index,
    xn_InvalidRow_number := xn_InvalidRow_number,
    xn_InvalidRow_told := xn_InvalidRow_told,
    xj_InvalidRow := a_InvalidRow___init__,
    xy_InvalidRow := xy_InvalidRow,
    xk_NoRanking := ⟨xga_NoRanking, xgt_NoRanking, xs_NoRanking, xh_NoRanking, xcl_NoRanking, ihn, iht, xo_NoRanking⟩,
    xh_NoRanking_NotABook := exm_one1 xs_NotABook xh_NotABook xt_NotABook xu_NoRanking_NotABook,
    xh_NoRanking_NotACase := exm_one1 xs_NotACase xh_NotACase xt_NotACase xu_NoRanking_NotACase,
    xh_NoRanking_UnknownName := exm_one1 xs_UnknownName xh_UnknownName xt_UnknownName xu_NoRanking_UnknownName,
    xh_NoRanking_InvalidRanking := exm_one1 xs_InvalidRanking xh_InvalidRanking xt_InvalidRanking xu_NoRanking_InvalidRanking,
    xh_NoRanking_InvalidRow := exm_one1 xs_InvalidRow xh_InvalidRow xt_InvalidRow xu_NoRanking_InvalidRow,
    xh_NoRanking_InvalidNumber := exm_one1 xs_InvalidNumber xh_InvalidNumber xt_InvalidNumber xu_NoRanking_InvalidNumber,
    xh_NoRanking_InvalidCases := exm_one1 xs_InvalidCases xh_InvalidCases xt_InvalidCases xu_NoRanking_InvalidCases,
    xh_NoRanking_InvalidOffers := exm_one1 xs_InvalidOffers xh_InvalidOffers xt_InvalidOffers xu_NoRanking_InvalidOffers,
    xh_NoRanking_TooMany := exm_one1 xs_TooMany xh_TooMany xt_TooMany xu_NoRanking_TooMany,
    xh_NoRanking_NoRanking := exm_one1 xs_NoRanking xh_NoRanking xt_NoRanking xu_NoRanking_NoRanking,
    xe_NoRanking := exm_one1 xs_NoRanking xh_NoRanking xt_NoRanking xu_NoRanking_NoRanking,
    xi_NoRanking := xi_NoRanking,
    xp_NoRanking := xp_NoRanking,
    xs_NoRanking := xs_NoRanking,
    xt_NoRanking := xt_NoRanking,
    xk_NotABook := ⟨xga_NotABook, xgt_NotABook, xs_NotABook, xh_NotABook, xcl_NotABook, ihn, iht, xo_NotABook⟩,
    xh_NotABook_NotABook := exm_one1 xs_NotABook xh_NotABook xt_NotABook xu_NotABook_NotABook,
    xe_NotABook := exm_one1 xs_NotABook xh_NotABook xt_NotABook xu_NotABook_NotABook,
    xo_NotABook := ⟨⟨_, _, _, _, _, _, _, _, _, _, _, _, _, _, _, xL_NotABook, xR_NotABook⟩, xa_NotABook, xs_NotABook, xt_NotABook, xp_NotABook⟩,
    xf_NotABook := ⟨xga_NotABook, xgt_NotABook, xs_NotABook, xh_NotABook⟩,
    xn_NotABook_given := xn_NotABook_given,
    xn_NotABook_index := xn_NotABook_index,
    xn_NotABook_number := xn_NotABook_number,
    xn_NotABook_told := xn_NotABook_told,
    xj_NotABook := a_NotABook___init__,
    xy_NotABook := xy_NotABook,
    xk_TooMany := ⟨xga_TooMany, xgt_TooMany, xs_TooMany, xh_TooMany, xcl_TooMany, ihn, iht, xo_TooMany⟩,
    xh_TooMany_NotABook := exm_one1 xs_NotABook xh_NotABook xt_NotABook xu_TooMany_NotABook,
    xh_TooMany_NotACase := exm_one1 xs_NotACase xh_NotACase xt_NotACase xu_TooMany_NotACase,
    xh_TooMany_UnknownName := exm_one1 xs_UnknownName xh_UnknownName xt_UnknownName xu_TooMany_UnknownName,
    xh_TooMany_InvalidRanking := exm_one1 xs_InvalidRanking xh_InvalidRanking xt_InvalidRanking xu_TooMany_InvalidRanking,
    xh_TooMany_InvalidRow := exm_one1 xs_InvalidRow xh_InvalidRow xt_InvalidRow xu_TooMany_InvalidRow,
    xh_TooMany_InvalidNumber := exm_one1 xs_InvalidNumber xh_InvalidNumber xt_InvalidNumber xu_TooMany_InvalidNumber,
    xh_TooMany_InvalidCases := exm_one1 xs_InvalidCases xh_InvalidCases xt_InvalidCases xu_TooMany_InvalidCases,
    xh_TooMany_InvalidOffers := exm_one1 xs_InvalidOffers xh_InvalidOffers xt_InvalidOffers xu_TooMany_InvalidOffers,
    xh_TooMany_TooMany := exm_one1 xs_TooMany xh_TooMany xt_TooMany xu_TooMany_TooMany,
    xe_TooMany := exm_one1 xs_TooMany xh_TooMany xt_TooMany xu_TooMany_TooMany,
    xo_TooMany := ⟨⟨_, _, _, _, _, _, _, _, _, _, _, _, _, _, _, xL_TooMany, xR_TooMany⟩, over_of xL_TooMany xR_TooMany, xa_TooMany, xs_TooMany, xt_TooMany, xp_TooMany⟩,
    xf_TooMany := ⟨xga_TooMany, xgt_TooMany, xs_TooMany, xh_TooMany⟩,
    xn_TooMany_given := xn_TooMany_given,
    xn_TooMany_index := xn_TooMany_index,
    xn_TooMany_number := xn_TooMany_number,
    xn_TooMany_told := xn_TooMany_told,
    xj_TooMany := a_TooMany___init__,
    xy_TooMany := xy_TooMany,
    f_is_name := f_is_name,
    e_is_name := PySem.W.fnOf "is_name" "is_name" (defArgs s_is_name) (defBody s_is_name) (defScope s_is_name) .none kV_is_name dc_is_name pm_is_name an_is_name cd_is_name ct_is_name,
    F_is_name := fun_mk (st := s_is_name) l_is_name c_is_name k_is_name,
    b_is_name := Fun.binds (ps := ["value"]) (fun_mk (st := s_is_name) l_is_name c_is_name k_is_name) fun _ _ _ _ _ _ us hl => match us, hl with | [_], _ => rfl,
    m_is_name := PySem.W.mg_of X G a_is_name,
    f_are_names := f_are_names,
    e_are_names := PySem.W.fnOf "are_names" "are_names" (defArgs s_are_names) (defBody s_are_names) (defScope s_are_names) .none kV_are_names dc_are_names pm_are_names an_are_names cd_are_names ct_are_names,
    F_are_names := fun_mk (st := s_are_names) l_are_names c_are_names k_are_names,
    b_are_names := Fun.binds (ps := ["values"]) (fun_mk (st := s_are_names) l_are_names c_are_names k_are_names) fun _ _ _ _ _ _ us hl => match us, hl with | [_], _ => rfl,
    m_are_names := PySem.W.mg_of X G a_are_names,
    f_is_any_row := f_is_any_row,
    e_is_any_row := PySem.W.fnOf "is_any_row" "is_any_row" (defArgs s_is_any_row) (defBody s_is_any_row) (defScope s_is_any_row) .none kV_is_any_row dc_is_any_row pm_is_any_row an_is_any_row cd_is_any_row ct_is_any_row,
    F_is_any_row := fun_mk (st := s_is_any_row) l_is_any_row c_is_any_row k_is_any_row,
    b_is_any_row := Fun.binds (ps := ["value"]) (fun_mk (st := s_is_any_row) l_is_any_row c_is_any_row k_is_any_row) fun _ _ _ _ _ _ us hl => match us, hl with | [_], _ => rfl,
    m_is_any_row := PySem.W.mg_of X G a_is_any_row,
    f_is_row := f_is_row,
    e_is_row := PySem.W.fnOf "is_row" "is_row" (defArgs s_is_row) (defBody s_is_row) (defScope s_is_row) .none kV_is_row dc_is_row pm_is_row an_is_row cd_is_row ct_is_row,
    F_is_row := fun_mk (st := s_is_row) l_is_row c_is_row k_is_row,
    b_is_row := Fun.binds (ps := ["value", "many"]) (fun_mk (st := s_is_row) l_is_row c_is_row k_is_row) fun _ _ _ _ _ _ us hl => match us, hl with | [_, _], _ => rfl,
    m_is_row := PySem.W.mg_of X G a_is_row,
    f_is_whole := f_is_whole,
    e_is_whole := PySem.W.fnOf "is_whole" "is_whole" (defArgs s_is_whole) (defBody s_is_whole) (defScope s_is_whole) .none kV_is_whole dc_is_whole pm_is_whole an_is_whole cd_is_whole ct_is_whole,
    F_is_whole := fun_mk (st := s_is_whole) l_is_whole c_is_whole k_is_whole,
    b_is_whole := Fun.binds (ps := ["value"]) (fun_mk (st := s_is_whole) l_is_whole c_is_whole k_is_whole) fun _ _ _ _ _ _ us hl => match us, hl with | [_], _ => rfl,
    m_is_whole := PySem.W.mg_of X G a_is_whole,
    f_is_index := f_is_index,
    e_is_index := PySem.W.fnOf "is_index" "is_index" (defArgs s_is_index) (defBody s_is_index) (defScope s_is_index) .none kV_is_index dc_is_index pm_is_index an_is_index cd_is_index ct_is_index,
    F_is_index := fun_mk (st := s_is_index) l_is_index c_is_index k_is_index,
    b_is_index := Fun.binds (ps := ["value", "many"]) (fun_mk (st := s_is_index) l_is_index c_is_index k_is_index) fun _ _ _ _ _ _ us hl => match us, hl with | [_, _], _ => rfl,
    m_is_index := PySem.W.mg_of X G a_is_index,
    f_InvalidRow___init__ := f_InvalidRow___init__,
    e_InvalidRow___init__ := PySem.W.fnOf "__init__" "InvalidRow.__init__" (defArgs s_InvalidRow___init__) (defBody s_InvalidRow___init__) (defScope s_InvalidRow___init__) .none kV_InvalidRow___init__ dc_InvalidRow___init__ pm_InvalidRow___init__ an_InvalidRow___init__ cd_InvalidRow___init__ ct_InvalidRow___init__,
    F_InvalidRow___init__ := fun_mk (st := s_InvalidRow___init__) l_InvalidRow___init__ c_InvalidRow___init__ k_InvalidRow___init__,
    b_InvalidRow___init__ := Fun.binds (ps := ["self", "given"]) (fun_mk (st := s_InvalidRow___init__) l_InvalidRow___init__ c_InvalidRow___init__ k_InvalidRow___init__) fun _ _ _ _ _ _ us hl => match us, hl with | [_, _], _ => rfl,
    f_check_row := f_check_row,
    e_check_row := PySem.W.fnOf "check_row" "check_row" (defArgs s_check_row) (defBody s_check_row) (defScope s_check_row) .none kV_check_row dc_check_row pm_check_row an_check_row cd_check_row ct_check_row,
    F_check_row := fun_mk (st := s_check_row) l_check_row c_check_row k_check_row,
    b_check_row := Fun.binds (ps := ["row", "many"]) (fun_mk (st := s_check_row) l_check_row c_check_row k_check_row) fun _ _ _ _ _ _ us hl => match us, hl with | [_, _], _ => rfl,
    m_check_row := PySem.W.mg_of X G a_check_row,
    f_read_book := f_read_book,
    e_read_book := PySem.W.fnOf "read_book" "read_book" (defArgs s_read_book) (defBody s_read_book) (defScope s_read_book) .none kV_read_book dc_read_book pm_read_book an_read_book cd_read_book ct_read_book,
    F_read_book := fun_mk (st := s_read_book) l_read_book c_read_book k_read_book,
    b_read_book := Fun.binds (ps := ["text"]) (fun_mk (st := s_read_book) l_read_book c_read_book k_read_book) fun _ _ _ _ _ _ us hl => match us, hl with | [_], _ => rfl,
    m_read_book := PySem.W.mg_of X G a_read_book,
    f_turned := f_turned,
    e_turned := PySem.W.fnOf "turned" "turned" (defArgs s_turned) (defBody s_turned) (defScope s_turned) .none kV_turned dc_turned pm_turned an_turned cd_turned ct_turned,
    F_turned := fun_mk (st := s_turned) l_turned c_turned k_turned,
    b_turned := Fun.binds (ps := ["row"]) (fun_mk (st := s_turned) l_turned c_turned k_turned) fun _ _ _ _ _ _ us hl => match us, hl with | [_], _ => rfl,
    m_turned := PySem.W.mg_of X G a_turned,
    f_NotABook___init__ := f_NotABook___init__,
    e_NotABook___init__ := PySem.W.fnOf "__init__" "NotABook.__init__" (defArgs s_NotABook___init__) (defBody s_NotABook___init__) (defScope s_NotABook___init__) .none kV_NotABook___init__ dc_NotABook___init__ pm_NotABook___init__ an_NotABook___init__ cd_NotABook___init__ ct_NotABook___init__,
    F_NotABook___init__ := fun_mk (st := s_NotABook___init__) l_NotABook___init__ c_NotABook___init__ k_NotABook___init__,
    b_NotABook___init__ := Fun.binds (ps := ["self", "given"]) (fun_mk (st := s_NotABook___init__) l_NotABook___init__ c_NotABook___init__ k_NotABook___init__) fun _ _ _ _ _ _ us hl => match us, hl with | [_, _], _ => rfl,
    f_check_book := f_check_book,
    e_check_book := PySem.W.fnOf "check_book" "check_book" (defArgs s_check_book) (defBody s_check_book) (defScope s_check_book) .none kV_check_book dc_check_book pm_check_book an_check_book cd_check_book ct_check_book,
    F_check_book := fun_mk (st := s_check_book) l_check_book c_check_book k_check_book,
    b_check_book := Fun.binds (ps := ["book"]) (fun_mk (st := s_check_book) l_check_book c_check_book k_check_book) fun _ _ _ _ _ _ us hl => match us, hl with | [_], _ => rfl,
    m_check_book := PySem.W.mg_of X G a_check_book,
    f_head_of := f_head_of,
    e_head_of := PySem.W.fnOf "head_of" "head_of" (defArgs s_head_of) (defBody s_head_of) (defScope s_head_of) .none kV_head_of dc_head_of pm_head_of an_head_of cd_head_of ct_head_of,
    F_head_of := fun_mk (st := s_head_of) l_head_of c_head_of k_head_of,
    b_head_of := Fun.binds (ps := ["rules"]) (fun_mk (st := s_head_of) l_head_of c_head_of k_head_of) fun _ _ _ _ _ _ us hl => match us, hl with | [_], _ => rfl,
    m_head_of := PySem.W.mg_of X G a_head_of,
    f_rules_of := f_rules_of,
    e_rules_of := PySem.W.fnOf "rules_of" "rules_of" (defArgs s_rules_of) (defBody s_rules_of) (defScope s_rules_of) .none kV_rules_of dc_rules_of pm_rules_of an_rules_of cd_rules_of ct_rules_of,
    F_rules_of := fun_mk (st := s_rules_of) l_rules_of c_rules_of k_rules_of,
    b_rules_of := Fun.binds (ps := ["head", "many"]) (fun_mk (st := s_rules_of) l_rules_of c_rules_of k_rules_of) fun _ _ _ _ _ _ us hl => match us, hl with | [_, _], _ => rfl,
    m_rules_of := PySem.W.mg_of X G a_rules_of,
    f_sides := f_sides,
    e_sides := PySem.W.fnOf "sides" "sides" (defArgs s_sides) (defBody s_sides) (defScope s_sides) .none kV_sides dc_sides pm_sides an_sides cd_sides ct_sides,
    F_sides := fun_mk (st := s_sides) l_sides c_sides k_sides,
    b_sides := Fun.binds (ps := ["row"]) (fun_mk (st := s_sides) l_sides c_sides k_sides) fun _ _ _ _ _ _ us hl => match us, hl with | [_], _ => rfl,
    m_sides := PySem.W.mg_of X G a_sides,
    f_rules_behind := f_rules_behind,
    e_rules_behind := PySem.W.fnOf "rules_behind" "rules_behind" (defArgs s_rules_behind) (defBody s_rules_behind) (defScope s_rules_behind) .none kV_rules_behind dc_rules_behind pm_rules_behind an_rules_behind cd_rules_behind ct_rules_behind,
    F_rules_behind := fun_mk (st := s_rules_behind) l_rules_behind c_rules_behind k_rules_behind,
    b_rules_behind := Fun.binds (ps := ["head", "told", "many"]) (fun_mk (st := s_rules_behind) l_rules_behind c_rules_behind k_rules_behind) fun _ _ _ _ _ _ us hl => match us, hl with | [_, _, _], _ => rfl,
    m_rules_behind := PySem.W.mg_of X G a_rules_behind,
    f_steps := f_steps,
    e_steps := PySem.W.fnOf "steps" "steps" (defArgs s_steps) (defBody s_steps) (defScope s_steps) .none kV_steps dc_steps pm_steps an_steps cd_steps ct_steps,
    F_steps := fun_mk (st := s_steps) l_steps c_steps k_steps,
    b_steps := Fun.binds (ps := ["rows", "many"]) (fun_mk (st := s_steps) l_steps c_steps k_steps) fun _ _ _ _ _ _ us hl => match us, hl with | [_, _], _ => rfl,
    m_steps := PySem.W.mg_of X G a_steps,
    f_has_sign := f_has_sign,
    e_has_sign := PySem.W.fnOf "has_sign" "has_sign" (defArgs s_has_sign) (defBody s_has_sign) (defScope s_has_sign) .none kV_has_sign dc_has_sign pm_has_sign an_has_sign cd_has_sign ct_has_sign,
    F_has_sign := fun_mk (st := s_has_sign) l_has_sign c_has_sign k_has_sign,
    b_has_sign := Fun.binds (ps := ["row", "rules", "sign"]) (fun_mk (st := s_has_sign) l_has_sign c_has_sign k_has_sign) fun _ _ _ _ _ _ us hl => match us, hl with | [_, _, _], _ => rfl,
    m_has_sign := PySem.W.mg_of X G a_has_sign,
    f_split := f_split,
    e_split := PySem.W.fnOf "split" "split" (defArgs s_split) (defBody s_split) (defScope s_split) .none kV_split dc_split pm_split an_split cd_split ct_split,
    F_split := fun_mk (st := s_split) l_split c_split k_split,
    b_split := Fun.binds (ps := ["rows", "many"]) (fun_mk (st := s_split) l_split c_split k_split) fun _ _ _ _ _ _ us hl => match us, hl with | [_, _], _ => rfl,
    m_split := PySem.W.mg_of X G a_split,
    f_some_fits := f_some_fits,
    e_some_fits := PySem.W.fnOf "some_fits" "some_fits" (defArgs s_some_fits) (defBody s_some_fits) (defScope s_some_fits) .none kV_some_fits dc_some_fits pm_some_fits an_some_fits cd_some_fits ct_some_fits,
    F_some_fits := fun_mk (st := s_some_fits) l_some_fits c_some_fits k_some_fits,
    b_some_fits := Fun.binds (ps := ["rows", "many"]) (fun_mk (st := s_some_fits) l_some_fits c_some_fits k_some_fits) fun _ _ _ _ _ _ us hl => match us, hl with | [_, _], _ => rfl,
    m_some_fits := PySem.W.mg_of X G a_some_fits,
    f_all_lots := f_all_lots,
    e_all_lots := PySem.W.fnOf "all_lots" "all_lots" (defArgs s_all_lots) (defBody s_all_lots) (defScope s_all_lots) .none kV_all_lots dc_all_lots pm_all_lots an_all_lots (.ref lc_all_lots) ct_all_lots,
    F_all_lots := fun_mk (st := s_all_lots) l_all_lots c_all_lots k_all_lots,
    b_all_lots := Fun.binds (ps := ["many"]) (fun_mk (st := s_all_lots) l_all_lots c_all_lots k_all_lots) fun _ _ _ _ _ _ us hl => match us, hl with | [_], _ => rfl,
    lc_all_lots := lc_all_lots,
    lt_all_lots := lt_all_lots,
    FC_all_lots := ⟨_, _, _, _, _, _, _, _, rfl, l_all_lots, c_all_lots⟩,
    m_all_lots := PySem.W.mg_of X G a_all_lots,
    f_has_part := f_has_part,
    e_has_part := PySem.W.fnOf "has_part" "has_part" (defArgs s_has_part) (defBody s_has_part) (defScope s_has_part) .none kV_has_part dc_has_part pm_has_part an_has_part cd_has_part ct_has_part,
    F_has_part := fun_mk (st := s_has_part) l_has_part c_has_part k_has_part,
    b_has_part := Fun.binds (ps := ["lot", "others"]) (fun_mk (st := s_has_part) l_has_part c_has_part k_has_part) fun _ _ _ _ _ _ us hl => match us, hl with | [_, _], _ => rfl,
    m_has_part := PySem.W.mg_of X G a_has_part,
    f_InvalidNumber___init__ := f_InvalidNumber___init__,
    e_InvalidNumber___init__ := PySem.W.fnOf "__init__" "InvalidNumber.__init__" (defArgs s_InvalidNumber___init__) (defBody s_InvalidNumber___init__) (defScope s_InvalidNumber___init__) .none kV_InvalidNumber___init__ dc_InvalidNumber___init__ pm_InvalidNumber___init__ an_InvalidNumber___init__ cd_InvalidNumber___init__ ct_InvalidNumber___init__,
    F_InvalidNumber___init__ := fun_mk (st := s_InvalidNumber___init__) l_InvalidNumber___init__ c_InvalidNumber___init__ k_InvalidNumber___init__,
    b_InvalidNumber___init__ := Fun.binds (ps := ["self", "given"]) (fun_mk (st := s_InvalidNumber___init__) l_InvalidNumber___init__ c_InvalidNumber___init__ k_InvalidNumber___init__) fun _ _ _ _ _ _ us hl => match us, hl with | [_, _], _ => rfl,
    f_check_most := f_check_most,
    e_check_most := PySem.W.fnOf "check_most" "check_most" (defArgs s_check_most) (defBody s_check_most) (defScope s_check_most) .none kV_check_most dc_check_most pm_check_most an_check_most cd_check_most ct_check_most,
    F_check_most := fun_mk (st := s_check_most) l_check_most c_check_most k_check_most,
    b_check_most := Fun.binds (ps := ["most"]) (fun_mk (st := s_check_most) l_check_most c_check_most k_check_most) fun _ _ _ _ _ _ us hl => match us, hl with | [_], _ => rfl,
    m_check_most := PySem.W.mg_of X G a_check_most,
    f_Book_names := f_Book_names,
    e_Book_names := PySem.W.fnOf "names" "Book.names" (defArgs s_Book_names) (defBody s_Book_names) (defScope s_Book_names) .none kV_Book_names dc_Book_names pm_Book_names an_Book_names cd_Book_names ct_Book_names,
    F_Book_names := fun_mk (st := s_Book_names) l_Book_names c_Book_names k_Book_names,
    b_Book_names := Fun.binds (ps := ["self"]) (fun_mk (st := s_Book_names) l_Book_names c_Book_names k_Book_names) fun _ _ _ _ _ _ us hl => match us, hl with | [_], _ => rfl,
    q_Book_names := q_Book_names,
    p_Book_names := ⟨a_Book_names, g_Book_names, t_Book_names, ⟨_, r_Book_names⟩⟩,
    f_Book_rows := f_Book_rows,
    e_Book_rows := PySem.W.fnOf "rows" "Book.rows" (defArgs s_Book_rows) (defBody s_Book_rows) (defScope s_Book_rows) .none kV_Book_rows dc_Book_rows pm_Book_rows an_Book_rows cd_Book_rows ct_Book_rows,
    F_Book_rows := fun_mk (st := s_Book_rows) l_Book_rows c_Book_rows k_Book_rows,
    b_Book_rows := Fun.binds (ps := ["self"]) (fun_mk (st := s_Book_rows) l_Book_rows c_Book_rows k_Book_rows) fun _ _ _ _ _ _ us hl => match us, hl with | [_], _ => rfl,
    q_Book_rows := q_Book_rows,
    p_Book_rows := ⟨a_Book_rows, g_Book_rows, t_Book_rows, ⟨_, r_Book_rows⟩⟩,
    f_fits_without := f_fits_without,
    e_fits_without := PySem.W.fnOf "fits_without" "fits_without" (defArgs s_fits_without) (defBody s_fits_without) (defScope s_fits_without) .none kV_fits_without dc_fits_without pm_fits_without an_fits_without cd_fits_without ct_fits_without,
    F_fits_without := fun_mk (st := s_fits_without) l_fits_without c_fits_without k_fits_without,
    b_fits_without := Fun.binds (ps := ["book", "lot"]) (fun_mk (st := s_fits_without) l_fits_without c_fits_without k_fits_without) fun _ _ _ _ _ _ us hl => match us, hl with | [_, _], _ => rfl,
    m_fits_without := PySem.W.mg_of X G a_fits_without,
    f_TooMany___init__ := f_TooMany___init__,
    e_TooMany___init__ := PySem.W.fnOf "__init__" "TooMany.__init__" (defArgs s_TooMany___init__) (defBody s_TooMany___init__) (defScope s_TooMany___init__) .none kV_TooMany___init__ dc_TooMany___init__ pm_TooMany___init__ an_TooMany___init__ cd_TooMany___init__ ct_TooMany___init__,
    F_TooMany___init__ := fun_mk (st := s_TooMany___init__) l_TooMany___init__ c_TooMany___init__ k_TooMany___init__,
    b_TooMany___init__ := Fun.binds (ps := ["self", "number"]) (fun_mk (st := s_TooMany___init__) l_TooMany___init__ c_TooMany___init__ k_TooMany___init__) fun _ _ _ _ _ _ us hl => match us, hl with | [_, _], _ => rfl,
    f_struck := f_struck,
    e_struck := PySem.W.fnOf "struck" "struck" (defArgs s_struck) (defBody s_struck) (defScope s_struck) .none kV_struck dc_struck pm_struck an_struck cd_struck ct_struck,
    F_struck := fun_mk (st := s_struck) l_struck c_struck k_struck,
    b_struck := Fun.binds (ps := ["book"]) (fun_mk (st := s_struck) l_struck c_struck k_struck) fun _ _ _ _ _ _ us hl => match us, hl with | [_], _ => rfl,
    m_struck := PySem.W.mg_of X G a_struck,
    f_count_fallen := f_count_fallen,
    e_count_fallen := PySem.W.fnOf "count_fallen" "count_fallen" (defArgs s_count_fallen) (defBody s_count_fallen) (defScope s_count_fallen) .none kV_count_fallen dc_count_fallen pm_count_fallen an_count_fallen cd_count_fallen ct_count_fallen,
    F_count_fallen := fun_mk (st := s_count_fallen) l_count_fallen c_count_fallen k_count_fallen,
    b_count_fallen := Fun.binds (ps := ["told", "head", "rule"]) (fun_mk (st := s_count_fallen) l_count_fallen c_count_fallen k_count_fallen) fun _ _ _ _ _ _ us hl => match us, hl with | [_, _, _], _ => rfl,
    m_count_fallen := PySem.W.mg_of X G a_count_fallen,
    f_least_wrong := f_least_wrong,
    e_least_wrong := PySem.W.fnOf "least_wrong" "least_wrong" (defArgs s_least_wrong) (defBody s_least_wrong) (defScope s_least_wrong) .none kV_least_wrong dc_least_wrong pm_least_wrong an_least_wrong cd_least_wrong ct_least_wrong,
    F_least_wrong := fun_mk (st := s_least_wrong) l_least_wrong c_least_wrong k_least_wrong,
    b_least_wrong := Fun.binds (ps := ["rows", "row"]) (fun_mk (st := s_least_wrong) l_least_wrong c_least_wrong k_least_wrong) fun _ _ _ _ _ _ us hl => match us, hl with | [_, _], _ => rfl,
    m_least_wrong := PySem.W.mg_of X G a_least_wrong,
    f_fewest_of_all := f_fewest_of_all,
    e_fewest_of_all := PySem.W.fnOf "fewest_of_all" "fewest_of_all" (defArgs s_fewest_of_all) (defBody s_fewest_of_all) (defScope s_fewest_of_all) .none kV_fewest_of_all dc_fewest_of_all pm_fewest_of_all an_fewest_of_all cd_fewest_of_all ct_fewest_of_all,
    F_fewest_of_all := fun_mk (st := s_fewest_of_all) l_fewest_of_all c_fewest_of_all k_fewest_of_all,
    b_fewest_of_all := Fun.binds (ps := ["book"]) (fun_mk (st := s_fewest_of_all) l_fewest_of_all c_fewest_of_all k_fewest_of_all) fun _ _ _ _ _ _ us hl => match us, hl with | [_], _ => rfl,
    m_fewest_of_all := PySem.W.mg_of X G a_fewest_of_all,
    f_fewest_wrong := f_fewest_wrong,
    e_fewest_wrong := PySem.W.fnOf "fewest_wrong" "fewest_wrong" (defArgs s_fewest_wrong) (defBody s_fewest_wrong) (defScope s_fewest_wrong) .none kV_fewest_wrong dc_fewest_wrong pm_fewest_wrong an_fewest_wrong cd_fewest_wrong ct_fewest_wrong,
    F_fewest_wrong := fun_mk (st := s_fewest_wrong) l_fewest_wrong c_fewest_wrong k_fewest_wrong,
    b_fewest_wrong := Fun.binds (ps := ["book"]) (fun_mk (st := s_fewest_wrong) l_fewest_wrong c_fewest_wrong k_fewest_wrong) fun _ _ _ _ _ _ us hl => match us, hl with | [_], _ => rfl,
    m_fewest_wrong := PySem.W.mg_of X G a_fewest_wrong,
    f_holds_for_some := f_holds_for_some,
    e_holds_for_some := PySem.W.fnOf "holds_for_some" "holds_for_some" (defArgs s_holds_for_some) (defBody s_holds_for_some) (defScope s_holds_for_some) .none kV_holds_for_some dc_holds_for_some pm_holds_for_some an_holds_for_some cd_holds_for_some ct_holds_for_some,
    F_holds_for_some := fun_mk (st := s_holds_for_some) l_holds_for_some c_holds_for_some k_holds_for_some,
    b_holds_for_some := Fun.binds (ps := ["book", "row", "most"]) (fun_mk (st := s_holds_for_some) l_holds_for_some c_holds_for_some k_holds_for_some) fun _ _ _ _ _ _ us hl => match us, hl with | [_, _, _], _ => rfl,
    m_holds_for_some := PySem.W.mg_of X G a_holds_for_some,
    f_surely_wrong := f_surely_wrong,
    e_surely_wrong := PySem.W.fnOf "surely_wrong" "surely_wrong" (defArgs s_surely_wrong) (defBody s_surely_wrong) (defScope s_surely_wrong) .none kV_surely_wrong dc_surely_wrong pm_surely_wrong an_surely_wrong cd_surely_wrong ct_surely_wrong,
    F_surely_wrong := fun_mk (st := s_surely_wrong) l_surely_wrong c_surely_wrong k_surely_wrong,
    b_surely_wrong := Fun.binds (ps := ["book", "most"]) (fun_mk (st := s_surely_wrong) l_surely_wrong c_surely_wrong k_surely_wrong) fun _ _ _ _ _ _ us hl => match us, hl with | [_, _], _ => rfl,
    m_surely_wrong := PySem.W.mg_of X G a_surely_wrong,
    f_follows_with := f_follows_with,
    e_follows_with := PySem.W.fnOf "follows_with" "follows_with" (defArgs s_follows_with) (defBody s_follows_with) (defScope s_follows_with) .none kV_follows_with dc_follows_with pm_follows_with an_follows_with cd_follows_with ct_follows_with,
    F_follows_with := fun_mk (st := s_follows_with) l_follows_with c_follows_with k_follows_with,
    b_follows_with := Fun.binds (ps := ["book", "row", "most"]) (fun_mk (st := s_follows_with) l_follows_with c_follows_with k_follows_with) fun _ _ _ _ _ _ us hl => match us, hl with | [_, _, _], _ => rfl,
    m_follows_with := PySem.W.mg_of X G a_follows_with,
    f__law_cell := f__law_cell,
    e__law_cell := PySem.W.fnOf "_law_cell" "_law_cell" (defArgs s__law_cell) (defBody s__law_cell) (defScope s__law_cell) .none kV__law_cell dc__law_cell pm__law_cell an__law_cell cd__law_cell ct__law_cell,
    F__law_cell := fun_mk (st := s__law_cell) l__law_cell c__law_cell k__law_cell,
    b__law_cell := Fun.binds (ps := ["_law_cells", "_law_k"]) (fun_mk (st := s__law_cell) l__law_cell c__law_cell k__law_cell) fun _ _ _ _ _ _ us hl => match us, hl with | [_, _], _ => rfl,
    m__law_cell := PySem.W.mg_of X G a__law_cell,
    f__law_well := f__law_well,
    e__law_well := PySem.W.fnOf "_law_well" "_law_well" (defArgs s__law_well) (defBody s__law_well) (defScope s__law_well) .none kV__law_well dc__law_well pm__law_well an__law_well cd__law_well ct__law_well,
    F__law_well := fun_mk (st := s__law_well) l__law_well c__law_well k__law_well,
    b__law_well := Fun.binds (ps := ["_law_cell_here"]) (fun_mk (st := s__law_well) l__law_well c__law_well k__law_well) fun _ _ _ _ _ _ us hl => match us, hl with | [_], _ => rfl,
    m__law_well := PySem.W.mg_of X G a__law_well,
    f__law_dip := f__law_dip,
    e__law_dip := PySem.W.fnOf "_law_dip" "_law_dip" (defArgs s__law_dip) (defBody s__law_dip) (defScope s__law_dip) .none kV__law_dip dc__law_dip pm__law_dip an__law_dip cd__law_dip ct__law_dip,
    F__law_dip := fun_mk (st := s__law_dip) l__law_dip c__law_dip k__law_dip,
    b__law_dip := Fun.binds (ps := ["_law_jar", "_law_many"]) (fun_mk (st := s__law_dip) l__law_dip c__law_dip k__law_dip) fun _ _ _ _ _ _ us hl => match us, hl with | [_, _], _ => rfl,
    m__law_dip := PySem.W.mg_of X G a__law_dip,
    f__law_pick := f__law_pick,
    e__law_pick := PySem.W.fnOf "_law_pick" "_law_pick" (defArgs s__law_pick) (defBody s__law_pick) (defScope s__law_pick) .none kV__law_pick dc__law_pick pm__law_pick an__law_pick cd__law_pick ct__law_pick,
    F__law_pick := fun_mk (st := s__law_pick) l__law_pick c__law_pick k__law_pick,
    b__law_pick := Fun.binds (ps := ["_law_jar", "_law_things"]) (fun_mk (st := s__law_pick) l__law_pick c__law_pick k__law_pick) fun _ _ _ _ _ _ us hl => match us, hl with | [_, _], _ => rfl,
    m__law_pick := PySem.W.mg_of X G a__law_pick,
    f__law_tags := f__law_tags,
    e__law_tags := PySem.W.fnOf "_law_tags" "_law_tags" (defArgs s__law_tags) (defBody s__law_tags) (defScope s__law_tags) .none kV__law_tags dc__law_tags pm__law_tags an__law_tags cd__law_tags ct__law_tags,
    F__law_tags := fun_mk (st := s__law_tags) l__law_tags c__law_tags k__law_tags,
    b__law_tags := Fun.binds (ps := ["_law_jar", "_law_many"]) (fun_mk (st := s__law_tags) l__law_tags c__law_tags k__law_tags) fun _ _ _ _ _ _ us hl => match us, hl with | [_, _], _ => rfl,
    m__law_tags := PySem.W.mg_of X G a__law_tags,
    f__law_turned := f__law_turned,
    e__law_turned := PySem.W.fnOf "_law_turned" "_law_turned" (defArgs s__law_turned) (defBody s__law_turned) (defScope s__law_turned) .none kV__law_turned dc__law_turned pm__law_turned an__law_turned cd__law_turned ct__law_turned,
    F__law_turned := fun_mk (st := s__law_turned) l__law_turned c__law_turned k__law_turned,
    b__law_turned := Fun.binds (ps := ["_law_signs"]) (fun_mk (st := s__law_turned) l__law_turned c__law_turned k__law_turned) fun _ _ _ _ _ _ us hl => match us, hl with | [_], _ => rfl,
    m__law_turned := PySem.W.mg_of X G a__law_turned,
    f__law_row := f__law_row,
    e__law_row := PySem.W.fnOf "_law_row" "_law_row" (defArgs s__law_row) (defBody s__law_row) (defScope s__law_row) .none kV__law_row dc__law_row pm__law_row an__law_row cd__law_row ct__law_row,
    F__law_row := fun_mk (st := s__law_row) l__law_row c__law_row k__law_row,
    b__law_row := Fun.binds (ps := ["_law_jar", "_law_many"]) (fun_mk (st := s__law_row) l__law_row c__law_row k__law_row) fun _ _ _ _ _ _ us hl => match us, hl with | [_, _], _ => rfl,
    m__law_row := PySem.W.mg_of X G a__law_row,
    f__law_book_page := f__law_book_page,
    e__law_book_page := PySem.W.fnOf "_law_book_page" "_law_book_page" (defArgs s__law_book_page) (defBody s__law_book_page) (defScope s__law_book_page) .none kV__law_book_page dc__law_book_page pm__law_book_page an__law_book_page cd__law_book_page ct__law_book_page,
    F__law_book_page := fun_mk (st := s__law_book_page) l__law_book_page c__law_book_page k__law_book_page,
    b__law_book_page := Fun.binds (ps := ["_law_tags_here", "_law_rows"]) (fun_mk (st := s__law_book_page) l__law_book_page c__law_book_page k__law_book_page) fun _ _ _ _ _ _ us hl => match us, hl with | [_, _], _ => rfl,
    m__law_book_page := PySem.W.mg_of X G a__law_book_page,
    f_Book___repr__ := f_Book___repr__,
    e_Book___repr__ := PySem.W.fnOf "__repr__" "Book.__repr__" (defArgs s_Book___repr__) (defBody s_Book___repr__) (defScope s_Book___repr__) .none kV_Book___repr__ dc_Book___repr__ pm_Book___repr__ an_Book___repr__ cd_Book___repr__ ct_Book___repr__,
    F_Book___repr__ := fun_mk (st := s_Book___repr__) l_Book___repr__ c_Book___repr__ k_Book___repr__,
    b_Book___repr__ := Fun.binds (ps := ["self"]) (fun_mk (st := s_Book___repr__) l_Book___repr__ c_Book___repr__ k_Book___repr__) fun _ _ _ _ _ _ us hl => match us, hl with | [_], _ => rfl,
    h_Book___repr__ := ⟨a_Book___repr__, i_Book___repr__, k_Book___repr__⟩,
    f__law_heard := f__law_heard,
    e__law_heard := PySem.W.fnOf "_law_heard" "_law_heard" (defArgs s__law_heard) (defBody s__law_heard) (defScope s__law_heard) .none kV__law_heard dc__law_heard pm__law_heard an__law_heard cd__law_heard ct__law_heard,
    F__law_heard := fun_mk (st := s__law_heard) l__law_heard c__law_heard k__law_heard,
    b__law_heard := Fun.binds (ps := ["_law_act"]) (fun_mk (st := s__law_heard) l__law_heard c__law_heard k__law_heard) fun _ _ _ _ _ _ us hl => match us, hl with | [_], _ => rfl,
    m__law_heard := PySem.W.mg_of X G a__law_heard,
    f__law_all_heard := f__law_all_heard,
    e__law_all_heard := PySem.W.fnOf "_law_all_heard" "_law_all_heard" (defArgs s__law_all_heard) (defBody s__law_all_heard) (defScope s__law_all_heard) .none kV__law_all_heard dc__law_all_heard pm__law_all_heard an__law_all_heard cd__law_all_heard ct__law_all_heard,
    F__law_all_heard := fun_mk (st := s__law_all_heard) l__law_all_heard c__law_all_heard k__law_all_heard,
    b__law_all_heard := Fun.binds (ps := ["_law_acts", "_law_due"]) (fun_mk (st := s__law_all_heard) l__law_all_heard c__law_all_heard k__law_all_heard) fun _ _ _ _ _ _ us hl => match us, hl with | [_, _], _ => rfl,
    m__law_all_heard := PySem.W.mg_of X G a__law_all_heard,
    f__law_any_rows := f__law_any_rows,
    e__law_any_rows := PySem.W.fnOf "_law_any_rows" "_law_any_rows" (defArgs s__law_any_rows) (defBody s__law_any_rows) (defScope s__law_any_rows) .none kV__law_any_rows dc__law_any_rows pm__law_any_rows an__law_any_rows cd__law_any_rows ct__law_any_rows,
    F__law_any_rows := fun_mk (st := s__law_any_rows) l__law_any_rows c__law_any_rows k__law_any_rows,
    b__law_any_rows := Fun.binds (ps := ["_law_jar", "_law_many", "_law_top_here"]) (fun_mk (st := s__law_any_rows) l__law_any_rows c__law_any_rows k__law_any_rows) fun _ _ _ _ _ _ us hl => match us, hl with | [_, _, _], _ => rfl,
    m__law_any_rows := PySem.W.mg_of X G a__law_any_rows,
    f_Book___init__ := f_Book___init__,
    e_Book___init__ := PySem.W.fnOf "__init__" "Book.__init__" (defArgs s_Book___init__) (defBody s_Book___init__) (defScope s_Book___init__) .none kV_Book___init__ dc_Book___init__ pm_Book___init__ an_Book___init__ cd_Book___init__ ct_Book___init__,
    F_Book___init__ := fun_mk (st := s_Book___init__) l_Book___init__ c_Book___init__ k_Book___init__,
    b_Book___init__ := Fun.binds (ps := ["self", "text"]) (fun_mk (st := s_Book___init__) l_Book___init__ c_Book___init__ k_Book___init__) fun _ _ _ _ _ _ us hl => match us, hl with | [_, _], _ => rfl,
    mk_Book := ⟨cmk_Book, a_Book___init__, i_Book___init__, ckc_Book⟩,
    f_Book___str__ := f_Book___str__,
    e_Book___str__ := PySem.W.fnOf "__str__" "Book.__str__" (defArgs s_Book___str__) (defBody s_Book___str__) (defScope s_Book___str__) .none kV_Book___str__ dc_Book___str__ pm_Book___str__ an_Book___str__ cd_Book___str__ ct_Book___str__,
    F_Book___str__ := fun_mk (st := s_Book___str__) l_Book___str__ c_Book___str__ k_Book___str__,
    b_Book___str__ := Fun.binds (ps := ["self"]) (fun_mk (st := s_Book___str__) l_Book___str__ c_Book___str__ k_Book___str__) fun _ _ _ _ _ _ us hl => match us, hl with | [_], _ => rfl,
    h_Book___str__ := ⟨a_Book___str__, i_Book___str__, k_Book___str__⟩,
    f__law_right := f__law_right,
    e__law_right := PySem.W.fnOf "_law_right" "_law_right" (defArgs s__law_right) (defBody s__law_right) (defScope s__law_right) .none kV__law_right dc__law_right pm__law_right an__law_right (.ref lc__law_right) ct__law_right,
    F__law_right := fun_mk (st := s__law_right) l__law_right c__law_right k__law_right,
    b__law_right := Fun.binds (ps := ["_law_jar"]) (fun_mk (st := s__law_right) l__law_right c__law_right k__law_right) fun _ _ _ _ _ _ us hl => match us, hl with | [_], _ => rfl,
    lc__law_right := lc__law_right,
    lt__law_right := lt__law_right,
    FC__law_right := ⟨_, _, _, _, _, _, _, _, rfl, l__law_right, c__law_right⟩,
    m__law_right := PySem.W.mg_of X G a__law_right,
    f_law := fa,
    e_law := PySem.W.fnOf "law" "law" (defArgs s_law) (defBody s_law) (defScope s_law) .none kV_law dc_law pm_law an_law cd_law ct_law,
    F_law := fun_mk (st := s_law) l_law c_law k_law,
    b_law := Fun.binds (ps := ["_law_cells"]) (fun_mk (st := s_law) l_law c_law k_law) fun _ _ _ _ _ _ us hl => match us, hl with | [_], _ => rfl,
    m_law := PySem.W.mg_of X G a_law,
    n_abs := PySem.W.mg_none_of X G z_abs,
    n_all := PySem.W.mg_none_of X G z_all,
    n_any := PySem.W.mg_none_of X G z_any,
    n_bool := PySem.W.mg_none_of X G z_bool,
    n_divmod := PySem.W.mg_none_of X G z_divmod,
    n_enumerate := PySem.W.mg_none_of X G z_enumerate,
    n_int := PySem.W.mg_none_of X G z_int,
    n_isinstance := PySem.W.mg_none_of X G z_isinstance,
    n_len := PySem.W.mg_none_of X G z_len,
    n_list := PySem.W.mg_none_of X G z_list,
    n_max := PySem.W.mg_none_of X G z_max,
    n_min := PySem.W.mg_none_of X G z_min,
    n_range := PySem.W.mg_none_of X G z_range,
    n_repr := PySem.W.mg_none_of X G z_repr,
    n_sorted := PySem.W.mg_none_of X G z_sorted,
    n_str := PySem.W.mg_none_of X G z_str,
    n_sum := PySem.W.mg_none_of X G z_sum,
    n_tuple := PySem.W.mg_none_of X G z_tuple,
    n_zip := PySem.W.mg_none_of X G z_zip,
    t_LETTERS := t_LETTERS,
    c_LETTERS := PySem.W.mg_of X G v_LETTERS,
    t_MOST_LETTERS := t_MOST_LETTERS,
    c_MOST_LETTERS := PySem.W.mg_of X G v_MOST_LETTERS,
    t_MOST_ROWS := t_MOST_ROWS,
    c_MOST_ROWS := PySem.W.mg_of X G v_MOST_ROWS,
    t_MOST_RULES := t_MOST_RULES,
    c_MOST_RULES := PySem.W.mg_of X G v_MOST_RULES,
    t_MOST_STRUCK := t_MOST_STRUCK,
    c_MOST_STRUCK := PySem.W.mg_of X G v_MOST_STRUCK,
    a_OPPOSITES := a_OPPOSITES,
    c_OPPOSITES := PySem.W.mg_of X G v_OPPOSITES,
    w_OPPOSITES_43 := ⟨_, _, _, dl_OPPOSITES, dk_OPPOSITES, w_OPPOSITES_43, ⟨_, rfl⟩⟩,
    w_OPPOSITES_45 := ⟨_, _, _, dl_OPPOSITES, dk_OPPOSITES, w_OPPOSITES_45, ⟨_, rfl⟩⟩,
    w_OPPOSITES_46 := ⟨_, _, _, dl_OPPOSITES, dk_OPPOSITES, w_OPPOSITES_46, ⟨_, rfl⟩⟩,
    t_SIGNS := t_SIGNS,
    c_SIGNS := PySem.W.mg_of X G v_SIGNS,
    k_struck_book := kb_struck_book l_struck c_struck k_struck,
    k_follows_with_most_row_book := kb_follows_with_most_row_book l_follows_with c_follows_with k_follows_with,
    k_fewest_wrong_book := kb_fewest_wrong_book l_fewest_wrong c_fewest_wrong k_fewest_wrong,
    k_surely_wrong_most_book := kb_surely_wrong_most_book l_surely_wrong c_surely_wrong k_surely_wrong,
    no_text := no1,
    no_names := no2,
    no_rows := no3,
    ins_Book := ⟨⟨cpg_Book, chd_Book, cpo_Book, csa_Book⟩, cia_Book, ihn, iht, cim_Book⟩,
    or_Book := a_Book___repr__,
    ir_Book := i_Book___repr__,
    os_Book := a_Book___str__,
    is_Book := i_Book___str__,
    ct_Book := no7,
    kt_Bs := kit_cs nx5,
    tts := [(lt_all_lots, qn_all_lots f_all_lots lc_all_lots), (lt__law_right, qn__law_right f__law_right lc__law_right)], tabs := ok, hm_all_lots := List.mem_cons_self, hm__law_right := (List.mem_cons_of_mem _ List.mem_cons_self) }
  exact ⟨T.e_law, I, [(lc_all_lots, lt_all_lots, qn_all_lots f_all_lots lc_all_lots), (lc__law_right, lt__law_right, qn__law_right f__law_right lc__law_right)], fun s v => .of_eq rfl, ok, (f_cons o_all_lots.1 (f_cons o__law_right.1 f_nil)), (f_cons ln_all_lots (f_cons ln__law_right f_nil)), (f_cons o_all_lots.2 (f_cons o__law_right.2 f_nil)), fun base hb => d_law T (hb _ (List.mem_cons_of_mem _ List.mem_cons_self)) (hb _ List.mem_cons_self)⟩
end K37

open PySem PySem.W PyProof.Rows in
set_option maxRecDepth 100000 in
set_option maxHeartbeats 0 in
theorem PySem.Challenge.cw_rankedrules_k37_doubts_refused_holds : PySem.Challenge.rw_rankedrules_k37_doubts_refused.Holds := by
  w_on; o_law; k_head; (case hw => w_witness2)
  k_fill
  refine Dw.walk_GT (l := PySem.Challenge.rw_rankedrules_k37_doubts_refused) (k := 19) (x := "_law_cells") (sp := K37.spLaw) rfl rfl ⟨rfl, by decide, by decide⟩ (fun w h Y => PySem.W.km_in_of Y) (fun K ns h hb => ⟨ns, rfl, ⟨h, hb⟩, fun d h => h⟩) ?F
  case F =>
    intro w mg fa h KX G hmg tb
    refine' K37.all_mk KX G hmg tb ?cm_Book ?cpg_Book ?chd_Book ?cpo_Book ?csa_Book ?cmk_Book ?ckc_Book ?cia_Book ?cim_Book ?cm_InvalidCases ?cm_InvalidNumber ?cm_InvalidOffers ?cm_InvalidRanking ?cm_InvalidRow ?cm_NoRanking ?cm_NotABook ?cm_NotACase ?cm_TooMany ?cm_UnknownName ?xh_InvalidCases ?xt_InvalidCases ?xh_InvalidNumber ?xt_InvalidNumber ?xh_InvalidOffers ?xt_InvalidOffers ?xh_InvalidRanking ?xt_InvalidRanking ?xh_InvalidRow ?xt_InvalidRow ?xh_NoRanking ?xt_NoRanking ?xh_NotABook ?xt_NotABook ?xh_NotACase ?xt_NotACase ?xh_TooMany ?xt_TooMany ?xh_UnknownName ?xt_UnknownName ?xs_InvalidCases ?xs_InvalidNumber ?xs_InvalidOffers ?xs_InvalidRanking ?xs_InvalidRow ?xs_NoRanking ?xs_NotABook ?xs_NotACase ?xs_TooMany ?xs_UnknownName ?xga_InvalidNumber ?xgt_InvalidNumber ?xcl_InvalidNumber ?xo_InvalidNumber ?xp_InvalidNumber ?xu_InvalidNumber_InvalidNumber ?xu_InvalidNumber_NotABook ?xu_InvalidNumber_NotACase ?xu_InvalidNumber_UnknownName ?xu_InvalidNumber_InvalidRanking ?xu_InvalidNumber_InvalidRow ?xL_InvalidNumber ?xR_InvalidNumber ?xa_InvalidNumber ?xn_InvalidNumber_given ?xn_InvalidNumber_index ?xn_InvalidNumber_number ?xn_InvalidNumber_told ?xga_InvalidRow ?xgt_InvalidRow ?xcl_InvalidRow ?xo_InvalidRow ?xp_InvalidRow ?xu_InvalidRow_InvalidRow ?xu_InvalidRow_NotABook ?xu_InvalidRow_NotACase ?xu_InvalidRow_UnknownName ?xu_InvalidRow_InvalidRanking ?xL_InvalidRow ?xR_InvalidRow ?xa_InvalidRow ?xn_InvalidRow_given ?xn_InvalidRow_index ?xn_InvalidRow_number ?xn_InvalidRow_told ?xga_NoRanking ?xgt_NoRanking ?xcl_NoRanking ?xo_NoRanking ?xi_NoRanking ?xp_NoRanking ?xu_NoRanking_NoRanking ?xu_NoRanking_NotABook ?xu_NoRanking_NotACase ?xu_NoRanking_UnknownName ?xu_NoRanking_InvalidRanking ?xu_NoRanking_InvalidRow ?xu_NoRanking_InvalidNumber ?xu_NoRanking_InvalidCases ?xu_NoRanking_InvalidOffers ?xu_NoRanking_TooMany ?xga_NotABook ?xgt_NotABook ?xcl_NotABook ?xo_NotABook ?xp_NotABook ?xu_NotABook_NotABook ?xL_NotABook ?xR_NotABook ?xa_NotABook ?xn_NotABook_given ?xn_NotABook_index ?xn_NotABook_number ?xn_NotABook_told ?xga_TooMany ?xgt_TooMany ?xcl_TooMany ?xo_TooMany ?xp_TooMany ?xu_TooMany_TooMany ?xu_TooMany_NotABook ?xu_TooMany_NotACase ?xu_TooMany_UnknownName ?xu_TooMany_InvalidRanking ?xu_TooMany_InvalidRow ?xu_TooMany_InvalidNumber ?xu_TooMany_InvalidCases ?xu_TooMany_InvalidOffers ?xL_TooMany ?xR_TooMany ?xa_TooMany ?xn_TooMany_given ?xn_TooMany_index ?xn_TooMany_number ?xn_TooMany_told ?ihn ?iht ?a_is_name ?l_is_name ?c_is_name ?k_is_name ?a_are_names ?l_are_names ?c_are_names ?k_are_names ?a_is_any_row ?l_is_any_row ?c_is_any_row ?k_is_any_row ?a_is_row ?l_is_row ?c_is_row ?k_is_row ?a_is_whole ?l_is_whole ?c_is_whole ?k_is_whole ?a_is_index ?l_is_index ?c_is_index ?k_is_index ?a_InvalidRow___init__ ?i_InvalidRow___init__ ?xy_InvalidRow ?l_InvalidRow___init__ ?c_InvalidRow___init__ ?k_InvalidRow___init__ ?a_check_row ?l_check_row ?c_check_row ?k_check_row ?a_read_book ?l_read_book ?c_read_book ?k_read_book ?a_turned ?l_turned ?c_turned ?k_turned ?a_NotABook___init__ ?i_NotABook___init__ ?xy_NotABook ?l_NotABook___init__ ?c_NotABook___init__ ?k_NotABook___init__ ?a_check_book ?l_check_book ?c_check_book ?k_check_book ?a_head_of ?l_head_of ?c_head_of ?k_head_of ?a_rules_of ?l_rules_of ?c_rules_of ?k_rules_of ?a_sides ?l_sides ?c_sides ?k_sides ?a_rules_behind ?l_rules_behind ?c_rules_behind ?k_rules_behind ?a_steps ?l_steps ?c_steps ?k_steps ?a_has_sign ?l_has_sign ?c_has_sign ?k_has_sign ?a_split ?l_split ?c_split ?k_split ?a_some_fits ?l_some_fits ?c_some_fits ?k_some_fits ?a_all_lots ?l_all_lots ?c_all_lots ?k_all_lots ?lk_all_lots ?lp_all_lots ?ln_all_lots ?lr_all_lots ?a_has_part ?l_has_part ?c_has_part ?k_has_part ?a_InvalidNumber___init__ ?i_InvalidNumber___init__ ?xy_InvalidNumber ?l_InvalidNumber___init__ ?c_InvalidNumber___init__ ?k_InvalidNumber___init__ ?a_check_most ?l_check_most ?c_check_most ?k_check_most ?a_Book_names ?g_Book_names ?t_Book_names ?r_Book_names ?l_Book_names ?c_Book_names ?k_Book_names ?a_Book_rows ?g_Book_rows ?t_Book_rows ?r_Book_rows ?l_Book_rows ?c_Book_rows ?k_Book_rows ?a_fits_without ?l_fits_without ?c_fits_without ?k_fits_without ?a_TooMany___init__ ?i_TooMany___init__ ?xy_TooMany ?l_TooMany___init__ ?c_TooMany___init__ ?k_TooMany___init__ ?a_struck ?l_struck ?c_struck ?k_struck ?a_count_fallen ?l_count_fallen ?c_count_fallen ?k_count_fallen ?a_least_wrong ?l_least_wrong ?c_least_wrong ?k_least_wrong ?a_fewest_of_all ?l_fewest_of_all ?c_fewest_of_all ?k_fewest_of_all ?a_fewest_wrong ?l_fewest_wrong ?c_fewest_wrong ?k_fewest_wrong ?a_holds_for_some ?l_holds_for_some ?c_holds_for_some ?k_holds_for_some ?a_surely_wrong ?l_surely_wrong ?c_surely_wrong ?k_surely_wrong ?a_follows_with ?l_follows_with ?c_follows_with ?k_follows_with ?a__law_cell ?l__law_cell ?c__law_cell ?k__law_cell ?a__law_well ?l__law_well ?c__law_well ?k__law_well ?a__law_dip ?l__law_dip ?c__law_dip ?k__law_dip ?a__law_pick ?l__law_pick ?c__law_pick ?k__law_pick ?a__law_tags ?l__law_tags ?c__law_tags ?k__law_tags ?a__law_turned ?l__law_turned ?c__law_turned ?k__law_turned ?a__law_row ?l__law_row ?c__law_row ?k__law_row ?a__law_book_page ?l__law_book_page ?c__law_book_page ?k__law_book_page ?a_Book___repr__ ?i_Book___repr__ ?l_Book___repr__ ?c_Book___repr__ ?k_Book___repr__ ?a__law_heard ?l__law_heard ?c__law_heard ?k__law_heard ?a__law_all_heard ?l__law_all_heard ?c__law_all_heard ?k__law_all_heard ?a__law_any_rows ?l__law_any_rows ?c__law_any_rows ?k__law_any_rows ?a_Book___init__ ?i_Book___init__ ?l_Book___init__ ?c_Book___init__ ?k_Book___init__ ?a_Book___str__ ?i_Book___str__ ?l_Book___str__ ?c_Book___str__ ?k_Book___str__ ?a__law_right ?l__law_right ?c__law_right ?k__law_right ?lk__law_right ?lp__law_right ?ln__law_right ?lr__law_right ?a_law ?l_law ?c_law ?k_law ?z_abs ?z_all ?z_any ?z_bool ?z_divmod ?z_enumerate ?z_int ?z_isinstance ?z_len ?z_list ?z_max ?z_min ?z_range ?z_repr ?z_sorted ?z_str ?z_sum ?z_tuple ?z_zip ?v_LETTERS ?v_MOST_LETTERS ?v_MOST_ROWS ?v_MOST_RULES ?v_MOST_STRUCK ?v_OPPOSITES ?dl_OPPOSITES ?dk_OPPOSITES ?w_OPPOSITES_43 ?w_OPPOSITES_45 ?w_OPPOSITES_46 ?v_SIGNS ?no1 ?no2 ?no3 ?no7 ?nx5 ?ltnd
    (case cm_Book => k_is)
    (case cpg_Book => k_is)
    (case chd_Book => k_is)
    (case cpo_Book => k_is)
    (case csa_Book => k_is)
    (case cmk_Book => k_is)
    (case ckc_Book => k_is)
    (case cia_Book => k_is)
    (case cim_Book => k_is)
    (case cm_InvalidCases => k_is)
    (case cm_InvalidNumber => k_is)
    (case cm_InvalidOffers => k_is)
    (case cm_InvalidRanking => k_is)
    (case cm_InvalidRow => k_is)
    (case cm_NoRanking => k_is)
    (case cm_NotABook => k_is)
    (case cm_NotACase => k_is)
    (case cm_TooMany => k_is)
    (case cm_UnknownName => k_is)
    (case xh_InvalidCases => k_is)
    (case xt_InvalidCases => k_is)
    (case xh_InvalidNumber => k_is)
    (case xt_InvalidNumber => k_is)
    (case xh_InvalidOffers => k_is)
    (case xt_InvalidOffers => k_is)
    (case xh_InvalidRanking => k_is)
    (case xt_InvalidRanking => k_is)
    (case xh_InvalidRow => k_is)
    (case xt_InvalidRow => k_is)
    (case xh_NoRanking => k_is)
    (case xt_NoRanking => k_is)
    (case xh_NotABook => k_is)
    (case xt_NotABook => k_is)
    (case xh_NotACase => k_is)
    (case xt_NotACase => k_is)
    (case xh_TooMany => k_is)
    (case xt_TooMany => k_is)
    (case xh_UnknownName => k_is)
    (case xt_UnknownName => k_is)
    (case xs_InvalidCases => k_is)
    (case xs_InvalidNumber => k_is)
    (case xs_InvalidOffers => k_is)
    (case xs_InvalidRanking => k_is)
    (case xs_InvalidRow => k_is)
    (case xs_NoRanking => k_is)
    (case xs_NotABook => k_is)
    (case xs_NotACase => k_is)
    (case xs_TooMany => k_is)
    (case xs_UnknownName => k_is)
    (case xga_InvalidNumber => k_is)
    (case xgt_InvalidNumber => k_is)
    (case xcl_InvalidNumber => k_is)
    (case xo_InvalidNumber => k_is)
    (case xp_InvalidNumber => k_is)
    (case xu_InvalidNumber_InvalidNumber => k_is)
    (case xu_InvalidNumber_NotABook => k_is)
    (case xu_InvalidNumber_NotACase => k_is)
    (case xu_InvalidNumber_UnknownName => k_is)
    (case xu_InvalidNumber_InvalidRanking => k_is)
    (case xu_InvalidNumber_InvalidRow => k_is)
    (case xL_InvalidNumber => k_is)
    (case xR_InvalidNumber => first | rfl | decide +kernel)
    (case xa_InvalidNumber => k_is)
    (case xn_InvalidNumber_given => k_is)
    (case xn_InvalidNumber_index => k_is)
    (case xn_InvalidNumber_number => k_is)
    (case xn_InvalidNumber_told => k_is)
    (case xga_InvalidRow => k_is)
    (case xgt_InvalidRow => k_is)
    (case xcl_InvalidRow => k_is)
    (case xo_InvalidRow => k_is)
    (case xp_InvalidRow => k_is)
    (case xu_InvalidRow_InvalidRow => k_is)
    (case xu_InvalidRow_NotABook => k_is)
    (case xu_InvalidRow_NotACase => k_is)
    (case xu_InvalidRow_UnknownName => k_is)
    (case xu_InvalidRow_InvalidRanking => k_is)
    (case xL_InvalidRow => k_is)
    (case xR_InvalidRow => first | rfl | decide +kernel)
    (case xa_InvalidRow => k_is)
    (case xn_InvalidRow_given => k_is)
    (case xn_InvalidRow_index => k_is)
    (case xn_InvalidRow_number => k_is)
    (case xn_InvalidRow_told => k_is)
    (case xga_NoRanking => k_is)
    (case xgt_NoRanking => k_is)
    (case xcl_NoRanking => k_is)
    (case xo_NoRanking => k_is)
    (case xi_NoRanking => first | k_exc | k_is)
    (case xp_NoRanking => k_is)
    (case xu_NoRanking_NoRanking => k_is)
    (case xu_NoRanking_NotABook => k_is)
    (case xu_NoRanking_NotACase => k_is)
    (case xu_NoRanking_UnknownName => k_is)
    (case xu_NoRanking_InvalidRanking => k_is)
    (case xu_NoRanking_InvalidRow => k_is)
    (case xu_NoRanking_InvalidNumber => k_is)
    (case xu_NoRanking_InvalidCases => k_is)
    (case xu_NoRanking_InvalidOffers => k_is)
    (case xu_NoRanking_TooMany => k_is)
    (case xga_NotABook => k_is)
    (case xgt_NotABook => k_is)
    (case xcl_NotABook => k_is)
    (case xo_NotABook => k_is)
    (case xp_NotABook => k_is)
    (case xu_NotABook_NotABook => k_is)
    (case xL_NotABook => k_is)
    (case xR_NotABook => first | rfl | decide +kernel)
    (case xa_NotABook => k_is)
    (case xn_NotABook_given => k_is)
    (case xn_NotABook_index => k_is)
    (case xn_NotABook_number => k_is)
    (case xn_NotABook_told => k_is)
    (case xga_TooMany => k_is)
    (case xgt_TooMany => k_is)
    (case xcl_TooMany => k_is)
    (case xo_TooMany => k_is)
    (case xp_TooMany => k_is)
    (case xu_TooMany_TooMany => k_is)
    (case xu_TooMany_NotABook => k_is)
    (case xu_TooMany_NotACase => k_is)
    (case xu_TooMany_UnknownName => k_is)
    (case xu_TooMany_InvalidRanking => k_is)
    (case xu_TooMany_InvalidRow => k_is)
    (case xu_TooMany_InvalidNumber => k_is)
    (case xu_TooMany_InvalidCases => k_is)
    (case xu_TooMany_InvalidOffers => k_is)
    (case xL_TooMany => k_is)
    (case xR_TooMany => first | rfl | decide +kernel)
    (case xa_TooMany => k_is)
    (case xn_TooMany_given => k_is)
    (case xn_TooMany_index => k_is)
    (case xn_TooMany_number => k_is)
    (case xn_TooMany_told => k_is)
    (case ihn => k_is)
    (case iht => k_is)
    (case a_is_name => k_is)
    (case l_is_name => k_is)
    (case c_is_name => k_is)
    (case k_is_name => k_is)
    (case a_are_names => k_is)
    (case l_are_names => k_is)
    (case c_are_names => k_is)
    (case k_are_names => k_is)
    (case a_is_any_row => k_is)
    (case l_is_any_row => k_is)
    (case c_is_any_row => k_is)
    (case k_is_any_row => k_is)
    (case a_is_row => k_is)
    (case l_is_row => k_is)
    (case c_is_row => k_is)
    (case k_is_row => k_is)
    (case a_is_whole => k_is)
    (case l_is_whole => k_is)
    (case c_is_whole => k_is)
    (case k_is_whole => k_is)
    (case a_is_index => k_is)
    (case l_is_index => k_is)
    (case c_is_index => k_is)
    (case k_is_index => k_is)
    (case a_InvalidRow___init__ => k_is)
    (case i_InvalidRow___init__ => k_is)
    (case xy_InvalidRow => k_is)
    (case l_InvalidRow___init__ => k_is)
    (case c_InvalidRow___init__ => k_is)
    (case k_InvalidRow___init__ => k_is)
    (case a_check_row => k_is)
    (case l_check_row => k_is)
    (case c_check_row => k_is)
    (case k_check_row => k_is)
    (case a_read_book => k_is)
    (case l_read_book => k_is)
    (case c_read_book => k_is)
    (case k_read_book => k_is)
    (case a_turned => k_is)
    (case l_turned => k_is)
    (case c_turned => k_is)
    (case k_turned => k_is)
    (case a_NotABook___init__ => k_is)
    (case i_NotABook___init__ => k_is)
    (case xy_NotABook => k_is)
    (case l_NotABook___init__ => k_is)
    (case c_NotABook___init__ => k_is)
    (case k_NotABook___init__ => k_is)
    (case a_check_book => k_is)
    (case l_check_book => k_is)
    (case c_check_book => k_is)
    (case k_check_book => k_is)
    (case a_head_of => k_is)
    (case l_head_of => k_is)
    (case c_head_of => k_is)
    (case k_head_of => k_is)
    (case a_rules_of => k_is)
    (case l_rules_of => k_is)
    (case c_rules_of => k_is)
    (case k_rules_of => k_is)
    (case a_sides => k_is)
    (case l_sides => k_is)
    (case c_sides => k_is)
    (case k_sides => k_is)
    (case a_rules_behind => k_is)
    (case l_rules_behind => k_is)
    (case c_rules_behind => k_is)
    (case k_rules_behind => k_is)
    (case a_steps => k_is)
    (case l_steps => k_is)
    (case c_steps => k_is)
    (case k_steps => k_is)
    (case a_has_sign => k_is)
    (case l_has_sign => k_is)
    (case c_has_sign => k_is)
    (case k_has_sign => k_is)
    (case a_split => k_is)
    (case l_split => k_is)
    (case c_split => k_is)
    (case k_split => k_is)
    (case a_some_fits => k_is)
    (case l_some_fits => k_is)
    (case c_some_fits => k_is)
    (case k_some_fits => k_is)
    (case a_all_lots => k_is)
    (case l_all_lots => k_is)
    (case c_all_lots => k_is)
    (case k_all_lots => k_is)
    (case lk_all_lots => k_is)
    (case lp_all_lots => rfl)
    (case ln_all_lots => first | rfl | kernel_rfl)
    (case lr_all_lots => first | rfl | decide +kernel)
    (case a_has_part => k_is)
    (case l_has_part => k_is)
    (case c_has_part => k_is)
    (case k_has_part => k_is)
    (case a_InvalidNumber___init__ => k_is)
    (case i_InvalidNumber___init__ => k_is)
    (case xy_InvalidNumber => k_is)
    (case l_InvalidNumber___init__ => k_is)
    (case c_InvalidNumber___init__ => k_is)
    (case k_InvalidNumber___init__ => k_is)
    (case a_check_most => k_is)
    (case l_check_most => k_is)
    (case c_check_most => k_is)
    (case k_check_most => k_is)
    (case a_Book_names => k_is)
    (case g_Book_names => k_is)
    (case t_Book_names => k_is)
    (case r_Book_names => k_is)
    (case l_Book_names => k_is)
    (case c_Book_names => k_is)
    (case k_Book_names => k_is)
    (case a_Book_rows => k_is)
    (case g_Book_rows => k_is)
    (case t_Book_rows => k_is)
    (case r_Book_rows => k_is)
    (case l_Book_rows => k_is)
    (case c_Book_rows => k_is)
    (case k_Book_rows => k_is)
    (case a_fits_without => k_is)
    (case l_fits_without => k_is)
    (case c_fits_without => k_is)
    (case k_fits_without => k_is)
    (case a_TooMany___init__ => k_is)
    (case i_TooMany___init__ => k_is)
    (case xy_TooMany => k_is)
    (case l_TooMany___init__ => k_is)
    (case c_TooMany___init__ => k_is)
    (case k_TooMany___init__ => k_is)
    (case a_struck => k_is)
    (case l_struck => k_is)
    (case c_struck => k_is)
    (case k_struck => k_is)
    (case a_count_fallen => k_is)
    (case l_count_fallen => k_is)
    (case c_count_fallen => k_is)
    (case k_count_fallen => k_is)
    (case a_least_wrong => k_is)
    (case l_least_wrong => k_is)
    (case c_least_wrong => k_is)
    (case k_least_wrong => k_is)
    (case a_fewest_of_all => k_is)
    (case l_fewest_of_all => k_is)
    (case c_fewest_of_all => k_is)
    (case k_fewest_of_all => k_is)
    (case a_fewest_wrong => k_is)
    (case l_fewest_wrong => k_is)
    (case c_fewest_wrong => k_is)
    (case k_fewest_wrong => k_is)
    (case a_holds_for_some => k_is)
    (case l_holds_for_some => k_is)
    (case c_holds_for_some => k_is)
    (case k_holds_for_some => k_is)
    (case a_surely_wrong => k_is)
    (case l_surely_wrong => k_is)
    (case c_surely_wrong => k_is)
    (case k_surely_wrong => k_is)
    (case a_follows_with => k_is)
    (case l_follows_with => k_is)
    (case c_follows_with => k_is)
    (case k_follows_with => k_is)
    (case a__law_cell => k_is)
    (case l__law_cell => k_is)
    (case c__law_cell => k_is)
    (case k__law_cell => k_is)
    (case a__law_well => k_is)
    (case l__law_well => k_is)
    (case c__law_well => k_is)
    (case k__law_well => k_is)
    (case a__law_dip => k_is)
    (case l__law_dip => k_is)
    (case c__law_dip => k_is)
    (case k__law_dip => k_is)
    (case a__law_pick => k_is)
    (case l__law_pick => k_is)
    (case c__law_pick => k_is)
    (case k__law_pick => k_is)
    (case a__law_tags => k_is)
    (case l__law_tags => k_is)
    (case c__law_tags => k_is)
    (case k__law_tags => k_is)
    (case a__law_turned => k_is)
    (case l__law_turned => k_is)
    (case c__law_turned => k_is)
    (case k__law_turned => k_is)
    (case a__law_row => k_is)
    (case l__law_row => k_is)
    (case c__law_row => k_is)
    (case k__law_row => k_is)
    (case a__law_book_page => k_is)
    (case l__law_book_page => k_is)
    (case c__law_book_page => k_is)
    (case k__law_book_page => k_is)
    (case a_Book___repr__ => k_is)
    (case i_Book___repr__ => k_is)
    (case l_Book___repr__ => k_is)
    (case c_Book___repr__ => k_is)
    (case k_Book___repr__ => k_is)
    (case a__law_heard => k_is)
    (case l__law_heard => k_is)
    (case c__law_heard => k_is)
    (case k__law_heard => k_is)
    (case a__law_all_heard => k_is)
    (case l__law_all_heard => k_is)
    (case c__law_all_heard => k_is)
    (case k__law_all_heard => k_is)
    (case a__law_any_rows => k_is)
    (case l__law_any_rows => k_is)
    (case c__law_any_rows => k_is)
    (case k__law_any_rows => k_is)
    (case a_Book___init__ => k_is)
    (case i_Book___init__ => k_is)
    (case l_Book___init__ => k_is)
    (case c_Book___init__ => k_is)
    (case k_Book___init__ => k_is)
    (case a_Book___str__ => k_is)
    (case i_Book___str__ => k_is)
    (case l_Book___str__ => k_is)
    (case c_Book___str__ => k_is)
    (case k_Book___str__ => k_is)
    (case a__law_right => k_is)
    (case l__law_right => k_is)
    (case c__law_right => k_is)
    (case k__law_right => k_is)
    (case lk__law_right => k_is)
    (case lp__law_right => rfl)
    (case ln__law_right => first | rfl | kernel_rfl)
    (case lr__law_right => first | rfl | decide +kernel)
    (case a_law => k_is)
    (case l_law => k_is)
    (case c_law => k_is)
    (case k_law => k_is)
    (case z_abs => k_is)
    (case z_all => k_is)
    (case z_any => k_is)
    (case z_bool => k_is)
    (case z_divmod => k_is)
    (case z_enumerate => k_is)
    (case z_int => k_is)
    (case z_isinstance => k_is)
    (case z_len => k_is)
    (case z_list => k_is)
    (case z_max => k_is)
    (case z_min => k_is)
    (case z_range => k_is)
    (case z_repr => k_is)
    (case z_sorted => k_is)
    (case z_str => k_is)
    (case z_sum => k_is)
    (case z_tuple => k_is)
    (case z_zip => k_is)
    (case v_LETTERS => k_is)
    (case v_MOST_LETTERS => k_is)
    (case v_MOST_ROWS => k_is)
    (case v_MOST_RULES => k_is)
    (case v_MOST_STRUCK => k_is)
    (case v_OPPOSITES => k_is)
    (case dl_OPPOSITES => k_is)
    (case dk_OPPOSITES => first | exact ⟨⟨_, _, rfl, rfl⟩, ⟨_, _, rfl, rfl⟩, ⟨_, _, rfl, rfl⟩, trivial⟩ | (refine He.keysLit_of (ks := ["+", "-", "."]) ?_; k_is) | (refine He.keysLit_of (ks := ["+", "-", "."]) ?_; rfl) | trace_state)
    (case w_OPPOSITES_43 => k_is)
    (case w_OPPOSITES_45 => k_is)
    (case w_OPPOSITES_46 => k_is)
    (case v_SIGNS => k_is)
    (case no1 => k_is)
    (case no2 => k_is)
    (case no3 => k_is)
    (case no7 => k_is)
    (case nx5 => k_is)
    (case ltnd => first | decide | (simp; done))
#print axioms PySem.Challenge.cw_rankedrules_k37_doubts_refused_holds



import PyProof.Rows.All
import Wide.All
import OpenK.AllK
import Wide.FinOn
import HandS.Base
import HandS.Call
import HandS.List
import HandS.Comp
import HandS.Ends
import HandS.Iter
import HandS.Text
import HandS.Words
import HandS.Lambda
import HandS.IsInst
import HandS.Conv
import HandS.Zip
import HandS.Property
import HandS.Star
import HandS.Sort
import HandS.Dict
import HandS.Flow
import HandS.WrittenGet
import KE.KUnpackStar
import KE.GoesNew
import HandS.Codes
import PyProof.P3Eq
import HandS.SetFor
import HandS.Strs
import PyProof.ReprReads
import HandS.RevRange
import PyProof.EnumMake
import KE.GoesMore
import HandS.Style
import HandS.TupAny
import HandS.EndBits
import HandS.WideBits
import HandS.More
import PyProof.Rows.EqBoolInt
import HandS.TryOnly
import HandS.Deep
import HandS.Small
import KE.KDictDisplayH
import HandS.DictComp
import HandS.CallLocal
import HandS.ListItems
import PyProof.FString5
import PyProof.TupleOfStr
import HandS.Exc
import HandS.SuiteRaise
import KE.KTryMore
import HandS.ExcIs
import HandS.ExcField
import HandS.HotCalls
import HandS.ExcOwn
import PyProof.ExcBaseAll.ArithmeticError
import HandS.EndTab
import HandS.EndOwn
import KE.KExcIs
import HandS.ExcInit
import PyProof.CallFns
import KE.DatumIndex
import HandS.TupSets
import KE.SortData
import KE.SortKeyHeap
import KE.KLam
import HandS.OwnEq
import KE.KCallOwn
import KE.KFmtOwn
import PyProof.InstEq
import PyProof.InstNe
import HandS.FStr
import HandS.MakeKwOnly
import HandS.RaiseMore
import HandS.MakeKw
import HandS.Replace
import HandS.ReplaceLit
import PyProof.Rows.SortStr
import HandS.SetTxt0
import PyProof.ReprHeadsTuple
import PyProof.ListStr
import HandS.HeadHook3
import HandS.ForMost
import PySem.Challenge.RW_rankedrules_k09_rankings_refused
set_option Elab.async false
set_option linter.all false
set_option maxRecDepth 100000
set_option maxHeartbeats 4000000
set_option autoImplicit false
/-! A data layer over HandS's readings: what a slot holds is said as plain data (D), never as addresses. -/
namespace Dw
open PySem PySem.Spec PyProof.Rows L2

/-- a list of the written part -/
def SqK (K : PySem.W.Frag) (a : Addr) (xs : List V) : Prop :=
  ∃ (o : Obj) (its : Array Value) (n : Nat), K.lookup a = some o ∧ o.cls = .type "list" ∧ o.dict = none ∧ o.data = .seq its n ∧ its.size ≤ sizeLine ∧ Vals xs its.toList
/-- which addresses hold a table of code objects, and of what name these are -/
class Tabs0 where
  nm : Addr → Option Str
variable [Tabs0]
/-- plain data -/
inductive D where
  | non | bl (b : Bool) | int (i : Int) | str (x : Str)
  | tup (ds : List D) | lst (ds : List D)
  | obj (C : Addr) (ns : List Str) (ds : List D)
  | raw (v : V)
  | purse
  | rng (lo hi : Int)
  | dct (ks : List Key) (ds : List D)
  | scr (K : PySem.W.Frag) (vs : List V)
  | tupN (ds : List D)
  | tag (d : D)

/-- a world: the abstract heap, the addresses that may change (U), the purses among them (P) -/
structure Wd where
  H : Hp
  U : Addr → Prop
  P : Addr → Prop

/-- a tuple to be read, as it is -/
def TupAt (H : Hp) (a : Addr) (vs : List V) : Prop := Rd H a (.tup vs)
/-- .. one that is known to have no dict of its own -/
def TupN (H : Hp) (a : Addr) (vs : List V) : Prop := ∃ o : Obj, H a = some (.frz o (.tup vs)) ∧ o.cls = .type "tuple" ∧ o.dict = none
theorem TupAt.mk {H : Hp} {a : Addr} {vs : List V} (h : H a = some (.tup vs)) : TupAt H a vs := .inl h
theorem TupAt.sq {K : PySem.W.Frag} {H : Hp} {a : Addr} {vs : List V} (h : TupAt H a vs) : SqT K H a vs := .inl h
theorem TupN.at {H : Hp} {a : Addr} {vs : List V} (h : TupN H a vs) : TupAt H a vs := let ⟨o, e, _⟩ := h; .inr ⟨o, e⟩
theorem TupAt.imp {H H' : Hp} {a : Addr} {vs : List V} (s : ∀ u, H a = some u → H' a = some u) (h : TupAt H a vs) : TupAt H' a vs := h.elim (fun h => .inl (s _ h)) fun ⟨o, h⟩ => .inr ⟨o, s _ h⟩
theorem TupN.imp {H H' : Hp} {a : Addr} {vs : List V} (s : ∀ u, H a = some u → H' a = some u) (h : TupN H a vs) : TupN H' a vs := let ⟨o, e, c⟩ := h; ⟨o, s _ e, c⟩
theorem TupAt.same {H H' : Hp} {a : Addr} {vs : List V} (h : TupAt H a vs) (s : Same H H') : TupAt H' a vs := h.imp (s a)
theorem TupN.same {H H' : Hp} {a : Addr} {vs : List V} (h : TupN H a vs) (s : Same H H') : TupN H' a vs := h.imp (s a)
theorem TupAt.some {H : Hp} {a : Addr} {vs : List V} (h : TupAt H a vs) : ∃ u, H a = some u := h.elim (fun h => ⟨_, h⟩) fun ⟨_, h⟩ => ⟨_, h⟩
theorem TupAt.keep {H H' : Hp} {U U' : Addr → Prop} {a : Addr} {vs : List V} (h : TupAt H a vs) (n : ¬ U a) (k : ∀ u, H a = Option.some u → ¬ U a → H' a = Option.some u ∧ ¬ U' a) : TupAt H' a vs ∧ ¬ U' a := let ⟨u, e⟩ := h.some; ⟨h.imp fun u e => (k u e n).1, (k u e n).2⟩
mutual
def Rep (W : Wd) : D → V → Prop
  | .non, v => v = .non
  | .bl b, v => v = .bl b
  | .int i, v => v = .int i
  | .str x, v => v = .str x
  | .raw u, v => v = u
  | .tup ds, v => ∃ a vs, v = .ref a ∧ TupAt W.H a vs ∧ ¬ W.U a ∧ RepL W ds vs
  | .tupN ds, v => ∃ a vs, v = .ref a ∧ TupN W.H a vs ∧ ¬ W.U a ∧ RepL W ds vs
  | .lst ds, v => ∃ a vs, v = .ref a ∧ W.H a = some (.lst vs) ∧ ¬ W.U a ∧ RepL W ds vs
  | .obj C ns ds, v => ∃ a dx vs, v = .ref a ∧ W.H a = some (.ins C dx (ns.zip vs)) ∧ ¬ W.U a ∧ ns.length = vs.length ∧ RepL W ds vs
  | .purse, v => ∃ a, v = .ref a ∧ W.P a ∧ Tabs0.nm a = none ∧ ∀ p q, Tabs0.nm p = some q → W.P p
  | .rng lo hi, v => ∃ a, v = .ref a ∧ W.H a = some (.rng lo hi) ∧ ¬ W.U a
  | .dct ks ds, v => ∃ a vs, v = .ref a ∧ W.H a = some (.dK (ks.zip vs)) ∧ ¬ W.U a ∧ ks.length = vs.length ∧ RepL W ds vs
  | .scr K vs, v => ∃ a, v = .ref a ∧ ((∃ u, W.H a = some u ∧ ¬ W.U a ∧ (u = .lst vs ∨ ∃ o, u = .frz o (.lst vs))) ∨ SqK K a vs) ∧ ∀ p q, Tabs0.nm p = some q → W.P p
  | .tag d, v => Rep W d v ∧ ∀ p q, Tabs0.nm p = some q → W.P p
def RepL (W : Wd) : List D → List V → Prop
  | [], vs => vs = []
  | d :: ds, vs => ∃ v r, vs = v :: r ∧ Rep W d v ∧ RepL W ds r
end

def PurseAt (H : Hp) (a : Addr) : Prop := ∃ x y : Int, 0 ≤ x ∧ 0 ≤ y ∧ y < 2147483647 ∧ H a = some (.lst [.int x, .int y])

/-- what stands at an address that may change: a purse, or a table -/
def OwnAt (H : Hp) (a : Addr) : Prop := match Tabs0.nm a with | none => PurseAt H a | some q => LamX.TabS H a q
theorem OwnAt.purse {H : Hp} {a : Addr} (h : OwnAt H a) (n : Tabs0.nm a = none) : PurseAt H a := by
  unfold OwnAt at h
  rw [n] at h
  exact h
theorem OwnAt.of {H : Hp} {a : Addr} (h : PurseAt H a) (n : Tabs0.nm a = none) : OwnAt H a := by
  unfold OwnAt
  rw [n]
  exact h
theorem OwnAt.tab {H : Hp} {a : Addr} {q : Str} (h : OwnAt H a) (n : Tabs0.nm a = some q) : LamX.TabS H a q := by
  unfold OwnAt at h
  rw [n] at h
  exact h
theorem OwnAt.same {H H' : Hp} {a : Addr} (s : Same H H') (h : OwnAt H a) : OwnAt H' a := by
  unfold OwnAt at h ⊢
  cases n : Tabs0.nm a with
  | none =>
    rw [n] at h
    obtain ⟨x, y, h1, h2, h3, e⟩ := h
    exact ⟨x, y, h1, h2, h3, s _ _ e⟩
  | some q =>
    rw [n] at h
    exact LamX.TabS.ext h s
theorem OwnAt.upd {H : Hp} {a b : Addr} {u : HO} (ha : ∀ h, H a ≠ some (.ext h)) (hb : b ≠ a) (h : OwnAt H b) : OwnAt (L2.upd H a u) b := by
  unfold OwnAt at h ⊢
  cases n : Tabs0.nm b with
  | none =>
    rw [n] at h
    obtain ⟨x, y, h1, h2, h3, e⟩ := h
    exact ⟨x, y, h1, h2, h3, by rw [upd_ne hb]; exact e⟩
  | some q =>
    rw [n] at h
    obtain ⟨ps, h1, h2, h3⟩ := h
    refine ⟨ps, by rw [upd_ne hb]; exact h1, h2, fun pos cv hc => ?_⟩
    obtain ⟨c, e1, e2⟩ := h3 pos cv hc
    refine ⟨c, e1, ?_⟩
    rw [upd_ne fun z : c = a => ?_]
    · exact e2
    · rw [z] at e2
      exact ha _ e2
theorem no_ext {H : Hp} {a : Addr} {vs : List V} (h : H a = some (.lst vs)) : ∀ f, H a ≠ some (.ext f) := fun f z => by rw [h] at z; cases z
theorem no_extI {H : Hp} {a C dx : Addr} {fs : List (Str × V)} (h : H a = some (.ins C dx fs)) : ∀ f, H a ≠ some (.ext f) := fun f z => by rw [h] at z; cases z
theorem OwnAt.some {H : Hp} {a : Addr} (h : OwnAt H a) : H a ≠ none := by
  unfold OwnAt at h
  cases n : Tabs0.nm a with
  | none =>
    rw [n] at h
    obtain ⟨x, y, h1, h2, h3, e⟩ := h
    rw [e]; exact fun z => nomatch z
  | some q =>
    rw [n] at h
    obtain ⟨ps, h1, _⟩ := h
    rw [h1]; exact fun z => nomatch z
/-- F: what this def may not touch -/
structure WOk (F : Addr → Prop) (W : Wd) : Prop where
  dom : ∀ a, W.U a → W.H a ≠ none
  fu : ∀ a, F a → W.U a
  pu : ∀ a, W.P a → W.U a ∧ ¬ F a ∧ OwnAt W.H a

structure Stp (F : Addr → Prop) (W W' : Wd) : Prop where
  keep : ∀ a u, W.H a = some u → ¬ W.U a → W'.H a = some u ∧ ¬ W'.U a
  pur : W'.P = W.P
  fr : ∀ a, F a → W'.H a = W.H a

theorem Stp.refl {F : Addr → Prop} (W : Wd) : Stp F W W := ⟨fun _ _ h n => ⟨h, n⟩, rfl, fun _ _ => rfl⟩
theorem Stp.trans {F : Addr → Prop} {W W1 W2 : Wd} (a : Stp F W W1) (b : Stp F W1 W2) : Stp F W W2 :=
  ⟨fun c u h n => let ⟨h1, n1⟩ := a.keep c u h n; b.keep c u h1 n1, b.pur.trans a.pur, fun c h => (b.fr c h).trans (a.fr c h)⟩

mutual
theorem Rep.mono {W W' : Wd} (k : ∀ a u, W.H a = some u → ¬ W.U a → W'.H a = some u ∧ ¬ W'.U a) (p : ∀ a, W.P a → W'.P a) : ∀ (d : D) (v : V), Rep W d v → Rep W' d v
  | .non, _, h => h
  | .bl _, _, h => h
  | .int _, _, h => h
  | .str _, _, h => h
  | .raw _, _, h => h
  | .tup ds, _, ⟨a, vs, e, h, n, r⟩ => let ⟨h', n'⟩ := h.keep n (k a); ⟨a, vs, e, h', n', RepL.mono k p ds vs r⟩
  | .tupN ds, _, ⟨a, vs, e, h, n, r⟩ => let ⟨_, n'⟩ := h.at.keep n (k a); ⟨a, vs, e, h.imp fun u e => (k a u e n).1, n', RepL.mono k p ds vs r⟩
  | .lst ds, _, ⟨a, vs, e, h, n, r⟩ => let ⟨h', n'⟩ := k _ _ h n; ⟨a, vs, e, h', n', RepL.mono k p ds vs r⟩
  | .obj C ns ds, _, ⟨a, dx, vs, e, h, n, l, r⟩ => let ⟨h', n'⟩ := k _ _ h n; ⟨a, dx, vs, e, h', n', l, RepL.mono k p ds vs r⟩
  | .purse, _, ⟨a, e, h, n, t⟩ => ⟨a, e, p a h, n, fun x q z => p x (t x q z)⟩
  | .rng lo hi, _, ⟨a, e, h, n⟩ => let ⟨h', n'⟩ := k _ _ h n; ⟨a, e, h', n'⟩
  | .dct ks ds, _, ⟨a, vs, e, h, n, l, r⟩ => let ⟨h', n'⟩ := k _ _ h n; ⟨a, vs, e, h', n', l, RepL.mono k p ds vs r⟩
  | .scr K vs, _, ⟨a, e, .inl ⟨u, h, n, q⟩, t⟩ => let ⟨h', n'⟩ := k _ _ h n; ⟨a, e, .inl ⟨u, h', n', q⟩, fun x q z => p x (t x q z)⟩
  | .scr K vs, _, ⟨a, e, .inr q, t⟩ => ⟨a, e, .inr q, fun x q z => p x (t x q z)⟩
  | .tag d, v, ⟨h, t⟩ => ⟨Rep.mono k p d v h, fun x q z => p x (t x q z)⟩
theorem RepL.mono {W W' : Wd} (k : ∀ a u, W.H a = some u → ¬ W.U a → W'.H a = some u ∧ ¬ W'.U a) (p : ∀ a, W.P a → W'.P a) : ∀ (ds : List D) (vs : List V), RepL W ds vs → RepL W' ds vs
  | [], _, h => h
  | d :: ds, _, ⟨v, r, e, h1, h2⟩ => ⟨v, r, e, Rep.mono k p d v h1, RepL.mono k p ds r h2⟩
end
theorem Rep.stp {F : Addr → Prop} {W W' : Wd} {d : D} {v : V} (s : Stp F W W') (h : Rep W d v) : Rep W' d v := Rep.mono s.keep (fun a h => by rw [s.pur]; exact h) d v h
theorem RepL.stp {F : Addr → Prop} {W W' : Wd} {d : List D} {v : List V} (s : Stp F W W') (h : RepL W d v) : RepL W' d v := RepL.mono s.keep (fun a h => by rw [s.pur]; exact h) d v h
/-- the world with another heap -/
abbrev Wd.at (W : Wd) (H : Hp) : Wd := ⟨H, W.U, W.P⟩
theorem Rep.same {W : Wd} {H : Hp} {d : D} {v : V} (s : Same W.H H) (h : Rep W d v) : Rep (W.at H) d v := Rep.mono (W' := W.at H) (fun a u e n => ⟨s a u e, n⟩) (fun _ h => h) d v h
theorem RepL.same {W : Wd} {H : Hp} {d : List D} {v : List V} (s : Same W.H H) (h : RepL W d v) : RepL (W.at H) d v := RepL.mono (W' := W.at H) (fun a u e n => ⟨s a u e, n⟩) (fun _ h => h) d v h
theorem Stp.of_same {F : Addr → Prop} {W : Wd} {H : Hp} (ok : WOk F W) (s : Same W.H H) : Stp F W (W.at H) :=
  ⟨fun a u e n => ⟨s a u e, n⟩, rfl, fun a h => by
    cases q : W.H a with
    | none => exact absurd q (ok.dom a (ok.fu a h))
    | some u => exact s a u q⟩
theorem WOk.same {F : Addr → Prop} {W : Wd} {H : Hp} (ok : WOk F W) (s : Same W.H H) : WOk F (W.at H) :=
  ⟨fun a h z => ok.dom a h (s.free z), ok.fu, fun a h => let ⟨u, f, o⟩ := ok.pu a h; ⟨u, f, o.same s⟩⟩
theorem WOk.new {F : Addr → Prop} {W : Wd} (ok : WOk F W) {a : Addr} (h : W.H a = none) : ¬ W.U a := fun u => ok.dom a u h

theorem RepL.length {W : Wd} : ∀ {ds : List D} {vs : List V}, RepL W ds vs → ds.length = vs.length
  | [], _, h => by rw [show _ = [] from h]; rfl
  | _ :: ds, _, ⟨_, r, e, _, h⟩ => by rw [e, List.length_cons, List.length_cons, RepL.length (ds := ds) h]
theorem RepL.get {W : Wd} : ∀ {ds : List D} {vs : List V} {i : Nat} {d : D}, RepL W ds vs → ds[i]? = some d → ∃ v, vs[i]? = some v ∧ Rep W d v
  | [], _, _, _, _, e => by simp at e
  | d :: ds, _, 0, d', ⟨v, r, e, h1, h2⟩, q => by
    have : d = d' := by simpa using q
    subst this
    exact ⟨v, by rw [e]; rfl, h1⟩
  | d :: ds, _, i + 1, d', ⟨v, r, e, h1, h2⟩, q => by
    obtain ⟨v', a, b⟩ := RepL.get (i := i) (d := d') h2 (by simpa using q)
    exact ⟨v', by rw [e]; simpa using a, b⟩
theorem RepL.append {W : Wd} : ∀ {ds es : List D} {vs us : List V}, RepL W ds vs → RepL W es us → RepL W (ds ++ es) (vs ++ us)
  | [], _, _, _, h, h' => by rw [show _ = [] from h]; exact h'
  | d :: ds, es, _, us, ⟨v, r, e, h1, h2⟩, h' => ⟨v, r ++ us, by rw [e]; rfl, h1, RepL.append h2 h'⟩
theorem RepL.take {W : Wd} : ∀ {ds : List D} {vs : List V} (n : Nat), RepL W ds vs → RepL W (ds.take n) (vs.take n)
  | _, _, 0, _ => by rw [List.take_zero, List.take_zero]; rfl
  | [], _, n + 1, h => by rw [show _ = [] from h]; rfl
  | d :: ds, _, n + 1, ⟨v, r, e, h1, h2⟩ => ⟨v, r.take n, by rw [e]; rfl, h1, RepL.take n h2⟩
theorem RepL.drop {W : Wd} : ∀ {ds : List D} {vs : List V} (n : Nat), RepL W ds vs → RepL W (ds.drop n) (vs.drop n)
  | _, _, 0, h => h
  | [], _, n + 1, h => by rw [show _ = [] from h]; rfl
  | d :: ds, _, n + 1, ⟨v, r, e, h1, h2⟩ => by rw [e]; exact RepL.drop n h2
theorem RepL.set {W : Wd} {d : D} {v : V} (h : Rep W d v) : ∀ {ds : List D} {vs : List V} (n : Nat), RepL W ds vs → RepL W (ds.set n d) (vs.set n v)
  | [], _, n, h' => by rw [show _ = [] from h']; rfl
  | _ :: ds, _, 0, ⟨u, r, e, h1, h2⟩ => by rw [e]; exact ⟨v, r, rfl, h, h2⟩
  | c :: ds, _, n + 1, ⟨u, r, e, h1, h2⟩ => by rw [e]; exact ⟨u, r.set n v, rfl, h1, RepL.set h n h2⟩
theorem RepL.eraseIdx {W : Wd} : ∀ {ds : List D} {vs : List V} (n : Nat), RepL W ds vs → RepL W (ds.eraseIdx n) (vs.eraseIdx n)
  | [], _, n, h' => by rw [show _ = [] from h']; rfl
  | _ :: ds, _, 0, ⟨u, r, e, h1, h2⟩ => by rw [e]; exact h2
  | c :: ds, _, n + 1, ⟨u, r, e, h1, h2⟩ => by rw [e]; exact ⟨u, r.eraseIdx n, rfl, h1, RepL.eraseIdx n h2⟩
theorem RepL.one {W : Wd} {d : D} {v : V} (h : Rep W d v) : RepL W [d] [v] := ⟨v, [], rfl, h, rfl⟩
theorem RepL.ints {W : Wd} : ∀ {ns : List Int} {vs : List V}, RepL W (ns.map D.int) vs ↔ vs = ns.map V.int
  | [], vs => Iff.rfl
  | n :: ns, vs => by
    constructor
    · rintro ⟨v, r, e, h1, h2⟩
      rw [e, show v = .int n from h1, RepL.ints.mp h2]; rfl
    · intro e
      exact ⟨.int n, ns.map V.int, e, rfl, RepL.ints.mpr rfl⟩
theorem RepL.strs {W : Wd} : ∀ {ns : List Str} {vs : List V}, RepL W (ns.map D.str) vs ↔ vs = ns.map V.str
  | [], vs => Iff.rfl
  | n :: ns, vs => by
    constructor
    · rintro ⟨v, r, e, h1, h2⟩
      rw [e, show v = .str n from h1, RepL.strs.mp h2]; rfl
    · intro e
      exact ⟨.str n, ns.map V.str, e, rfl, RepL.strs.mpr rfl⟩
theorem RepL.bls {W : Wd} : ∀ {ns : List Bool} {vs : List V}, RepL W (ns.map D.bl) vs ↔ vs = ns.map V.bl
  | [], vs => Iff.rfl
  | n :: ns, vs => by
    constructor
    · rintro ⟨v, r, e, h1, h2⟩
      rw [e, show v = .bl n from h1, RepL.bls.mp h2]; rfl
    · intro e
      exact ⟨.bl n, ns.map V.bl, e, rfl, RepL.bls.mpr rfl⟩

mutual
/-- what is known less of -/
def weakD : D → D
  | .tupN ds => .tup (weakDs ds) | .tup ds => .tup (weakDs ds) | .lst ds => .lst (weakDs ds)
  | d => d
def weakDs : List D → List D
  | [] => []
  | d :: ds => weakD d :: weakDs ds
end
mutual
theorem Rep.weak {W : Wd} : ∀ (d : D) (v : V), Rep W d v → Rep W (weakD d) v
  | .tupN ds, _, ⟨a, vs, e, h, n, r⟩ => ⟨a, vs, e, h.at, n, RepL.weak ds vs r⟩
  | .tup ds, _, ⟨a, vs, e, h, n, r⟩ => ⟨a, vs, e, h, n, RepL.weak ds vs r⟩
  | .lst ds, _, ⟨a, vs, e, h, n, r⟩ => ⟨a, vs, e, h, n, RepL.weak ds vs r⟩
  | .non, _, h => h
  | .bl _, _, h => h
  | .int _, _, h => h
  | .str _, _, h => h
  | .raw _, _, h => h
  | .obj _ _ _, _, h => h
  | .purse, _, h => h
  | .rng _ _, _, h => h
  | .dct _ _, _, h => h
  | .scr _ _, _, h => h
  | .tag _, _, h => h
theorem RepL.weak {W : Wd} : ∀ (ds : List D) (vs : List V), RepL W ds vs → RepL W (weakDs ds) vs
  | [], _, h => h
  | d :: ds, _, ⟨v, r, e, h1, h2⟩ => ⟨v, r, e, Rep.weak d v h1, RepL.weak ds r h2⟩
end
/-! ### the slots -/
/-- an own thing: a list, or a dict by its keys -/
structure Ow where
  ks : Option (List Key)
  ds : List D
@[reducible] def Ow.cell (o : Ow) (vs : List V) : HO := match o.ks with | none => .lst vs | some ks => .dK (ks.zip vs)
inductive Sl where
  | unset | val (d : D) | ownX (o : Ow)
@[reducible] def Sl.own (ds : List D) : Sl := .ownX ⟨none, ds⟩
@[reducible] def Sl.owd (ks : List Key) (ds : List D) : Sl := .ownX ⟨some ks, ds⟩
theorem Ow.ext (o : Ow) (vs : List V) : ∀ f, o.cell vs ≠ .ext f := fun f z => by
  obtain ⟨ks, ds⟩ := o
  cases ks <;> cases z
theorem no_extX {H : Hp} {a : Addr} {o : Ow} {vs : List V} (h : H a = some (o.cell vs)) : ∀ f, H a ≠ some (.ext f) := fun f z => by
  rw [h] at z
  exact o.ext vs f (Option.some.inj z)
abbrev Gam := List Sl

structure SR (F : Addr → Prop) (Γ : Gam) (σ : L2.St) (W : Wd) : Prop where
  ok : WOk F W
  len : Γ.length = σ.length
  val : ∀ (i : Nat) (d : D), Γ[i]? = some (Sl.val d) → ∃ v, σ[i]? = some (some v) ∧ Rep W d v
  ownX : ∀ (i : Nat) (ds : Ow), Γ[i]? = some (Sl.ownX ds) → ∃ a vs, σ[i]? = some (some (V.ref a)) ∧ W.U a ∧ ¬ F a ∧ ¬ W.P a ∧ W.H a = some (ds.cell vs) ∧ RepL W ds.ds vs
  apartX : ∀ (i j : Nat) (a : Addr) (ds es : Ow), Γ[i]? = some (Sl.ownX ds) → Γ[j]? = some (Sl.ownX es) → σ[i]? = some (some (V.ref a)) → σ[j]? = some (some (V.ref a)) → i = j
theorem SR.own {F : Addr → Prop} {Γ : Gam} {σ : L2.St} {W : Wd} (h : SR F Γ σ W) (i : Nat) (ds : List D) (e : Γ[i]? = some (Sl.own ds)) : ∃ a vs, σ[i]? = some (some (V.ref a)) ∧ W.U a ∧ ¬ F a ∧ ¬ W.P a ∧ W.H a = some (.lst vs) ∧ RepL W ds vs := h.ownX i ⟨none, ds⟩ e
theorem SR.owd {F : Addr → Prop} {Γ : Gam} {σ : L2.St} {W : Wd} (h : SR F Γ σ W) (i : Nat) (ks : List Key) (ds : List D) (e : Γ[i]? = some (Sl.owd ks ds)) : ∃ a vs, σ[i]? = some (some (V.ref a)) ∧ W.U a ∧ ¬ F a ∧ ¬ W.P a ∧ W.H a = some (.dK (ks.zip vs)) ∧ RepL W ds vs := h.ownX i ⟨some ks, ds⟩ e

theorem SR.same {F : Addr → Prop} {Γ : Gam} {σ : L2.St} {W : Wd} {H : Hp} (s : Same W.H H) (h : SR F Γ σ W) : SR F Γ σ (W.at H) :=
  ⟨h.ok.same s, h.len, fun i d e => let ⟨v, a, b⟩ := h.val i d e; ⟨v, a, b.same s⟩,
   fun i ds e => let ⟨a, vs, e1, u, f, p, q, r⟩ := h.ownX i ds e; ⟨a, vs, e1, u, f, p, s _ _ q, r.same s⟩, h.apartX⟩
/-- forgetting -/
theorem SR.weak {F : Addr → Prop} {Γ Γ' : Gam} {σ σ' : L2.St} {W : Wd} (h : SR F Γ σ W) (l : Γ'.length = σ'.length) (k : ∀ (i : Nat) (s : Sl), Γ'[i]? = some s → s = Sl.unset ∨ (Γ[i]? = some s ∧ σ'[i]? = σ[i]?)) : SR F Γ' σ' W := by
  have kv : ∀ (i : Nat) (d : D), Γ'[i]? = some (Sl.val d) → Γ[i]? = some (Sl.val d) ∧ σ'[i]? = σ[i]? := fun i d e => by
    rcases k i _ e with z | z
    · cases z
    · exact z
  have ko : ∀ (i : Nat) (d : Ow), Γ'[i]? = some (Sl.ownX d) → Γ[i]? = some (Sl.ownX d) ∧ σ'[i]? = σ[i]? := fun i d e => by
    rcases k i _ e with z | z
    · cases z
    · exact z
  refine ⟨h.ok, l, fun i d e => ?_, fun i ds e => ?_, fun i j a ds es e1 e2 e3 e4 => ?_⟩
  · obtain ⟨z, q⟩ := kv i d e
    rw [q]; exact h.val i d z
  · obtain ⟨z, q⟩ := ko i ds e
    rw [q]; exact h.ownX i ds z
  · obtain ⟨z1, q1⟩ := ko i ds e1
    obtain ⟨z2, q2⟩ := ko j es e2
    rw [q1] at e3; rw [q2] at e4
    exact h.apartX i j a ds es z1 z2 e3 e4
/-- a value is stored -/
theorem SR.set {F : Addr → Prop} {Γ : Gam} {σ : L2.St} {W : Wd} {i : Nat} {d : D} {v : V} (h : SR F Γ σ W) (r : Rep W d v) : SR F (Γ.set i (.val d)) (σ.set i (some v)) W := by
  refine ⟨h.ok, by simp [h.len], fun j e q => ?_, fun j ds q => ?_, fun j k a ds es q1 q2 q3 q4 => ?_⟩
  · by_cases hj : i = j
    · subst hj
      have hl : i < Γ.length := by
        have := (List.getElem?_eq_some_iff.mp q).1
        simpa using this
      rw [List.getElem?_set_self hl] at q
      cases q
      exact ⟨v, by rw [List.getElem?_set_self (by rw [← h.len]; exact hl)], r⟩
    · rw [List.getElem?_set_ne hj] at q ⊢
      exact h.val j e q
  · by_cases hj : i = j
    · subst hj
      have hl : i < Γ.length := by
        have := (List.getElem?_eq_some_iff.mp q).1
        simpa using this
      rw [List.getElem?_set_self hl] at q
      cases q
    · rw [List.getElem?_set_ne hj] at q ⊢
      exact h.ownX j ds q
  · have n : ∀ (j : Nat) (ds : Ow), (Γ.set i (.val d))[j]? = some (Sl.ownX ds) → i ≠ j := fun j ds q e => by
      subst e
      have hl : i < Γ.length := by
        have := (List.getElem?_eq_some_iff.mp q).1
        simpa using this
      rw [List.getElem?_set_self hl] at q
      cases q
    have n1 := n j ds q1
    have n2 := n k es q2
    rw [List.getElem?_set_ne n1] at q1 q3
    rw [List.getElem?_set_ne n2] at q2 q4
    exact h.apartX j k a ds es q1 q2 q3 q4
/-- what the callee may not touch: the frame and the own lists -/
def ownA (Γ : Gam) (σ : L2.St) (a : Addr) : Prop := ∃ (i : Nat) (ds : Ow), Γ[i]? = some (Sl.ownX ds) ∧ σ[i]? = some (some (V.ref a))
/-- behind a call -/
theorem SR.call {F : Addr → Prop} {Γ : Gam} {σ : L2.St} {W W' : Wd} (h : SR F Γ σ W) (s : Stp (fun a => F a ∨ ownA Γ σ a) W W') (ok : WOk (fun a => F a ∨ ownA Γ σ a) W') : SR F Γ σ W' := by
  refine ⟨⟨ok.dom, fun a z => ok.fu a (.inl z), fun a z => let ⟨u, f, p⟩ := ok.pu a z; ⟨u, fun w => f (.inl w), p⟩⟩, h.len, fun i d e => ?_, fun i ds e => ?_, h.apartX⟩
  · obtain ⟨v, a, b⟩ := h.val i d e
    exact ⟨v, a, b.stp s⟩
  · obtain ⟨a, vs, e1, u, f, p, q, r⟩ := h.ownX i ds e
    have o : ownA Γ σ a := ⟨i, ds, e, e1⟩
    exact ⟨a, vs, e1, ok.fu a (.inr o), f, fun z => (ok.pu a z).2.1 (.inr o), (s.fr a (.inr o)).trans q, r.stp s⟩
theorem SR.callOk {F : Addr → Prop} {Γ : Gam} {σ : L2.St} {W : Wd} (h : SR F Γ σ W) : WOk (fun a => F a ∨ ownA Γ σ a) W := by
  refine ⟨h.ok.dom, fun a z => ?_, fun a z => ?_⟩
  · rcases z with z | ⟨i, ds, e, q⟩
    · exact h.ok.fu a z
    · obtain ⟨b, vs, e1, u, _⟩ := h.ownX i ds e
      rw [q] at e1; cases e1
      exact u
  · obtain ⟨u, f, p⟩ := h.ok.pu a z
    refine ⟨u, fun w => ?_, p⟩
    rcases w with w | ⟨i, ds, e, q⟩
    · exact f w
    · obtain ⟨b, vs, e1, _, _, np, _⟩ := h.ownX i ds e
      rw [q] at e1; cases e1
      exact np z
theorem Stp.sub {F G : Addr → Prop} {W W' : Wd} (s : Stp G W W') (k : ∀ a, F a → G a) : Stp F W W' := ⟨s.keep, s.pur, fun a h => s.fr a (k a h)⟩
end Dw

/-! The judgements over data: Ev (pure), EvB (a list that is read), EvN (a new list), Dl (with draws), Ds (statements). -/
namespace Dw
open PySem PySem.Spec PyProof.Rows L2
variable [Tabs0]

def Ev (t : TE) (Γ : Gam) (d : D) : Prop := ∀ (F : Addr → Prop) (σ : L2.St) (W : Wd) (Q : VK), SR F Γ σ W → (∀ v H, Same W.H H → Rep (W.at H) d v → Q v H) → t σ W.H Q
def EvB (t : TE) (Γ : Gam) (ds : List D) : Prop := ∀ (F : Addr → Prop) (σ : L2.St) (W : Wd) (Q : VK), SR F Γ σ W → (∀ a vs H, Same W.H H → H a = some (.lst vs) → RepL (W.at H) ds vs → Q (.ref a) H) → t σ W.H Q
/-- the world where a is one's own, too -/
abbrev Wd.plus (W : Wd) (H : Hp) (a : Addr) : Wd := ⟨H, fun b => W.U b ∨ b = a, W.P⟩
theorem RepL.minus {W : Wd} {H : Hp} {a : Addr} {ds : List D} {vs : List V} (h : RepL (W.plus H a) ds vs) : RepL (W.at H) ds vs := RepL.mono (W := W.plus H a) (W' := W.at H) (fun b u e n => ⟨e, fun z => n (Or.inl z)⟩) (fun _ h => h) ds vs h
theorem RepL.plus {W : Wd} {H : Hp} {a : Addr} {ds : List D} {vs : List V} (n : W.H a = none) (s : Same W.H H) (h : RepL W ds vs) : RepL (W.plus H a) ds vs := RepL.mono (W := W) (W' := W.plus H a) (fun b u e nu => ⟨s b u e, fun z => z.elim nu fun z => by rw [z, n] at e; cases e⟩) (fun _ h => h) ds vs h
def EvN (t : TE) (Γ : Gam) (ds : List D) : Prop := ∀ (F : Addr → Prop) (σ : L2.St) (W : Wd) (Q : VK), SR F Γ σ W → (∀ a vs H, Same W.H H → W.H a = none → H a = some (.lst vs) → RepL (W.plus H a) ds vs → Q (.ref a) H) → t σ W.H Q
def EvT (t : TT) (Γ : Gam) (b : Bool) : Prop := ∀ (F : Addr → Prop) (σ : L2.St) (W : Wd) (Q : Bool → Hp → Prop), SR F Γ σ W → (∀ H, Same W.H H → Q b H) → t σ W.H Q
def EvA (t : TA) (Γ : Gam) (ds : List D) : Prop := ∀ (F : Addr → Prop) (σ : L2.St) (W : Wd) (Q : List V → Hp → Prop), SR F Γ σ W → (∀ vs H, Same W.H H → RepL (W.at H) ds vs → Q vs H) → t σ W.H Q

def Dl (t : TE) (Γ : Gam) (Q : D → Gam → Prop) : Prop := ∀ (F : Addr → Prop) (σ : L2.St) (W : Wd) (R : VK), SR F Γ σ W → (∀ v W' d Γ', Stp F W W' → SR F Γ' σ W' → Rep W' d v → Q d Γ' → R v W'.H) → t σ W.H R
def DlT (t : TT) (Γ : Gam) (Q : Bool → Gam → Prop) : Prop := ∀ (F : Addr → Prop) (σ : L2.St) (W : Wd) (R : Bool → Hp → Prop), SR F Γ σ W → (∀ b W' Γ', Stp F W W' → SR F Γ' σ W' → Q b Γ' → R b W'.H) → t σ W.H R
def DlA (t : TA) (Γ : Gam) (Q : List D → Gam → Prop) : Prop := ∀ (F : Addr → Prop) (σ : L2.St) (W : Wd) (R : List V → Hp → Prop), SR F Γ σ W → (∀ vs W' ds Γ', Stp F W W' → SR F Γ' σ W' → RepL W' ds vs → Q ds Γ' → R vs W'.H) → t σ W.H R

structure DE where
  nx : Gam → Prop
  rt : D → Prop
  bk : Gam → Prop := fun _ => False
  ct : Gam → Prop := fun _ => False
structure Lift (F : Addr → Prop) (W0 : Wd) (De : DE) (Dr : Ends) : Prop where
  nx : ∀ σ W Γ, Stp F W0 W → SR F Γ σ W → De.nx Γ → Dr.nx σ W.H
  rt : ∀ v W d, Stp F W0 W → WOk F W → Rep W d v → De.rt d → Dr.rt v W.H
  bk : ∀ σ W Γ, Stp F W0 W → SR F Γ σ W → De.bk Γ → Dr.bk σ W.H
  ct : ∀ σ W Γ, Stp F W0 W → SR F Γ σ W → De.ct Γ → Dr.ct σ W.H
theorem Lift.after {F : Addr → Prop} {W0 W1 : Wd} {De : DE} {Dr : Ends} (l : Lift F W0 De Dr) (s : Stp F W0 W1) : Lift F W1 De Dr :=
  ⟨fun σ W Γ a => l.nx σ W Γ (s.trans a), fun v W d a => l.rt v W d (s.trans a), fun σ W Γ a => l.bk σ W Γ (s.trans a), fun σ W Γ a => l.ct σ W Γ (s.trans a)⟩
def Ds (t : TS) (Γ : Gam) (De : DE) : Prop := ∀ (F : Addr → Prop) (σ : L2.St) (W : Wd) (Dr : Ends), SR F Γ σ W → Lift F W De Dr → t Dr σ W.H

/-! ### from the pure to the others -/
section
variable {t : TE} {Γ : Gam} {d : D} {ds : List D}
theorem Same.up {W : Wd} {H H' : Hp} (a : Same W.H H) (b : Same (W.at H).H H') : Same W.H H' := Same.trans a b
theorem EvN.b (h : EvN t Γ ds) : EvB t Γ ds := fun F σ W Q r k => h F σ W Q r fun a vs H s _ e l => k a vs H s e l.minus
theorem EvN.ev (h : EvN t Γ ds) : Ev t Γ (.lst ds) := fun F σ W Q r k => h F σ W Q r fun a vs H s n e l => k _ H s ⟨a, vs, rfl, e, r.ok.new n, l.minus⟩
theorem Ev.b (h : Ev t Γ (.lst ds)) : EvB t Γ ds := fun F σ W Q r k => h F σ W Q r fun v H s ⟨a, vs, e, q, _, l⟩ => by subst e; exact k a vs H s q l
theorem Ev.dl {Q : D → Gam → Prop} (h : Ev t Γ d) (q : Q d Γ) : Dl t Γ Q := fun F σ W R r k => h F σ W R r fun v H s l => k v (W.at H) d Γ (Stp.of_same r.ok s) (r.same s) l q
theorem Dl.imp {Q Q' : D → Gam → Prop} (h : Dl t Γ Q) (k : ∀ d Γ', Q d Γ' → Q' d Γ') : Dl t Γ Q' := fun F σ W R r z => h F σ W R r fun v W' d Γ' s r' l q => z v W' d Γ' s r' l (k d Γ' q)
theorem EvT.dl {t : TT} {b : Bool} {Q : Bool → Gam → Prop} (h : EvT t Γ b) (q : Q b Γ) : DlT t Γ Q := fun F σ W R r k => h F σ W R r fun H s => k b (W.at H) Γ (Stp.of_same r.ok s) (r.same s) q
theorem EvA.dl {t : TA} {Q : List D → Gam → Prop} (h : EvA t Γ ds) (q : Q ds Γ) : DlA t Γ Q := fun F σ W R r k => h F σ W R r fun vs H s l => k vs (W.at H) ds Γ (Stp.of_same r.ok s) (r.same s) l q
end

/-! ### names, constants -/
section
variable {Γ : Gam} {i : Nat} {d : D} {ds : List D}
theorem ev_var (h : Γ[i]? = some (.val d)) : Ev (tVar i) Γ d := fun F σ W Q r k => let ⟨v, e, l⟩ := r.val i d h; ⟨v, e, k v W.H (Same.refl _) l⟩
theorem evb_own (h : Γ[i]? = some (.own ds)) : EvB (tVar i) Γ ds := fun F σ W Q r k => let ⟨a, vs, e, _, _, _, q, l⟩ := r.own i ds h; ⟨.ref a, e, k a vs W.H (Same.refl _) q l⟩
theorem ev_int {z : Int} : Ev (tC (.int z)) Γ (.int z) := fun F σ W Q r k => k _ W.H (Same.refl _) rfl
theorem ev_bl {z : Bool} : Ev (tC (.bl z)) Γ (.bl z) := fun F σ W Q r k => k _ W.H (Same.refl _) rfl
theorem ev_str {z : Str} : Ev (tC (.str z)) Γ (.str z) := fun F σ W Q r k => k _ W.H (Same.refl _) rfl
theorem ev_non : Ev (tC .non) Γ .non := fun F σ W Q r k => k _ W.H (Same.refl _) rfl
theorem ev_raw {z : V} : Ev (tC z) Γ (.raw z) := fun F σ W Q r k => k _ W.H (Same.refl _) rfl
end

/-! ### arguments -/
section
variable {Γ : Gam} {t : TE} {tr : TA} {d : D} {ds : List D}
theorem eva_nil : EvA tNil Γ [] := fun F σ W Q r k => k [] W.H (Same.refl _) rfl
theorem eva_cons (h : Ev t Γ d) (hr : EvA tr Γ ds) : EvA (tCons t tr) Γ (d :: ds) := fun F σ W Q r k =>
  h F σ W _ r fun v H s l => hr F σ (W.at H) _ (r.same s) fun vs H' s' l' => k (v :: vs) H' (Same.trans s s') ⟨v, vs, rfl, Rep.same (W := W.at H) s' l, l'⟩
theorem dla_nil {Q : List D → Gam → Prop} (q : Q [] Γ) : DlA tNil Γ Q := eva_nil.dl q
theorem dla_cons {Q : List D → Gam → Prop} (h : Dl t Γ fun d Γ1 => DlA tr Γ1 fun ds Γ2 => Q (d :: ds) Γ2) : DlA (tCons t tr) Γ Q := fun F σ W R r k =>
  h F σ W _ r fun v W1 d Γ1 s1 r1 l1 h1 => h1 F σ W1 _ r1 fun vs W2 ds Γ2 s2 r2 l2 q => k (v :: vs) W2 (d :: ds) Γ2 (s1.trans s2) r2 ⟨v, vs, rfl, l1.stp s2, l2⟩ q
end

/-! ### operators -/
/-- what a two-place operator gives on data -/
def DR2 (r : R2) (x y d : D) : Prop := ∀ (W : Wd) (u v : V) (Q : VK), (∀ a, W.U a → W.H a ≠ none) → Rep W x u → Rep W y v → (∀ z H, Same W.H H → Rep (W.at H) d z → Q z H) → r u v W.H Q
def DR1 (r : V → Hp → VK → Prop) (x d : D) : Prop := ∀ (W : Wd) (u : V) (Q : VK), (∀ a, W.U a → W.H a ≠ none) → Rep W x u → (∀ z H, Same W.H H → Rep (W.at H) d z → Q z H) → r u W.H Q
def DRL (r : List V → Hp → VK → Prop) (xs : List D) (d : D) : Prop := ∀ (W : Wd) (us : List V) (Q : VK), (∀ a, W.U a → W.H a ≠ none) → RepL W xs us → (∀ z H, Same W.H H → Rep (W.at H) d z → Q z H) → r us W.H Q
section
variable {Γ : Gam} {ta tb : TE} {r : R2} {x y d : D}
theorem ev_op (ha : Ev ta Γ x) (hb : Ev tb Γ y) (hr : DR2 r x y d) : Ev (tOp r ta tb) Γ d := fun F σ W Q g k =>
  ha F σ W _ g fun u H s l => hb F σ (W.at H) _ (g.same s) fun v H' s' l' => hr (W.at H') u v Q ((g.same s).same s').ok.dom (Rep.same (W := W.at H) s' l) l' fun z H'' s'' q => k z H'' (Same.trans s (Same.trans s' s'')) q
theorem dl_op {Q : D → Gam → Prop} (h : Dl ta Γ fun x Γ1 => Dl tb Γ1 fun y Γ2 => ∃ d, DR2 r x y d ∧ Q d Γ2) : Dl (tOp r ta tb) Γ Q := fun F σ W R g k =>
  h F σ W _ g fun u W1 x Γ1 s1 g1 l1 h1 => h1 F σ W1 _ g1 fun v W2 y Γ2 s2 g2 l2 ⟨d, hr, q⟩ => hr W2 u v R g2.ok.dom (l1.stp s2) l2 fun z H s3 l3 =>
    k z (W2.at H) d Γ2 ((s1.trans s2).trans (Stp.of_same g2.ok s3)) (g2.same s3) l3 q
theorem ev_un {r : V → Hp → VK → Prop} (ha : Ev ta Γ x) (hr : DR1 r x d) : Ev (tUn r ta) Γ d := fun F σ W Q g k =>
  ha F σ W _ g fun u H s l => hr (W.at H) u Q (g.same s).ok.dom l fun z H' s' q => k z H' (Same.trans s s') q
theorem ev_cb {r : List V → Hp → VK → Prop} {t : TA} {xs : List D} (ha : EvA t Γ xs) (hr : DRL r xs d) : Ev (tCB r t) Γ d := fun F σ W Q g k =>
  ha F σ W _ g fun us H s l => hr (W.at H) us Q (g.same s).ok.dom l fun z H' s' q => k z H' (Same.trans s s') q
end
/-- no new object -/
theorem dr2_flat {r : R2} {x y d : D} (h : ∀ (W : Wd) (u v : V) (Q : VK), Rep W x u → Rep W y v → (∀ z, Rep W d z → Q z W.H) → r u v W.H Q) : DR2 r x y d :=
  fun W u v Q _ a b k => h W u v Q a b fun z q => k z W.H (Same.refl _) q
theorem same_upd {H : Hp} {p : Addr} {o : HO} (h : H p = none) : Same H (upd H p o) := fun b x e => by
  rw [upd_ne (ne_of_none e h)]
  exact e
theorem rep_new_lst {W : Wd} {p : Addr} {ds : List D} {vs : List V} (dom : ∀ a, W.U a → W.H a ≠ none) (h : W.H p = none) (l : RepL W ds vs) : Rep (W.at (upd W.H p (.lst vs))) (.lst ds) (.ref p) :=
  ⟨p, vs, rfl, upd_same, fun u => dom p u h, l.same (same_upd h)⟩
theorem rep_new_tup {W : Wd} {p : Addr} {ds : List D} {vs : List V} (dom : ∀ a, W.U a → W.H a ≠ none) (h : W.H p = none) (l : RepL W ds vs) : Rep (W.at (upd W.H p (.tup vs))) (.tup ds) (.ref p) :=
  ⟨p, vs, rfl, .mk upd_same, fun u => dom p u h, l.same (same_upd h)⟩

section
variable {i j : Int} {x y : Str} {ds es : List D} {K : PySem.W.Frag}
theorem dr2_rI0 {g : Int → Int → V} {d : D} (h : ∀ W, Rep W d (g i j)) : DR2 (rI0 g) (.int i) (.int j) d := dr2_flat fun W u v Q a b k => ⟨i, j, a, b, k _ (h W)⟩
theorem dr2_rI {C : Int → Int → Prop} {g : Int → Int → V} {d : D} (hc : C i j) (h : ∀ W, Rep W d (g i j)) : DR2 (rI C g) (.int i) (.int j) d := dr2_flat fun W u v Q a b k => ⟨i, j, a, b, hc, k _ (h W)⟩
theorem dr2_add : DR2 (rI0 fun i j => .int (i + j)) (.int i) (.int j) (.int (i + j)) := dr2_rI0 fun _ => rfl
theorem dr2_sub : DR2 (rI0 fun i j => .int (i - j)) (.int i) (.int j) (.int (i - j)) := dr2_rI0 fun _ => rfl
theorem dr2_mul (h : CMul i j) : DR2 (rI CMul fun i j => .int (i * j)) (.int i) (.int j) (.int (i * j)) := dr2_rI h fun _ => rfl
theorem dr2_mod (h : 0 < j) : DR2 (rI (fun _ j => 0 < j) fun i j => .int (i % j)) (.int i) (.int j) (.int (i % j)) := dr2_rI h fun _ => rfl
theorem dr2_lt : DR2 (rI0 fun i j => .bl (decide (i < j))) (.int i) (.int j) (.bl (decide (i < j))) := dr2_rI0 fun _ => rfl
theorem dr2_le : DR2 (rI0 fun i j => .bl (decide (i ≤ j))) (.int i) (.int j) (.bl (decide (i ≤ j))) := dr2_rI0 fun _ => rfl
theorem dr2_gt : DR2 (rI0 fun i j => .bl (decide (j < i))) (.int i) (.int j) (.bl (decide (j < i))) := dr2_rI0 fun _ => rfl
theorem dr2_ge : DR2 (rI0 fun i j => .bl (decide (j ≤ i))) (.int i) (.int j) (.bl (decide (j ≤ i))) := dr2_rI0 fun _ => rfl
abbrev rAddStr : R2 := fun x y H Q => ∃ i j, x = .str i ∧ y = .str j ∧ i.length + j.length ≤ sizeLine ∧ Q (.str (i ++ j)) H
theorem dr2_add_str (h : x.length + y.length ≤ sizeLine) : DR2 rAddStr (.str x) (.str y) (.str (x ++ y)) := dr2_flat fun W u v Q a b k => ⟨x, y, a, b, h, k _ rfl⟩
theorem dr2_cat (h : ds.length + es.length ≤ sizeLine) : DR2 rCat (.lst ds) (.lst es) (.lst (ds ++ es)) := fun W u v Q dom ⟨a, vs, e1, h1, n1, l1⟩ ⟨b, ws, e2, h2, n2, l2⟩ k =>
  ⟨a, b, vs, ws, e1, e2, h1, h2, by rw [← l1.length, ← l2.length]; exact h, fun p hp => k _ _ (same_upd hp) (rep_new_lst dom hp (l1.append l2))⟩
theorem dr2_catT (n : ds ≠ []) (h : ds.length + es.length ≤ sizeLine) : DR2 (rCatT K) (.tup ds) (.tup es) (.tup (ds ++ es)) := by
  intro W u v Q dom ⟨a, vs, e1, h1, n1, l1⟩ ⟨b, ws, e2, h2, n2, l2⟩ k
  have nv : vs ≠ [] := fun z => by
    have := l1.length
    rw [z] at this
    exact n (List.length_eq_zero_iff.mp this)
  subst e1
  refine ⟨a, b, vs, ws, rfl, e2, h1.sq, h2.sq, nv, by rw [← l1.length, ← l2.length]; exact h, fun z => ?_, fun _ p hp => k _ _ (same_upd hp) (rep_new_tup dom hp (l1.append l2))⟩
  have e : es = [] := List.length_eq_zero_iff.mp (by rw [l2.length, z]; rfl)
  rw [e, List.append_nil] at k
  exact k _ W.H (Same.refl _) ⟨a, vs, rfl, h1, n1, l1⟩
theorem dr2_eq_int : DR2 rEq (.int i) (.int j) (.bl (decide (i = j))) := dr2_flat fun W u v Q a b k => by
  rw [show u = .int i from a, show v = .int j from b]
  exact ⟨rfl, k _ (congrArg V.bl (by simp))⟩
theorem dr2_eq_str : DR2 rEq (.str x) (.str y) (.bl (decide (x = y))) := dr2_flat fun W u v Q a b k => by
  rw [show u = .str x from a, show v = .str y from b]
  exact ⟨rfl, k _ (congrArg V.bl (by simp))⟩
theorem dr2_ne_int : DR2 rNe (.int i) (.int j) (.bl (!decide (i = j))) := dr2_flat fun W u v Q a b k => by
  rw [show u = .int i from a, show v = .int j from b]
  exact ⟨rfl, k _ (congrArg V.bl (by simp))⟩
theorem dr2_ne_str : DR2 rNe (.str x) (.str y) (.bl (!decide (x = y))) := dr2_flat fun W u v Q a b k => by
  rw [show u = .str x from a, show v = .str y from b]
  exact ⟨rfl, k _ (congrArg V.bl (by simp))⟩
end

/-! ### deep equality -/
mutual
def py : D → PyData
  | .non => .none | .bl b => .bool b | .int i => .int i | .str x => .str x
  | .tup ds => .tuple (pys ds) | .lst ds => .list (pys ds)
  | .tupN ds => .tuple (pys ds)
  | .obj _ _ _ => .none | .raw _ => .none | .purse => .none | .rng _ _ => .none | .dct _ _ => .none | .scr _ _ => .none | .tag _ => .none
def pys : List D → List PyData
  | [] => []
  | d :: ds => py d :: pys ds
end
mutual
def isPy : D → Bool
  | .obj _ _ _ => false | .raw _ => false | .purse => false | .rng _ _ => false | .dct _ _ => false | .scr _ _ => false | .tag _ => false
  | .tup ds => isPys ds | .lst ds => isPys ds | .tupN ds => isPys ds
  | _ => true
def isPys : List D → Bool
  | [] => true
  | d :: ds => isPy d && isPys ds
end
mutual
theorem dp_of {K : PySem.W.Frag} {W : Wd} : ∀ (d : D) (v : V), isPy d = true → Rep W d v → Dp K W.H v (py d)
  | .non, _, _, h => by rw [show _ = V.non from h]; exact .non
  | .bl b, _, _, h => by rw [show _ = V.bl b from h]; exact .bl b
  | .int b, _, _, h => by rw [show _ = V.int b from h]; exact .int b
  | .str b, _, _, h => by rw [show _ = V.str b from h]; exact .str b
  | .tup ds, _, p, ⟨a, vs, e, h, _, l⟩ => by rw [e]; exact .tup h.sq (dps_of ds vs p l)
  | .tupN ds, _, p, ⟨a, vs, e, h, _, l⟩ => by rw [e]; exact .tup h.at.sq (dps_of ds vs p l)
  | .lst ds, _, p, ⟨a, vs, e, h, _, l⟩ => by rw [e]; exact .lst (.of h) (dps_of ds vs p l)
  | .obj _ _ _, _, p, _ => nomatch p
  | .raw _, _, p, _ => nomatch p
  | .purse, _, p, _ => nomatch p
  | .rng _ _, _, p, _ => nomatch p
  | .dct _ _, _, p, _ => nomatch p
  | .scr _ _, _, p, _ => nomatch p
  | .tag _, _, p, _ => nomatch p
theorem dps_of {K : PySem.W.Frag} {W : Wd} : ∀ (ds : List D) (vs : List V), isPys ds = true → RepL W ds vs → DpAll K W.H vs (pys ds)
  | [], _, _, h => by rw [show _ = [] from h]; exact .nil
  | d :: ds, _, p, ⟨v, r, e, h1, h2⟩ => by
    have p' : isPy d = true ∧ isPys ds = true := by simpa [isPys] using p
    rw [e]
    exact .cons (dp_of d v p'.1 h1) (dps_of ds r p'.2 h2)
end
section
variable {K : PySem.W.Frag} {x y : D} {ta tb : TE} {Γ : Gam} {ds es : List D}
theorem dr2_eqD (px : isPy x = true) (py' : isPy y = true) (sx : SeqAt.shaped (py x) = true) (sy : SeqAt.shaped (py y) = true) : DR2 (rEqD K) x y (.bl (PyData.eqv (py x) (py y))) :=
  dr2_flat fun W u v Q a b k => ⟨_, _, dp_of x u px a, dp_of y v py' b, sx, sy, k _ rfl⟩
theorem dr2_neD (px : isPy x = true) (py' : isPy y = true) (sx : SeqAt.shaped (py x) = true) (sy : SeqAt.shaped (py y) = true) : DR2 (rNeD K) x y (.bl (!PyData.eqv (py x) (py y))) :=
  dr2_flat fun W u v Q a b k => ⟨_, _, dp_of x u px a, dp_of y v py' b, sx, sy, k _ rfl⟩
end
end Dw

/-! Rules over data: tests, statements, calls, lists that are one's own. -/
namespace Dw
open PySem PySem.Spec PyProof.Rows L2
variable [Tabs0]

/-! ### tests -/
section
variable {Γ : Gam} {t ta tb : TE} {c ct' : TT} {a b : Bool} {d d1 d2 : D} {ds : List D} {K : PySem.W.Frag}
abbrev tTru (K : PySem.W.Frag) (ta : TE) : TT := fun σ H Q => ta σ H fun x H' => ∃ k, TruV K x H' k ∧ Q k H'
theorem evt_test (h : Ev t Γ (.bl b)) : EvT (tTest t) Γ b := fun F σ W Q g k => h F σ W _ g fun v H s l => ⟨b, l, k H s⟩
theorem evt_tru_bl (h : Ev t Γ (.bl b)) : EvT (tTru K t) Γ b := fun F σ W Q g k => h F σ W _ g fun v H s l => ⟨b, by rw [show v = .bl b from l]; rfl, k H s⟩
theorem evt_tru_int {i : Int} (h : Ev t Γ (.int i)) : EvT (tTru K t) Γ (i != 0) := fun F σ W Q g k => h F σ W _ g fun v H s l => ⟨_, by rw [show v = .int i from l]; rfl, k H s⟩
theorem evt_tru_lst (h : EvB t Γ ds) : EvT (tTru K t) Γ (!ds.isEmpty) := fun F σ W Q g k => h F σ W _ g fun v vs H s e l => ⟨_, .inl ⟨vs, .of e, by
  have := l.length
  cases ds <;> cases vs <;> simp_all⟩, k H s⟩
theorem evt_or (h : EvT c Γ a) (h' : a = false → EvT ct' Γ b) : EvT (tOr c ct') Γ (a || b) := fun F σ W Q g k => h F σ W _ g fun H s => by
  cases a with
  | false => exact h' rfl F σ (W.at H) Q (g.same s) fun H' s' => k H' (Same.trans s s')
  | true => exact k H s
theorem evt_not (h : EvT c Γ a) : EvT (tNot c) Γ (!a) := fun F σ W Q g k => h F σ W _ g fun H s => k H s
theorem evt_yes : EvT tYes Γ true := fun F σ W Q g k => k W.H (Same.refl _)
theorem dlt_test {Q : Bool → Gam → Prop} (h : Dl t Γ fun d Γ1 => ∃ b, d = .bl b ∧ Q b Γ1) : DlT (tTest t) Γ Q := fun F σ W R g k => h F σ W _ g fun v W1 d Γ1 s g1 l ⟨b, e, q⟩ => ⟨b, by rw [e] at l; exact l, k b W1 Γ1 s g1 q⟩
theorem dlt_yes {Q : Bool → Gam → Prop} (h : Q true Γ) : DlT tYes Γ Q := evt_yes.dl h
/-! ### choice, and, or as values -/
theorem ev_if (h : EvT c Γ a) (h1 : a = true → Ev ta Γ d1) (h2 : a = false → Ev tb Γ d2) : Ev (tIf c ta tb) Γ (if a = true then d1 else d2) := fun F σ W Q g k => h F σ W _ g fun H s => by
  cases a with
  | true => exact h1 rfl F σ (W.at H) Q (g.same s) fun v H' s' l => k v H' (Same.trans s s') l
  | false => exact h2 rfl F σ (W.at H) Q (g.same s) fun v H' s' l => k v H' (Same.trans s s') l
theorem ev_andV (h : Ev ta Γ (.bl a)) (h' : a = true → Ev tb Γ (.bl b)) : Ev (tAndV ta tb) Γ (.bl (a && b)) := fun F σ W Q g k => h F σ W _ g fun v H s l => ⟨a, l, by
  cases a with
  | true => exact h' rfl F σ (W.at H) Q (g.same s) fun v H' s' l => k v H' (Same.trans s s') l
  | false => exact k _ H s rfl⟩
theorem ev_orV (h : Ev ta Γ (.bl a)) (h' : a = false → Ev tb Γ (.bl b)) : Ev (tOrV ta tb) Γ (.bl (a || b)) := fun F σ W Q g k => h F σ W _ g fun v H s l => ⟨a, l, by
  cases a with
  | false => exact h' rfl F σ (W.at H) Q (g.same s) fun v H' s' l => k v H' (Same.trans s s') l
  | true => exact k _ H s rfl⟩
end

/-! ### displays -/
section
variable {Γ : Gam} {t : TA} {ds : List D}
theorem evn_lst (h : EvA t Γ ds) (hz : ds.length ≤ sizeLine) : EvN (tLst t) Γ ds := fun F σ W Q g k => h F σ W _ g fun vs H s l => ⟨by rw [← l.length]; exact hz, fun p hp =>
  k p vs _ (Same.trans s (same_upd hp)) (s.free hp) upd_same (RepL.plus (W := W.at H) hp (same_upd hp) l)⟩
theorem ev_tup (h : EvA t Γ ds) (hz : ds.length ≤ sizeLine) : Ev (tTup t) Γ (.tup ds) := fun F σ W Q g k => h F σ W _ g fun vs H s l => ⟨by rw [← l.length]; exact hz, fun p hp =>
  k _ _ (Same.trans s (same_upd hp)) (rep_new_tup (W := W.at H) (g.same s).ok.dom hp l)⟩
theorem dl_tup {Q : D → Gam → Prop} (h : DlA t Γ fun ds Γ1 => ds.length ≤ sizeLine ∧ Q (.tup ds) Γ1) : Dl (tTup t) Γ Q := fun F σ W R g k => h F σ W _ g fun vs W1 ds Γ1 s g1 l ⟨hz, q⟩ => ⟨by rw [← l.length]; exact hz, fun p hp =>
  k _ (W1.at _) (.tup ds) Γ1 (s.trans (Stp.of_same g1.ok (same_upd hp))) (g1.same (same_upd hp)) (rep_new_tup g1.ok.dom hp l) q⟩
end

/-! ### a list of one's own -/
theorem SR.plus {F : Addr → Prop} {Γ : Gam} {σ : L2.St} {W : Wd} {a : Addr} {H : Hp} (g : SR F Γ σ W) (s : Same W.H H) (n : W.H a = none) (ne : H a ≠ none) :
    Stp F W (W.plus H a) ∧ SR F Γ σ (W.plus H a) ∧ ¬ ownA Γ σ a ∧ ¬ F a ∧ ¬ W.P a := by
  have nu : ¬ W.U a := g.ok.new n
  have kp : ∀ b u, W.H b = some u → ¬ W.U b → H b = some u ∧ ¬ (W.U b ∨ b = a) := fun b u q nb => ⟨s b u q, fun z => z.elim nb fun z => by rw [z, n] at q; cases q⟩
  have st : Stp F W (W.plus H a) := ⟨kp, rfl, fun b h => by
    cases q : W.H b with
    | none => exact absurd q (g.ok.dom b (g.ok.fu b h))
    | some u => exact s b u q⟩
  refine ⟨st, ⟨⟨fun b h z => ?_, fun b h => Or.inl (g.ok.fu b h), fun b h => ?_⟩, g.len, fun j d q => ?_, fun j es q => ?_, g.apartX⟩, fun ⟨i, ds, e, q⟩ => ?_, fun z => nu (g.ok.fu a z), fun z => nu (g.ok.pu a z).1⟩
  · have z : H b = none := z
    rcases h with h | h
    · exact g.ok.dom b h (s.free z)
    · rw [h] at z; exact ne z
  · obtain ⟨u, f, o⟩ := g.ok.pu b h
    exact ⟨Or.inl u, f, o.same s⟩
  · obtain ⟨v, e1, r⟩ := g.val j d q
    exact ⟨v, e1, r.stp st⟩
  · obtain ⟨c, ws, e1, u, f, p, q1, r⟩ := g.ownX j es q
    exact ⟨c, ws, e1, Or.inl u, f, p, s _ _ q1, r.stp st⟩
  · obtain ⟨c, ws, e1, u, f, p, q1, r⟩ := g.ownX i ds e
    rw [q] at e1; cases e1
    exact nu u
theorem SR.adoptX {F : Addr → Prop} {Γ : Gam} {σ : L2.St} {W : Wd} {i : Nat} {a : Addr} {vs : List V} {ds : Ow} (g : SR F Γ σ W) (u : W.U a) (f : ¬ F a) (p : ¬ W.P a) (e : W.H a = some (ds.cell vs)) (l : RepL W ds.ds vs) (no : ¬ ownA Γ σ a) :
    SR F (Γ.set i (.ownX ds)) (σ.set i (some (.ref a))) W := by
  have lt : ∀ (k : Nat) (s : Sl), k = i → (Γ.set i (.ownX ds))[k]? = some s → i < Γ.length := fun k s hk q => by
    rw [hk] at q
    have := (List.getElem?_eq_some_iff.mp q).1
    simpa using this
  refine ⟨g.ok, by simp [g.len], fun j d q => ?_, fun j es q => ?_, fun j k c es fs q1 q2 q3 q4 => ?_⟩
  · by_cases hj : j = i
    · have hl := lt j _ hj q
      rw [hj, List.getElem?_set_self hl] at q; cases q
    · rw [List.getElem?_set_ne (Ne.symm hj)] at q ⊢
      exact g.val j d q
  · by_cases hj : j = i
    · have hl := lt j _ hj q
      rw [hj, List.getElem?_set_self hl] at q; cases q
      exact ⟨a, vs, by rw [hj, List.getElem?_set_self (by rw [← g.len]; exact hl)], u, f, p, e, l⟩
    · rw [List.getElem?_set_ne (Ne.symm hj)] at q ⊢
      exact g.ownX j es q
  · by_cases hj : j = i
    · have hl := lt j _ hj q1
      rw [hj, List.getElem?_set_self (by rw [← g.len]; exact hl)] at q3
      by_cases hk : k = i
      · rw [hj, hk]
      · rw [List.getElem?_set_ne (Ne.symm hk)] at q2 q4
        cases q3
        exact absurd ⟨k, fs, q2, q4⟩ no
    · rw [List.getElem?_set_ne (Ne.symm hj)] at q1 q3
      by_cases hk : k = i
      · have hl := lt k _ hk q2
        rw [hk, List.getElem?_set_self (by rw [← g.len]; exact hl)] at q4
        cases q4
        exact absurd ⟨j, es, q1, q3⟩ no
      · rw [List.getElem?_set_ne (Ne.symm hk)] at q2 q4
        exact g.apartX j k c es fs q1 q2 q3 q4
theorem SR.adopt {F : Addr → Prop} {Γ : Gam} {σ : L2.St} {W : Wd} {i : Nat} {a : Addr} {vs : List V} {ds : List D} (g : SR F Γ σ W) (u : W.U a) (f : ¬ F a) (p : ¬ W.P a) (e : W.H a = some (.lst vs)) (l : RepL W ds vs) (no : ¬ ownA Γ σ a) :
    SR F (Γ.set i (.own ds)) (σ.set i (some (.ref a))) W := g.adoptX (ds := ⟨none, ds⟩) u f p e l no
theorem SR.setOwn {F : Addr → Prop} {Γ : Gam} {σ : L2.St} {W : Wd} {i : Nat} {a : Addr} {vs : List V} {ds : List D} {H : Hp} (g : SR F Γ σ W) (s : Same W.H H) (n : W.H a = none) (e : H a = some (.lst vs)) (l : RepL (W.plus H a) ds vs) :
    Stp F W (W.plus H a) ∧ SR F (Γ.set i (.own ds)) (σ.set i (some (.ref a))) (W.plus H a) := by
  obtain ⟨st, g2, no, f, p⟩ := g.plus s n (by rw [e]; exact fun z => nomatch z)
  exact ⟨st, g2.adopt (Or.inr rfl) f p e l no⟩
end Dw

/-! Rules over data: own lists changed, statements, defs and their calls. -/
namespace Dw
open PySem PySem.Spec PyProof.Rows L2
variable [Tabs0]

/-! ### an own list is changed -/
theorem SR.writeX {F : Addr → Prop} {Γ : Gam} {σ : L2.St} {W : Wd} {i : Nat} {a : Addr} {vs : List V} {ds es : Ow} (g : SR F Γ σ W) (hi : Γ[i]? = some (.ownX ds)) (hs : σ[i]? = some (some (.ref a))) (l : RepL W es.ds vs) :
    Stp F W (W.at (upd W.H a (es.cell vs))) ∧ SR F (Γ.set i (.ownX es)) σ (W.at (upd W.H a (es.cell vs))) := by
  obtain ⟨a', us, e1, u, f, p, q, r⟩ := g.ownX i ds hi
  rw [hs] at e1; cases e1
  have kp : ∀ b o, W.H b = some o → ¬ W.U b → (upd W.H a (es.cell vs)) b = some o ∧ ¬ W.U b := fun b o e n => ⟨by rw [upd_ne (fun z : b = a => n (by rw [z]; exact u))]; exact e, n⟩
  have st : Stp F W (W.at (upd W.H a (es.cell vs))) := ⟨kp, rfl, fun b h => upd_ne (fun z : b = a => f (by rw [← z]; exact h))⟩
  refine ⟨st, ⟨⟨fun b h z => ?_, g.ok.fu, fun b h => ?_⟩, by simp [g.len], fun j d q' => ?_, fun j fs q' => ?_, fun j k c es' fs q1 q2 q3 q4 => ?_⟩⟩
  · have z : (upd W.H a (es.cell vs)) b = none := z
    by_cases hb : b = a
    · rw [hb, upd_same] at z; cases z
    · rw [upd_ne hb] at z; exact g.ok.dom b h z
  · obtain ⟨u', f', o⟩ := g.ok.pu b h
    exact ⟨u', f', o.upd (no_extX q) fun z : b = a => p (by rw [← z]; exact h)⟩
  · have hj : i ≠ j := fun z => by
      subst z
      have hl : i < Γ.length := (List.getElem?_eq_some_iff.mp hi).1
      rw [List.getElem?_set_self hl] at q'; cases q'
    rw [List.getElem?_set_ne hj] at q'
    obtain ⟨v, e1, r'⟩ := g.val j d q'
    exact ⟨v, e1, r'.stp st⟩
  · by_cases hj : i = j
    · subst hj
      have hl : i < Γ.length := (List.getElem?_eq_some_iff.mp hi).1
      rw [List.getElem?_set_self hl] at q'; cases q'
      exact ⟨a, vs, hs, u, f, p, upd_same, l.stp st⟩
    · rw [List.getElem?_set_ne hj] at q'
      obtain ⟨c, ws, e1, u', f', p', q1, r'⟩ := g.ownX j fs q'
      have nc : c ≠ a := fun z => hj (g.apartX i j a ds fs hi q' hs (z ▸ e1))
      exact ⟨c, ws, e1, u', f', p', (upd_ne nc).trans q1, r'.stp st⟩
  · have get : ∀ (j : Nat) (es' : Ow), (Γ.set i (.ownX es))[j]? = some (Sl.ownX es') → ∃ fs, Γ[j]? = some (Sl.ownX fs) := fun j es' q => by
      by_cases hj : i = j
      · subst hj; exact ⟨ds, hi⟩
      · rw [List.getElem?_set_ne hj] at q; exact ⟨es', q⟩
    obtain ⟨x, e1⟩ := get j es' q1
    obtain ⟨y, e2⟩ := get k fs q2
    exact g.apartX j k c x y e1 e2 q3 q4
theorem SR.write {F : Addr → Prop} {Γ : Gam} {σ : L2.St} {W : Wd} {i : Nat} {a : Addr} {vs : List V} {ds es : List D} (g : SR F Γ σ W) (hi : Γ[i]? = some (.own ds)) (hs : σ[i]? = some (some (.ref a))) (l : RepL W es vs) :
    Stp F W (W.at (upd W.H a (.lst vs))) ∧ SR F (Γ.set i (.own es)) σ (W.at (upd W.H a (.lst vs))) := g.writeX (ds := ⟨none, ds⟩) (es := ⟨none, es⟩) hi hs l
section
variable {K : PySem.W.Frag} {Γ : Gam} {i : Nat} {t : TA} {Q : D → Gam → Prop} {ds : List D}
/-- i's list is at the same place behind a step -/
theorem tyV_lst {K : PySem.W.Frag} {H : Hp} {a : Addr} {vs : List V} (h : H a = some (.lst vs)) : tyV K "list" (.ref a) H := .inl ⟨rfl, _, .inl (.inl h)⟩
theorem dl_append (h0 : ∃ ds, Γ[i]? = some (.own ds)) (h : DlA t Γ fun es Γ1 => ∃ e ds, es = [e] ∧ Γ1[i]? = some (.own ds) ∧ ds.length < sizeLine ∧ Q .non (Γ1.set i (.own (ds ++ [e])))) : Dl (tBM K "list" rAppend (tVar i) t) Γ Q := fun F σ W R g k => by
  obtain ⟨ds0, e0⟩ := h0
  obtain ⟨a, vs0, hs, _, _, _, q0, _⟩ := g.own i ds0 e0
  refine ⟨.ref a, hs, tyV_lst q0, h F σ W _ g fun us W1 es Γ1 s1 g1 l1 ⟨e, ds, e1, e2, hz, q⟩ => ?_⟩
  obtain ⟨a', vs, hs', u, f, p, q1, r1⟩ := g1.own i ds e2
  rw [hs] at hs'; cases hs'
  subst e1
  obtain ⟨v, _, rfl, l1, rfl⟩ := l1
  obtain ⟨st, g2⟩ := g1.write e2 hs (r1.append (RepL.one l1))
  exact ⟨a, vs, v, rfl, rfl, q1, by rw [← r1.length]; exact hz, k .non _ .non _ (s1.trans st) g2 rfl q⟩
theorem dl_popAt (h0 : ∃ ds, Γ[i]? = some (.own ds)) (h : DlA t Γ fun es Γ1 => ∃ (z : Int) (j : Nat) (ds : List D) (d : D), es = [.int z] ∧ Γ1[i]? = some (.own ds) ∧ -(2 ^ 63) ≤ z ∧ z < 2 ^ 63 ∧ seqIndex? z ds.length = some j ∧ ds[j]? = some d ∧ Q d (Γ1.set i (.own (ds.eraseIdx j)))) :
    Dl (tBM K "list" rPopAt (tVar i) t) Γ Q := fun F σ W R g k => by
  obtain ⟨ds0, e0⟩ := h0
  obtain ⟨a, vs0, hs, _, _, _, q0, _⟩ := g.own i ds0 e0
  refine ⟨.ref a, hs, tyV_lst q0, h F σ W _ g fun us W1 es Γ1 s1 g1 l1 ⟨z, j, ds, d, e1, e2, h1, h2, h3, h4, q⟩ => ?_⟩
  obtain ⟨a', vs, hs', u, f, p, q1, r1⟩ := g1.own i ds e2
  rw [hs] at hs'; cases hs'
  subst e1
  obtain ⟨v, _, rfl, l1, rfl⟩ := l1
  obtain ⟨w', hw, rw'⟩ := r1.get h4
  obtain ⟨st, g2⟩ := g1.write e2 hs (r1.eraseIdx j)
  exact ⟨a, vs, z, j, w', rfl, by rw [show v = .int z from l1], q1, h1, h2, by rw [← r1.length]; exact h3, hw, k w' _ d _ (s1.trans st) g2 (rw'.stp st) q⟩
end

/-! ### statements -/
section
variable {K : PySem.W.Frag} {Γ : Gam} {i j : Nat} {t u : TS} {te : TE} {De : DE} {ds es : List D}
theorem ds_next (h : De.nx Γ) : Ds tNext Γ De := fun F σ W Dr g l => l.nx σ W Γ (Stp.refl W) g h
theorem ds_seq (h : Ds t Γ { De with nx := fun Γ' => Ds u Γ' De }) : Ds (tSeq t u) Γ De := fun F σ W Dr g l => h F σ W { Dr with nx := u Dr } g
  ⟨fun σ1 W1 Γ1 s g1 q => q F σ1 W1 Dr g1 (l.after s), l.rt, l.bk, l.ct⟩
theorem ds_asg (h : Dl te Γ fun d Γ1 => De.nx (Γ1.set i (.val d))) : Ds (tAsg te (gName i)) Γ De := fun F σ W Dr g l => h F σ W _ g fun v W1 d Γ1 s g1 r q => l.nx _ W1 _ s (g1.set r) q
theorem ds_asg_own (h : EvN te Γ ds) (q : De.nx (Γ.set i (.own ds))) : Ds (tAsg te (gName i)) Γ De := fun F σ W Dr g l => h F σ W _ g fun a vs H s n e r =>
  let ⟨st, g2⟩ := g.setOwn (i := i) s n e r
  l.nx _ (W.plus H a) _ st g2 q
theorem ds_if {c : TT} (h : DlT c Γ fun b Γ1 => (b = true → Ds t Γ1 De) ∧ (b = false → Ds u Γ1 De)) : Ds (tIfS c t u) Γ De := fun F σ W Dr g l => h F σ W _ g fun b W1 Γ1 s g1 q => by
  cases b with
  | true => exact q.1 rfl F σ W1 Dr g1 (l.after s)
  | false => exact q.2 rfl F σ W1 Dr g1 (l.after s)
theorem ds_ret (h : Dl te Γ fun d _ => De.rt d) : Ds (tRet te) Γ De := fun F σ W Dr g l => h F σ W _ g fun v W1 d Γ1 s g1 r q => l.rt v W1 d s g1.ok r q
theorem ds_drop (h : Dl te Γ fun _ Γ1 => De.nx Γ1) : Ds (tDrop te) Γ De := fun F σ W Dr g l => h F σ W _ g fun v W1 d Γ1 s g1 r q => l.nx _ W1 _ s g1 q
/-- an own list is no longer changed -/
theorem SR.freeze {F : Addr → Prop} {σ : L2.St} {W : Wd} {a : Addr} (g : SR F Γ σ W) (hi : Γ[i]? = some (.own ds)) (hs : σ[i]? = some (some (.ref a))) :
    Stp F W ⟨W.H, fun b => W.U b ∧ b ≠ a, W.P⟩ ∧ SR F (Γ.set i (.val (.lst ds))) σ ⟨W.H, fun b => W.U b ∧ b ≠ a, W.P⟩ := by
  obtain ⟨a', us, e1, u, f, p, q, r⟩ := g.own i ds hi
  rw [hs] at e1; cases e1
  have st : Stp F W ⟨W.H, fun b => W.U b ∧ b ≠ a, W.P⟩ := ⟨fun b o e n => ⟨e, fun z => n z.1⟩, rfl, fun _ _ => rfl⟩
  have hl : i < Γ.length := (List.getElem?_eq_some_iff.mp hi).1
  refine ⟨st, ⟨⟨fun b h => g.ok.dom b h.1, fun b h => ⟨g.ok.fu b h, fun z => f (z ▸ h)⟩, fun b h => let ⟨u', f', pp⟩ := g.ok.pu b h; ⟨⟨u', fun z => p (z ▸ h)⟩, f', pp⟩⟩, by simp [g.len], fun j d q' => ?_, fun j fs q' => ?_, fun j k c es' fs q1 q2 q3 q4 => ?_⟩⟩
  · by_cases hj : i = j
    · subst hj
      rw [List.getElem?_set_self hl] at q'; cases q'
      exact ⟨.ref a, hs, a, us, rfl, q, fun z => z.2 rfl, r.stp st⟩
    · rw [List.getElem?_set_ne hj] at q'
      obtain ⟨v, e1, r'⟩ := g.val j d q'
      exact ⟨v, e1, r'.stp st⟩
  · have hj : i ≠ j := fun z => by
      subst z
      rw [List.getElem?_set_self hl] at q'; cases q'
    rw [List.getElem?_set_ne hj] at q'
    obtain ⟨c, ws, e1, u', f', p', q1, r'⟩ := g.ownX j fs q'
    exact ⟨c, ws, e1, ⟨u', fun z => hj (g.apartX i j a ⟨none, ds⟩ fs hi q' hs (z ▸ e1))⟩, f', p', q1, r'.stp st⟩
  · have get : ∀ (j : Nat) (es' : Ow), (Γ.set i (.val (.lst ds)))[j]? = some (Sl.ownX es') → Γ[j]? = some (Sl.ownX es') := fun j es' q => by
      by_cases hj : i = j
      · subst hj; rw [List.getElem?_set_self hl] at q; cases q
      · rw [List.getElem?_set_ne hj] at q; exact q
    exact g.apartX j k c es' fs (get j es' q1) (get k fs q2) q3 q4
theorem ds_freeze (i : Nat) (hi : Γ[i]? = some (.own ds)) (h : Ds t (Γ.set i (.val (.lst ds))) De) : Ds t Γ De := fun F σ W Dr g l => by
  obtain ⟨a, vs, hs, _⟩ := g.own i ds hi
  obtain ⟨st, g2⟩ := g.freeze hi hs
  exact h F σ ⟨W.H, fun b => W.U b ∧ b ≠ a, W.P⟩ Dr g2 (l.after st)
theorem ds_ret_own (hi : Γ[i]? = some (.own ds)) (h : De.rt (.lst ds)) : Ds (tRet (tVar i)) Γ De := by
  have hl : i < Γ.length := (List.getElem?_eq_some_iff.mp hi).1
  exact ds_freeze i hi (ds_ret ((ev_var (d := .lst ds) (by rw [List.getElem?_set_self hl])).dl h))
theorem ds_par_oo {t1 t2 : TE} (h1 : EvN t1 Γ ds) (h2 : EvN t2 Γ es) (q : De.nx ((Γ.set i (.own ds)).set j (.own es))) : Ds (tPar i j (tCons t1 (tCons t2 tNil))) Γ De := fun F σ W Dr g l =>
  h1 F σ W _ g fun a vs H s n e r => by
    obtain ⟨st1, g1, no1, f1, p1⟩ := g.plus s n (by rw [e]; exact fun z => nomatch z)
    refine h2 F σ (W.plus H a) _ g1 fun b ws H' s' n' e' r' => ?_
    obtain ⟨st2, g2, no2, f2, p2⟩ := g1.plus s' n' (by rw [e']; exact fun z => nomatch z)
    have nab : b ≠ a := fun z => by
      have n' : H b = none := n'
      rw [z, e] at n'; cases n'
    have ea : H' a = some (.lst vs) := s' a _ e
    have ra : RepL ((W.plus H a).plus H' b) ds vs := r.stp st2
    have g3 := g2.adopt (i := i) (Or.inl (Or.inr rfl)) f1 p1 ea ra no1
    have no3 : ¬ ownA (Γ.set i (.own ds)) (σ.set i (some (.ref a))) b := fun ⟨k, fs, e1, e2⟩ => by
      by_cases hk : k = i
      · rw [hk] at e1 e2
        have hl : i < (Γ.set i (Sl.own ds)).length := (List.getElem?_eq_some_iff.mp e1).1
        rw [List.length_set] at hl
        rw [List.getElem?_set_self (by rw [← g.len]; exact hl)] at e2
        cases e2
        exact nab rfl
      · rw [List.getElem?_set_ne (Ne.symm hk)] at e1 e2
        exact no2 ⟨k, fs, e1, e2⟩
    have g4 := g3.adopt (i := j) (Or.inr rfl) f2 p2 e' r' no3
    exact ⟨.ref a, .ref b, rfl, l.nx _ ((W.plus H a).plus H' b) _ (st1.trans st2) g4 q⟩
end

/-! ### a def's promise over data -/
/-- for each x : α that is ok, called with args x, it returns some d with rel x d -/
structure Spc where
  ty : Type
  args : ty → List D
  ok : ty → Prop
  rel : ty → D → Prop
def toSp (s : Spc) : Sp := fun vs H Q _ => ∃ (x : s.ty) (F : Addr → Prop) (W : Wd), W.H = H ∧ WOk F W ∧ RepL W (s.args x) vs ∧ s.ok x ∧ ∀ d v W', s.rel x d → Stp F W W' → WOk F W' → Rep W' d v → Q v W'.H
/-- the slots at a def's start -/
def Gz0 (n : Nat) (ds : List D) : Gam := ds.map Sl.val ++ List.replicate (n - ds.length) Sl.unset
theorem sr_start {F : Addr → Prop} {W : Wd} {N : List Str} {ds : List D} {vs : List V} (ok : WOk F W) (r : RepL W ds vs) : SR F (Gz0 N.length ds) (L2.start N vs) W := by
  have hl := r.length
  refine ⟨ok, by simp [Gz0, L2.start, hl], fun i d e => ?_, fun i d e => ?_, fun i j a ds' es e => ?_⟩
  · unfold Gz0 at e
    by_cases hi : i < ds.length
    · rw [List.getElem?_append_left (by simpa using hi), List.getElem?_map] at e
      cases q : ds[i]? with
      | none => rw [q] at e; cases e
      | some d' =>
        rw [q] at e; cases e
        obtain ⟨v, e1, r1⟩ := r.get q
        refine ⟨v, ?_, r1⟩
        unfold L2.start
        rw [List.getElem?_append_left (by simp [← hl, hi]), List.getElem?_map, e1]
        rfl
    · rw [List.getElem?_append_right (by simpa using hi)] at e
      have := List.mem_of_getElem? e
      rw [List.mem_replicate] at this
      cases this.2
  all_goals
    exfalso
    unfold Gz0 at e
    by_cases hi : i < ds.length
    · rw [List.getElem?_append_left (by simpa using hi), List.getElem?_map] at e
      cases q : ds[i]? with
      | none => rw [q] at e; cases e
      | some d' => rw [q] at e; cases e
    · rw [List.getElem?_append_right (by simpa using hi)] at e
      have := List.mem_of_getElem? e
      rw [List.mem_replicate] at this
      cases this.2
theorem body_of {s : Spc} {N : List Str} {t : TS} {vs : List V} {H : Hp} {Q : VK} {E : XK} (hs : toSp s vs H Q E) (hb : ∀ x, s.ok x → Ds t (Gz0 N.length (s.args x)) ⟨fun _ => s.rel x .non, s.rel x, fun _ => False, fun _ => False⟩) :
    t { nx := fun _ H' => Q .non H', rt := Q } (L2.start N vs) H := by
  obtain ⟨x, F, W, rfl, ok, r, hx, q⟩ := hs
  exact hb x hx F _ W _ (sr_start ok r) ⟨fun σ W' Γ st g h => q .non .non W' h st g.ok rfl, fun v W' d st ok' r' h => q d v W' h st ok' r', fun _ _ _ _ _ h => h.elim, fun _ _ _ _ _ h => h.elim⟩
theorem spc_len {s : Spc} {n : Nat} (h : ∀ x, (s.args x).length = n) : ∀ vs H Q E, toSp s vs H Q E → vs.length = n := fun vs H Q E ⟨x, F, W, _, _, r, _⟩ => by rw [← r.length]; exact h x
section
variable {P : Program} {w : World} {K : PySem.W.Frag} {mg : Str → Option Value} {base : Heap}
/-- THE RULE for a def that raises nothing -/
theorem fn_ok {x qual : Str} {st : Stmt} {f : Addr} {fd : FuncData} {N ps : List Str} {k : Nat} {s : Spc} (F : Fun K x qual st f fd) (S : FnScope N ps (defScope st)) (len : ∀ x, (s.args x).length = ps.length)
    (hbody : ∀ (cdv : Value) (A : Around) (outer : List Env) (s' : Shared) (H : Hp) (E : XK), Room k (A.deeper (envOfC qual (defScope st) s'.heap.objs.size f cdv)) →
      ∃ t, PSs (cxOf CX0 P w K mg base N qual (defScope st) f cdv A outer s' H E).nox (defBody st) t ∧ ∀ x, s.ok x → Ds t (Gz0 N.length (s.args x)) ⟨fun _ => s.rel x .non, s.rel x, fun _ => False, fun _ => False⟩) :
    FnOk P w K mg base CX0 (k + 1) f fd ps (toSp s) :=
  F.ok S (spc_len len) fun cdv A outer s' H vs Q E hr h => by
    obtain ⟨t, p, hb⟩ := hbody cdv A outer s' H E hr
    exact ⟨t, p, body_of h hb⟩
end
section
variable {Γ : Gam} {s : Spc} {t tk : TA} {E : XK} {Q : D → Gam → Prop} {ds es : List D} {d : D}
theorem dl_call (h : DlA t Γ fun ds Γ1 => ∃ x, ds = s.args x ∧ s.ok x ∧ ∀ d, s.rel x d → Q d Γ1) : Dl (tCall (toSp s) [] E t) Γ Q := fun F σ W R g k => h F σ W _ g fun vs W1 ds Γ1 st g1 r ⟨x, e, ok, q⟩ => by
  subst e
  rw [List.append_nil]
  exact ⟨x, _, W1, rfl, g1.callOk, r, ok, fun d v W' hd st' ok' r' => k v W' d Γ1 (st.trans (st'.sub fun _ z => .inl z)) (g1.call st' ok') r' (q d hd)⟩
theorem pure_call {F : Addr → Prop} {σ : L2.St} {W : Wd} {vs : List V} {x : s.ty} {R : VK} {U : Addr → Prop} (g : SR F Γ σ W) (ul : ∀ a, U a → W.U a) (hU : RepL ⟨W.H, U, fun _ => False⟩ (s.args x) vs) (ok : s.ok x) (k : ∀ d v H, s.rel x d → Same W.H H → Rep ⟨H, U, fun _ => False⟩ d v → R v H) : toSp s vs W.H R E := by
  refine ⟨x, U, ⟨W.H, U, fun _ => False⟩, rfl, ⟨fun a h => g.ok.dom a (ul a h), fun a h => h, fun a h => h.elim⟩, hU, ok, fun d v W' hd st ok' r => ?_⟩
  refine k d v W'.H hd (fun b o e => ?_) (Rep.mono (W := W') (W' := ⟨W'.H, U, fun _ => False⟩) (fun a u e n => ⟨e, fun z => n (ok'.fu a z)⟩) (fun a z => by rw [st.pur] at z; exact z) d v r)
  by_cases hb : U b
  · exact (st.fr b hb).trans e
  · exact (st.keep b o e hb).1
/-- purse-free data, as seen by a def that draws nothing -/
theorem Rep.addP {W : Wd} {H : Hp} {U P : Addr → Prop} {d : D} {v : V} (h : Rep ⟨H, U, fun _ => False⟩ d v) : Rep ⟨H, U, P⟩ d v := Rep.mono (W := ⟨H, U, fun _ => False⟩) (W' := ⟨H, U, P⟩) (fun _ _ e n => ⟨e, n⟩) (fun _ z => z.elim) d v h
mutual
/-- no purse within -/
def noP : D → Bool
  | .purse => false | .scr _ _ => false | .tag _ => false
  | .tup ds => noPs ds | .lst ds => noPs ds | .obj _ _ ds => noPs ds | .dct _ ds => noPs ds | .tupN ds => noPs ds
  | _ => true
def noPs : List D → Bool
  | [] => true
  | d :: ds => noP d && noPs ds
end
mutual
theorem Rep.delP {W : Wd} : ∀ (d : D) (v : V), noP d = true → Rep W d v → Rep ⟨W.H, W.U, fun _ => False⟩ d v
  | .non, _, _, h => h
  | .bl _, _, _, h => h
  | .int _, _, _, h => h
  | .str _, _, _, h => h
  | .raw _, _, _, h => h
  | .tup ds, _, n, ⟨a, vs, e, h, u, r⟩ => ⟨a, vs, e, h, u, RepL.delP ds vs n r⟩
  | .tupN ds, _, n, ⟨a, vs, e, h, u, r⟩ => ⟨a, vs, e, h, u, RepL.delP ds vs n r⟩
  | .lst ds, _, n, ⟨a, vs, e, h, u, r⟩ => ⟨a, vs, e, h, u, RepL.delP ds vs n r⟩
  | .obj C ns ds, _, n, ⟨a, dx, vs, e, h, u, l, r⟩ => ⟨a, dx, vs, e, h, u, l, RepL.delP ds vs n r⟩
  | .purse, _, n, _ => nomatch n
  | .rng _ _, _, _, h => h
  | .dct ks ds, _, n, ⟨a, vs, e, h, u, l, r⟩ => ⟨a, vs, e, h, u, l, RepL.delP ds vs n r⟩
  | .scr _ _, _, n, _ => nomatch n
  | .tag _, _, n, _ => nomatch n
theorem RepL.delP {W : Wd} : ∀ (ds : List D) (vs : List V), noPs ds = true → RepL W ds vs → RepL ⟨W.H, W.U, fun _ => False⟩ ds vs
  | [], _, _, h => h
  | d :: ds, _, n, ⟨v, r, e, h1, h2⟩ => by
    have n' : noP d = true ∧ noPs ds = true := by simpa [noPs] using n
    exact ⟨v, r, e, Rep.delP d v n'.1 h1, RepL.delP ds r n'.2 h2⟩
end
theorem noPs_map {α : Type} {f : α → D} (h : ∀ x, noP (f x) = true) : ∀ xs : List α, noPs (xs.map f) = true
  | [] => rfl
  | x :: xs => by
    show (noP (f x) && noPs (xs.map f)) = true
    rw [h, noPs_map h xs]; rfl
/-- a call that draws nothing -/
theorem ev_call {x : s.ty} (h : EvA t Γ (s.args x)) (np : noPs (s.args x) = true) (ok : s.ok x) (hd : ∀ d', s.rel x d' → d' = d) : Ev (tCall (toSp s) [] E t) Γ d := fun F σ W R g k => h F σ W _ g fun vs H st r => by
  rw [List.append_nil]
  exact pure_call (W := W.at H) (g.same st) (fun _ z => z) (RepL.delP _ _ np r) ok fun d' v H' hd' s' r' => by
    rw [hd d' hd'] at r'
    exact k v H' (Same.trans st s') (Rep.addP (W := W) r')
end
end Dw

/-! Rules over data: targets, iterators, for, comprehensions. -/
namespace Dw
open PySem PySem.Spec PyProof.Rows L2
variable [Tabs0]

/-! ### wiped slots -/
theorem wipe_get (σ : L2.St) (j : Nat) : ∀ vs : List Nat, (wipe σ vs)[j]? = if j ∈ vs then (if j < σ.length then some none else none) else σ[j]?
  | [] => by simp [wipe]
  | v :: vs => by
    unfold wipe
    by_cases hv : v = j
    · subst hv
      rw [if_pos List.mem_cons_self]
      by_cases hl : v < σ.length
      · rw [List.getElem?_set_self (by rw [wipe_length]; exact hl), if_pos hl]
      · rw [if_neg hl]
        exact List.getElem?_eq_none (by rw [List.length_set, wipe_length]; omega)
    · rw [List.getElem?_set_ne hv, wipe_get σ j vs]
      by_cases hm : j ∈ vs
      · rw [if_pos hm, if_pos (List.mem_cons_of_mem _ hm)]
      · rw [if_neg hm, if_neg (by simp only [List.mem_cons, not_or]; exact ⟨fun z => hv z.symm, hm⟩)]
theorem wipe_set {σ : L2.St} {i : Nat} {o : Option V} {vs : List Nat} (h : i ∈ vs) : wipe (σ.set i o) vs = wipe σ vs := by
  refine List.ext_getElem? fun j => ?_
  rw [wipe_get, wipe_get, List.length_set]
  by_cases hm : j ∈ vs
  · rw [if_pos hm, if_pos hm]
  · rw [if_neg hm, if_neg hm, List.getElem?_set_ne (fun z : i = j => hm (by rw [← z]; exact h))]
theorem wipe_wipe {σ : L2.St} {vs : List Nat} : wipe (wipe σ vs) vs = wipe σ vs := by
  refine List.ext_getElem? fun j => ?_
  rw [wipe_get (wipe σ vs), wipe_get σ, wipe_length]
  by_cases hm : j ∈ vs
  · rw [if_pos hm, if_pos hm]
  · rw [if_neg hm, if_neg hm]
def wipeG (Γ : Gam) : List Nat → Gam
  | [] => Γ
  | v :: vs => (wipeG Γ vs).set v .unset
theorem wipeG_length (Γ : Gam) : ∀ vs : List Nat, (wipeG Γ vs).length = Γ.length
  | [] => rfl
  | v :: vs => by unfold wipeG; rw [List.length_set, wipeG_length Γ vs]
theorem wipeG_get {Γ : Gam} {j : Nat} {s : Sl} : ∀ {vs : List Nat}, (wipeG Γ vs)[j]? = some s → s = .unset ∨ (Γ[j]? = some s ∧ j ∉ vs)
  | [], h => .inr ⟨h, by simp⟩
  | v :: vs, h => by
    unfold wipeG at h
    by_cases hv : v = j
    · subst hv
      have hl : v < (wipeG Γ vs).length := by
        have := (List.getElem?_eq_some_iff.mp h).1
        simpa using this
      rw [List.getElem?_set_self hl] at h
      cases h; exact .inl rfl
    · rw [List.getElem?_set_ne hv] at h
      rcases wipeG_get h with h | ⟨h1, h2⟩
      · exact .inl h
      · exact .inr ⟨h1, by simp only [List.mem_cons, not_or]; exact ⟨fun z => hv z.symm, h2⟩⟩
theorem SR.wipe {F : Addr → Prop} {Γ : Gam} {σ : L2.St} {W : Wd} (g : SR F Γ σ W) (vs : List Nat) : SR F (wipeG Γ vs) (wipe σ vs) W :=
  g.weak (by rw [wipeG_length, wipe_length, g.len]) fun i s e => by
    rcases wipeG_get e with h | ⟨h1, h2⟩
    · exact .inl h
    · exact .inr ⟨h1, by rw [wipe_get, if_neg h2]⟩
theorem SR.unwipe {F : Addr → Prop} {Γ : Gam} {σ : L2.St} {W : Wd} {vs : List Nat} (g : SR F Γ (L2.wipe σ vs) W) : SR F Γ σ W :=
  ⟨g.ok, by rw [g.len, wipe_length], fun i d e => let ⟨v, e1, r⟩ := g.val i d e; ⟨v, (wipe_some e1).1, r⟩,
   fun i ds e => let ⟨a, vs', e1, r⟩ := g.ownX i ds e; ⟨a, vs', (wipe_some e1).1, r⟩, fun i j a ds es e1 e2 e3 e4 => by
    obtain ⟨b, _, q1, _⟩ := g.ownX i ds e1
    obtain ⟨c, _, q2, _⟩ := g.ownX j es e2
    have z1 := (wipe_some q1).1
    have z2 := (wipe_some q2).1
    rw [e3] at z1; cases z1
    rw [e4] at z2; cases z2
    exact g.apartX i j _ ds es e1 e2 q1 q2⟩

/-! ### targets -/
/-- storing x changes the slots is alone -/
def DG (g : TG) (is : List Nat) (x : D) (Γ Γ' : Gam) : Prop := ∀ (F : Addr → Prop) (σ : L2.St) (W : Wd) (v : V) (R : L2.St → Hp → Prop), SR F Γ σ W → Rep W x v →
  (∀ σ', SR F Γ' σ' W → (∀ vs : List Nat, (∀ i ∈ is, i ∈ vs) → wipe σ' vs = wipe σ vs) → R σ' W.H) → g v σ W.H R
theorem dg_name {i : Nat} {x : D} {Γ : Gam} : DG (gName i) [i] x Γ (Γ.set i (.val x)) := fun F σ W v R g r k => k _ (g.set r) fun vs h => wipe_set (h i List.mem_cons_self)
theorem dg_tup2 {K : PySem.W.Frag} {g1 g2 : TG} {is js : List Nat} {x y : D} {Γ Γ1 Γ2 : Gam} (h1 : DG g1 is x Γ Γ1) (h2 : DG g2 js y Γ1 Γ2) : DG (gTup K 2 (gCons g1 (gCons g2 gNil))) (is ++ js) (.tup [x, y]) Γ Γ2 := fun F σ W v R g r k => by
  obtain ⟨a, vs, e, ha, nu, v1, _, rfl, r1, v2, _, rfl, r2, rfl⟩ := r
  refine ⟨a, [v1, v2], e, ha.sq, rfl, v1, [v2], rfl, h1 F σ W v1 _ g r1 fun σ1 g1 w1 => ⟨v2, [], rfl, h2 F σ1 W v2 _ g1 r2 fun σ2 g2 w2 => ⟨rfl, k σ2 g2 fun vs h => ?_⟩⟩⟩
  rw [w2 vs fun i hi => h i (List.mem_append_right _ hi), w1 vs fun i hi => h i (List.mem_append_left _ hi)]
theorem dg_tup3 {K : PySem.W.Frag} {g1 g2 g3 : TG} {is js ks : List Nat} {x y z : D} {Γ Γ1 Γ2 Γ3 : Gam} (h1 : DG g1 is x Γ Γ1) (h2 : DG g2 js y Γ1 Γ2) (h3 : DG g3 ks z Γ2 Γ3) : DG (gTup K 3 (gCons g1 (gCons g2 (gCons g3 gNil)))) (is ++ (js ++ ks)) (.tup [x, y, z]) Γ Γ3 := fun F σ W v R g r k => by
  obtain ⟨a, vs, e, ha, nu, v1, _, rfl, r1, v2, _, rfl, r2, v3, _, rfl, r3, rfl⟩ := r
  refine ⟨a, [v1, v2, v3], e, ha.sq, rfl, v1, [v2, v3], rfl, h1 F σ W v1 _ g r1 fun σ1 g1 w1 => ⟨v2, [v3], rfl, h2 F σ1 W v2 _ g1 r2 fun σ2 g2 w2 => ⟨v3, [], rfl, h3 F σ2 W v3 _ g2 r3 fun σ3 g3 w3 => ⟨rfl, k σ3 g3 fun vs h => ?_⟩⟩⟩⟩
  rw [w3 vs fun i hi => h i (List.mem_append_right _ (List.mem_append_right _ hi)), w2 vs fun i hi => h i (List.mem_append_right _ (List.mem_append_left _ hi)), w1 vs fun i hi => h i (List.mem_append_left _ hi)]
theorem ds_asg_g {te : TE} {g : TG} {Γ : Gam} {De : DE} (h : Dl te Γ fun d Γ1 => ∃ is Γ2, DG g is d Γ1 Γ2 ∧ De.nx Γ2) : Ds (tAsg te g) Γ De := fun F σ W Dr s l => h F σ W _ s fun v W1 d Γ1 st g1 r ⟨is, Γ2, hg, q⟩ =>
  hg F σ W1 v _ g1 r fun σ' g' _ => l.nx σ' W1 Γ2 st g' q

/-! ### iterators -/
structure ItOk (F : Addr → Prop) (W : Wd) (J : It) (xs : List D) : Prop where
  go : ∀ (W1 : Wd) (i : Nat) (x : D), Stp F W W1 → WOk F W1 → xs[i]? = some x → J.go i W1.H ∧ ∀ v H', J.yld i W1.H v H' → Same W1.H H' ∧ Rep (W1.at H') x v
  stop : ∀ (W1 : Wd), Stp F W W1 → WOk F W1 → J.stop xs.length W1.H
structure ItS (W : Wd) (J : It) (xs : List D) : Prop where
  go : ∀ (W1 : Wd) (i : Nat) (x : D), (∀ a, W1.U a → W1.H a ≠ none) → Same W.H W1.H → (∀ a u, W.H a = some u → ¬ W.U a → ¬ W1.U a) → W1.P = W.P → xs[i]? = some x → J.go i W1.H ∧ ∀ v H', J.yld i W1.H v H' → Same W1.H H' ∧ Rep (W1.at H') x v
  stop : ∀ (H : Hp), Same W.H H → J.stop xs.length H
def Di (wi : TI) (Γ : Gam) (Q : List D → Gam → Prop) : Prop := ∀ (F : Addr → Prop) (σ : L2.St) (W : Wd) (R : It → Hp → Prop), SR F Γ σ W → (∀ J W' xs Γ', Stp F W W' → SR F Γ' σ W' → ItOk F W' J xs → Q xs Γ' → R J W'.H) → wi σ W.H R
def Ei (wi : TI) (Γ : Gam) (xs : List D) : Prop := ∀ (F : Addr → Prop) (σ : L2.St) (W : Wd) (R : It → Hp → Prop), SR F Γ σ W → (∀ J H, Same W.H H → ItS (W.at H) J xs → R J H) → wi σ W.H R
section
variable {K : PySem.W.Frag} {Γ : Gam} {t : TE} {ta : TA} {xs : List D} {Q : List D → Gam → Prop}
theorem di_list (h : Dl t Γ fun d Γ1 => ∃ xs, d = .lst xs ∧ Q xs Γ1) : Di (iList K t) Γ Q := fun F σ W R g k => h F σ W _ g fun v W1 d Γ1 st g1 r ⟨xs, e, q⟩ => by
  subst e
  obtain ⟨a, vs, rfl, ha, nu, l⟩ := r
  refine ⟨a, rfl, ⟨vs, .of ha⟩, k (Itl K a) W1 xs Γ1 st g1 ⟨fun W2 i x s2 ok2 hx => ?_, fun W2 s2 ok2 => ⟨vs, .of (s2.keep a _ ha nu).1, by rw [l.length]; exact Nat.le_refl _⟩⟩ q⟩
  obtain ⟨v, hv, rv⟩ := l.get hx
  exact ⟨⟨vs, v, .of (s2.keep a _ ha nu).1, hv⟩, fun u H' ⟨e, hy⟩ => by
    subst e
    have := hy vs (.of (s2.keep a _ ha nu).1)
    rw [hv] at this; cases this
    exact ⟨Same.refl _, rv.stp s2⟩⟩
theorem ei_list (h : EvB t Γ xs) : Ei (iList K t) Γ xs := fun F σ W R g k => h F σ W _ g fun a vs H st ha l => by
  refine ⟨a, rfl, ⟨vs, .of ha⟩, k (Itl K a) H st ⟨fun W2 i x dm s2 ku pu hx => ?_, fun H2 s2 => ⟨vs, .of (s2 a _ ha), by rw [l.length]; exact Nat.le_refl _⟩⟩⟩
  obtain ⟨v, hv, rv⟩ := l.get hx
  exact ⟨⟨vs, v, .of (s2 a _ ha), hv⟩, fun u H' ⟨e, hy⟩ => by
    subst e
    have := hy vs (.of (s2 a _ ha))
    rw [hv] at this; cases this
    exact ⟨Same.refl _, Rep.mono (W := W.at H) (W' := W2) (fun b u e n => ⟨s2 b u e, ku b u e n⟩) (fun b z => by rw [pu]; exact z) _ _ rv⟩⟩
theorem ei_tup (h : Ev t Γ (.tup xs)) : Ei (iTup K t) Γ xs := fun F σ W R g k => h F σ W _ g fun v H st ⟨a, vs, e, ha, nu, l⟩ => by
  subst e
  refine ⟨a, rfl, ⟨vs, ha.sq⟩, k (Itt K a) H st ⟨fun W2 i x dm s2 ku pu hx => ?_, fun H2 s2 => ⟨vs, (ha.same s2).sq, by rw [l.length]; exact Nat.le_refl _⟩⟩⟩
  obtain ⟨v, hv, rv⟩ := l.get hx
  exact ⟨⟨vs, v, (ha.same s2).sq, hv⟩, fun u H' ⟨e, hy⟩ => by
    subst e
    have := hy vs ((ha.same s2).sq)
    rw [hv] at this; cases this
    exact ⟨Same.refl _, Rep.mono (W := W.at H) (W' := W2) (fun b u e n => ⟨s2 b u e, ku b u e n⟩) (fun b z => by rw [pu]; exact z) _ _ rv⟩⟩
theorem di_tup (h : Dl t Γ fun d Γ1 => ∃ xs, d = .tup xs ∧ Q xs Γ1) : Di (iTup K t) Γ Q := fun F σ W R g k => h F σ W _ g fun v W1 d Γ1 st g1 r ⟨xs, e, q⟩ => by
  subst e
  obtain ⟨a, vs, rfl, ha, nu, l⟩ := r
  refine ⟨a, rfl, ⟨vs, ha.sq⟩, k (Itt K a) W1 xs Γ1 st g1 ⟨fun W2 i x s2 ok2 hx => ?_, fun W2 s2 ok2 => ⟨vs, (ha.keep nu (s2.keep a)).1.sq, by rw [l.length]; exact Nat.le_refl _⟩⟩ q⟩
  obtain ⟨v, hv, rv⟩ := l.get hx
  exact ⟨⟨vs, v, (ha.keep nu (s2.keep a)).1.sq, hv⟩, fun u H' ⟨e, hy⟩ => by
    subst e
    have := hy vs ((ha.keep nu (s2.keep a)).1.sq)
    rw [hv] at this; cases this
    exact ⟨Same.refl _, rv.stp s2⟩⟩
/-- 0, 1, .., n - 1 -/
def rng (n : Nat) : List D := (List.range n).map fun (i : Nat) => D.int i
theorem rng_get {n i : Nat} {x : D} (h : (rng n)[i]? = some x) : i < n ∧ x = .int i := by
  unfold rng at h
  rw [List.getElem?_map] at h
  by_cases hi : i < n
  · rw [List.getElem?_range hi] at h
    cases h; exact ⟨hi, rfl⟩
  · rw [List.getElem?_eq_none (by simpa using hi)] at h; cases h
theorem rng_length (n : Nat) : (rng n).length = n := by simp [rng]
theorem di_range {Q : List D → Gam → Prop} (h : DlA ta Γ fun ds Γ1 => ∃ n : Nat, ds = [.int n] ∧ n < 2 ^ 62 ∧ Q (rng n) Γ1) : Di (iRng1 ta) Γ Q := fun F σ W R g k => h F σ W _ g fun vs W1 ds Γ1 st g1 r ⟨n, e, hn, q⟩ => by
  subst e
  obtain ⟨v, _, rfl, rv, rfl⟩ := r
  refine ⟨n, by rw [show v = V.int n from rv], by omega, by omega, k (Itr 0 (n : Int).toNat) W1 (rng n) Γ1 st g1 ⟨fun W2 i x s2 ok2 hx => ?_, fun W2 s2 ok2 => ?_⟩ q⟩
  · obtain ⟨hi, rfl⟩ := rng_get hx
    refine ⟨by show i < (n : Int).toNat; omega, fun u H' ⟨e, hy⟩ => ?_⟩
    subst e hy
    exact ⟨Same.refl _, by show V.int (0 + (i : Int)) = V.int i; rw [Int.zero_add]⟩
  · show (n : Int).toNat ≤ _
    rw [rng_length]; omega
theorem ei_range {n : Nat} (h : EvA ta Γ [.int n]) (hn : n < 2 ^ 62) : Ei (iRng1 ta) Γ (rng n) := fun F σ W R g k => h F σ W _ g fun vs H st r => by
  obtain ⟨v, _, rfl, rv, rfl⟩ := r
  refine ⟨n, by rw [show v = V.int n from rv], by omega, by omega, k (Itr 0 (n : Int).toNat) H st ⟨fun W2 i x dm s2 ku pu hx => ?_, fun H2 s2 => ?_⟩⟩
  · obtain ⟨hi, rfl⟩ := rng_get hx
    refine ⟨by show i < (n : Int).toNat; omega, fun u H' ⟨e, hy⟩ => ?_⟩
    subst e hy
    exact ⟨Same.refl _, by show V.int (0 + (i : Int)) = V.int i; rw [Int.zero_add]⟩
  · show (n : Int).toNat ≤ _
    rw [rng_length]; omega
/-- the signs of a text -/
def signs (x : Str) : List D := x.cps.toList.map fun c => D.str ⟨#[c]⟩
end

/-! ### for -/
section
variable {Γ : Gam} {wi : TI} {g : TG} {tb : TS} {De : DE}
theorem ds_for (J : List D → Nat → Gam → Prop) (h : Di wi Γ fun xs Γ1 => J xs 0 Γ1 ∧ (∀ i x Γ', xs[i]? = some x → J xs i Γ' → ∃ is Γ2, DG g is x Γ' Γ2 ∧ Ds tb Γ2 ⟨J xs (i + 1), De.rt, De.nx, J xs (i + 1)⟩) ∧ ∀ Γ', J xs xs.length Γ' → De.nx Γ') : Ds (tFor wi g tb) Γ De :=
  fun F σ W Dr s l => h F σ W _ s fun I W1 xs Γ1 st g1 it ⟨h0, hs, hd⟩ => by
    refine ⟨fun i m σ' H' => m = xs.length - i ∧ i ≤ xs.length ∧ ∃ W' Γ', W'.H = H' ∧ Stp F W1 W' ∧ SR F Γ' σ' W' ∧ J xs i Γ', ⟨_, rfl, Nat.zero_le _, W1, Γ1, rfl, .refl _, g1, h0⟩, ?_⟩
    rintro i m σ' H' ⟨rfl, hi, W', Γ', rfl, s', g', j⟩
    by_cases hlt : i < xs.length
    · obtain ⟨x, hx⟩ : ∃ x, xs[i]? = some x := ⟨_, List.getElem?_eq_getElem hlt⟩
      obtain ⟨is, Γ2, hg, hb⟩ := hs i x Γ' hx j
      obtain ⟨go, yl⟩ := it.go W' i x s' g'.ok hx
      refine .inr ⟨go, fun σ2 H2 => ∃ W2 Γ2, W2.H = H2 ∧ Stp F W1 W2 ∧ SR F Γ2 σ2 W2 ∧ J xs (i + 1) Γ2, fun σ2 H2 q => ⟨xs.length - (i + 1), by omega, rfl, hlt, q⟩, fun v H2 y => ?_⟩
      obtain ⟨sm, rv⟩ := yl v H2 y
      have s2 := s'.trans (Stp.of_same g'.ok sm)
      refine hg F σ' (W'.at H2) v _ (g'.same sm) rv fun σ3 g3 _ => hb F σ3 (W'.at H2) _ g3 ⟨fun σ4 W4 Γ4 s4 g4 q => ⟨W4, Γ4, rfl, s2.trans s4, g4, q⟩, fun v W4 d s4 ok4 r4 q => l.rt v W4 d (st.trans (s2.trans s4)) ok4 r4 q, fun σ4 W4 Γ4 s4 g4 q => l.nx σ4 W4 Γ4 (st.trans (s2.trans s4)) g4 q, fun σ4 W4 Γ4 s4 g4 q => ⟨W4, Γ4, rfl, s2.trans s4, g4, q⟩⟩
    · have e : i = xs.length := by omega
      subst e
      exact .inl ⟨it.stop W' s' g'.ok, l.nx σ' W' Γ' (st.trans s') g' (hd Γ' j)⟩
end

/-! ### list comprehensions -/
section
variable {Γ : Gam} {wi : TI} {g : TG} {tt : TT} {te : TE} {vs : List Nat}
/-- pure: over xs.map c, kept where p, f of each -/
theorem evn_lc {α : Type} {xs : List α} {c : α → D} {p : α → Bool} {f : α → D} (h : Ei wi Γ (xs.map c)) (hz : xs.length ≤ 1000000)
    (he : ∀ x ∈ xs, ∃ is Γ2, DG g is (c x) (wipeG Γ vs) Γ2 ∧ (∀ i ∈ is, i ∈ vs) ∧ EvT tt Γ2 (p x) ∧ (p x = true → Ev te Γ2 (f x))) : EvN (tLc wi g tt te vs) Γ ((xs.filter p).map f) := fun F σ W R s k =>
  h F σ W _ s fun I H1 st it => fun Dn hD => by
    have wd : W.H Dn = none := st.free hD
    refine ⟨fun i m H' => m = xs.length - i ∧ i ≤ xs.length ∧ Same H1 H' ∧ ∃ us, H' Dn = some (.lst us) ∧ RepL (W.plus H' Dn) (((xs.take i).filter p).map f) us, ⟨_, rfl, Nat.zero_le _, same_upd hD, [], upd_same, rfl⟩, ?_⟩
    rintro i m H' ⟨rfl, hi, sm, us, hus, rus⟩
    by_cases hlt : i < xs.length
    · have hx : xs[i]? = some xs[i] := List.getElem?_eq_getElem hlt
      have hx' : (xs.map c)[i]? = some (c xs[i]) := by rw [List.getElem?_map, hx]; rfl
      obtain ⟨is, Γ2, hg, his, ht, hel⟩ := he xs[i] (List.getElem_mem hlt)
      obtain ⟨go, yl⟩ := it.go (W.plus H' Dn) i (c xs[i]) (fun b hb z => hb.elim (fun u => s.ok.dom b u ((Same.trans st sm).free z)) (fun e => by rw [e] at z; exact absurd (hus.symm.trans z) (fun q => nomatch q))) sm (fun b u e n z => z.elim n fun z => by rw [z] at e; exact absurd (e.symm.trans hD) (fun q => nomatch q)) rfl hx'
      refine .inr ⟨go, fun H2 => Same H1 H2 ∧ ∃ us, H2 Dn = some (.lst us) ∧ RepL (W.plus H2 Dn) (((xs.take (i + 1)).filter p).map f) us, fun H2 q => ⟨xs.length - (i + 1), by omega, rfl, hlt, q⟩, fun v H2 y => ?_⟩
      obtain ⟨sm2, rv⟩ := yl v H2 y
      have sW : Same W.H H2 := Same.trans st (Same.trans sm sm2)
      -- the world where the list in the making is one's own
      obtain ⟨_, gp, _, _, _⟩ := s.plus sW wd (by rw [sm2 _ _ hus]; exact fun z => nomatch z)
      have gp := gp.wipe vs
      refine hg F _ (W.plus H2 Dn) v _ gp rv fun σ2 g2 w2 => ⟨by rw [w2 vs his, wipe_wipe], ?_⟩
      refine ht F σ2 (W.plus H2 Dn) _ g2 fun H3 s3 => ?_
      have e1 : (xs.take (i + 1)).filter p = (xs.take i).filter p ++ (if p xs[i] = true then [xs[i]] else []) := by
        rw [List.take_add_one, hx, List.filter_append]
        congr 1
        cases hp : p xs[i] <;> simp [hp]
      have mv : ∀ {H3 H4 : Hp} {ds us}, Same H3 H4 → RepL (W.plus H3 Dn) ds us → RepL (W.plus H4 Dn) ds us := fun {H3 H4 ds us} s34 r => RepL.mono (W := W.plus H3 Dn) (W' := W.plus H4 Dn) (fun b u e n => ⟨s34 b u e, n⟩) (fun _ h => h) ds us r
      cases hp : p xs[i] with
      | false =>
        rw [if_neg Bool.false_ne_true]
        refine ⟨Same.trans (Same.trans sm sm2) s3, us, s3 _ _ (sm2 _ _ hus), ?_⟩
        rw [e1, hp, if_neg Bool.false_ne_true, List.append_nil]
        exact mv s3 (mv sm2 rus)
      | true =>
        rw [if_pos rfl]
        refine hel hp F σ2 ((W.plus H2 Dn).at H3) _ (g2.same s3) fun z H4 s4 rz => ?_
        have h4 : H4 Dn = some (.lst us) := s4 _ _ (s3 _ _ (sm2 _ _ hus))
        have un : ∀ {ds us}, RepL (W.plus H4 Dn) ds us → ∀ o, RepL (W.plus (upd H4 Dn o) Dn) ds us := fun {ds us} r o => RepL.mono (W := W.plus H4 Dn) (W' := W.plus (upd H4 Dn o) Dn) (fun b u e n => ⟨by
          show (upd H4 Dn o) b = some u
          rw [upd_ne (fun z : b = Dn => n (Or.inr z))]; exact e, n⟩) (fun _ h => h) ds us r
        refine ⟨us, h4, ?_, fun b u e => ?_, us ++ [z], upd_same, ?_⟩
        · rw [← rus.length, List.length_map]
          refine Nat.lt_of_le_of_lt (Nat.le_trans (List.length_filter_le _ _) (Nat.le_trans (List.length_take_le _ _) ?_)) (show 1000000 < sizeLine by decide)
          omega
        · have nb : b ≠ Dn := fun z => by rw [z, hD] at e; cases e
          rw [upd_ne nb]
          exact s4 _ _ (s3 _ _ (sm2 _ _ (sm _ _ e)))
        · rw [e1, hp, if_pos rfl, List.map_append]
          exact un ((mv s4 (mv s3 (mv sm2 rus))).append (RepL.one rz)) _
    · have e : i = xs.length := by omega
      subst e
      rw [List.take_length] at rus
      exact .inl ⟨by have := it.stop H' sm; rw [List.length_map] at this; exact this, k Dn us H' (Same.trans st sm) wd hus rus⟩
end
end Dw

/-! Rules over data: comprehensions that draw. -/
namespace Dw
open PySem PySem.Spec PyProof.Rows L2
variable [Tabs0]

abbrev Fp (F : Addr → Prop) (a : Addr) : Addr → Prop := fun b => F b ∨ b = a
theorem SR.frame {F : Addr → Prop} {Γ : Gam} {σ : L2.St} {W : Wd} {a : Addr} (g : SR F Γ σ W) (u : W.U a) (p : ¬ W.P a) (no : ¬ ownA Γ σ a) : SR (Fp F a) Γ σ W :=
  ⟨⟨g.ok.dom, fun b h => h.elim (g.ok.fu b) fun h => by rw [h]; exact u, fun b h => let ⟨u', f, pp⟩ := g.ok.pu b h; ⟨u', fun z => z.elim f fun z => p (by rw [← z]; exact h), pp⟩⟩, g.len, g.val,
   fun i ds e => let ⟨b, vs, e1, u', f, pp, q, r⟩ := g.ownX i ds e; ⟨b, vs, e1, u', fun z => z.elim f fun z => no ⟨i, ds, e, by rw [← z]; exact e1⟩, pp, q, r⟩, g.apartX⟩
/-- a cell of the frame is changed -/
theorem SR.poke {F : Addr → Prop} {Γ : Gam} {σ : L2.St} {W : Wd} {a : Addr} {o : HO} (g : SR (Fp F a) Γ σ W) (nf : ¬ F a) (ne : ∀ h, W.H a ≠ some (.ext h)) :
    Stp F W (W.at (upd W.H a o)) ∧ SR (Fp F a) Γ σ (W.at (upd W.H a o)) := by
  have u : W.U a := g.ok.fu a (Or.inr rfl)
  have st : Stp F W (W.at (upd W.H a o)) := ⟨fun b x e n => ⟨by
    show (upd W.H a o) b = some x
    rw [upd_ne (fun z : b = a => n (by rw [z]; exact u))]; exact e, n⟩, rfl, fun b h => upd_ne (fun z : b = a => nf (by rw [← z]; exact h))⟩
  refine ⟨st, ⟨⟨fun b h z => ?_, g.ok.fu, fun b h => ?_⟩, g.len, fun i d e => ?_, fun i ds e => ?_, g.apartX⟩⟩
  · have z : (upd W.H a o) b = none := z
    by_cases hb : b = a
    · rw [hb, upd_same] at z; cases z
    · rw [upd_ne hb] at z; exact g.ok.dom b h z
  · obtain ⟨u', f, oo⟩ := g.ok.pu b h
    exact ⟨u', f, oo.upd ne fun z : b = a => f (Or.inr z)⟩
  · obtain ⟨v, e1, r⟩ := g.val i d e
    exact ⟨v, e1, r.stp st⟩
  · obtain ⟨b, vs, e1, u', f, pp, q, r⟩ := g.ownX i ds e
    exact ⟨b, vs, e1, u', f, pp, (upd_ne (fun z : b = a => f (Or.inr z))).trans q, r.stp st⟩
/-- .. and becomes a value -/
theorem SR.land {F : Addr → Prop} {Γ : Gam} {σ : L2.St} {W : Wd} {a : Addr} (g : SR (Fp F a) Γ σ W) (nf : ¬ F a) :
    Stp F W ⟨W.H, fun b => W.U b ∧ b ≠ a, W.P⟩ ∧ SR F Γ σ ⟨W.H, fun b => W.U b ∧ b ≠ a, W.P⟩ := by
  have st : Stp F W ⟨W.H, fun b => W.U b ∧ b ≠ a, W.P⟩ := ⟨fun b x e n => ⟨e, fun z => n z.1⟩, rfl, fun _ _ => rfl⟩
  refine ⟨st, ⟨⟨fun b h => g.ok.dom b h.1, fun b h => ⟨g.ok.fu b (Or.inl h), fun z => nf (by rw [← z]; exact h)⟩, fun b h => ?_⟩, g.len, fun i d e => ?_, fun i ds e => ?_, g.apartX⟩⟩
  · obtain ⟨u', f, pp⟩ := g.ok.pu b h
    exact ⟨⟨u', fun z => f (Or.inr z)⟩, fun z => f (Or.inl z), pp⟩
  · obtain ⟨v, e1, r⟩ := g.val i d e
    exact ⟨v, e1, r.stp st⟩
  · obtain ⟨b, vs, e1, u', f, pp, q, r⟩ := g.ownX i ds e
    exact ⟨b, vs, e1, ⟨u', fun z => f (Or.inr z)⟩, fun z => f (Or.inl z), pp, q, r.stp st⟩
section
variable {Γ : Gam} {wi : TI} {g : TG} {tt : TT} {te : TE} {vs : List Nat} {Q : D → Gam → Prop}
theorem dl_lc (h : Di wi Γ fun xs Γ1 => xs.length ≤ 1000000 ∧ ∃ J : Nat → List D → Gam → Prop, J 0 [] (wipeG Γ1 vs) ∧
      (∀ i x acc Γ', xs[i]? = some x → J i acc Γ' → ∃ is Γ2, DG g is x Γ' Γ2 ∧ (∀ i ∈ is, i ∈ vs) ∧ DlT tt Γ2 fun b Γ3 => (b = true → Dl te Γ3 fun d Γ4 => J (i + 1) (acc ++ [d]) (wipeG Γ4 vs)) ∧ (b = false → J (i + 1) acc (wipeG Γ3 vs))) ∧
      ∀ acc Γ', J xs.length acc Γ' → Q (.lst acc) Γ') : Dl (tLc wi g tt te vs) Γ Q := fun F σ W R s k =>
  h F σ W _ s fun I W1 xs Γ1 st1 g1 it ⟨hz, J, h0, hs, hd⟩ => fun Dn hD => by
    obtain ⟨stp, gp, no, nf, np⟩ := g1.plus (H := upd W1.H Dn (.lst [])) (a := Dn) (same_upd hD) hD (by rw [upd_same]; exact fun z => nomatch z)
    have gf := (gp.frame (Or.inr rfl) np no).wipe vs
    refine ⟨fun i m H' => m = xs.length - i ∧ i ≤ xs.length ∧ ∃ W' Γ' acc us, W'.H = H' ∧ Stp F W1 W' ∧ SR (Fp F Dn) Γ' (wipe σ vs) W' ∧ H' Dn = some (.lst us) ∧ RepL W' acc us ∧ acc.length ≤ i ∧ J i acc Γ',
      ⟨_, rfl, Nat.zero_le _, W1.plus (upd W1.H Dn (.lst [])) Dn, _, [], [], rfl, stp, gf, upd_same, rfl, Nat.le_refl _, h0⟩, ?_⟩
    rintro i m H' ⟨rfl, hi, W', Γ', acc, us, rfl, s', g', hus, rus, hl, j⟩
    by_cases hlt : i < xs.length
    · have hx : xs[i]? = some xs[i] := List.getElem?_eq_getElem hlt
      obtain ⟨is, Γ2, hg, his, ht⟩ := hs i xs[i] acc Γ' hx j
      have ok1 : WOk F W' := ⟨g'.ok.dom, fun b z => g'.ok.fu b (Or.inl z), fun b z => let ⟨u, f, p⟩ := g'.ok.pu b z; ⟨u, fun q => f (Or.inl q), p⟩⟩
      obtain ⟨go, yl⟩ := it.go W' i xs[i] s' ok1 hx
      refine .inr ⟨go, fun H2 => ∃ W2 Γ2 acc us, W2.H = H2 ∧ Stp F W1 W2 ∧ SR (Fp F Dn) Γ2 (wipe σ vs) W2 ∧ H2 Dn = some (.lst us) ∧ RepL W2 acc us ∧ acc.length ≤ i + 1 ∧ J (i + 1) acc Γ2, fun H2 q => ⟨xs.length - (i + 1), by omega, rfl, hlt, q⟩, fun v H2 y => ?_⟩
      obtain ⟨sm, rv⟩ := yl v H2 y
      have g2 := g'.same sm
      have s2 : Stp F W1 (W'.at H2) := s'.trans (Stp.of_same ok1 sm)
      refine hg (Fp F Dn) _ (W'.at H2) v _ g2 rv fun σ2 g3 w2 => ?_
      have ew : wipe σ2 vs = wipe σ vs := by rw [w2 vs his, wipe_wipe]
      refine ⟨ew, ht (Fp F Dn) σ2 (W'.at H2) _ g3 fun b W3 Γ3 s3 g4 q => ?_⟩
      have h3 : W3.H Dn = some (.lst us) := (s3.fr Dn (Or.inr rfl)).trans (sm _ _ hus)
      have r3 : RepL W3 acc us := (RepL.same (W := W') sm rus).stp s3
      cases b with
      | false =>
        rw [if_neg Bool.false_ne_true]
        have g5 := g4.wipe vs
        rw [ew] at g5
        exact ⟨W3, _, acc, us, rfl, s2.trans (s3.sub fun _ z => Or.inl z), g5, h3, r3, by omega, q.2 rfl⟩
      | true =>
        rw [if_pos rfl]
        refine q.1 rfl (Fp F Dn) σ2 W3 _ g4 fun z W4 d Γ4 s4 g5 rz qj => ?_
        have h4 : W4.H Dn = some (.lst us) := (s4.fr Dn (Or.inr rfl)).trans h3
        have r4 : RepL W4 acc us := r3.stp s4
        have g6 := g5.wipe vs
        rw [ew] at g6
        obtain ⟨s5, g7⟩ := g6.poke (o := .lst (us ++ [z])) nf (no_ext (by assumption))
        refine ⟨us, h4, ?_, W4.at (upd W4.H Dn (.lst (us ++ [z]))), _, acc ++ [d], us ++ [z], rfl, ((s2.trans (s3.sub fun _ z => Or.inl z)).trans (s4.sub fun _ z => Or.inl z)).trans s5, g7, upd_same, (r4.append (RepL.one rz)).stp s5, by rw [List.length_append, List.length_singleton]; omega, qj⟩
        rw [← r4.length]
        exact Nat.lt_of_le_of_lt (show acc.length ≤ 1000000 by omega) (by decide)
    · have e : i = xs.length := by omega
      subst e
      have ok1 : WOk F W' := ⟨g'.ok.dom, fun b z => g'.ok.fu b (Or.inl z), fun b z => let ⟨u, f, p⟩ := g'.ok.pu b z; ⟨u, fun q => f (Or.inl q), p⟩⟩
      obtain ⟨s8, g8⟩ := (SR.unwipe g').land nf
      refine .inl ⟨it.stop W' s' ok1, k (.ref Dn) ⟨W'.H, fun b => W'.U b ∧ b ≠ Dn, W'.P⟩ (.lst acc) Γ' (st1.trans (s'.trans s8)) g8 ⟨Dn, us, rfl, hus, fun z => z.2 rfl, rus.stp s8⟩ (hd acc Γ' j)⟩
end
end Dw

/-! Operators that serve several kinds at once, and what they give on data. -/
namespace Dw
open PySem PySem.Spec PyProof.Rows L2
variable [Tabs0]
section
variable {X : Cx} {a b c e : Expr} {ta tb te : TE} {pos : Pos} {i j : Int} {x y : Str} {ds es : List D} {K : PySem.W.Frag} {Γ : Gam} {d : D}
abbrev rOr (r r' : R2) : R2 := fun x y H Q => r x y H Q ∨ r' x y H Q
theorem dr2_l {r r' : R2} {x y d : D} (h : DR2 r x y d) : DR2 (rOr r r') x y d := fun W u v Q dom a b k => .inl (h W u v Q dom a b k)
theorem dr2_r {r r' : R2} {x y d : D} (h : DR2 r' x y d) : DR2 (rOr r r') x y d := fun W u v Q dom a b k => .inr (h W u v Q dom a b k)
/-! ### + and * -/
abbrev rPlus (K : PySem.W.Frag) : R2 := rOr (rI0 fun i j => .int (i + j)) (rOr rAddStr (rOr rCat (rCatT K)))
theorem opPlus : OpR X (binaryOp .Add) (rPlus X.K) := op_add.or (op_add_str.or (op_cat.or op_catT))
theorem plus_int : DR2 (rPlus K) (.int i) (.int j) (.int (i + j)) := dr2_l dr2_add
theorem plus_str (h : x.length + y.length ≤ sizeLine) : DR2 (rPlus K) (.str x) (.str y) (.str (x ++ y)) := dr2_r (dr2_l (dr2_add_str h))
theorem plus_lst (h : ds.length + es.length ≤ sizeLine) : DR2 (rPlus K) (.lst ds) (.lst es) (.lst (ds ++ es)) := dr2_r (dr2_r (dr2_l (dr2_cat h)))
theorem plus_tup (n : ds ≠ []) (h : ds.length + es.length ≤ sizeLine) : DR2 (rPlus K) (.tup ds) (.tup es) (.tup (ds ++ es)) := dr2_r (dr2_r (dr2_r (dr2_catT n h)))
abbrev rTimes : R2 := rOr (rI CMul fun i j => .int (i * j)) rRep
theorem opTimes : OpR X (binaryOp .Mult) rTimes := op_mul.or op_rep
theorem times_int (h : CMul i j) : DR2 rTimes (.int i) (.int j) (.int (i * j)) := dr2_l (dr2_mul h)
abbrev rIAdd : TIp := fun x y H Q => (rI0 fun i j => .int (i + j)) x y H Q ∨ rAddStr x y H Q
theorem ipX : PIp X .Add rIAdd := iop_add.or iop_add_str
/-! ### comparisons -/
abbrev rEqX (K : PySem.W.Frag) : R2 := rOr rEq (rEqD K)
abbrev rNeX (K : PySem.W.Frag) : R2 := rOr rNe (rNeD K)
theorem opEq (hu : X.A.units + 64 < cLine) : OpR X (compareOp .Eq) (rEqX X.K) := op_eq.or (op_eqD hu)
theorem opNe (hu : X.A.units + 64 < cLine) : OpR X (compareOp .NotEq) (rNeX X.K) := op_ne.or (op_neD hu)
theorem eq_int' : DR2 (rEqX K) (.int i) (.int j) (.bl (decide (i = j))) := dr2_l dr2_eq_int
theorem eq_str' : DR2 (rEqX K) (.str x) (.str y) (.bl (decide (x = y))) := dr2_l dr2_eq_str
theorem ne_int' : DR2 (rNeX K) (.int i) (.int j) (.bl (!decide (i = j))) := dr2_l dr2_ne_int
theorem ne_str' : DR2 (rNeX K) (.str x) (.str y) (.bl (!decide (x = y))) := dr2_l dr2_ne_str
theorem eq_deep {p q : D} (h1 : isPy p = true) (h2 : isPy q = true) (h3 : SeqAt.shaped (py p) = true) (h4 : SeqAt.shaped (py q) = true) : DR2 (rEqX K) p q (.bl (PyData.eqv (py p) (py q))) := dr2_r (dr2_eqD h1 h2 h3 h4)
theorem ne_deep {p q : D} (h1 : isPy p = true) (h2 : isPy q = true) (h3 : SeqAt.shaped (py p) = true) (h4 : SeqAt.shaped (py q) = true) : DR2 (rNeX K) p q (.bl (!PyData.eqv (py p) (py q))) := dr2_r (dr2_neD h1 h2 h3 h4)
abbrev rLtS : R2 := fun x y H Q => ∃ i j, x = .str i ∧ y = .str j ∧ Q (.bl (decide (i.cps.toList < j.cps.toList))) H
theorem opLt : OpR X (compareOp .Lt) (rOr (rI0 fun i j => .bl (decide (i < j))) rLtS) := op_lt.or op_lt_str
theorem lt_int' : DR2 (rOr (rI0 fun i j => .bl (decide (i < j))) rLtS) (.int i) (.int j) (.bl (decide (i < j))) := dr2_l dr2_lt
theorem lt_str' : DR2 (rOr (rI0 fun i j => .bl (decide (i < j))) rLtS) (.str x) (.str y) (.bl (decide (x.cps.toList < y.cps.toList))) := dr2_r (dr2_flat fun W u v Q a b k => ⟨x, y, a, b, k _ rfl⟩)
theorem opLe : OpR X (compareOp .LtE) (rI0 fun i j => .bl (decide (i ≤ j))) := op_le
theorem opGt : OpR X (compareOp .Gt) (rI0 fun i j => .bl (decide (j < i))) := op_gt
theorem opGe : OpR X (compareOp .GtE) (rI0 fun i j => .bl (decide (j ≤ i))) := op_ge
abbrev rInS : R2 := fun x y H Q => ∃ i j, x = .str i ∧ y = .str j ∧ Q (.bl (!(Builtin.Str.occurrences j i 0 j.length 1).isEmpty)) H
abbrev rNinS : R2 := fun x y H Q => ∃ i j, x = .str i ∧ y = .str j ∧ Q (.bl (!(!(Builtin.Str.occurrences j i 0 j.length 1).isEmpty))) H
theorem opIn : OpR X (compareOp .In) (rOr (rIn X.K false) rInS) := op_in_seq.or op_in_str
theorem opNotIn : OpR X (compareOp .NotIn) (rOr (rIn X.K true) rNinS) := op_notIn_seq.or op_notin_str
theorem in_str' : DR2 (rOr (rIn K false) rInS) (.str x) (.str y) (.bl (!(Builtin.Str.occurrences y x 0 y.length 1).isEmpty)) := dr2_r (dr2_flat fun W u v Q a b k => ⟨x, y, a, b, k _ rfl⟩)
/-- scalars -/
def isSc : D → Bool
  | .non => true | .bl _ => true | .int _ => true | .str _ => true | _ => false
def scV : D → V
  | .non => .non | .bl b => .bl b | .int i => .int i | .str x => .str x | _ => .non
theorem rep_sc {W : Wd} {d : D} {v : V} (h : isSc d = true) (r : Rep W d v) : v = scV d := by
  cases d <;> first | exact r | exact absurd (show false = true from h) Bool.false_ne_true
theorem repL_sc {W : Wd} : ∀ {ds : List D} {vs : List V}, ds.all isSc = true → RepL W ds vs → vs = ds.map scV
  | [], _, _, h => h
  | d :: ds, _, p, ⟨v, r, e, h1, h2⟩ => by
    have p' : isSc d = true ∧ ds.all isSc = true := by simpa using p
    rw [e, rep_sc p'.1 h1, repL_sc p'.2 h2]; rfl
theorem flat_sc {d : D} (h : isSc d = true) : flatV (scV d) = true := by
  cases d <;> first | rfl | exact absurd (show false = true from h) Bool.false_ne_true
theorem flats_sc : ∀ {ds : List D}, ds.all isSc = true → (ds.map scV).all flatV = true
  | [], _ => rfl
  | d :: ds, p => by
    have p' : isSc d = true ∧ ds.all isSc = true := by simpa using p
    rw [List.map_cons, List.all_cons, flat_sc p'.1, flats_sc p'.2]; rfl
theorem ev_in {neg : Bool} {r' : R2} (ha : Ev ta Γ d) (hb : EvB tb Γ ds) (s1 : isSc d = true) (s2 : ds.all isSc = true) : Ev (tOp (rOr (rIn K neg) r') ta tb) Γ (.bl (if neg then !inV (scV d) (ds.map scV) else inV (scV d) (ds.map scV))) := fun F σ W Q g k =>
  ha F σ W _ g fun v H s r => hb F σ (W.at H) _ (g.same s) fun p vs H' s' e l => .inl ⟨p, vs, rfl, .inl (.of e), by rw [rep_sc s1 r]; exact flat_sc s1, by rw [repL_sc s2 l]; exact flats_sc s2, by
    rw [rep_sc s1 r, repL_sc s2 l]
    exact k _ H' (Same.trans s s') rfl⟩
theorem ev_inT {neg : Bool} {r' : R2} (ha : Ev ta Γ d) (hb : Ev tb Γ (.tup ds)) (s1 : isSc d = true) (s2 : ds.all isSc = true) : Ev (tOp (rOr (rIn K neg) r') ta tb) Γ (.bl (if neg then !inV (scV d) (ds.map scV) else inV (scV d) (ds.map scV))) := fun F σ W Q g k =>
  ha F σ W _ g fun v H s r => hb F σ (W.at H) _ (g.same s) fun u H' s' ⟨p, vs, eu, e, nu, l⟩ => .inl ⟨p, vs, eu, .inr e.sq, by rw [rep_sc s1 r]; exact flat_sc s1, by rw [repL_sc s2 l]; exact flats_sc s2, by
    rw [rep_sc s1 r, repL_sc s2 l]
    exact k _ H' (Same.trans s s') rfl⟩
/-! ### len, items, slices -/
abbrev rLen (K : PySem.W.Frag) : List V → Hp → VK → Prop := fun xs H Q => (∃ p ys, xs = [.ref p] ∧ (SqL K H p ys ∨ SqT K H p ys) ∧ Q (.int ys.length) H) ∨ ∃ z, xs = [.str z] ∧ z.length ≤ sizeLine ∧ Q (.int z.length) H
theorem opLen : CallR X (.builtin "len") (rLen X.K) := call_len_seq.or call_len_str
theorem ev_len (h : EvB ta Γ ds) : Ev (tCB (rLen K) (tCons ta tNil)) Γ (.int ds.length) := fun F σ W Q g k => h F σ W _ g fun p vs H s e l => .inl ⟨p, vs, rfl, .inl (.of e), k _ H s (by rw [l.length]; rfl)⟩
theorem ev_lenT (h : Ev ta Γ (.tup ds)) : Ev (tCB (rLen K) (tCons ta tNil)) Γ (.int ds.length) := fun F σ W Q g k => h F σ W _ g fun u H s ⟨p, vs, eu, e, nu, l⟩ => .inl ⟨p, vs, by rw [eu], .inr e.sq, k _ H s (by rw [l.length]; rfl)⟩
theorem ev_lenS (h : Ev ta Γ (.str x)) (hz : x.length ≤ sizeLine) : Ev (tCB (rLen K) (tCons ta tNil)) Γ (.int x.length) := fun F σ W Q g k => h F σ W _ g fun u H s r => .inr ⟨x, by rw [show u = V.str x from r], hz, k _ H s rfl⟩
theorem atI_rep {W : Wd} {vs : List V} (l : RepL W ds vs) (h : atI ds i = some d) : ∃ v, atI vs i = some v ∧ Rep W d v := by
  unfold atI at h ⊢
  rw [← l.length]
  cases q : ixN ds.length i with
  | none => rw [q] at h; cases h
  | some k =>
    rw [q] at h
    obtain ⟨v, e, r⟩ := l.get (i := k) h
    exact ⟨v, e, r⟩
theorem ev_ix (ha : EvB ta Γ ds) (hb : Ev tb Γ (.int i)) (h : atI ds i = some d) : Ev (tOp (rIx K) ta tb) Γ d := fun F σ W Q g k => ha F σ W _ g fun p vs H s e l => hb F σ (W.at H) _ (g.same s) fun u H' s' r => by
  obtain ⟨v, ev, rv⟩ := atI_rep (RepL.same (W := W.at H) s' l) h
  exact .inl ⟨p, vs, i, v, rfl, r, .of (s' _ _ e), ev, k v H' (Same.trans s s') rv⟩
theorem dr2_ixS {z : Nat} (hl : x.length ≤ sizeLine) (h : atI x.cps.toList i = some z) : DR2 (rIx K) (.str x) (.int i) (.str ⟨#[z]⟩) := dr2_flat fun W u v Q a b k => .inr (.inr ⟨x, i, z, a, b, hl, h, k _ rfl⟩)
theorem dr2_ixL (h : atI ds i = some d) : DR2 (rIx K) (.lst ds) (.int i) d := dr2_flat fun W u v Q ⟨p, vs, eu, e, nu, l⟩ b k => by
  obtain ⟨w, ev, rw'⟩ := atI_rep l h
  exact .inl ⟨p, vs, i, w, eu, b, .of e, ev, k w rw'⟩
/-! ### iterators -/
theorem pi_or {tg iter : Expr} {w1 w2 : TI} (h1 : PI X tg iter w1) (h2 : PI X tg iter w2) : PI X tg iter (fun σ H R => w1 σ H R ∨ w2 σ H R) :=
  ⟨fun pins s σ H R I h => h.elim (h1.run pins s σ H R I) (h2.run pins s σ H R I)⟩
abbrev iAny (K : PySem.W.Frag) (t : TE) : TI := fun σ H R => iList K t σ H R ∨ (fun σ H R => iTup K t σ H R ∨ iStr t σ H R) σ H R
theorem pi_any {tg : Expr} (h : PE X e te) : PI X tg e (iAny X.K te) := pi_or (pi_list h) (pi_or (pi_tup h) (pi_str h))
theorem ei_l {w1 w2 : TI} {xs : List D} (h : Ei w1 Γ xs) : Ei (fun σ H R => w1 σ H R ∨ w2 σ H R) Γ xs := fun F σ W R g k => .inl (h F σ W R g k)
theorem ei_r {w1 w2 : TI} {xs : List D} (h : Ei w2 Γ xs) : Ei (fun σ H R => w1 σ H R ∨ w2 σ H R) Γ xs := fun F σ W R g k => .inr (h F σ W R g k)
theorem di_l {w1 w2 : TI} {Q : List D → Gam → Prop} (h : Di w1 Γ Q) : Di (fun σ H R => w1 σ H R ∨ w2 σ H R) Γ Q := fun F σ W R g k => .inl (h F σ W R g k)
theorem di_r {w1 w2 : TI} {Q : List D → Gam → Prop} (h : Di w2 Γ Q) : Di (fun σ H R => w1 σ H R ∨ w2 σ H R) Γ Q := fun F σ W R g k => .inr (h F σ W R g k)
theorem eia_list {xs : List D} (h : EvB te Γ xs) : Ei (iAny K te) Γ xs := ei_l (ei_list h)
theorem eia_tup {xs : List D} (h : Ev te Γ (.tup xs)) : Ei (iAny K te) Γ xs := ei_r (ei_l (ei_tup h))
theorem dia_list {Q : List D → Gam → Prop} (h : Dl te Γ fun d Γ1 => ∃ xs, d = .lst xs ∧ Q xs Γ1) : Di (iAny K te) Γ Q := di_l (di_list h)
theorem dia_tup {Q : List D → Gam → Prop} (h : Dl te Γ fun d Γ1 => ∃ xs, d = .tup xs ∧ Q xs Γ1) : Di (iAny K te) Γ Q := di_r (di_l (di_tup h))
theorem signs_get {x : Str} {i : Nat} {d : D} (h : (signs x)[i]? = some d) : i < x.cps.size ∧ ∃ c, x.cps[i]? = some c ∧ d = .str ⟨#[c]⟩ := by
  unfold signs at h
  rw [List.getElem?_map, Array.getElem?_toList] at h
  cases q : x.cps[i]? with
  | none => rw [q] at h; cases h
  | some c =>
    rw [q] at h
    have hl := (Array.getElem?_eq_some_iff.mp q).1
    exact ⟨hl, c, rfl, (Option.some.inj h).symm⟩
theorem signs_length (x : Str) : (signs x).length = x.cps.size := by simp [signs]
theorem ei_str (h : Ev te Γ (.str x)) : Ei (iStr te) Γ (signs x) := fun F σ W R g k => h F σ W _ g fun v H s r => ⟨x, r, k (Its x) H s ⟨fun W1 i d dm sm ku pu hx => by
  obtain ⟨hi, c, hc, rfl⟩ := signs_get hx
  refine ⟨hi, fun v H' ⟨e, c', hc', ev⟩ => ?_⟩
  rw [hc] at hc'; cases hc'
  subst e ev
  exact ⟨Same.refl _, rfl⟩, fun H2 s2 => by rw [signs_length]; exact Nat.le_refl _⟩⟩
theorem eia_str (h : Ev te Γ (.str x)) : Ei (iAny K te) Γ (signs x) := ei_r (ei_r (ei_str h))
/-! ### builtins over lists -/
theorem ev_all {bs : List Bool} (h : EvB ta Γ (bs.map D.bl)) : Ev (tCB (rAll K) (tCons ta tNil)) Γ (.bl (bs.all id)) := fun F σ W Q g k => h F σ W _ g fun p vs H s e l => ⟨p, bs, rfl, .of (by rw [e, RepL.bls.mp l]), k _ H s rfl⟩
theorem dl_all {Q : D → Gam → Prop} (h : Dl ta Γ fun d Γ1 => ∃ bs : List Bool, d = .lst (bs.map D.bl) ∧ Q (.bl (bs.all id)) Γ1) : Dl (tCB (rAll K) (tCons ta tNil)) Γ Q := fun F σ W R g k => h F σ W _ g fun v W1 d Γ1 st g1 r ⟨bs, e, q⟩ => by
  subst e
  obtain ⟨p, vs, rfl, e, nu, l⟩ := r
  exact ⟨p, bs, rfl, .of (by rw [e, RepL.bls.mp l]), k _ W1 (.bl (bs.all id)) Γ1 st g1 rfl q⟩
/-- sep.join(xs) -/
abbrev rJoin (K : PySem.W.Frag) : V → List V → Hp → VK → Prop := fun x xs H Q => ∃ a p, ∃ ys : List Str, x = .str a ∧ xs = [.ref p] ∧ (SqL K H p (ys.map V.str) ∨ SqT K H p (ys.map V.str)) ∧
      (ys.map (·.length)).sum + ys.length * a.length ≤ 16777216 ∧ Q (.str (Txt.join a ys)) H
theorem ev_join {ys : List Str} (ha : Ev ta Γ (.str x)) (hb : EvB tb Γ (ys.map D.str)) (hz : (ys.map (·.length)).sum + ys.length * x.length ≤ 16777216) : Ev (tM1 (rJoin K) ta tb) Γ (.str (Txt.join x ys)) := fun F σ W Q g k =>
  ha F σ W _ g fun v H s r => ⟨⟨x, r⟩, hb F σ (W.at H) _ (g.same s) fun p vs H' s' e l => ⟨x, p, ys, r, rfl, .inl (.of (by rw [e, RepL.strs.mp l])), hz, k _ H' (Same.trans s s') rfl⟩⟩
theorem dl_join {Q : D → Gam → Prop} (ha : Ev ta Γ (.str x)) (hb : Dl tb Γ fun d Γ1 => ∃ ys : List Str, d = .lst (ys.map D.str) ∧ (ys.map (·.length)).sum + ys.length * x.length ≤ 16777216 ∧ Q (.str (Txt.join x ys)) Γ1) : Dl (tM1 (rJoin K) ta tb) Γ Q := fun F σ W R g k =>
  ha F σ W _ g fun v H s r => ⟨⟨x, r⟩, hb F σ (W.at H) _ (g.same s) fun u W2 d Γ1 st g1 rd ⟨ys, e, hz, q⟩ => by
    subst e
    obtain ⟨p, vs, rfl, e, nu, l⟩ := rd
    exact ⟨x, p, ys, r, rfl, .inl (.of (e.trans (by rw [RepL.strs.mp l]))), hz, k _ W2 (.str (Txt.join x ys)) Γ1 ((Stp.of_same g.ok s).trans st) g1 rfl q⟩⟩
/-- list(range(n)) -/
theorem evn_listRg {n : Nat} (h : Ev ta Γ (.int n)) (hn : n ≤ 16777216) : EvN (tLstRg (tRg1 ta)) Γ (rng n) := fun F σ W Q g k => h F σ W _ g fun v H s r => ⟨n, r, RgOk.of_le (by omega) (by omega) (by omega) (by omega), fun q hq => by
  have e : rgV 0 n = (rng n).map scV := by
    unfold rgV rng
    rw [List.map_map]
    refine List.map_congr_left fun i _ => ?_
    show V.int (0 + (i : Int)) = V.int i
    rw [Int.zero_add]
  have l : RepL (W.at H) (rng n) (rgV 0 n) := by
    have := (RepL.ints (W := W.at H) (ns := (List.range n).map fun (i : Nat) => (i : Int)) (vs := rgV 0 n)).mpr (by
      rw [e]; unfold rng; rw [List.map_map, List.map_map]; rfl)
    rw [List.map_map] at this
    exact this
  exact k q _ _ (Same.trans s (same_upd hq)) (s.free hq) upd_same (RepL.plus (W := W.at H) hq (same_upd hq) l)⟩
/-- list(xs), tuple(xs) -/
abbrev rListOf (K : PySem.W.Frag) : List V → Hp → VK → Prop := fun xs H Q => ∃ p ys, xs = [.ref p] ∧ (SqL K H p ys ∨ SqT K H p ys) ∧ ∀ l, H l = none → Q (.ref l) (upd H l (.lst ys))
theorem evn_list (h : EvB ta Γ ds) : EvN (tCB (rListOf K) (tCons ta tNil)) Γ ds := fun F σ W Q g k => h F σ W _ g fun p vs H s e l => ⟨p, vs, rfl, .inl (.of e), fun n hn => k n vs _ (Same.trans s (same_upd hn)) (s.free hn) upd_same (RepL.plus (W := W.at H) hn (same_upd hn) l)⟩
abbrev rTupleOf (K : PySem.W.Frag) : List V → Hp → VK → Prop := fun xs H Q => ∃ p ys, xs = [.ref p] ∧ ((SqL K H p ys ∧ ∀ l, H l = none → Q (.ref l) (upd H l (.tup ys))) ∨ (SqT K H p ys ∧ Q (.ref p) H))
theorem ev_tuple (h : EvB ta Γ ds) : Ev (tCB (rTupleOf K) (tCons ta tNil)) Γ (.tup ds) := fun F σ W Q g k => h F σ W _ g fun p vs H s e l => ⟨p, vs, rfl, .inl ⟨.of e, fun n hn => k _ _ (Same.trans s (same_upd hn)) (rep_new_tup (W := W.at H) (g.same s).ok.dom hn l)⟩⟩
/-- sorted(texts) -/
theorem dl_sortedS {Q : D → Gam → Prop} {r' : List V → Hp → VK → Prop} (h : Dl ta Γ fun d Γ1 => ∃ ys : List Str, d = .lst (ys.map D.str) ∧ ys.length < 64 ∧ ∀ zs : List Str, zs.Perm ys → sortedS zs = true → Q (.lst (zs.map D.str)) Γ1) :
    Dl (tCB (fun xs H Q => r' xs H Q ∨ rSortedS K xs H Q) (tCons ta tNil)) Γ Q := fun F σ W R g k => h F σ W _ g fun v W1 d Γ1 st g1 r ⟨ys, e, hz, q⟩ => by
  subst e
  obtain ⟨p, vs, rfl, e, nu, l⟩ := r
  refine .inr ⟨p, ys, rfl, .of (by rw [e, RepL.strs.mp l]), hz, fun zs n hp hs hn => ?_⟩
  exact k _ (W1.at _) (.lst (zs.map D.str)) Γ1 (st.trans (Stp.of_same g1.ok (same_upd hn))) (g1.same (same_upd hn)) (rep_new_lst g1.ok.dom hn (RepL.strs.mpr rfl)) (q zs hp hs)
theorem opSorted {X : Cx} : CallR X (.builtin "sorted") (fun xs H Q => rSorted X.K xs H Q ∨ rSortedS X.K xs H Q) := cr_sorted.or cr_sortedS
end
end Dw

/-! Rules of the machine that the hand layer lacks: f(k = v) by keywords alone, an attribute as a target within a tuple, count of flat things. -/
namespace Dw
open PySem PySem.Spec PyProof.Rows L2
variable [Tabs0]
section
variable {X : Cx} {CX : CXT} {k : Nat} {f C : Addr} {fd : FuncData} {ps ks : List Str} {sp : Sp} {E : XK} {x m : Str} {p pos apos kpos : Pos} {e o : Expr} {es : List Expr} {kws : List Keyword} {te ta : TE} {t tk : TA} {nm : Option Str}
variable {g : List Value → List Value → List Value} {gV : List V → List V → List V}
end
section
variable {X : Cx} {o : Expr} {f : Str} {pos : Pos} {ta : TE}
/-- x.f as a target -/
def gFld (K : PySem.W.Frag) (ta : TE) (f : Str) : TG := fun y σ H Q => ta σ H fun x H2 => ∃ a C dx fs, x = .ref a ∧ H2 a = some (.ins C dx fs) ∧ Cls K C ∧ NoAttr K C f ∧ fs.length < 1000 ∧ Q σ (upd H2 a (.ins C dx (putF f y fs)))
theorem pg_fld (ha : PE X o ta)
    (hs : ∀ v, assign (.Attribute o f pos) X.env v = (do
      let ov ← holding [v] (eval o X.env)
      standAt pos
      holding [v, ov] (setAttr ov f v)
      release [v, ov] []) := by intro _; rfl) : PG X (.Attribute o f pos) (gFld X.K ta f) := by
  refine ⟨fun pins s σ H v u Q I r h => ?_⟩
  rw [hs]
  refine wpAny_bind (wpAny_holding (thn (ha.run pins s σ H _ I h) fun ov s1 ⟨x, H2, I2, rx, a, C, dx, fs, ex, ea, c, n, l, q2⟩ => ?_))
  subst ex
  obtain rfl : ov = Value.ref a := rx
  refine wpAny_bind (wpAny_standAt (wpAny_bind (wpAny_holding ?_)))
  exact setattr_ok I2 ea c n l r fun s3 I3 => wpAny_release ⟨σ, _, I3, q2⟩
end
/-- xs.count(y), all flat -/
def rCnt (K : PySem.W.Frag) : V → List V → Hp → VK → Prop := fun x xs H Q => ∃ (p : Addr) (ys : List V) (y : V), x = .ref p ∧ xs = [y] ∧ SqL K H p ys ∧ flatV y = true ∧ ys.all flatV = true ∧ Q (.int (ys.countP fun z => eqV z y : Nat)) H
theorem count_eqU {x : V} : ∀ {xs : List V} {us : List Value}, Vals xs us → xs.all flatV = true → us.countP (eqU x) = xs.countP fun y => eqV y x
  | _, _, .nil, _ => rfl
  | _, _, .cons r t, h => by
    rw [List.all_cons, Bool.and_eq_true] at h
    rw [List.countP_cons, List.countP_cons, eqU_of r h.1, count_eqU t h.2]
theorem mt_countX {X : Cx} : MtR X "list.count" (rCnt X.K) := by
  intro pins s σ H x xs v us Q I rx rxs h
  obtain ⟨p, ys, y, rfl, rfl, hs, fy, fys, q⟩ := h
  cases rx
  obtain ⟨u, rfl, ru⟩ := rxs.one
  obtain ⟨its, rv, ⟨⟨cls, dd, data, sl⟩, n, ho, hc, hdn, hd⟩, hlen⟩ := I.list hs
  simp only at hc hd
  subst hc hd
  refine call_meets PySem.F.slot_list_count ⟨_, ho, rfl⟩ PySem.F.entry_list_count (PySem.F.args_list_count_2 _ _)
    (SeqAt.list_countAt p its.toArray n dd sl u (eqU y)) ⟨ho, fun z hz => mem_eqAt ru fy rv fys z (by simpa using hz), ?_⟩
  have ec : its.toArray.toList.countP (eqU y) = ys.countP fun z => eqV z y := count_eqU rv fys
  refine ⟨.int (ys.countP fun z => eqV z y : Nat), H, I.tok _, ⟨s.toks, ?_⟩, q⟩
  show Value.int ((its.toArray.toList.countP (eqU y) : Nat) : Int) s.toks = _
  rw [ec]
end Dw

/-! The same rules with the written part K named (within a comprehension's block it is the def's). -/
namespace Dw
open PySem PySem.Spec PyProof.Rows L2
variable [Tabs0]
section
variable {X : Cx} {K : PySem.W.Frag} {e : Expr} {te ta tb : TE} {pos apos : Pos} {tg o i a : Expr} {t : TA}
theorem ixA (K : PySem.W.Frag) (hK : X.K = K := by rfl) : IxR X (rIx K) := hK ▸ ix_seq
theorem eqA (K : PySem.W.Frag) (hu : X.A.units + 64 < cLine) (hK : X.K = K := by rfl) : OpR X (compareOp .Eq) (rEqX K) := hK ▸ opEq hu
theorem neA (K : PySem.W.Frag) (hu : X.A.units + 64 < cLine) (hK : X.K = K := by rfl) : OpR X (compareOp .NotEq) (rNeX K) := hK ▸ opNe hu
theorem inA (K : PySem.W.Frag) (hK : X.K = K := by rfl) : OpR X (compareOp .In) (rOr (rIn K false) rInS) := hK ▸ opIn
theorem ninA (K : PySem.W.Frag) (hK : X.K = K := by rfl) : OpR X (compareOp .NotIn) (rOr (rIn K true) rNinS) := hK ▸ opNotIn
theorem lenA (K : PySem.W.Frag) (hK : X.K = K := by rfl) : CallR X (.builtin "len") (rLen K) := hK ▸ opLen
theorem allA (K : PySem.W.Frag) (hc : X.calm = true := by rfl) (hK : X.K = K := by rfl) : CallR X (.builtin "all") (rAll K) := hK ▸ cr_all hc
theorem sumA (K : PySem.W.Frag) (hc : X.calm = true := by rfl) (hK : X.K = K := by rfl) : CallR X (.builtin "sum") (rSum K) := hK ▸ cr_sum hc
abbrev rSortedX (K : PySem.W.Frag) : List V → Hp → VK → Prop := fun xs H Q => rSorted K xs H Q ∨ rSortedS K xs H Q
theorem sortedA (K : PySem.W.Frag) (hK : X.K = K := by rfl) : CallR X (.builtin "sorted") (rSortedX K) := hK ▸ opSorted
theorem isiA (K : PySem.W.Frag) (hK : X.K = K := by rfl) : CallR X (.builtin "isinstance") (rIsi K) := hK ▸ call_isi
theorem listA (K : PySem.W.Frag) (hK : X.K = K := by rfl) : CallR X (.type "list") (rListOf K) := hK ▸ call_list_of
theorem tupleA (K : PySem.W.Frag) (hK : X.K = K := by rfl) : CallR X (.type "tuple") (rTupleOf K) := hK ▸ call_tuple_of
theorem countA (K : PySem.W.Frag) (hK : X.K = K := by rfl) : MtR X "list.count" (rCnt K) := hK ▸ mt_countX
theorem indexA (K : PySem.W.Frag) (hK : X.K = K := by rfl) : MtR X "list.index" (rIndex K) := hK ▸ mt_index
theorem joinA (K : PySem.W.Frag) (ho : PE X o ta) (he : PE X e te) (hK : X.K = K := by rfl) (hs : starEach [e] X.env = [(false, eval e X.env)] := by rfl) (hbase : attributeBase o "join" X.env (eval o X.env) = eval o X.env := by rfl) (hline : (apos.endLine == pos.line) = true := by rfl) :
    PE X (.Call (.Attribute o "join" apos) [e] [] pos) (tM1 (rJoin K) ta te) := hK ▸ pe_join ho he hs hbase hline
theorem notA (K : PySem.W.Frag) (ha : PE X a ta) (hK : X.K = K := by rfl) : PE X (.UnaryOp .Not a pos) (tNotT K ta) := hK ▸ pe_notT ha
theorem fldA (K : PySem.W.Frag) {f : Str} (he : PE X e ta) (hK : X.K = K := by rfl) (hb : attributeBase e f X.env (eval e X.env) = eval e X.env := by rfl) : PE X (.Attribute e f pos) (tFld K ta f) := hK ▸ pe_fld he hb
theorem truA (K : PySem.W.Frag) (ha : PE X a ta) (hK : X.K = K := by rfl) (he : ∀ whole, isTrue a X.env whole = (do let v ← whole; standAt a.pos; holding [v] (truthy v)) := by intro _; rfl) : PT X a (tTru K ta) := by
  subst hK; exact pt_truth ha he
end
end Dw

/-! Lists of texts as data: their shape, their equality. -/
namespace Dw
open PySem PySem.Spec PyProof.Rows L2
variable [Tabs0]
def okS (x : Str) : Prop := PyData.strOk x = true
theorem canLay_strs : ∀ {xs : List Str}, (∀ x ∈ xs, okS x) → PyData.canLayAll0 (pys (xs.map D.str)) = true
  | [], _ => rfl
  | x :: xs, h => by
    show (PyData.strOk x && PyData.canLayAll0 (pys (xs.map D.str))) = true
    rw [show PyData.strOk x = true from h x List.mem_cons_self, canLay_strs fun y hy => h y (List.mem_cons_of_mem _ hy)]; rfl
theorem depth_strs : ∀ xs : List Str, PyData.depthAll (pys (xs.map D.str)) = 0
  | [] => rfl
  | x :: xs => by
    show max 0 (PyData.depthAll (pys (xs.map D.str))) = 0
    rw [depth_strs xs]; rfl
theorem isPys_strs : ∀ xs : List Str, isPys (xs.map D.str) = true
  | [] => rfl
  | x :: xs => by
    show (true && isPys (xs.map D.str)) = true
    rw [isPys_strs xs]; rfl
theorem shaped_lst {xs : List Str} (h : ∀ x ∈ xs, okS x) : SeqAt.shaped (py (.lst (xs.map D.str))) = true := by
  show (PyData.canLayAll0 (pys (xs.map D.str)) && decide (PyData.depthAll (pys (xs.map D.str)) + 1 ≤ 64)) = true
  rw [canLay_strs h, depth_strs]; rfl
theorem eqv_strs : ∀ xs ys : List Str, PyData.eqvAll (pys (xs.map D.str)) (pys (ys.map D.str)) = decide (xs = ys)
  | [], [] => rfl
  | [], y :: ys => by
    show false = _
    simp
  | x :: xs, [] => by
    show false = _
    simp
  | x :: xs, y :: ys => by
    show ((x == y) && PyData.eqvAll (pys (xs.map D.str)) (pys (ys.map D.str))) = _
    rw [eqv_strs xs ys, Bool.eq_iff_iff]
    simp
section
variable {K : PySem.W.Frag} {xs ys : List Str} {ta tb : TE} {Γ : Gam}
theorem eq_strsL (h1 : ∀ x ∈ xs, okS x) (h2 : ∀ x ∈ ys, okS x) : DR2 (rEqX K) (.lst (xs.map D.str)) (.lst (ys.map D.str)) (.bl (decide (xs = ys))) := by
  have := eq_deep (K := K) (p := .lst (xs.map D.str)) (q := .lst (ys.map D.str)) (isPys_strs xs) (isPys_strs ys) (shaped_lst h1) (shaped_lst h2)
  rw [show PyData.eqv (py (.lst (xs.map D.str))) (py (.lst (ys.map D.str))) = PyData.eqvAll (pys (xs.map D.str)) (pys (ys.map D.str)) from rfl, eqv_strs] at this
  exact this
end
/-- a text of one sign -/
def ch (c : Nat) : Str := ⟨#[c]⟩
theorem ch_eq {a b : Nat} : ch a = ch b ↔ a = b := by
  constructor
  · intro h
    have : (#[a] : Array Nat) = #[b] := congrArg Str.cps h
    simpa using this
  · rintro rfl; rfl
theorem okS_ch {c : Nat} (h : c < 1114112) : okS (ch c) := by
  show (#[c] : Array Nat).all (fun x => decide (x < 0x110000)) = true
  simp [h]
/-- a text of its codes -/
def tx (l : List Nat) : Str := ⟨l.toArray⟩
theorem tx_len (l : List Nat) : (tx l).length = l.length := by show l.toArray.size = _; simp
theorem tx_cps (l : List Nat) : (tx l).cps.toList = l := by show l.toArray.toList = l; simp
theorem tx_eq {a b : List Nat} : tx a = tx b ↔ a = b := by
  constructor
  · intro h
    have := congrArg (fun x : Str => x.cps.toList) h
    simpa [tx_cps] using this
  · rintro rfl; rfl
theorem okS_tx {l : List Nat} (h : ∀ c ∈ l, c < 1114112) : okS (tx l) := by
  show l.toArray.all (fun x => decide (x < 0x110000)) = true
  simp
  exact h
theorem of_tx (x : Str) : x = tx x.cps.toList := by
  obtain ⟨⟨l⟩⟩ := x
  rfl
theorem tx_append (a b : List Nat) : tx a ++ tx b = tx (a ++ b) := by
  show (⟨a.toArray ++ b.toArray⟩ : Str) = ⟨(a ++ b).toArray⟩
  simp
theorem signs_tx (l : List Nat) : signs (tx l) = (l.map ch).map D.str := by
  unfold signs
  rw [tx_cps, List.map_map]
  rfl
end Dw

/-! More rules of the machine: () + t, a range that is kept, enumerate of a tuple, first, *rest = a list. -/
namespace Dw
open PySem PySem.Spec PyProof.Rows L2
variable [Tabs0]
section
variable {X : Cx}
/-! ### () + t -/
abbrev rCatE (K : PySem.W.Frag) : R2 := fun x y H Q => ∃ a b ys, x = .ref a ∧ y = .ref b ∧ SqT K H a [] ∧ SqT K H b ys ∧ Q (.ref b) H
theorem op_catE : OpR X (binaryOp .Add) (rCatE X.K) := by
  intro pins s σ H x y v u Q I rx ry ⟨a, b, ys, ex, ey, ha, hb, q⟩
  subst ex; subst ey
  cases rx; cases ry
  obtain ⟨i1, v1, t1, _⟩ := I.tuple ha
  obtain ⟨i2, v2, t2, _⟩ := I.tuple hb
  cases v1
  obtain ⟨o1, g1, c1, n1, d1⟩ := t1
  obtain ⟨o2, g2, c2, n2, d2⟩ := t2
  obtain ⟨oc1, od1, da1, sl1⟩ := o1
  obtain ⟨oc2, od2, da2, sl2⟩ := o2
  simp only at c1 d1 c2 d2
  subst c1; subst d1; subst c2; subst d2
  exact concat_meets ⟨_, g1, rfl⟩ ⟨_, g2, rfl⟩ noFill_tuple_add seq_tuple_add PySem.F.slot_tuple_add PySem.F.entry_tuple_add
    (PySem.F.args_tuple_add_2 _ _) (tuple_addW0 a b _ _ n1 n2 od1 od2 sl1 sl2 rfl) ⟨g1, g2, ⟨.ref b, H, I, rfl, q⟩⟩
abbrev rPlusE (K : PySem.W.Frag) : R2 := rOr (rPlus K) (rCatE K)
theorem plusE (K : PySem.W.Frag) (hK : X.K = K := by rfl) : OpR X (binaryOp .Add) (rPlusE K) := hK ▸ opPlus.or op_catE
variable {K : PySem.W.Frag} {ds es : List D} {i j : Int} {x y : Str} {ta tb : TE} {Γ : Gam}
theorem pl_int : DR2 (rPlusE K) (.int i) (.int j) (.int (i + j)) := dr2_l plus_int
theorem pl_str (h : x.length + y.length ≤ sizeLine) : DR2 (rPlusE K) (.str x) (.str y) (.str (x ++ y)) := dr2_l (plus_str h)
theorem pl_lst (h : ds.length + es.length ≤ sizeLine) : DR2 (rPlusE K) (.lst ds) (.lst es) (.lst (ds ++ es)) := dr2_l (plus_lst h)
theorem pl_tup (h : ds.length + es.length ≤ sizeLine) : DR2 (rPlusE K) (.tup ds) (.tup es) (.tup (ds ++ es)) := by
  by_cases n : ds = []
  · subst n
    exact dr2_r (dr2_flat fun W u v Q ⟨a, vs, e1, h1, n1, l1⟩ b k => by
      obtain ⟨c, ws, e2, h2, n2, l2⟩ := id b
      rw [show vs = [] from l1] at h1
      exact ⟨a, c, ws, e1, e2, h1.sq, h2.sq, by rw [← e2]; exact k v b⟩)
  · exact dr2_l (plus_tup n h)
theorem pl_evn (ha : EvB ta Γ ds) (hb : EvB tb Γ es) (h : ds.length + es.length ≤ sizeLine) : EvN (tOp (rPlusE K) ta tb) Γ (ds ++ es) := fun F σ W Q g k => ha F σ W _ g fun p vs H s e l => hb F σ (W.at H) _ (g.same s) fun q ws H' s' e' l' =>
  .inl (.inr (.inr (.inl ⟨p, q, vs, ws, rfl, rfl, s' _ _ e, e', by rw [← l.length, ← l'.length]; exact h, fun n hn =>
    k n (vs ++ ws) _ (Same.trans s (Same.trans s' (same_upd hn))) (s.free (s'.free hn)) upd_same (RepL.plus (W := W.at H') hn (same_upd hn) ((RepL.same (W := W.at H) s' l).append l'))⟩)))

/-! ### range(n), kept -/
def iRgO (te : TE) : TI := fun σ H R => te σ H fun x H1 => ∃ p lo hi, x = .ref p ∧ H1 p = some (.rng lo hi) ∧ (-(2 ^ 62) ≤ lo ∧ lo < 2 ^ 62 ∧ -(2 ^ 62) ≤ hi ∧ hi < 2 ^ 62) ∧ R (Itr lo (hi - lo).toNat) H1
theorem pi_rgO {tg l : Expr} {te : TE} (hl : PE X l te) : PI X tg l (iRgO te) := by
  refine ⟨fun pins s σ H R I h => thn (hl.run pins s σ H _ I h) fun v s1 ⟨x, H1, I1, r1, q1⟩ => ?_⟩
  obtain ⟨p, lo, hi, ex, hp, ⟨b1, b2, b3, b4⟩, q⟩ := q1
  subst ex
  cases r1
  obtain ⟨t, u, w, hr⟩ := I1.hok p _ hp
  have hr' : IsRange s1.heap p lo hi 1 t u w := hr
  refine wpAny_pyIter_range hr' (small_one b1 b2 b3 b4) ?_
  refine ⟨s1.heap.objs.size, [s1.heap.objs.size], _, _, H1, rfl, I1.kept (t' := s1.toks) fun b o e => Heap.get?_push_of_some _ e, turn_range _ lo (hi - lo).toNat, ?_, fun b hb => ?_, q⟩
  · have e1 : lo + ((0 : Nat) : Int) * 1 = lo := by simp
    have e2 : (((hi - lo).toNat : Nat) : Int) - ((0 : Nat) : Int) = Builtin.Range.rangeSize lo hi 1 := by rw [rangeSize_one]; split <;> omega
    show IsRangeIter _ _ (lo + ((0 : Nat) : Int) * 1) (_ - _) 1
    rw [e1, e2]
    exact Heap.get?_push_size _ rfl
  · obtain rfl : b = s1.heap.objs.size := by simpa using hb
    exact I1.fpOk (Nat.le_refl _) (I1.hok.fresh (Nat.le_refl _))
abbrev iAnyR (K : PySem.W.Frag) (t : TE) : TI := fun σ H R => iAny K t σ H R ∨ iRgO t σ H R
theorem piR (K : PySem.W.Frag) {tg e : Expr} {te : TE} (h : PE X e te) (hK : X.K = K := by rfl) : PI X tg e (iAnyR K te) := hK ▸ pi_or (pi_any h) (pi_rgO h)
theorem ej_list {xs : List D} (h : EvB ta Γ xs) : Ei (iAnyR K ta) Γ xs := ei_l (eia_list h)
theorem ej_tup {xs : List D} (h : Ev ta Γ (.tup xs)) : Ei (iAnyR K ta) Γ xs := ei_l (eia_tup h)
theorem ej_str (h : Ev ta Γ (.str x)) : Ei (iAnyR K ta) Γ (signs x) := ei_l (eia_str h)
theorem dj_list {Q : List D → Gam → Prop} (h : Dl ta Γ fun d Γ1 => ∃ xs, d = .lst xs ∧ Q xs Γ1) : Di (iAnyR K ta) Γ Q := di_l (dia_list h)
theorem dj_tup {Q : List D → Gam → Prop} (h : Dl ta Γ fun d Γ1 => ∃ xs, d = .tup xs ∧ Q xs Γ1) : Di (iAnyR K ta) Γ Q := di_l (dia_tup h)
/-! ### first, *rest = xs -/
theorem unpack_star1 {prog : Program} {w : World} {A : Around} {E : Value → Shared → Prop} {s : Shared} {l : Addr} {b : Value} {its : List Value} {Q : List Value → Shared → Prop} (hl : s.heap.IsList l (b :: its).toArray) (hh : A.handled = none)
    (hz : its.length ≤ 16000) (h : ∀ (h1 : Heap) (tk : Nat), (∀ c o, s.heap.get? c = some o → h1.get? c = some o) → Q [b, .ref h1.objs.size] { s with heap := h1.push { cls := .type "list", data := .seq its.toArray }, toks := tk }) :
    wpAny (model prog w) A (unpackItems (.ref l) 2 (some 1)) Q E s := by
  have lt : l < s.heap.objs.size := by obtain ⟨o, ho, _⟩ := hl; exact Heap.lt_size ho
  have ne : l ≠ s.heap.objs.size := Nat.ne_of_lt lt
  unfold unpackItems notIterableAtAll
  refine wpAny_bind (wpAny_bind (wpAny_specialOf hl.typeIs slot_list_iter.lookup (wpAny_pure ?_)))
  simp only [Bool.false_eq_true, if_false]
  refine wpAny_bind (wpAny_holding (wpAny_pyIter_list hl ?_))
  refine wpAny_bind (wpAny_holding (PySem.W.kun_draw ne 1 0 _ _ ⟨_, Heap.get?_push_size _ rfl, rfl, rfl⟩ (hl.push _) (by simp) fun ha hit hs => ?_))
  have hla : ha.IsList l (b :: its).toArray := (hl.push _).extBut hs.extBut ne
  rw [Nat.zero_add] at hit
  obtain ⟨oi, hoi, _⟩ := id hit
  obtain ⟨ol, hol, _⟩ := id hla
  rw [if_neg (show ¬ (((b :: its).toArray.toList.drop 0).take 1).length < 1 by simp)]
  refine wpAny_bind (wpAny_holding (PySem.W.kun_collect (s := { s with heap := ha }) (T := "list_iterator") (.inr (.inr (.inl rfl))) (Walks.list (A := A.in1) hh s.heap.objs.size l ne _) (fun j u st => st.1.typeIs) (k := 1) (by simp) ⟨hit, hla⟩
    (Heap.lt_size hoi) (Heap.lt_size hol) (fun hb tk kp => ?_) (by rw [sizeLine_eq]; simp; omega)))
  show wpAny _ _ (if its.length < 0 then _ else _) _ _ _
  rw [if_neg (Nat.not_lt_zero _)]
  show wpAny _ _ (newList (its.take (its.length - 0)) >>= fun d => pure ([b] ++ [d] ++ its.drop (its.length - 0))) _ _ _
  rw [Nat.sub_zero, List.take_length, List.drop_length]
  have k2 : ∀ c o, s.heap.get? c = some o → hb.get? c = some o := fun c o e => kp c o (Nat.ne_of_lt (Heap.lt_size e)) (hs.extBut c o (Nat.ne_of_lt (Heap.lt_size e)) (Heap.get?_push_of_some _ e))
  unfold newList
  refine wpAny_bind (wpAny_newObj_type (wpAny_pure ?_) (by show its.toArray.size ≤ sizeLine; rw [sizeLine_eq, List.size_toArray]; omega))
  exact h hb tk k2
def gStar1 (K : PySem.W.Frag) (g1 g2 : TG) : TG := fun v σ H Q => ∃ a z zs, v = .ref a ∧ SqL K H a (z :: zs) ∧ zs.length ≤ 16000 ∧ ∀ p, H p = none → g1 z σ (upd H p (.lst zs)) fun σ1 H1 => g2 (.ref p) σ1 H1 Q
theorem pg_star1 (hc : X.calm = true) {e1 e2 : Expr} {g1 g2 : TG} {k : Nat} {pos sp : Pos} (h1 : PG X e1 g1) (h2 : PG X e2 g2) (hlen : (assignEach [e1, .Starred e2 sp] X.env).length = 2 := by rfl)
    (hst : (assignEach [e1, .Starred e2 sp] X.env).findIdx? (·.1) = some 1 := by rfl) (hm : (assignEach [e1, .Starred e2 sp] X.env).map (·.2) = [assign e1 X.env, assign e2 X.env] := by rfl) :
    PG X (.Tuple [e1, .Starred e2 sp] k pos) (gStar1 X.K g1 g2) := by
  refine ⟨fun pins s σ H v u Q I r hw => ?_⟩
  obtain ⟨a, z, zs, ev, hq, hl, hw⟩ := hw
  subst ev
  cases r
  obtain ⟨its, rv, pl, hz⟩ := I.list hq
  cases rv with
  | cons rz rr =>
    rename_i b l
    rw [assign_Tuple]
    refine wpAny_bind (wpAny_standAt ?_)
    unfold unpack
    rw [hlen, hst, hm]
    refine wpAny_bind (wpAny_holding (unpack_star1 pl.isList (I.ok.hd hc) (by rw [← rr.length]; exact hl) fun ha tk kp => ?_))
    have I1 : Inv X pins σ H { s with heap := ha, toks := tk } := I.kept kp
    have I2 := I1.laid (t' := tk) (o := .lst zs) (h' := ha.push { cls := .type "list", data := .seq l.toArray }) (fun c o e => Heap.get?_push_of_some _ e) (Nat.le_refl _)
      ⟨by have hz' : zs.length + 1 ≤ sizeLine := hz
          omega, l, 0, rr, Heap.get?_push_size _ rfl⟩
    refine assignInOrder_cons (thn (h1.run pins _ σ _ z b _ I2 rz (hw _ (I1.hok.fresh (Nat.le_refl _)))) fun _ s3 ⟨σ3, H3, I3, q3⟩ => ?_)
    exact assignInOrder_cons (thn (h2.run pins s3 σ3 H3 (.ref ha.objs.size) _ Q I3 rfl q3) fun _ s4 ⟨σ4, H4, I4, q4⟩ => assignInOrder_nil ⟨σ4, H4, I4, q4⟩)
end
end Dw

/-! enumerate of a tuple. -/
namespace Dw
open PySem PySem.Spec PyProof.Rows L2
variable [Tabs0]
theorem meets_enum_tup (l : Addr) (items : Array Value) (n : Nat) (dd : Option Addr) (sl : Array (Option Value)) :
    Meets (Builtin.«enumerate.__new__» ⟨[.type "enumerate", .ref l], []⟩) (fun _ R s => s.heap.get? l = some { cls := .type "tuple", dict := dd, data := .seq items n, slots := sl } ∧
      R (.ok (.ret (.ref (s.heap.push { cls := .type "tuple_iterator", data := .fields #[.ref l, .int 0 0] }).objs.size)))
        { s with heap := (s.heap.push { cls := .type "tuple_iterator", data := .fields #[.ref l, .int 0 0] }).push { cls := .type "enumerate", data := .fields #[.none, .bool false, .ref s.heap.objs.size, rawInt 0, .none, .none] } }) :=
  .of_wp fun prog w A R s h => by
    obtain ⟨hp, g, d, tk, os⟩ := s
    obtain ⟨hl, h⟩ := h
    have hL : hp.IsTuple l items := ⟨_, hl, rfl, n, rfl⟩
    have hsub := sub_enumerate
    wp_walk using wpAny_loadPart' hl
    refine wpAny_stack_any fun st => wpAny_pure ?_
    split
    · rename_i c _ _ _ _ _
      cases (c == Value.type "enumerate") <;> (wp_walk using wpAny_loadPart' hl, wpAny_pyIter_tuple hL; exact ⟨_, rfl, h⟩)
    · wp_walk using wpAny_loadPart' hl, wpAny_pyIter_tuple hL
      exact ⟨_, rfl, h⟩
end Dw

/-! for i, x in enumerate(a tuple). -/
namespace Dw
open PySem PySem.Spec PyProof.Rows L2
variable [Tabs0]
theorem call_enum_tup {prog : Program} {w : World} {A : Around} {E : Value → Shared → Prop} {s : Shared} {l : Addr} {items : Array Value} {Q : Value → Shared → Prop} (hL : IsTup s.heap l items)
    (h : ∀ h' : Heap, IsEnum h' (s.heap.objs.size + 1) s.heap.objs.size 0 .none → h'.IsTupleIter s.heap.objs.size l 0 →
      (∀ b o, s.heap.get? b = some o → h'.get? b = some o) → Q (.ref (s.heap.objs.size + 1)) { s with heap := h' }) :
    wpAny (model prog w) A (call (.type "enumerate") [.ref l]) Q E s := by
  obtain ⟨⟨c, dct, dt, sl⟩, hl, hc, n, hd⟩ := hL
  simp only at hc hd
  subst hc; subst hd
  have z1 : (s.heap.push { cls := .type "tuple_iterator", data := .fields #[.ref l, .int 0 0] }).objs.size = s.heap.objs.size + 1 := Heap.size_push ..
  refine callType_new F.called_enumerate (by decide) (F.typeCall_enumerate_1 _) (F.newCall_enumerate_1 _)
    (fun obj => F.args_object_init_2 obj _) F.entry_enumerate_new (meets_enum_tup l items n dct sl) ⟨hl, ?_⟩
  show _ ∧ _
  rw [z1]
  have g0 : ∀ b o, s.heap.get? b = some o → ((s.heap.push { cls := .type "tuple_iterator", data := .fields #[.ref l, .int 0 0] }).push { cls := .type "enumerate", data := .fields #[.none, .bool false, .ref s.heap.objs.size, rawInt 0, .none, .none] }).get? b = some o :=
    fun b o e => Heap.get?_push_of_some _ (Heap.get?_push_of_some _ e)
  have g1 := Heap.get?_push_size (s.heap.push { cls := .type "tuple_iterator", data := .fields #[.ref l, .int 0 0] })
    (o := { cls := .type "enumerate", data := .fields #[.none, .bool false, .ref s.heap.objs.size, rawInt 0, .none, .none] }) rfl
  rw [z1] at g1
  refine ⟨⟨_, g1, rfl⟩, h _ g1 ⟨_, Heap.get?_push_of_some _ (Heap.get?_push_size _ rfl), rfl, rfl⟩ g0⟩
/-- the tuple at a, each item in a new pair -/
def IteT (K : PySem.W.Frag) (a : Addr) : It :=
  ⟨fun i H => ∃ xs x, SqT K H a xs ∧ xs[i]? = some x, fun i H v H' => ∃ T x, v = .ref T ∧ H T = none ∧ H' = upd H T (.tup [.int (i : Nat), x]) ∧ ∀ xs, SqT K H a xs → xs[i]? = some x, fun i H => ∃ xs : List V, SqT K H a xs ∧ xs.length = i⟩
/-- several records of ours have turned -/
theorem inv_turned {X : Cx} {pins : List (Addr × Obj)} {σ : L2.St} {H : Hp} {s : Shared} {h' : Heap} {t' : Nat} {ch : List Addr} (I : Inv X pins σ H s) (k : ∀ b o, b ∉ ch → s.heap.get? b = some o → h'.get? b = some o) (hf : ∀ b ∈ ch, FpOk X pins H b) :
    Inv X pins σ H { s with heap := h', toks := t' } := by
  have nit : ∀ b u, H b = some u → b ∉ ch := fun b u e z => by
    have q := (hf b z).1
    rw [q] at e; cases e
  refine I.step (g' := s.gens) (d' := s.drawn) (ch := ch) (fun b hb => ?_) (fun b o _ _ hc e _ => k b o hc e) (fun b o _ _ hc e _ => ⟨o.slots, k b o hc e⟩) (fun _ _ _ _ n => n) (fun b o hc e => ⟨o, k b o hc e⟩) (fun _ _ e => e) (fun _ _ _ e => e)
    (fun b ps e => ⟨#[], by rw [e]; simp⟩) (fun m hm => ?_) (fun b u e => ?_) I.bare
  · obtain ⟨f0, f1, f2, f3, f4, f5⟩ := hf b hb
    exact ⟨f3, f1, f4, f5⟩
  · obtain ⟨o, es, ep, ho, r⟩ := hm
    exact ⟨o, es, ep, k _ o (fun z => (hf _ z).2.1 rfl) ho, r⟩
  · refine (I.hok b u e).stay (fun c v hc q => k c v ?_ q) (fun _ q => q) fun _ _ q => q
    rcases hc with z | z
    · rw [z]; exact nit b u e
    · exact nit c _ z
theorem turn_enumT {P : Program} {w : World} {K : PySem.W.Frag} {elts : List Expr} {kk : Nat} {tpos : Pos} (a e it : Addr) (nai : a ≠ it) (nae : a ≠ e) (nei : e ≠ it) :
    Turn P w K (.Tuple elts kk tpos) (IteT K a) [e, it] e (fun i h => (∃ old, IsEnum h e it ((0 : Int) + (i : Int)) old) ∧ h.IsTupleIter it a i) where
  mem := by simp
  obj := fun i h ⟨⟨old, he⟩, ⟨o, ho, hc, hd⟩⟩ b hb => by
    rcases (show b = e ∨ b = it by simpa using hb) with z | z
    · subst z; exact ⟨_, he, fun v q => nomatch q⟩
    · subst z; exact ⟨o, ho, fun v q => by rw [hd] at q; cases q⟩
  keep := fun i h h' ⟨⟨old, he⟩, hi⟩ k => ⟨⟨old, k e (by simp) _ he⟩, hi.at fun o q => k it (by simp) o q⟩
  item := by
    intro X hP hw hK hc i pins s σ H E I hf st hg
    subst hP; subst hw; subst hK
    obtain ⟨xs, x, hq, hx⟩ := hg
    obtain ⟨its, rv, p, hz⟩ := I.tuple hq
    obtain ⟨u, hu, ru⟩ := rv.get hx
    have G := GoesN.enumFrom (prog := X.prog) (w := X.w) (A := X.A) (elts := elts) (x1 := kk) (pos := tpos) 0 (Draws.tuple (A := X.A.in1) (I.ok.hd hc) it a nai its.toArray) e nei (by simp [nei, Ne.symm nae]) (by simp)
    have hi : i < its.toArray.size := by
      have := (List.getElem?_eq_some_iff.mp hu).1
      simpa using this
    refine thn (G.goes i s (fun v s2 => ∃ T t y, v = Value.ref T ∧ s.heap.objs.size ≤ T ∧ its.toArray[i]? = some y ∧ s2.heap.IsTuple T #[.int ((0 : Int) + (i : Int)) t, y] ∧
        (∃ old, IsEnum s2.heap e it ((0 : Int) + ((i + 1 : Nat) : Int)) old) ∧ s2.heap.IsTupleIter it a (i + 1) ∧ (∀ b o, b ∉ [e, it] → s.heap.get? b = some o → s2.heap.get? b = some o) ∧ ∃ h' tk, s2 = { s with heap := h', toks := tk }) E hi ⟨st.1, st.2, p⟩
      fun v h' tk ⟨T, t, y, ev, hT, hy, htu⟩ ⟨ho, hit, _⟩ kp _ => ⟨T, t, y, ev, hT, hy, htu, ho, hit, kp, h', tk, rfl⟩) fun r s1 ⟨v, er, hv⟩ => ⟨v, er, thn hv fun _ s2 ⟨T, t, y, ev, hT, hy, htu, ho, hit, kp, h', tk, es⟩ => ?_⟩
    subst es; subst ev
    have ey : y = u := by
      rw [List.getElem?_toArray, hu] at hy
      exact (Option.some.inj hy).symm
    subst ey
    have new : ObjOk X.prog X.w (upd H T (.tup [.int (i : Nat), x])) h' T (.tup [.int (i : Nat), x]) :=
      ⟨by show 2 ≤ sizeLine; decide, [.int ((0 : Int) + (i : Int)) t, y], .cons ⟨t, by rw [Int.zero_add]⟩ (.cons ru .nil), htu⟩
    have I1 : Inv X pins σ (upd H T (.tup [.int (i : Nat), x])) { s with heap := h', toks := tk } := I.turnedNew (ch := [e, it]) kp hf hT new
    refine ⟨.ref T, _, I1, rfl, ⟨T, x, rfl, I.hok.fresh hT, rfl, fun ys hy => by rw [I.tuple_inj hy hq]; exact hx⟩, ⟨ho, hit⟩, fun b hb => ?_⟩
    have lt : b ≠ T := by
      rcases (show b = e ∨ b = it by simpa using hb) with z | z
      · obtain ⟨old, he⟩ := st.1
        rw [z]; exact Nat.ne_of_lt (Nat.lt_of_lt_of_le (Heap.lt_size he) hT)
      · obtain ⟨o, q, _⟩ := st.2
        rw [z]; exact Nat.ne_of_lt (Nat.lt_of_lt_of_le (Heap.lt_size q) hT)
    rw [upd_ne lt]
    exact (hf b hb).1
  done := by
    intro X hP hw hK hc i pins s σ H E I hf st hg
    subst hP; subst hw; subst hK
    obtain ⟨xs, hq, hx⟩ := hg
    obtain ⟨its, rv, p, hz⟩ := I.tuple hq
    have hl := rv.length
    have G := GoesN.enumFrom (prog := X.prog) (w := X.w) (A := X.A) (elts := elts) (x1 := kk) (pos := tpos) 0 (Draws.tuple (A := X.A.in1) (I.ok.hd hc) it a nai its.toArray) e nei (by simp [nei, Ne.symm nae]) (by simp)
    have en : its.toArray.size = i := by rw [List.size_toArray]; omega
    rw [en] at G
    exact G.stops s _ E ⟨st.1, st.2, p⟩ fun h' tk kp _ => inv_turned I kp hf
  self := fun A i s Q E ⟨⟨_, he⟩, _⟩ h => wpAny_pyIter_enum he h
def iEnumT (K : PySem.W.Frag) (ta : TA) : TI := fun σ H R => ta σ H fun vs H1 => ∃ a xs, vs = [.ref a] ∧ SqT K H1 a xs ∧ R (IteT K a) H1
theorem pi_enumT {X : Cx} {e : Expr} {ta : TA} {p pos tpos : Pos} {elts : List Expr} {kk : Nat} (hg : Gl X "enumerate") (hm : X.mg "enumerate" = none) (ha : PA X [e] ta) (hs : starEach [e] X.env = [(false, eval e X.env)] := by rfl) :
    PI X (.Tuple elts kk tpos) (.Call (.Name "enumerate" p) [e] [] pos) (iEnumT X.K ta) := by
  refine ⟨fun pins s σ H R I h => ?_⟩
  refine Call_ (ld_blt I hg hm boot_enumerate (callWith_type1 (thn (ha.run pos pins s σ H _ I h) fun us s1 ⟨vs, H1, I1, r1, q1⟩ => ?_) hs rfl))
  obtain ⟨a, xs, ex, hq, q⟩ := q1
  subst ex
  obtain ⟨u, eu, ru⟩ := vals1 r1
  subst eu
  cases ru
  obtain ⟨its, rv, tp, hz⟩ := I1.tuple hq
  have lta : a < s1.heap.objs.size := by obtain ⟨o, ho, _⟩ := tp; exact Heap.lt_size ho
  refine call_enum_tup tp fun h' he hit hk => wpAny_pyIter_enum he ?_
  refine ⟨s1.heap.objs.size + 1, [s1.heap.objs.size + 1, s1.heap.objs.size], _, _, H1, rfl, I1.kept (t' := s1.toks) hk, turn_enumT a (s1.heap.objs.size + 1) s1.heap.objs.size (Nat.ne_of_lt lta) (Nat.ne_of_lt (Nat.lt_succ_of_lt lta)) (Nat.succ_ne_self _), ⟨⟨.none, he⟩, hit⟩, fun b hb => ?_, q⟩
  have hle : s1.heap.objs.size ≤ b := by
    rcases (show b = s1.heap.objs.size + 1 ∨ b = s1.heap.objs.size by simpa using hb) with z | z
    · rw [z]; exact Nat.le_succ _
    · rw [z]; exact Nat.le_refl _
  exact I1.fpOk hle (I1.hok.fresh hle)
theorem enumTA (K : PySem.W.Frag) {X : Cx} {e : Expr} {ta : TA} {p pos tpos : Pos} {elts : List Expr} {kk : Nat} (hg : Gl X "enumerate") (hm : X.mg "enumerate" = none) (ha : PA X [e] ta) (hK : X.K = K := by rfl) (hs : starEach [e] X.env = [(false, eval e X.env)] := by rfl) :
    PI X (.Tuple elts kk tpos) (.Call (.Name "enumerate" p) [e] [] pos) (fun σ H R => iEnum K ta σ H R ∨ iEnumT K ta σ H R) := hK ▸ pi_or (pi_enum hg hm ha hs) (pi_enumT hg hm ha hs)
theorem zipA (K : PySem.W.Frag) {X : Cx} {e e2 : Expr} {ta : TA} {p pos tpos : Pos} {elts : List Expr} {kk : Nat} (hg : Gl X "zip") (hm : X.mg "zip" = none) (ha : PA X [e, e2] ta) (hK : X.K = K := by rfl)
    (hs : starEach [e, e2] X.env = (false, eval e X.env) :: starEach [e2] X.env := by rfl) (hpl : (backTo pos (starEach [e2] X.env)).any (·.1) = false := by rfl) :
    PI X (.Tuple elts kk tpos) (.Call (.Name "zip" p) [e, e2] [] pos) (RZ.iZipA K ta) := hK ▸ RZ.pi_zipA hg hm ha hs hpl
/-! ### over data -/
/-- the pairs (0, x), (1, y), .. -/
def enumD (xs : List D) : List D := xs.mapIdx fun i x => .tup [.int (i : Nat), x]
theorem enumD_get {xs : List D} {i : Nat} {d : D} (h : (enumD xs)[i]? = some d) : ∃ x, xs[i]? = some x ∧ d = .tup [.int (i : Nat), x] := by
  unfold enumD at h
  rw [List.getElem?_mapIdx] at h
  cases q : xs[i]? with
  | none => rw [q] at h; cases h
  | some x => rw [q] at h; exact ⟨x, rfl, (Option.some.inj h).symm⟩
theorem enumD_length (xs : List D) : (enumD xs).length = xs.length := by simp [enumD]
section
variable {K : PySem.W.Frag} {Γ : Gam} {ta : TE} {xs ys : List D}
theorem di_enumT {Q : List D → Gam → Prop} {r : TI} (h : Dl ta Γ fun d Γ1 => ∃ xs, d = .tup xs ∧ Q (enumD xs) Γ1) : Di (fun σ H R => r σ H R ∨ iEnumT K (tCons ta tNil) σ H R) Γ Q := fun F σ W R g k => .inr (h F σ W _ g fun v W1 d Γ1 st g1 rd ⟨xs, e, q⟩ => by
  subst e
  obtain ⟨a, vs, rfl, ha, nu, l⟩ := rd
  refine ⟨a, vs, rfl, ha.sq, k (IteT K a) W1 (enumD xs) Γ1 st g1 ⟨fun W2 i x s2 ok2 hx => ?_, fun W2 s2 ok2 => ⟨vs, (ha.keep nu (s2.keep a)).1.sq, by rw [enumD_length, l.length]⟩⟩ q⟩
  obtain ⟨y, hy, rfl⟩ := enumD_get hx
  obtain ⟨v, hv, rv⟩ := l.get hy
  have h2 := (ha.keep nu (s2.keep a)).1
  refine ⟨⟨vs, v, h2.sq, hv⟩, fun u H' ⟨T, z, eu, hT, eH, hz⟩ => ?_⟩
  subst eu; subst eH
  have := hz vs h2.sq
  rw [hv] at this; cases this
  exact ⟨same_upd hT, rep_new_tup ok2.dom hT ⟨_, _, rfl, rfl, v, _, rfl, rv.stp s2, rfl⟩⟩)
end
end Dw

/-! zip, slices, fields, isinstance, over data. -/
namespace Dw
open PySem PySem.Spec PyProof.Rows L2
variable [Tabs0]
def zipD (xs ys : List D) : List D := (xs.zip ys).map fun p => .tup [p.1, p.2]
theorem zipD_get {xs ys : List D} {i : Nat} {d : D} (h : (zipD xs ys)[i]? = some d) : ∃ x y, xs[i]? = some x ∧ ys[i]? = some y ∧ d = .tup [x, y] := by
  unfold zipD at h
  rw [List.getElem?_map] at h
  cases q : (xs.zip ys)[i]? with
  | none => rw [q] at h; cases h
  | some p =>
    rw [q] at h
    rw [List.getElem?_zip_eq_some] at q
    exact ⟨p.1, p.2, q.1, q.2, (Option.some.inj h).symm⟩
theorem zipD_length (xs ys : List D) : (zipD xs ys).length = min xs.length ys.length := by simp [zipD]
section
variable {K : PySem.W.Frag} {Γ : Gam} {ta tb te : TE} {xs ys ds : List D} {d : D}
theorem ei_zipT (h1 : Ev ta Γ (.tup xs)) (h2 : Ev tb Γ (.tup ys)) : Ei (RZ.iZipA K (tCons ta (tCons tb tNil))) Γ (zipD xs ys) := fun F σ W R g k => h1 F σ W _ g fun v H s ⟨a, vs, ev, ha, nu, l⟩ => h2 F σ (W.at H) _ (g.same s) fun u H' s' ⟨b, ws, eu, hb, nu', l'⟩ => by
  subst ev; subst eu
  have ha' := ha.same s'
  refine ⟨a, b, vs, ws, rfl, .inr ⟨ha'.sq, hb.sq, k (RZ.ItzT K a b) H' (Same.trans s s') ⟨fun W2 i x dm s2 ku pu hx => ?_, fun H2 s2 => ?_⟩⟩⟩
  · obtain ⟨x, y, hx1, hy, rfl⟩ := zipD_get hx
    obtain ⟨v, hv, rv⟩ := (RepL.same (W := W.at H) s' l).get hx1
    obtain ⟨u, hu, ru⟩ := l'.get hy
    have a2 := ha'.same s2
    have b2 := hb.same s2
    refine ⟨⟨vs, ws, v, u, a2.sq, b2.sq, hv, hu⟩, fun z H3 ⟨T, p, q, ez, hT, eH, hp, hq⟩ => ?_⟩
    subst ez; subst eH
    have e1 := hp vs a2.sq
    have e2 := hq ws b2.sq
    rw [hv] at e1; cases e1
    rw [hu] at e2; cases e2
    have mv : ∀ {d v}, Rep (W.at H') d v → Rep W2 d v := fun {d v} r => Rep.mono (W := W.at H') (W' := W2) (fun b u e n => ⟨s2 b u e, ku b u e n⟩) (fun b z => by rw [pu]; exact z) d v r
    exact ⟨same_upd hT, rep_new_tup dm hT ⟨_, _, rfl, mv rv, _, _, rfl, mv ru, rfl⟩⟩
  · refine ⟨vs, ws, (ha'.same s2).sq, (hb.same s2).sq, ?_⟩
    rw [zipD_length, ← l.length, ← l'.length]
    omega
/-! ### slices -/
def Eo (t : TO) (Γ : Gam) (o : Option Int) : Prop := ∀ (F : Addr → Prop) (σ : L2.St) (W : Wd) (Q : Option Int → Hp → Prop), SR F Γ σ W → (∀ H, Same W.H H → Q o H) → t σ W.H Q
theorem eo_none : Eo tNoPart Γ none := fun F σ W Q g k => k W.H (Same.refl _)
theorem eo_some {i : Int} (h : Ev te Γ (.int i)) : Eo (tPart te) Γ (some i) := fun F σ W Q g k => h F σ W _ g fun v H s r => ⟨i, r, k H s⟩
/-- xs[lo:hi] -/
def cutD (xs : List D) (lo hi : Option Int) : List D := (xs.drop (HT.sIx xs.length 0 lo)).take (HT.sIx xs.length xs.length hi - HT.sIx xs.length 0 lo)
theorem repL_cut {W : Wd} {vs : List V} {lo hi : Option Int} (l : RepL W ds vs) : RepL W (cutD ds lo hi) (cutV vs lo hi) := by
  unfold cutD cutV
  rw [l.length]
  exact (l.drop _).take _
/-! ### fields -/
theorem ev_fld {C : Addr} {ns : List Str} {f : Str} (cl : Cls K C) (na : NoAttr K C f) (h : Ev ta Γ (.obj C ns ds)) (hl : (ns.zip ds).lookup f = some d) : Ev (tFld K ta f) Γ d := fun F σ W Q g k => h F σ W _ g fun v H s ⟨a, dx, vs, ev, e, nu, l, r⟩ => by
  subst ev
  have key : ∀ (ns : List Str) (ds : List D) (vs : List V), RepL (W.at H) ds vs → (ns.zip ds).lookup f = some d → ∃ v, (ns.zip vs).lookup f = some v ∧ Rep (W.at H) d v := by
    intro ns
    induction ns with
    | nil => intro ds vs _ q; simp at q
    | cons n ns ih =>
      intro ds vs r q
      cases ds with
      | nil => simp at q
      | cons e ds =>
        obtain ⟨v, rr, rfl, r1, r2⟩ := r
        rw [List.zip_cons_cons, List.lookup_cons] at q ⊢
        cases hb : f == n with
        | true =>
          rw [hb] at q
          exact ⟨v, rfl, by rw [← Option.some.inj q]; exact r1⟩
        | false =>
          rw [hb] at q
          exact ih ds rr r2 q
  obtain ⟨v, hv, rv⟩ := key ns ds vs r hl
  exact ⟨a, C, dx, _, v, rfl, e, cl, na, hv, k v H s rv⟩
/-! ### isinstance with one class -/
/-- a value's type, as the fragment's deciders take it -/
def tyD : D → Value
  | .non => .type "NoneType" | .bl _ => .type "bool" | .int _ => .type "int" | .str _ => .type "str" | .tup _ => .type "tuple" | .tupN _ => .type "tuple" | .lst _ => .type "list" | .dct _ _ => .type "dict" | .obj C _ _ => .ref C | _ => .none
structure InsOk (K : PySem.W.Frag) (C : Addr) : Prop where
  cl : Cls K C
  ha : PySem.W.findIn K (.ref C) "__class__" = some (some (.builtin "object.__class__"))
  hn : PySem.W.specialIn K (.builtin "object.__class__") "__get__" = some (some (.builtin "getset_descriptor.__get__"))
  ht : PySem.W.takesIn K (.builtin "object.__class__") = some true
  hm : PySem.W.mroIn K C (.type "object") = some true
def hasTy : D → Bool
  | .raw _ => false | .purse => false | .rng _ _ => false | .obj _ _ _ => false | .scr _ _ => false | .tag _ => false | .tupN _ => false | _ => true
theorem ty_of {W : Wd} {v : V} (r : Rep W d v) (h : hasTy d = true ∨ ∃ C ns ds, d = .obj C ns ds ∧ InsOk K C) : TyX K W.H v (tyD d) := by
  cases d with
  | non => rw [show v = V.non from r]; exact .base .non
  | bl b => rw [show v = V.bl b from r]; exact .base (.bl b)
  | int b => rw [show v = V.int b from r]; exact .base (.int b)
  | str b => rw [show v = V.str b from r]; exact .base (.str b)
  | tup ds =>
    obtain ⟨a, vs, ev, e, _⟩ := r
    rw [ev]
    exact e.elim (fun e => .base (.tup e)) fun ⟨o, e⟩ => .fTuple e
  | tupN ds => obtain ⟨a, vs, ev, ⟨o, e, _⟩, _⟩ := r; rw [ev]; exact .fTuple e
  | lst ds => obtain ⟨a, vs, ev, e, _⟩ := r; rw [ev]; exact .base (.lst e)
  | dct ks ds => obtain ⟨a, vs, ev, e, _⟩ := r; rw [ev]; exact .base (.dK e)
  | obj C ns ds =>
    obtain ⟨a, dx, vs, ev, e, _⟩ := r
    rcases h with h | ⟨C', ns', ds', q, o⟩
    · cases h
    · cases q; rw [ev]; exact .base (.ins e o.cl o.ha o.hn o.ht o.hm)
  | raw _ => rcases h with h | ⟨_, _, _, q, _⟩ <;> first | cases h | cases q
  | scr _ _ => rcases h with h | ⟨_, _, _, q, _⟩ <;> first | cases h | cases q
  | tag _ => rcases h with h | ⟨_, _, _, q, _⟩ <;> first | cases h | cases q
  | purse => rcases h with h | ⟨_, _, _, q, _⟩ <;> first | cases h | cases q
  | rng _ _ => rcases h with h | ⟨_, _, _, q, _⟩ <;> first | cases h | cases q
theorem ev_isi {c : V} {u : Value} {b : Bool} (h : Ev ta Γ d) (hc : Ev tb Γ (.raw c)) (hd : hasTy d = true ∨ ∃ C ns ds, d = .obj C ns ds ∧ InsOk K C) (hv : ClsV c u) (hk : PySem.W.kitOne K (tyD d) u = some b) : Ev (tCB (rIsi K) (tCons ta (tCons tb tNil))) Γ (.bl b) := fun F σ W Q g k =>
  h F σ W _ g fun v H s r => hc F σ (W.at H) _ (g.same s) fun w H' s' rc => ⟨v, c, tyD d, u, b, by rw [show w = c from rc], hv, ty_of (Rep.same (W := W.at H) s' r) hd, hk, k _ H' (Same.trans s s') rfl⟩
end
end Dw
namespace Dw
open PySem PySem.Spec PyProof.Rows L2
variable [Tabs0]
theorem tupA (K : PySem.W.Frag) (n : Nat) {X : Cx} {pos : Pos} {es : List Expr} {k : Nat} {t : TGs} (hc : X.calm = true) (h : PGs X es t) (hK : X.K = K := by rfl)
    (hn : (assignEach es X.env).length = n := by rfl) (hst : (assignEach es X.env).findIdx? (·.1) = none := by rfl) : PG X (.Tuple es k pos) (gTup K n t) := hK ▸ pg_tup hc h hn hst
/-- a purse is drawn from -/
theorem purse_step {F : Addr → Prop} {W : Wd} {a : Addr} {x y : Int} (ok : WOk F W) (hp : W.P a) (nn : Tabs0.nm a = none) (hx : 0 ≤ x) (hy : 0 ≤ y) (hy2 : y < 2147483647) :
    Stp F W (W.at (upd W.H a (.lst [.int x, .int y]))) ∧ WOk F (W.at (upd W.H a (.lst [.int x, .int y]))) := by
  obtain ⟨u, f, oa⟩ := ok.pu a hp
  obtain ⟨_, _, _, _, _, ha⟩ := oa.purse nn
  have up : ∀ b, b ≠ a → (upd W.H a (.lst [.int x, .int y])) b = W.H b := fun b hb => upd_ne hb
  refine ⟨⟨fun b o e n => ⟨?_, n⟩, rfl, fun b h => up b fun z => f (by rw [← z]; exact h)⟩, ⟨fun b h z => ?_, ok.fu, fun b h => ?_⟩⟩
  · show (upd W.H a _) b = _
    rw [up b fun z => n (by rw [z]; exact u)]
    exact e
  · have z : (upd W.H a (.lst [.int x, .int y])) b = none := z
    by_cases hb : b = a
    · rw [hb, upd_same] at z; cases z
    · rw [up b hb] at z; exact ok.dom b h z
  · obtain ⟨u', f', o⟩ := ok.pu b h
    refine ⟨u', f', ?_⟩
    by_cases hb : b = a
    · rw [hb]; exact .of ⟨x, y, hx, hy, hy2, upd_same⟩ nn
    · exact o.upd (no_ext ha) hb
end Dw

/-! Joined texts as codes; a written dict that is asked at once. -/
namespace Dw
open PySem PySem.Spec PyProof.Rows L2
variable [Tabs0]
theorem joinL_nil : ∀ ls : List (List Nat), TL.joinL [] ls = ls.flatten
  | [] => rfl
  | [p] => by simp [TL.joinL]
  | p :: q :: r => by
    show p ++ ([] ++ TL.joinL [] (q :: r)) = _
    rw [List.nil_append, joinL_nil (q :: r)]; rfl
theorem join_tx (a : List Nat) (ys : List (List Nat)) : Txt.join (tx a) (ys.map tx) = tx (TL.joinL a ys) := SX.join_S a ys
theorem flat_chs (l : List Nat) : (l.map fun c => [c]).flatten = l := by
  induction l with
  | nil => rfl
  | cons c l ih => rw [List.map_cons, List.flatten_cons, ih]; rfl
theorem join_chs (l : List Nat) : Txt.join (Str.ofString "") (l.map ch) = tx l := by
  have e : l.map ch = (l.map fun c => [c]).map tx := by rw [List.map_map]; rfl
  have e0 : Str.ofString "" = tx [] := by decide +kernel
  rw [e, e0, join_tx, joinL_nil, flat_chs]
theorem chs_len (l : List Nat) : ((l.map ch).map (·.length)).sum = l.length := by
  induction l with
  | nil => rfl
  | cons c l ih =>
    rw [List.map_cons, List.map_cons, List.sum_cons, ih, List.length_cons]
    show 1 + l.length = _
    omega
section
variable {Γ : Gam} {K : PySem.W.Frag} {ty : TE} {x y : Str}
def dispP (kvs : List (Str × Str)) : List (TE × TE) := kvs.map fun p => (tC (.str p.1), tC (.str p.2))
theorem tPairs_disp (σ : L2.St) (H : Hp) : ∀ (kvs : List (Str × Str)) (Q : List (V × V) → Hp → Prop), Q (kvs.map fun p => (V.str p.1, V.str p.2)) H → tPairs (dispP kvs) σ H Q
  | [], Q, h => h
  | (a, b) :: kvs, Q, h => tPairs_disp σ H kvs (fun ps H3 => Q ((V.str a, V.str b) :: ps) H3) h
theorem ev_dget {trs : List (TE × TE)} (kvs : List (Str × Str)) (ht : trs = dispP kvs) (hl : kvs.length ≤ 15) (h : Ev ty Γ (.str x))
    (hv : valV (mergeK [] (kvs.map fun p => ((Sum.inr p.1 : Key), V.str p.2))) (Sum.inr x) = some (.str y)) : Ev (tDGet (tDisp trs) ty) Γ (.str y) := fun F σ W Q g k => by
  subst ht
  refine fun p hp => tPairs_disp σ _ kvs _ ⟨upd_same, kvs.map fun p => ((Sum.inr p.1 : Key), V.str p.2), by rw [List.map_map]; rfl, by rw [List.length_map]; exact hl, ?_⟩
  rw [upd_upd]
  have sm : Same W.H (upd W.H p (.dK (mergeK [] (kvs.map fun p => ((Sum.inr p.1 : Key), V.str p.2))))) := same_upd hp
  refine h F σ (W.at _) _ (g.same sm) fun v H2 s2 r => ⟨p, .str y, rfl, ?_, k _ H2 (Same.trans sm s2) rfl⟩
  rw [show v = V.str x from r, ← hv]
  exact DGet.k (k := Sum.inr x) (s2 _ _ upd_same)
end
end Dw

/-! Chains of comparisons, dicts of the module, properties, texts cut, objects made. -/
namespace Dw
open PySem PySem.Spec PyProof.Rows L2
variable [Tabs0]
section
variable {Γ : Gam} {K : PySem.W.Frag} {w : World} {ta tb tc te tv : TE} {t : TA} {x y z d : D} {ds : List D} {a b : Str} {C ad : Addr} {E : XK} {s : Spc}
theorem ev_chain {r r' : R2} {p q : Bool} (ha : Ev ta Γ x) (hb : Ev tb Γ y) (hc : p = true → Ev tc Γ z) (h1 : DR2 r x y (.bl p)) (h2 : p = true → DR2 r' y z (.bl q)) : Ev (tChain r r' ta tb tc) Γ (.bl (p && q)) := fun F σ W Q g k =>
  ha F σ W _ g fun u H s ru => hb F σ (W.at H) _ (g.same s) fun v H1 s1 rv => by
    refine h1 (W.at H1) u v _ ((g.same s).same s1).ok.dom (ru.same (W := W.at H) s1) rv fun o H2 s2 ro => ⟨p, ro, ?_⟩
    have s02 : Same W.H H2 := Same.trans s (Same.trans s1 s2)
    cases p with
    | false => exact ite2 (fun h => nomatch h) fun _ => k _ H2 s02 rfl
    | true =>
      refine ite2 (fun _ => ?_) fun h => absurd rfl h
      refine hc rfl F σ (W.at H2) _ (g.same s02) fun e H3 s3 re => ?_
      exact h2 rfl (W.at H3) v e _ ((g.same s02).same (W := W.at H2) s3).ok.dom ((rv.same (W := W.at H1) s2).same (W := W.at H2) s3) re fun o' H4 s4 ro' => k _ H4 (Same.trans s02 (Same.trans s3 s4)) ro'
theorem evt_chain {r r' : R2} {p q : Bool} (ha : Ev ta Γ x) (hb : Ev tb Γ y) (hc : p = true → Ev tc Γ z) (h1 : DR2 r x y (.bl p)) (h2 : p = true → DR2 r' y z (.bl q)) : EvT (tTest (tChain r r' ta tb tc)) Γ (p && q) := evt_test (ev_chain ha hb hc h1 h2)
/-- a property of an object -/
theorem ev_prop {x : s.ty} {ns : List Str} (h : Ev ta Γ (.obj C ns ds)) (ha : s.args x = [.obj C ns ds]) (np : noPs (s.args x) = true) (ok : s.ok x) (hd : ∀ d', s.rel x d' → d' = d) : Ev (tProp C (toSp s) [] E ta) Γ d := fun F σ W R g k => h F σ W _ g fun v H st r => by
  obtain ⟨a, dx, vs, ev, e, nu, l, rl⟩ := r
  refine ⟨a, dx, _, ev, e, ?_⟩
  have rr : RepL (W.at H) (s.args x) [v] := by rw [ha]; exact RepL.one ⟨a, dx, vs, ev, e, nu, l, rl⟩
  rw [← ev]
  exact pure_call (W := W.at H) (g.same st) (fun _ z => z) (RepL.delP _ _ np rr) ok fun d' v H' hd' s' r' => by
    rw [hd d' hd'] at r'
    exact k v H' (Same.trans st s') (Rep.addP (W := W) r')
theorem evn_split (ha : Ev ta Γ (.str a)) (hb : Ev tb Γ (.str b)) (hn : (b.length == 0) = false) (hz : a.length + 2 ≤ sizeLine) :
    EvN (tM1 (fun x xs H Q => ∃ a b, x = .str a ∧ xs = [.str b] ∧ (b.length == 0) = false ∧ a.length + 2 ≤ sizeLine ∧ rNewStrs (Txt.split a b) H Q) ta tb) Γ ((Txt.split a b).map D.str) := fun F σ W Q g k =>
  ha F σ W _ g fun v H s r => ⟨⟨a, r⟩, hb F σ (W.at H) _ (g.same s) fun u H1 s1 r1 => ⟨a, b, r, by rw [show u = V.str b from r1], hn, hz, fun p hp =>
    k p _ _ (Same.trans (Same.trans s s1) (same_upd hp)) ((Same.trans s s1).free hp) upd_same (RepL.strs.mpr rfl)⟩⟩
theorem ev_partition (ha : Ev ta Γ (.str a)) (hb : Ev tb Γ (.str b)) (hn : (b.length == 0) = false) (hz : a.length ≤ sizeLine) :
    Ev (tM1 (fun x xs H Q => ∃ a b, x = .str a ∧ xs = [.str b] ∧ (b.length == 0) = false ∧ a.length ≤ sizeLine ∧
      ∀ p, H p = none → Q (.ref p) (upd H p (.tup [.str (Txt.partition a b).1, .str (Txt.partition a b).2.1, .str (Txt.partition a b).2.2]))) ta tb) Γ (.tup [.str (Txt.partition a b).1, .str (Txt.partition a b).2.1, .str (Txt.partition a b).2.2]) := fun F σ W Q g k =>
  ha F σ W _ g fun v H s r => ⟨⟨a, r⟩, hb F σ (W.at H) _ (g.same s) fun u H1 s1 r1 => ⟨a, b, r, by rw [show u = V.str b from r1], hn, hz, fun p hp =>
    k _ _ (Same.trans (Same.trans s s1) (same_upd hp)) (rep_new_tup (W := W.at H1) ((g.same s).same (W := W.at H) s1).ok.dom hp ⟨_, _, rfl, rfl, _, _, rfl, rfl, _, _, rfl, rfl, rfl⟩)⟩⟩
end
end Dw

/-! Objects made: the promise of an __init__, its rules, the call of the class. -/
namespace Dw
open PySem PySem.Spec PyProof.Rows L2
variable [Tabs0]
abbrev rIsNone : R2 := fun x y H Q => y = .non ∧ Q (.bl (decide (x = .non))) H
theorem dr2_isN {d : D} {b : Bool} (h : ∀ (W : Wd) v, Rep W d v → decide (v = V.non) = b) : DR2 rIsNone d .non (.bl b) := dr2_flat fun W u v Q r1 r2 k => ⟨r2, by rw [h W u r1]; exact k _ rfl⟩
/-- an __init__'s promise: the object gets ns and ds, where rel x (.tup ds) -/
def toIn (C : Addr) (ns : List Str) (s : Spc) : Sp := fun vs H Q _ => ∃ (x : s.ty) (F : Addr → Prop) (W : Wd) (a dx : Addr) (us : List V), vs = .ref a :: us ∧ W.H = H ∧ WOk F W ∧ W.U a ∧ ¬ F a ∧ ¬ W.P a ∧ W.H a = some (.ins C dx []) ∧ RepL W (s.args x) us ∧ s.ok x ∧
  ∀ ds zs W', s.rel x (.tup ds) → Stp F W W' → WOk F W' → W'.U a → W'.H a = some (.ins C dx (ns.zip zs)) → ns.length = zs.length → RepL W' ds zs → Q .non W'.H
section
variable {Γ : Gam} {K : PySem.W.Frag} {te tv ta : TE} {t u : TS} {x y d : D} {C : Addr} {s : Spc}
/-- a statement of an __init__ whose object stands at a, with the fields ns so far -/
def DI (C a : Addr) (t : TS) (Γ : Gam) (ns : List Str) (ds : List D) (R : Gam → List Str → List D → Prop) : Prop := ∀ (F : Addr → Prop) (σ : L2.St) (W : Wd) (Dr : Ends) (dx : Addr) (us : List V), SR (Fp F a) Γ σ W → ¬ F a → W.H a = some (.ins C dx (ns.zip us)) → ns.length = us.length → RepL W ds us →
  (∀ σ' Γ' ns' ds' us' W', Stp F W W' → SR (Fp F a) Γ' σ' W' → W'.H a = some (.ins C dx (ns'.zip us')) → ns'.length = us'.length → RepL W' ds' us' → R Γ' ns' ds' → Dr.nx σ' W'.H) → t Dr σ W.H
theorem di_seq {a : Addr} {ns : List Str} {ds : List D} {R : Gam → List Str → List D → Prop} (h : DI C a t Γ ns ds fun Γ' ns' ds' => DI C a u Γ' ns' ds' R) : DI C a (tSeq t u) Γ ns ds R := fun F σ W Dr dx us g nf e l r k =>
  h F σ W { Dr with nx := u Dr } dx us g nf e l r fun σ' Γ' ns' ds' us' W' st g' e' l' r' hR => hR F σ' W' Dr dx us' g' nf e' l' r' fun σ2 Γ2 ns2 ds2 us2 W2 st2 => k σ2 Γ2 ns2 ds2 us2 W2 (st.trans st2)
theorem di_of {a : Addr} {ns : List Str} {ds : List D} {R : Gam → List Str → List D → Prop} (h : Ds t Γ ⟨fun Γ' => R Γ' ns ds, fun _ => False, fun _ => False, fun _ => False⟩) : DI C a t Γ ns ds R := fun F σ W Dr dx us g nf e l r k =>
  h (Fp F a) σ W Dr g ⟨fun σ' W' Γ' st g' hR => k σ' Γ' ns ds us W' (st.sub fun _ z => .inl z) g' ((st.fr a (.inr rfl)).trans e) l (r.stp st) hR, fun _ _ _ _ _ _ h => h.elim, fun _ _ _ _ _ h => h.elim, fun _ _ _ _ _ h => h.elim⟩
theorem putF_new {f : Str} {v : V} : ∀ {ns : List Str} {us : List V}, f ∉ ns → ns.length = us.length → putF f v (ns.zip us) = (ns ++ [f]).zip (us ++ [v])
  | [], [], _, _ => rfl
  | n :: ns, u :: us, h, l => by
    show (if n = f then _ else (n, u) :: putF f v (ns.zip us)) = _
    rw [if_neg (fun z => h (by rw [z]; exact List.mem_cons_self)), putF_new (fun z => h (List.mem_cons_of_mem _ z)) (Nat.succ.inj l)]
    rfl
theorem zip_len {ns : List Str} {us : List V} (l : ns.length = us.length) : (ns.zip us).length = ns.length := by rw [List.length_zip, ← l]; omega
theorem di_fld {a : Addr} {ns : List Str} {ds : List D} {f : Str} {R : Gam → List Str → List D → Prop} (cl : Cls K C) (na : NoAttr K C f) (hn : f ∉ ns) (hz : ns.length < 1000) (ha : Ev ta Γ (.raw (.ref a))) (hv : Ev tv Γ d) (h : R Γ (ns ++ [f]) (ds ++ [d])) :
    DI C a (sFld K ta tv f) Γ ns ds R := fun F σ W Dr dx us g nf e l r k => hv _ σ W _ g fun v H s rv => ha _ σ (W.at H) _ (g.same s) fun z H1 s1 rz => by
  have g1 := (g.same s).same (W := W.at H) s1
  have s01 := Same.trans s s1
  refine ⟨a, C, dx, ns.zip us, rz, s01 _ _ e, cl, na, by rw [zip_len l]; exact hz, ?_⟩
  rw [putF_new hn l]
  obtain ⟨st, g2⟩ := g1.poke (o := .ins C dx ((ns ++ [f]).zip (us ++ [v]))) nf (no_extI (s01 _ _ e))
  have st1 : Stp F W (W.at H1) := (Stp.of_same g.ok s01).sub fun _ z => .inl z
  exact k σ Γ (ns ++ [f]) (ds ++ [d]) (us ++ [v]) _ (st1.trans st) g2 upd_same (by rw [List.length_append, List.length_append, l]; rfl) (((r.same s01).append (RepL.one (rv.same (W := W.at H) s1))).stp st) h
theorem di_fld2 {a : Addr} {ns : List Str} {ds : List D} {f f2 : Str} {R : Gam → List Str → List D → Prop} (cl : Cls K C) (na : NoAttr K C f) (na2 : NoAttr K C f2) (hn : f ∉ ns) (hn2 : f2 ∉ ns ++ [f]) (hz : ns.length < 900) (ha : Ev ta Γ (.raw (.ref a))) (hv : Ev tv Γ (.tup [x, y]))
    (h : R Γ ((ns ++ [f]) ++ [f2]) ((ds ++ [x]) ++ [y])) :
    DI C a (tAsg tv (gTup K 2 (gCons (gFld K ta f) (gCons (gFld K ta f2) gNil)))) Γ ns ds R := fun F σ W Dr dx us g nf e l r k => hv _ σ W _ g fun v H s rv => by
  obtain ⟨p, vs, ev, hp, nu, v1, _, rfl, r1, v2, _, rfl, r2, rfl⟩ := rv
  refine ⟨p, [v1, v2], ev, hp.sq, rfl, v1, [v2], rfl, ha _ σ (W.at H) _ (g.same s) fun z H1 s1 rz => ?_⟩
  have g1 := (g.same s).same (W := W.at H) s1
  have s01 := Same.trans s s1
  refine ⟨a, C, dx, ns.zip us, rz, s01 _ _ e, cl, na, by rw [zip_len l]; omega, ?_⟩
  rw [putF_new hn l]
  obtain ⟨st, g2⟩ := g1.poke (o := .ins C dx ((ns ++ [f]).zip (us ++ [v1]))) nf (no_extI (s01 _ _ e))
  have st1 : Stp F W (W.at H1) := (Stp.of_same g.ok s01).sub fun _ z => .inl z
  have l1 : (ns ++ [f]).length = (us ++ [v1]).length := by rw [List.length_append, List.length_append, l]; rfl
  have rr1 := ((r.same s01).append (RepL.one (r1.same (W := W.at H) s1))).stp st
  have r2' := (r2.same (W := W.at H) s1).stp st
  refine ⟨v2, [], rfl, ha _ σ _ _ g2 fun z' H2 s2 rz' => ?_⟩
  refine ⟨a, C, dx, (ns ++ [f]).zip (us ++ [v1]), rz', s2 _ _ upd_same, cl, na2, by rw [zip_len l1, List.length_append]; show ns.length + 1 < 1000; omega, rfl, ?_⟩
  rw [putF_new hn2 l1]
  obtain ⟨st2, g3⟩ := (g2.same s2).poke (o := .ins C dx (((ns ++ [f]) ++ [f2]).zip ((us ++ [v1]) ++ [v2]))) nf (no_extI (s2 _ _ upd_same))
  have sto : Stp F (W.at (upd H1 a (.ins C dx ((ns ++ [f]).zip (us ++ [v1]))))) (W.at H2) := (Stp.of_same g2.ok s2).sub fun _ z => .inl z
  exact k σ Γ _ ((ds ++ [x]) ++ [y]) ((us ++ [v1]) ++ [v2]) _ (st1.trans (st.trans (sto.trans st2))) g3 upd_same (by simp [l]) (((rr1.stp sto).append (RepL.one (r2'.stp sto))).stp st2) h
section
variable {P : Program} {w : World} {mg : Str → Option Value} {base : Heap}
theorem in_ok {x qual : Str} {st : Stmt} {f : Addr} {fd : FuncData} {N ps : List Str} {k : Nat} {ns : List Str} (F : Fun K x qual st f fd) (S : FnScope N ps (defScope st)) (len : ∀ x, (s.args x).length + 1 = ps.length)
    (hbody : ∀ (cdv : Value) (A : Around) (outer : List Env) (s' : Shared) (H : Hp) (E : XK), Room k (A.deeper (envOfC qual (defScope st) s'.heap.objs.size f cdv)) →
      ∃ t, PSs (cxOf CX0 P w K mg base N qual (defScope st) f cdv A outer s' H E).nox (defBody st) t ∧ ∀ x, s.ok x → ∀ a, DI C a t (Gz0 N.length (.raw (.ref a) :: s.args x)) [] [] fun _ ns' ds' => ns' = ns ∧ s.rel x (.tup ds')) :
    FnOk P w K mg base CX0 (k + 1) f fd ps (toIn C ns s) :=
  F.ok S (fun vs H Q E ⟨x, F, W, a, dx, us, e, _, _, _, _, _, _, r, _⟩ => by rw [e, List.length_cons, ← r.length]; exact len x) fun cdv A outer s' H vs Q E hr h => by
    obtain ⟨t, p, hb⟩ := hbody cdv A outer s' H E hr
    refine ⟨t, p, ?_⟩
    obtain ⟨x, F, W, a, dx, us, rfl, rfl, ok, hu, nf, np, ha, r, hx, q⟩ := h
    have ok' : WOk (Fp F a) W := ⟨ok.dom, fun b z => z.elim (ok.fu b) fun z => by rw [z]; exact hu, fun b z => let ⟨u, f, pp⟩ := ok.pu b z; ⟨u, fun y => y.elim f fun y => np (by rw [← y]; exact z), pp⟩⟩
    refine hb x hx a F _ W _ dx [] (sr_start ok' (ds := .raw (.ref a) :: s.args x) ⟨_, us, rfl, rfl, r⟩) nf ha rfl rfl fun σ' Γ' ns' ds' us' W' st g' e' l' r' hR => ?_
    obtain ⟨rfl, hrel⟩ := hR
    exact q ds' us' W' hrel st ⟨g'.ok.dom, fun b z => g'.ok.fu b (.inl z), fun b z => let ⟨u, f, pp⟩ := g'.ok.pu b z; ⟨u, fun y => f (.inl y), pp⟩⟩ (g'.ok.fu a (.inr rfl)) e' l' r'
end
/-- C(..) -/
theorem dl_make {ns : List Str} {t : TA} {E : XK} {Q : D → Gam → Prop} (h : DlA t Γ fun ds Γ1 => ∃ x, ds = s.args x ∧ s.ok x ∧ ∀ es, s.rel x (.tup es) → Q (.obj C ns es) Γ1) : Dl (tMake C (toIn C ns s) [] E t) Γ Q := fun F σ W R g k => h F σ W _ g fun vs W1 ds Γ1 st g1 r ⟨x, e, ok, q⟩ => by
  subst e
  intro b dx hb hdx ne
  rw [List.append_nil]
  have sm : Same W1.H (upd (upd W1.H dx (.own b)) b (.ins C dx [])) := Same.trans (same_upd hdx) (same_upd ((upd_ne (Ne.symm ne)).trans hb))
  obtain ⟨stp, gp, no, nf, np⟩ := g1.plus (H := upd (upd W1.H dx (.own b)) b (.ins C dx [])) (a := b) sm hb (by rw [upd_same]; exact fun z => nomatch z)
  refine ⟨x, _, W1.plus _ b, b, dx, vs, rfl, rfl, gp.callOk, .inr rfl, fun z => z.elim nf no, np, upd_same, r.stp stp, ok, fun ds zs W' hd st' ok' hu hH hl rr => ⟨rfl, ?_⟩⟩
  have g2 := gp.call st' ok'
  have np' : ¬ W'.P b := by rw [st'.pur]; exact np
  obtain ⟨st3, g3⟩ := (g2.frame hu np' no).land nf
  exact k (.ref b) ⟨W'.H, fun c => W'.U c ∧ c ≠ b, W'.P⟩ (.obj C ns ds) Γ1 (st.trans (stp.trans ((st'.sub fun _ z => .inl z).trans st3))) g3 ⟨b, dx, zs, rfl, hH, fun z => z.2 rfl, hl, rr.stp st3⟩ (q ds hd)
end
end Dw

/-! all() over a pure comprehension; one sign within a text; comparisons with their answers. -/
namespace Dw
open PySem PySem.Spec PyProof.Rows L2
variable [Tabs0]
section
variable {Γ : Gam} {K : PySem.W.Frag} {wi : TI} {g : TG} {tt : TT} {te : TE} {vs : List Nat}
theorem ev_all_lc {α : Type} {xs : List α} {c : α → D} {b : α → Bool} (h : Ei wi Γ (xs.map c)) (hz : xs.length ≤ 1000000)
    (he : ∀ x ∈ xs, ∃ is Γ2, DG g is (c x) (wipeG Γ vs) Γ2 ∧ (∀ i ∈ is, i ∈ vs) ∧ EvT tt Γ2 true ∧ Ev te Γ2 (.bl (b x))) : Ev (tCB (rAll K) (tCons (tLc wi g tt te vs) tNil)) Γ (.bl (xs.all b)) := by
  have e := evn_lc (p := fun _ => true) (f := fun x => D.bl (b x)) h hz fun x hx => by
    obtain ⟨is, Γ2, h1, h2, h3, h4⟩ := he x hx
    exact ⟨is, Γ2, h1, h2, h3, fun _ => h4⟩
  rw [List.filter_eq_self.mpr (fun _ _ => rfl)] at e
  have e2 : xs.map (fun x => D.bl (b x)) = (xs.map b).map D.bl := by rw [List.map_map]; rfl
  rw [e2] at e
  have r := ev_all (K := K) e.b
  rw [List.all_map] at r
  exact r
/-- a pure comprehension without a test -/
theorem evn_lc1 {α : Type} {xs : List α} {c f : α → D} (h : Ei wi Γ (xs.map c)) (hz : xs.length ≤ 1000000)
    (he : ∀ x ∈ xs, ∃ is Γ2, DG g is (c x) (wipeG Γ vs) Γ2 ∧ (∀ i ∈ is, i ∈ vs) ∧ EvT tt Γ2 true ∧ Ev te Γ2 (f x)) : EvN (tLc wi g tt te vs) Γ (xs.map f) := by
  have e := evn_lc (p := fun _ => true) (f := f) h hz fun x hx => by
    obtain ⟨is, Γ2, h1, h2, h3, h4⟩ := he x hx
    exact ⟨is, Γ2, h1, h2, h3, fun _ => h4⟩
  rw [List.filter_eq_self.mpr (fun _ _ => rfl)] at e
  exact e
end
theorem in_code {K : PySem.W.Frag} {l : List Nat} {c : Nat} : DR2 (rOr (rIn K false) rInS) (.str (ch c)) (.str (tx l)) (.bl (decide (c ∈ l))) := by
  have e := in_str' (K := K) (x := ch c) (y := tx l)
  rw [show (Builtin.Str.occurrences (tx l) (ch c) 0 (tx l).length 1).isEmpty = !decide (c ∈ l) from by rw [← Bool.not_not (Builtin.Str.occurrences (tx l) (ch c) 0 (tx l).length 1).isEmpty]; exact congrArg _ (SX.in_one l c), Bool.not_not] at e
  exact e
theorem nin_code {K : PySem.W.Frag} {l : List Nat} {c : Nat} : DR2 (rOr (rIn K true) rNinS) (.str (ch c)) (.str (tx l)) (.bl (!decide (c ∈ l))) := by
  refine dr2_r (dr2_flat fun W u v Q a b k => ⟨ch c, tx l, a, b, ?_⟩)
  rw [show (Builtin.Str.occurrences (tx l) (ch c) 0 (tx l).length 1).isEmpty = !decide (c ∈ l) from by rw [← Bool.not_not (Builtin.Str.occurrences (tx l) (ch c) 0 (tx l).length 1).isEmpty]; exact congrArg _ (SX.in_one l c), Bool.not_not]
  exact k _ rfl
section
variable {K : PySem.W.Frag} {i j : Int} {b : Bool} {x y : Str}
theorem gt_b (h : decide (j < i) = b) : DR2 (rI0 fun i j => .bl (decide (j < i))) (.int i) (.int j) (.bl b) := h ▸ dr2_gt
theorem lt_tx {l m : List Nat} : DR2 (rOr (rI0 fun i j => .bl (decide (i < j))) rLtS) (.str (tx l)) (.str (tx m)) (.bl (decide (l < m))) := by
  have e := lt_str' (x := tx l) (y := tx m)
  rw [tx_cps, tx_cps] at e
  exact e
theorem eq_ib (h : decide (i = j) = b) : DR2 (rEqX K) (.int i) (.int j) (.bl b) := h ▸ eq_int'
theorem eq_sb (h : decide (x = y) = b) : DR2 (rEqX K) (.str x) (.str y) (.bl b) := h ▸ eq_str'
theorem ne_sb (h : (!decide (x = y)) = b) : DR2 (rNeX K) (.str x) (.str y) (.bl b) := h ▸ ne_str'
end
/-- a and b, both true -/
theorem small {n : Nat} (h : n ≤ 100000) : n ≤ sizeLine := Nat.le_trans h (by decide)
end Dw

/-! Methods of lists with K named: within blocks X.K speaks of the block. -/
namespace Dw
open PySem PySem.Spec PyProof.Rows L2
variable [Tabs0]
variable {X : Cx} {o e : Expr} {es : List Expr} {to : TE} {t : TA} {name : Str} {apos cpos : Pos} {T id : String} {r : V → List V → Hp → VK → Prop}
theorem bmA (K : PySem.W.Frag) (pa : PlainAttrs T) (slot : Slot T name id) (hty : typeOf (.builtin id) = pure (.type "method_descriptor")) (hm : MtR X id r) (ho : PE X o to) (ha : PA X (e :: es) t) (hK : X.K = K := by rfl)
    (hbase : attributeBase o name X.env (eval o X.env) = eval o X.env := by rfl)
    (hfew : ((backTo cpos (starEach (e :: es) X.env)).all (fun x => !x.1) && (backToKw cpos (keywordEach [] X.env)).all (fun x => x.1.isSome)
      && decide ((e :: es).length + ([] : List Keyword).length + (if ([] : List Keyword).isEmpty then 0 else 1) < 30)) = true := by rfl)
    (hline : (apos.endLine == cpos.line) = true := by rfl) (hs : starEach (e :: es) X.env = (false, eval e X.env) :: starEach es X.env := by rfl) (hplain : (backTo cpos (starEach es X.env)).any (·.1) = false := by rfl) :
    PE X (.Call (.Attribute o name apos) (e :: es) [] cpos) (tBM K T r to t) := hK ▸ pe_bm pa slot hty hm ho ha hbase hfew hline hs hplain
end Dw

/-! The script (a list that the head gives), and a purse that is made and at once given on. -/
namespace Dw
open PySem PySem.Spec PyProof.Rows L2
variable [Tabs0]
section
variable {Γ : Gam} {K : PySem.W.Frag} {ta tb : TE} {vs : List V} {d : D} {i : Int}
theorem scr_sq {W : Wd} {v : V} (r : Rep W (.scr K vs) v) : ∃ a, v = .ref a ∧ SqL K W.H a vs := by
  obtain ⟨a, e, q, _⟩ := r
  refine ⟨a, e, ?_⟩
  rcases q with ⟨u, h, n, q⟩ | q
  · rcases q with rfl | ⟨o, rfl⟩
    · exact .inl (.inl h)
    · exact .inl (.inr ⟨o, h⟩)
  · exact .inr q
theorem ev_lenX (h : Ev ta Γ (.scr K vs)) : Ev (tCB (rLen K) (tCons ta tNil)) Γ (.int vs.length) := fun F σ W Q g k => h F σ W _ g fun v H s r => by
  obtain ⟨a, e, q⟩ := scr_sq r
  exact .inl ⟨a, vs, by rw [e], .inl q, k _ H s rfl⟩
theorem ev_ixX {z : Int} (h : Ev ta Γ (.scr K vs)) (hb : Ev tb Γ (.int i)) (hz : atI vs i = some (.int z)) : Ev (tOp (rIx K) ta tb) Γ (.int z) := fun F σ W Q g k => h F σ W _ g fun v H s r => hb F σ (W.at H) _ (g.same s) fun u H' s' r' => by
  obtain ⟨a, e, q⟩ := scr_sq (r.same (W := W.at H) s')
  exact .inl ⟨a, vs, i, .int z, e, r', q, hz, k _ H' (Same.trans s s') rfl⟩
end
end Dw
namespace Dw
open PySem PySem.Spec PyProof.Rows L2
variable [Tabs0]
section
variable {Γ : Gam} {K : PySem.W.Frag} {ta tb te : TE} {ns : List Int} {d : D} {i : Int} {s : Spc} {E : XK}
def intD (ns : List Int) : List D := ns.map D.int
def cutI (ns : List Int) (lo hi : Option Int) : List Int := (ns.drop (HT.sIx ns.length 0 lo)).take (HT.sIx ns.length ns.length hi - HT.sIx ns.length 0 lo)
theorem ev_int1 (h : Ev ta Γ (.int i)) : Ev (tCB (fun xs H Q => (∃ i, xs = [.int i] ∧ Q (.int i) H) ∨ ∃ k, xs = [.bl k] ∧ Q (.int (if k then 1 else 0)) H) (tCons ta tNil)) Γ (.int i) :=
  ev_cb (eva_cons h eva_nil) fun W us Q dom r k => by
    obtain ⟨v, _, rfl, rv, rfl⟩ := r
    exact .inl ⟨i, by rw [show v = V.int i from rv], k _ _ (Same.refl _) rfl⟩
theorem ev_abs (h : Ev ta Γ (.int i)) : Ev (tCB (fun xs H Q => ∃ i, xs = [.int i] ∧ Q (.int (if i < 0 then -i else i)) H) (tCons ta tNil)) Γ (.int (if i < 0 then -i else i)) :=
  ev_cb (eva_cons h eva_nil) fun W us Q dom r k => by
    obtain ⟨v, _, rfl, rv, rfl⟩ := r
    exact ⟨i, by rw [show v = V.int i from rv], k _ _ (Same.refl _) rfl⟩
theorem ev_max2 {j : Int} (h : Ev ta Γ (.int i)) (h' : Ev tb Γ (.int j)) : Ev (tCB (fun xs H Q => ∃ i j, xs = [.int i, .int j] ∧ Q (.int (if j > i then j else i)) H) (tCons ta (tCons tb tNil))) Γ (.int (if j > i then j else i)) :=
  ev_cb (eva_cons h (eva_cons h' eva_nil)) fun W us Q dom r k => by
    obtain ⟨v, _, rfl, rv, v', _, rfl, rv', rfl⟩ := r
    exact ⟨i, j, by rw [show v = V.int i from rv, show v' = V.int j from rv'], k _ _ (Same.refl _) rfl⟩
theorem ev_min2 {j : Int} (h : Ev ta Γ (.int i)) (h' : Ev tb Γ (.int j)) : Ev (tCB (fun xs H Q => ∃ i j, xs = [.int i, .int j] ∧ Q (.int (if j < i then j else i)) H) (tCons ta (tCons tb tNil))) Γ (.int (if j < i then j else i)) :=
  ev_cb (eva_cons h (eva_cons h' eva_nil)) fun W us Q dom r k => by
    obtain ⟨v, _, rfl, rv, v', _, rfl, rv', rfl⟩ := r
    exact ⟨i, j, by rw [show v = V.int i from rv, show v' = V.int j from rv'], k _ _ (Same.refl _) rfl⟩
/-- a def that makes a purse from the script -/
def toPurse (K : PySem.W.Frag) : Sp := fun vs H Q _ => ∃ (F : Addr → Prop) (W : Wd) (ns : List Int) (spot : Nat), W.H = H ∧ WOk F W ∧ RepL W [.scr K (ns.map V.int), .int spot] vs ∧ ns.length ≤ 63 ∧ spot ≤ 1000 ∧ (∀ z ∈ ns, Builtin.Int.intBits z ≤ 1048576) ∧
  ∀ (a : Addr) (x y : Int) (W' : Wd) (H' : Hp), Stp F W W' → WOk F W' → Same W'.H H' → W'.H a = none → H' a = some (.lst [.int x, .int y]) → 0 ≤ x → 0 ≤ y → y < 2147483647 → Q (.ref a) H'
/-- right(purse(script, spot)) -/
theorem dl_purse {E2 : XK} {Q : D → Gam → Prop} {x : s.ty} {spot : Nat} (ha : s.args x = [.purse]) (ok : s.ok x) (hr : ∀ d, s.rel x d → d = .bl true) (h1 : Ev ta Γ (.scr K (ns.map V.int))) (h2 : Ev tb Γ (.int spot)) (hz : ns.length ≤ 63) (hs : spot ≤ 1000) (hbit : ∀ z ∈ ns, Builtin.Int.intBits z ≤ 1048576) (q : Q (.bl true) Γ) :
    Dl (tCall (toSp s) [] E (tCons (tCall (toPurse K) [] E2 (tCons ta (tCons tb tNil))) tNil)) Γ Q := fun F σ W R g k => by
  show tCons ta (tCons tb tNil) σ W.H (fun vs H1 => toPurse K (vs ++ []) H1 (fun v H2 => toSp s ([v] ++ []) H2 R E) E2)
  refine (eva_cons h1 (eva_cons h2 eva_nil)) F σ W _ g fun vs H s1 r => ?_
  have g1 := g.same s1
  rw [List.append_nil]
  refine ⟨_, W.at H, ns, spot, rfl, g1.callOk, r, hz, hs, hbit, fun a x' y W' H' st ok' sm hn ha' h0 h0' h0y => ?_⟩
  have g2 := g1.call st ok'
  have okc := g2.callOk
  have nu : ¬ W'.U a := g2.ok.new hn
  have tb : ∀ p q, Tabs0.nm p = some q → W'.P p := fun p q z => by
    obtain ⟨v0, r0, e0, hr0, _⟩ := r
    obtain ⟨_, _, _, t0⟩ := hr0
    have := t0 p q z
    rw [st.pur]
    exact this
  have nn : Tabs0.nm a = none := by
    cases z : Tabs0.nm a with
    | none => rfl
    | some q => exact absurd hn ((okc.pu a (tb a q z)).2.2.some)
  refine ⟨x, _, ⟨H', fun b => W'.U b ∨ b = a, fun b => W'.P b ∨ b = a⟩, rfl, ⟨fun b z => ?_, fun b z => .inl (okc.fu b z), fun b z => ?_⟩, ?_, ok, fun d v W2 hd st2 ok2 r2 => ?_⟩
  · rcases z with z | rfl
    · exact fun e => okc.dom b z (sm.free e)
    · show H' b ≠ none
      rw [ha']; exact fun e => nomatch e
  · rcases z with z | rfl
    · obtain ⟨u, f, o⟩ := okc.pu b z
      exact ⟨.inl u, f, o.same sm⟩
    · exact ⟨.inr rfl, fun z => nu (okc.fu b z), .of ⟨x', y, h0, h0', h0y, ha'⟩ nn⟩
  · rw [ha]
    exact RepL.one ⟨a, rfl, .inr rfl, nn, fun p q z => .inl (tb p q z)⟩
  · have hd' := hr d hd
    subst hd'
    have stc : Stp (fun b => F b ∨ ownA Γ σ b) W' ⟨W2.H, W2.U, W'.P⟩ := ⟨fun b u e n => by
        have nb : b ≠ a := fun z => by rw [z, hn] at e; cases e
        obtain ⟨e2, n2⟩ := st2.keep b u (sm _ _ e) fun z => z.elim n nb
        exact ⟨e2, n2⟩, rfl, fun b z => by
        refine (st2.fr b z).trans ?_
        show H' b = W'.H b
        cases q : W'.H b with
        | none => exact absurd q (okc.dom b (okc.fu b z))
        | some u => exact sm _ _ q⟩
    have okc2 : WOk (fun b => F b ∨ ownA Γ σ b) ⟨W2.H, W2.U, W'.P⟩ := ⟨ok2.dom, ok2.fu, fun b z => by
      have := ok2.pu b (by rw [st2.pur]; exact .inl z)
      exact this⟩
    have st0 : Stp F W ⟨W2.H, W2.U, W'.P⟩ := (Stp.of_same g.ok s1).trans (((st.trans stc)).sub fun _ z => .inl z)
    exact k v ⟨W2.H, W2.U, W'.P⟩ (.bl true) Γ st0 (g2.call stc okc2) r2 q
end
end Dw

/-! sorted(a tuple of ints), xs[::k]. -/
namespace Dw
open PySem PySem.Spec PyProof.Rows L2
section
variable {prog : Program} {w : World} {A : Around} {E : Value → Shared → Prop} {s : Shared}
/-- what sorted's own gathering gives of a tuple -/
theorem collect_T {l : Addr} {vs : List Value} {Q : List Value → Shared → Prop} (hl : s.heap.IsTuple l vs.toArray) (hz : vs.length ≤ sizeLine) (h : Q vs { s with heap := (s.heap.push (seqObj "list" #[] 0)).update s.heap.objs.size (Obj.mapSeq (· ++ vs.toArray)) }) : wpAny (model prog w) A (collect (.ref l)) Q E s := by
  obtain ⟨o, ho, hc, n, hd⟩ := id hl; unfold collect
  refine wpAny_bind (wpAny_runValue (codeAny_builtin entry_proto_collect' ?_))
  show wpAny _ _ (do again (.builtin "list.__iadd__" ⟨[← newList [], .ref l], []⟩)) _ _ s; refine wpAny_bind (wpAny_newList (wpAny_pure ⟨Code.quiet_builtin _ (by decide +kernel), codeAny_builtin entry_list_iadd' ?_⟩)); show wpAny _ _ (Builtin.List.listExtendWith (.ref s.heap.objs.size) (.ref l) (.ref s.heap.objs.size)) _ _ { s with heap := s.heap.push (seqObj "list" #[] 0) }; unfold Builtin.List.listExtendWith
  have ho' : (s.heap.push (seqObj "list" #[] 0)).get? l = some o := Heap.get?_push_of_some _ ho
  refine wpAny_bind (wpAny_typeOf (T := "tuple") ⟨o, ho', hc⟩ ?_)
  have ht : (Value.type "tuple" == Value.type "tuple") = true := by rfl
  rw [if_pos (by rw [ht]; simp)]
  refine wpAny_bind (listItems_at ho' hd ?_); refine wpAny_bind (listItems_at (xs := #[]) (n := 0) (Heap.get?_push_size _ rfl) rfl ?_)
  rw [if_neg (by simp)]
  refine wpAny_bind (listUpdate_at (xs := #[]) (n := 0) (Heap.get?_push_size _ rfl) rfl ?_ (Nat.zero_le _) (by show (#[] ++ vs.toArray).size ≤ sizeLine + 1; simp only [Array.size_append, List.size_toArray, List.length_nil]; omega)); refine wpAny_pure ?_
  show wpAny (model prog w) A (do
      let o ← load s.heap.objs.size
      match o.data with
      | .seq xs _ => pure xs.toList
      | _ => unsupported "internal:collect") Q E { s with heap := (s.heap.push (seqObj "list" #[] 0)).update s.heap.objs.size (Obj.mapSeq (· ++ vs.toArray)) }
  refine wpAny_bind (wpAny_load (get?_update_seq (Heap.get?_push_size _ rfl) _) ?_); show wpAny _ _ (pure ((#[] : Array Value) ++ vs.toArray).toList) Q E _
  rw [show ((#[] : Array Value) ++ vs.toArray).toList = vs by simp]; exact wpAny_pure h
theorem sorted_T {l : Addr} {vs : List Value} {ns : List Int} {Q : Value → Shared → Prop} (hl : s.heap.IsTuple l vs.toArray) (hI : IntsAre vs ns) (h64 : vs.length < 64) (h : ∀ (out : Array Value) (ns' : List Int), IntsAre out.toList ns' → ns'.Perm ns → ns'.Pairwise (· ≤ ·) → Q (.ref (s.heap.objs.size + 1)) { s with heap := sortedAll s.heap vs out }) : wpAny (model prog w) A (call (.builtin "sorted") [.ref l]) Q E s := by
  refine Calls.call_function_entry kind_sorted plain_sorted entry_sorted (args_sorted1 _) ?_; unfold Builtin.«sorted»
  refine wpAny_bind (m := checkCount "sorted" 1 1 _) (wpAny_pure ?_); refine wpAny_bind (collect_T hl (small64 h64) ?_); refine wpAny_bind (wpAny_newList ?_)
  have hsz : ((s.heap.push (seqObj "list" #[] 0)).update s.heap.objs.size (Obj.mapSeq (· ++ vs.toArray))).objs.size = s.heap.objs.size + 1 := by rw [Heap.size_update, size_push']
  have hoL : (((s.heap.push (seqObj "list" #[] 0)).update s.heap.objs.size (Obj.mapSeq (· ++ vs.toArray))).push (seqObj "list" vs.toArray 0)).get? (s.heap.objs.size + 1) = some (seqObj "list" vs.toArray 0) := by rw [← hsz]; exact Heap.get?_push_size _ rfl
  show wpAny _ _ _ _ _ { s with heap := ((s.heap.push (seqObj "list" #[] 0)).update s.heap.objs.size (Obj.mapSeq (· ++ vs.toArray))).push (seqObj "list" vs.toArray 0) }; rw [hsz]
  refine wpAny_bind (wpAny_holding (wpAny_call_entry slot_list_sort ⟨_, hoL, rfl⟩ entry_list_sort (list_sort_tree hoL hI h64 fun out ns' a1 a2 a3 => ⟨_, rfl, ?_⟩) (args_list_sort _))); exact wpAny_pure ⟨_, rfl, h out ns' a1 a2 a3⟩
end
/-- sorted(t), t a tuple of ints -/
def rSortT (K : PySem.W.Frag) : List V → Hp → VK → Prop := fun vs H Q => ∃ (a : Addr) (ns : List Int), vs = [V.ref a] ∧ SqT K H a (ns.map V.int) ∧ ns.length < 64 ∧
  ∀ (ns' : List Int) (p : Addr), ns'.Perm ns → ns'.Pairwise (· ≤ ·) → H p = none → Q (.ref p) (upd H p (.lst (ns'.map V.int)))
theorem cr_sortT {X : Cx} : CallR X (.builtin "sorted") (rSortT X.K) := by
  intro pins s σ H vs us Q I r h
  obtain ⟨a, ns, rfl, hs, h64, q⟩ := h
  obtain ⟨its, rv, hl, _⟩ := I.tuple hs
  rw [Vals.ref1 r]
  have hi := rv.ints
  refine sorted_T hl hi (by rw [hi.length]; exact h64) fun out ns' h1 h2 h3 => ?_
  obtain ⟨ep, he'⟩ := PyProof.Rows.sortedAll_at s.heap its out
  have hlen : (ns'.map V.int).length ≤ sizeLine := by rw [List.length_map, h2.length_eq]; exact small64 h64
  exact ⟨.ref _, upd H (s.heap.objs.size + 1) (.lst (ns'.map V.int)), I.laid (t' := s.toks) (fun _ _ => PyProof.Rows.sortedAll_old) (Nat.le_succ _) ⟨hlen, out.toList, ep, vals_of_ints h1, he'⟩, rfl, q ns' _ h2 h3 (I.hok.fresh (Nat.le_succ _))⟩
theorem sortTA {X : Cx} (K : PySem.W.Frag) (hK : X.K = K := by rfl) : CallR X (.builtin "sorted") (rSortT K) := hK ▸ cr_sortT

/-! ### xs[::k] -/
theorem fm_all {α β : Type} {f : α → Option β} {g : α → β} : ∀ {l : List α}, (∀ x ∈ l, f x = some (g x)) → l.filterMap f = l.map g
  | [], _ => rfl
  | a :: l, h => by rw [List.filterMap_cons, h a List.mem_cons_self, List.map_cons, fm_all fun x hx => h x (List.mem_cons_of_mem _ hx)]
theorem pick_m1 (items : Array Value) : slicePick items none none (some (-1)) = items.toList.reverse.toArray := by
  have e : sliceBounds none none (some (-1)) items.size = ((items.size : Int) - 1, -1, -1) := by simp [sliceBounds]
  unfold slicePick
  rw [e]
  congr 1
  have e2 : sliceRange ((items.size : Int) - 1) (-1) (-1) = (List.range items.size).map fun k => items.size - 1 - k := by
    unfold sliceRange
    rw [if_neg (by decide)]
    dsimp only
    have : ((if (items.size : Int) - 1 > -1 then ((items.size : Int) - 1 - -1 - -1 - 1) / (- -1) else 0 : Int)).toNat = items.size := by
      by_cases h : (items.size : Int) - 1 > -1
      · rw [if_pos h]
        have : ((items.size : Int) - 1 - -1 - -1 - 1) / (- -1) = items.size := by
          rw [show (- -1 : Int) = 1 by decide, Int.ediv_one]; omega
        rw [this]; simp
      · rw [if_neg h]; omega
    rw [this]
    apply List.map_congr_left
    intro k hk
    have := List.mem_range.mp hk
    omega
  rw [e2]
  apply List.ext_getElem?
  intro i
  have e3 : ((List.range items.size).map fun k => items.size - 1 - k).filterMap (items[·]?) = (List.range items.size).filterMap fun k => items[items.size - 1 - k]? := by
    rw [List.filterMap_map]; rfl
  simp only [e3]
  have e4 : (List.range items.size).filterMap (fun k => items[items.size - 1 - k]?) = (List.range items.size).map fun k => (items.toList.reverse)[k]?.getD default := by
    refine fm_all fun k hk => ?_
    have hk := List.mem_range.mp hk
    rw [List.getElem?_reverse (by simpa using hk)]
    have h1 : items.size - 1 - k < items.size := by omega
    rw [Array.getElem?_eq_getElem h1]
    simp only [Function.comp, Array.length_toList]
    rw [List.getElem?_eq_getElem (by simpa using h1)]
    simp
  rw [e4, List.getElem?_map]
  by_cases hi : i < items.size
  · rw [List.getElem?_range hi, Option.map_some, List.getElem?_eq_getElem (by simpa using hi)]; rfl
  · rw [List.getElem?_eq_none (by simpa using hi), List.getElem?_eq_none (by simpa using hi)]; rfl
theorem Vals_reverse {xs : List V} {us : List Value} (r : Vals xs us) : Vals xs.reverse us.reverse := by
  induction r with
  | nil => exact .nil
  | cons h r ih => rw [List.reverse_cons, List.reverse_cons]; exact ih.append (.cons h .nil)
/-! ### text * int -/
def rMulS : R2 := fun x y H Q => ∃ i j, x = .str i ∧ y = .int j ∧ MulOk i j ∧ Q (.str (Txt.mul i j)) H
theorem op_mulS {X : Cx} : OpR X (binaryOp .Mult) rMulS := by
  intro pins s σ H x y v u Q I rx ry h
  obtain ⟨i, j, rfl, rfl, hz, q⟩ := h
  obtain ⟨t, rfl⟩ := rx
  obtain ⟨t', rfl⟩ := ry
  exact SB.mul hz fun t' tk => ⟨.str (Txt.mul i j), H, I.tok _, ⟨_, rfl⟩, q⟩
end Dw

/-! while, xs[::k], sorted of a tuple, equality of nested data. -/
namespace Dw
open PySem PySem.Spec PyProof.Rows L2
variable [Tabs0]
section
variable {K : PySem.W.Frag} {Γ : Gam} {ta tb te tk : TE} {De : DE} {ds es : List D} {d : D}
theorem ds_while {c : TT} {tb : TS} (J : Nat → Gam → Prop) (m0 : Nat) (h0 : J m0 Γ)
    (hs : ∀ m Γ', J m Γ' → DlT c Γ' fun b Γ1 => (b = true → Ds tb Γ1 ⟨fun Γ2 => ∃ m', m' < m ∧ J m' Γ2, De.rt, De.nx, fun Γ2 => ∃ m', m' < m ∧ J m' Γ2⟩) ∧ (b = false → De.nx Γ1)) : Ds (tWhile c tb) Γ De := fun F σ W Dr g l => by
  refine ⟨fun m σ' H' => ∃ W' Γ', W'.H = H' ∧ Stp F W W' ∧ SR F Γ' σ' W' ∧ J m Γ', ⟨m0, W, Γ, rfl, .refl _, g, h0⟩, ?_⟩
  rintro m σ' H' ⟨W', Γ', rfl, s', g', j⟩
  refine hs m Γ' j F σ' W' _ g' fun b W1 Γ1 s1 g1 q => ?_
  cases b with
  | false => rw [if_neg (by decide)]; exact l.nx σ' W1 Γ1 (s'.trans s1) g1 (q.2 rfl)
  | true =>
    rw [if_pos rfl]
    refine ⟨fun σ2 H2 => ∃ m', m' < m ∧ ∃ W2 Γ2, W2.H = H2 ∧ Stp F W W2 ∧ SR F Γ2 σ2 W2 ∧ J m' Γ2, fun σ2 H2 q => q, ?_⟩
    have s2 := s'.trans s1
    exact q.1 rfl F σ' W1 _ g1 ⟨fun σ4 W4 Γ4 s4 g4 ⟨m', hm, q⟩ => ⟨m', hm, W4, Γ4, rfl, s2.trans s4, g4, q⟩, fun v W4 d s4 ok4 r4 q => l.rt v W4 d (s2.trans s4) ok4 r4 q, fun σ4 W4 Γ4 s4 g4 q => l.nx σ4 W4 Γ4 (s2.trans s4) g4 q, fun σ4 W4 Γ4 s4 g4 ⟨m', hm, q⟩ => ⟨m', hm, W4, Γ4, rfl, s2.trans s4, g4, q⟩⟩
theorem repL_rev {W : Wd} : ∀ {ds : List D} {vs : List V}, RepL W ds vs → RepL W ds.reverse vs.reverse
  | [], vs, l => by rw [show vs = [] from l]; rfl
  | d :: ds, _, ⟨v, vs, rfl, h, l⟩ => by
    rw [List.reverse_cons, List.reverse_cons]
    exact (repL_rev l).append (RepL.one h)
theorem evn_sortT {ns ms : List Int} (h : Ev ta Γ (.tup (ns.map D.int))) (h64 : ns.length < 64) (hu : ∀ ns' : List Int, ns'.Perm ns → ns'.Pairwise (· ≤ ·) → ns' = ms) : EvN (tCB (rSortT K) (tCons ta tNil)) Γ (ms.map D.int) := fun F σ W Q g k =>
  h F σ W _ g fun v H s ⟨a, vs, ev, e, nu, l⟩ => by
    subst ev
    refine ⟨a, ns, rfl, (RepL.ints.mp l ▸ e.sq), h64, fun ns' p hp hs hn => ?_⟩
    have := hu ns' hp hs
    subst this
    exact k p _ _ (Same.trans s (same_upd hn)) (s.free hn) upd_same (RepL.ints.mpr rfl)
end
/-! ### nested data: what may be compared -/
mutual
def dOk : Nat → D → Bool
  | _, .non => true | _, .bl _ => true | _, .int _ => true | _, .str x => PyData.strOk x
  | 0, _ => false
  | k + 1, .tup ds => dOks k ds | k + 1, .lst ds => dOks k ds | k + 1, .tupN ds => dOks k ds
  | _ + 1, .obj _ _ _ => false | _ + 1, .raw _ => false | _ + 1, .purse => false | _ + 1, .rng _ _ => false | _ + 1, .dct _ _ => false | _ + 1, .scr _ _ => false | _ + 1, .tag _ => false
def dOks : Nat → List D → Bool
  | _, [] => true
  | k, d :: ds => dOk k d && dOks k ds
end
mutual
theorem dOk_py : ∀ (k : Nat) (d : D), dOk k d = true → isPy d = true ∧ PyData.canLay0 (py d) = true ∧ PyData.depth (py d) ≤ k
  | k, .non, _ => ⟨rfl, rfl, Nat.zero_le _⟩
  | k, .bl _, _ => ⟨rfl, rfl, Nat.zero_le _⟩
  | k, .int _, _ => ⟨rfl, rfl, Nat.zero_le _⟩
  | k, .str x, h => ⟨rfl, by cases k <;> exact h, Nat.zero_le _⟩
  | k + 1, .tup ds, h => by
    obtain ⟨h1, h2, h3⟩ := dOks_py k ds h
    exact ⟨h1, h2, Nat.succ_le_succ h3⟩
  | k + 1, .lst ds, h => by
    obtain ⟨h1, h2, h3⟩ := dOks_py k ds h
    exact ⟨h1, h2, Nat.succ_le_succ h3⟩
  | k + 1, .tupN ds, h => by
    obtain ⟨h1, h2, h3⟩ := dOks_py k ds h
    exact ⟨h1, h2, Nat.succ_le_succ h3⟩
  | 0, .tupN _, h => nomatch h
  | 0, .tup _, h => nomatch h
  | 0, .lst _, h => nomatch h
  | 0, .obj _ _ _, h => nomatch h
  | 0, .raw _, h => nomatch h
  | 0, .purse, h => nomatch h
  | 0, .rng _ _, h => nomatch h
  | 0, .dct _ _, h => nomatch h
  | 0, .scr _ _, h => nomatch h
  | 0, .tag _, h => nomatch h
  | _ + 1, .obj _ _ _, h => nomatch h
  | _ + 1, .raw _, h => nomatch h
  | _ + 1, .purse, h => nomatch h
  | _ + 1, .rng _ _, h => nomatch h
  | _ + 1, .dct _ _, h => nomatch h
  | _ + 1, .scr _ _, h => nomatch h
  | _ + 1, .tag _, h => nomatch h
theorem dOks_py : ∀ (k : Nat) (ds : List D), dOks k ds = true → isPys ds = true ∧ PyData.canLayAll0 (pys ds) = true ∧ PyData.depthAll (pys ds) ≤ k
  | k, [], _ => ⟨rfl, rfl, Nat.zero_le _⟩
  | k, d :: ds, h => by
    have h : (dOk k d && dOks k ds) = true := by cases k <;> exact h
    rw [Bool.and_eq_true] at h
    obtain ⟨a1, a2, a3⟩ := dOk_py k d h.1
    obtain ⟨b1, b2, b3⟩ := dOks_py k ds h.2
    exact ⟨by show (isPy d && isPys ds) = true; rw [a1, b1]; rfl, by show (PyData.canLay0 (py d) && PyData.canLayAll0 (pys ds)) = true; rw [a2, b2]; rfl, Nat.max_le.mpr ⟨a3, b3⟩⟩
end
theorem dOk_shaped {k : Nat} {d : D} (h : dOk k d = true) (hk : k ≤ 64) : isPy d = true ∧ SeqAt.shaped (py d) = true := by
  obtain ⟨h1, h2, h3⟩ := dOk_py k d h
  refine ⟨h1, ?_⟩
  show (PyData.canLay0 (py d) && decide (PyData.depth (py d) ≤ 64)) = true
  rw [h2, decide_eq_true (Nat.le_trans h3 hk)]; rfl
theorem dOks_map {α : Type} {k : Nat} {f : α → D} : ∀ {l : List α}, (∀ x ∈ l, dOk k (f x) = true) → dOks k (l.map f) = true
  | [], _ => by cases k <;> rfl
  | x :: l, h => by
    have e : dOks k ((x :: l).map f) = (dOk k (f x) && dOks k (l.map f)) := by cases k <;> rfl
    rw [e, h x List.mem_cons_self, dOks_map fun y hy => h y (List.mem_cons_of_mem _ hy)]; rfl
section
variable {K : PySem.W.Frag} {d : D} {ds es : List D} {k : Nat}
theorem eq_self (h : dOk k d = true) (hk : k ≤ 64) : DR2 (rEqX K) d d (.bl true) := by
  obtain ⟨h1, h2⟩ := dOk_shaped h hk
  have := eq_deep (K := K) h1 h1 h2 h2
  rw [SeqAt.eqv_refl _ (dOk_py k d h).2.1] at this
  exact this
theorem ne_self (h : dOk k d = true) (hk : k ≤ 64) : DR2 (rNeX K) d d (.bl false) := by
  obtain ⟨h1, h2⟩ := dOk_shaped h hk
  have := ne_deep (K := K) h1 h1 h2 h2
  rw [SeqAt.eqv_refl _ (dOk_py k d h).2.1] at this
  exact this
end
section
variable {K : PySem.W.Frag} {Γ : Gam} {ta tb : TE}
theorem ev_neg {i : Int} (h : Ev ta Γ (.int i)) : Ev (tUn (rU fun i => .int (-i)) ta) Γ (.int (-i)) := ev_un h fun W u Q dom r k => ⟨i, r, k _ _ (Same.refl _) rfl⟩
/-- whole numbers in a list -/
def ordN (o : List Nat) : List D := o.map fun (k : Nat) => D.int k
theorem inV_ord (c : Nat) : ∀ l : List Nat, inV (.int (c : Int)) ((ordN l).map scV) = decide (c ∈ l)
  | [] => rfl
  | b :: l => by
    show ((decide ((b : Int) = (c : Int))) || inV (.int (c : Int)) ((ordN l).map scV)) = _
    rw [inV_ord c l, Bool.eq_iff_iff]
    simp only [Bool.or_eq_true, decide_eq_true_eq, List.mem_cons, Int.natCast_inj]
    constructor
    · rintro (h | h)
      · exact .inl h.symm
      · exact .inr h
    · rintro (h | h)
      · exact .inl h.symm
      · exact .inr h
theorem sc_ord (l : List Nat) : (ordN l).all isSc = true := by
  unfold ordN
  rw [List.all_map, List.all_eq_true]
  exact fun _ _ => rfl
end
end Dw

/-! sorted(set(t)), t a tuple of ints. -/
namespace Dw
open PySem PySem.Spec PyProof.Rows L2
variable [Tabs0]
section
variable {K : PySem.W.Frag} {w : World} {Γ : Gam} {ta : TE}
end
section
variable {K : PySem.W.Frag} {Γ : Gam} {ta : TE} {xs : List D}
end
end Dw

/-! repr of data: it asks that no other repr is under way (guards), so the defs that call it have a promise of their own. -/
namespace Dw
open PySem PySem.Spec PyProof.Rows L2
variable [Tabs0]
/-- as FnOk, but only where no repr is under way -/
def FnG (P : Program) (w : World) (K : PySem.W.Frag) (mg : Str → Option Value) (base : Heap) (k : Nat) (f : Addr) (fd : FuncData) (ps : List Str) (s : Spc) : Prop :=
  (∀ x, (s.args x).length = ps.length) ∧ ∀ (A : Around) (outer : List Env) (sh : Shared) (H : Hp) (args : Args) (us : List Value) (vs : List V) (Q : VK) (E : XK), Room k A → A.guards = some [] → Env0 P w K mg base A outer sh H → BindsTo sh fd args (ps.zip us) → Vals vs us → toSp s vs H Q E → codeAny (model P w) A (.call (.ref f) args) (CR CX0 outer P w H sh Q E) sh
section
variable {P : Program} {w : World} {K : PySem.W.Frag} {mg : Str → Option Value} {base : Heap}
theorem cells_in {N ps : List Str} {sc : Scope} {n : Nat} (S : FnScope N ps sc) (us : List Value) : ∀ y ∈ ps.zip us, sc.names.lookup y.1 = some .local ∨ (sc.names.lookup y.1 = some .cell ∧ ((cellsFrom n sc.names []).lookup y.1).isSome = true) := by
  rintro ⟨a, b⟩ hy
  exact (S.par a (List.of_mem_zip hy).1).imp id fun q => ⟨q, PySem.W.cellsFrom_some _ _ _ (.inl q)⟩
theorem fnG_ok {x qual : Str} {st : Stmt} {f : Addr} {fd : FuncData} {N ps : List Str} {k : Nat} {s : Spc} (F : Fun K x qual st f fd) (S : FnScope N ps (defScope st)) (len : ∀ x, (s.args x).length = ps.length)
    (hbody : ∀ (cdv : Value) (A : Around) (outer : List Env) (s' : Shared) (H : Hp) (E : XK), Room k (A.deeper (envOfC qual (defScope st) s'.heap.objs.size f cdv)) → (A.deeper (envOfC qual (defScope st) s'.heap.objs.size f cdv)).guards = some [] →
      ∃ t, PSs (cxOf CX0 P w K mg base N qual (defScope st) f cdv A outer s' H E).nox (defBody st) t ∧ ∀ x, s.ok x → Ds t (Gz0 N.length (s.args x)) ⟨fun _ => s.rel x .non, s.rel x, fun _ => False, fun _ => False⟩) : FnG P w K mg base (k + 1) f fd ps s := by
  obtain ⟨oc, od, kV, doc, pm, an, cdv, ct, osl, rfl, lk, hcd⟩ := F.ex
  refine ⟨len, fun A outer sh H args us vs Q E hr hg e0 hb r hsp => ?_⟩
  obtain ⟨t, p, hd⟩ := hbody cdv A outer sh H E (hr.deeper _) hg
  have old : ∀ b o, base.get? b = some o → sh.heap.get? b = some o := fun b o e => (e0.bs b o e).1
  have KX := e0.mod.kin.keeps old
  refine codeAny_call_function hr.depth (KX _ _ lk) rfl S.co S.gen rfl (PySem.W.codeRec_of KX hcd) (hb _ _ _ _ (wpAny_newFunctionEnv_cells S.kind (cells_in S us) ?_))
  rintro env rfl s1 x1
  refine ⟨(e0.mod.nolimit.keeps old).keeps x1.toInCall.keep, codeAny_func (wpAny_mono (p.nox.run [] s1 _ H _ (inv_start S hr.hd e0 (spc_len len _ _ _ _ hsp) r x1) (body_of hsp hd)) (fun fl s' hs => ?_) fun _ _ z => z)⟩
  have done : ∀ {σ' : L2.St} {H' : Hp} {v : V} {u : Value}, Inv (cxOf CX0 P w K mg base N qual (defScope st) f cdv A outer sh H E) [] σ' H' s' → RelV v u → Q v H' → CE outer P w H sh Q u s' := fun {_ H' v _} J rv q => ⟨v, H', J.os, J.bare, J.base, J.hok, rv, q⟩
  match fl, hs with
  | .ret _, ⟨_, _, _, J, rv, q⟩ => exact done J rv q
  | .next, ⟨_, _, J, q⟩ => exact done (v := .non) (u := .none) J rfl q
  | .brk, ⟨_, _, _, q⟩ => exact q.elim
  | .cont, ⟨_, _, _, q⟩ => exact q.elim
section
variable {X : Cx} {k : Nat} {f : Addr} {fd : FuncData} {ps : List Str} {s : Spc} {E : XK} {x : Str} {p pos : Pos} {e : Expr} {es : List Expr} {t : TA}
theorem pe_callG (F : FnG X.prog X.w X.K X.mg X.base k f fd ps s) (hr : Room k X.A) (hG : X.A.guards = some []) (hg : Gl X x) (hm : X.mg x = some (.ref f)) (hk : PySem.W.keepIn X.K (.ref f) = true) (hb : Binds X.K fd ps []) (ha : PA X (e :: es) t)
    (hdb : (x == ("__debug__" : Str)) = false := by decide) (he : starEach (e :: es) X.env = (false, eval e X.env) :: starEach es X.env := by rfl) (hpl : (backTo pos (starEach es X.env)).any (·.1) = false := by rfl) : PE X (.Call (.Name x p) (e :: es) [] pos) (tCall (toSp s) [] E t) := by
  refine ⟨fun pins s1 σ H Q I h => wpAny_Call_Name_kw (ld_glob I hg hm (PySem.W.callWith_K (h₀ := X.base) I.ok.mod.kin hk (thn (ha.run pos pins s1 σ H _ I h) fun us s2 ⟨vs, H1, I1, r, q⟩ => ⟨I1.kIn, ?_⟩) he hpl) hdb)⟩
  have q : toSp s vs H1 Q E := by rw [← List.append_nil vs]; exact q
  have hb := hb s2 us I1.kIn (by rw [List.append_nil, ← r.length]; exact spc_len F.1 _ _ _ _ q)
  rw [List.append_nil] at hb
  refine wpAny_call (codeAny_mono (F.2 X.A X.stack s2 H1 ⟨us, []⟩ us vs Q E hr hG I1.env0 hb r q) fun res s3 hq => ?_)
  match res, hq with
  | .error _, hq => exact (show False from hq).elim
  | .ok (.ret _), hq => exact I1.after hq
  | .ok .next, hq => exact (show False from hq).elim
  | .ok .brk, hq => exact (show False from hq).elim
  | .ok .cont, hq => exact (show False from hq).elim
end
end
/-! ### repr -/
mutual
/-- what can be shown -/
def shOk : D → Bool
  | .non => true | .bl _ => true | .int i => PyData.showable (.int i) | .str x => PyData.showable (.str x)
  | .tup ds => shOks ds | .lst ds => shOks ds | .tupN ds => shOks ds | _ => false
def shOks : List D → Bool
  | [] => true
  | d :: ds => shOk d && shOks ds
end
mutual
theorem shOk_py : ∀ d : D, shOk d = true → PyData.showable (py d) = true ∧ PyData.hasDict (py d) = false
  | .non, _ => ⟨rfl, rfl⟩
  | .bl _, _ => ⟨rfl, rfl⟩
  | .int _, h => ⟨h, rfl⟩
  | .str _, h => ⟨h, rfl⟩
  | .tup ds, h => shOks_py ds h
  | .lst ds, h => shOks_py ds h
  | .tupN ds, h => shOks_py ds h
  | .obj _ _ _, h => nomatch h
  | .raw _, h => nomatch h
  | .purse, h => nomatch h
  | .rng _ _, h => nomatch h
  | .dct _ _, h => nomatch h
  | .scr _ _, h => nomatch h
  | .tag _, h => nomatch h
theorem shOks_py : ∀ ds : List D, shOks ds = true → PyData.showableAll (pys ds) = true ∧ PyData.hasDictAll (pys ds) = false
  | [], _ => ⟨rfl, rfl⟩
  | d :: ds, h => by
    have h : (shOk d && shOks ds) = true := h
    rw [Bool.and_eq_true] at h
    obtain ⟨a1, a2⟩ := shOk_py d h.1
    obtain ⟨b1, b2⟩ := shOks_py ds h.2
    exact ⟨by show (PyData.showable (py d) && PyData.showableAll (pys ds)) = true; rw [a1, b1]; rfl, by show (PyData.hasDict (py d) || PyData.hasDictAll (pys ds)) = false; rw [a2, b2]; rfl⟩
end
section
variable {K : PySem.W.Frag} {Γ : Gam} {ta : TE} {ds : List D} {k : Nat}
end
/-! ### the head, where the law's def has such a promise -/
section
variable {P : Program} {w : World} {K : PySem.W.Frag} {mg mb : Str → Option Value} {k : Nat} {fa a : Addr} {fd : FuncData} {x : Str} {s1 : Shared} {vs : List Value} {ns : List Int} {sp : Spc}
/-- what is tracked at the head: the script, unless the module has it -/
def headH (K : PySem.W.Frag) (a : Addr) (vs : List Value) (ns : List Int) : Hp := fun b => if b = a ∧ K.lookup a = none then some (.frz { cls := .type "list", data := .seq vs.toArray } (.lst (ns.map V.int))) else none
theorem headH_none {b : Addr} (h : b ≠ a) : headH K a vs ns b = none := if_neg fun z => h z.1
end
end Dw

/-! Bits, sums, xs[k] = v, x |= y, reversed(range(n)). -/
namespace Dw
open PySem PySem.Spec PyProof.Rows L2
variable [Tabs0]
section
variable {K : PySem.W.Frag} {Γ : Gam} {ta tb te tk : TE} {De : DE} {ds : List D} {d : D}
abbrev rShl : R2 := rI CPow fun i j => .int (i * 2 ^ j.toNat)
abbrev rOrB : R2 := rI0 fun i j => .int (Builtin.bitOr i j)
abbrev rAndB : R2 := rI0 fun i j => .int (Builtin.bitAnd i j)
theorem dr2_shl1 {k : Nat} (h : k ≤ 1000) : DR2 rShl (.int 1) (.int k) (.int ((2 ^ k : Nat) : Int)) := dr2_rI ⟨by omega, by omega, by decide⟩ fun W => by
  show V.int (1 * 2 ^ (k : Int).toNat) = V.int ((2 ^ k : Nat) : Int)
  rw [Int.one_mul, Int.toNat_natCast, Int.natCast_pow]; rfl
theorem dr2_or {a b : Nat} : DR2 rOrB (.int a) (.int b) (.int ((a ||| b : Nat) : Int)) := dr2_rI0 fun W => by
  show V.int (Builtin.bitOr a b) = V.int ((a ||| b : Nat) : Int)
  rw [Bits.bitOr_pp (by omega) (by omega)]; rfl
theorem dr2_and {a b : Nat} : DR2 rAndB (.int a) (.int b) (.int ((a &&& b : Nat) : Int)) := dr2_rI0 fun W => by
  show V.int (Builtin.bitAnd a b) = V.int ((a &&& b : Nat) : Int)
  rw [bitAnd_pp (by omega) (by omega)]; rfl
theorem ev_sum {ns : List Int} (h : EvB ta Γ (ns.map D.int)) : Ev (tCB (rSum K) (tCons ta tNil)) Γ (.int ns.sum) := fun F σ W Q g k => h F σ W _ g fun p vs H s e l => ⟨p, ns, rfl, .of (by rw [e, RepL.ints.mp l]), k _ H s rfl⟩
theorem repL_rep {W : Wd} {vs : List V} (l : RepL W ds vs) : ∀ n : Nat, RepL W (List.replicate n ds).flatten (List.replicate n vs).flatten
  | 0 => rfl
  | n + 1 => by
    rw [List.replicate_succ, List.replicate_succ, List.flatten_cons, List.flatten_cons]
    exact l.append (repL_rep l n)
/-- xs * n, a new list -/
theorem evn_rep {n : Nat} (h : EvB ta Γ ds) (hn : Ev tb Γ (.int n)) (hz : ds.length * n ≤ sizeLine) (hb : n < 2 ^ 63) : EvN (tOp rTimes ta tb) Γ (List.replicate n ds).flatten := fun F σ W Q g k =>
  h F σ W _ g fun a vs H s e l => hn F σ (W.at H) _ (g.same s) fun u H2 s2 r => .inr ⟨a, n, vs, rfl, r, s2 _ _ e, by omega, by omega, by rw [← l.length, Int.toNat_natCast]; exact hz, fun p hp => by
    rw [Int.toNat_natCast]
    exact k p _ _ (Same.trans s (Same.trans s2 (same_upd hp))) (s.free (s2.free hp)) upd_same (RepL.plus (W := W.at H2) hp (same_upd hp) (repL_rep (RepL.same (W := W.at H) s2 l) n))⟩
/-- xs[k] = v, an own list -/
theorem ds_sub {i : Nat} (h0 : ∃ ds, Γ[i]? = some (.own ds)) (h : Dl te Γ fun d Γ1 => ∃ (ds : List D) (k : Nat), Γ1[i]? = some (.own ds) ∧ Ev tk Γ1 (.int k) ∧ k < ds.length ∧ De.nx (Γ1.set i (.own (ds.set k d)))) : Ds (tAsg te (gSub (tVar i) tk rSetL)) Γ De := fun F σ W Dr g l =>
  h F σ W _ g fun v W1 d Γ1 st g1 r ⟨ds, k, e1, hk, lt, q⟩ => by
    obtain ⟨a, vs, hs, u, f, p, q1, r1⟩ := g1.own i ds e1
    refine ⟨.ref a, hs, hk F σ W1 _ g1 fun w H2 s2 rk => ?_⟩
    have g2 := g1.same s2
    obtain ⟨a', vs', hs', _, _, _, q2, r2⟩ := g2.own i ds e1
    rw [hs] at hs'; cases hs'
    have hl : (k : Int) < (vs'.length : Int) := by rw [← r2.length]; omega
    obtain ⟨st3, g3⟩ := g2.write e1 hs (r2.set (r.same (W := W1) s2) k)
    refine ⟨a, vs', k, k, rfl, rk, q2, ?_, l.nx σ _ _ (st.trans ((Stp.of_same g1.ok s2).trans st3)) g3 q⟩
    unfold ixN
    rw [if_pos (by omega), if_pos hl]; rfl
/-- x |= y -/
theorem ds_orI {i a b : Nat} (h0 : Γ[i]? = some (.val (.int a))) (h : Ev te Γ (.int b)) (q : De.nx (Γ.set i (.val (.int ((a ||| b : Nat) : Int))))) : Ds (tAug i te rOrB) Γ De := fun F σ W Dr g l => by
  obtain ⟨v, e, r⟩ := g.val i _ h0
  refine ⟨v, e, h F σ W _ g fun u H s ru => ⟨a, b, r, ru, ?_⟩⟩
  have e2 : Builtin.bitOr (a : Int) (b : Int) = ((a ||| b : Nat) : Int) := by rw [Bits.bitOr_pp (by omega) (by omega)]; rfl
  show Dr.nx (σ.set i (some (V.int (Builtin.bitOr a b)))) H
  rw [e2]
  exact l.nx _ (W.at H) _ (Stp.of_same g.ok s) ((g.same s).set (d := .int ((a ||| b : Nat) : Int)) rfl) q
theorem di_rev {n : Nat} {Q : List D → Gam → Prop} (h : Ev ta Γ (.int n)) (hn : n < 2 ^ 62) (q : Q (rng n).reverse Γ) : Di (iRevR (tRg1 ta)) Γ Q := fun F σ W R g k => h F σ W _ g fun v H s r => by
  refine ⟨n, r, by omega, by omega, by omega, by omega, ?_⟩
  have hn0 : ((n : Int) - 0).toNat = n := by omega
  refine k (Itc (0 + (((((n : Int) - 0).toNat : Nat) : Int)) - 1) (-1) ((n : Int) - 0).toNat) (W.at H) _ Γ (Stp.of_same g.ok s) (g.same s) ⟨fun W2 i x s2 ok2 hx => ?_, fun W2 s2 ok2 => ?_⟩ q
  · have hi : i < n := by
      have := (List.getElem?_eq_some_iff.mp hx).1
      rw [List.length_reverse, rng_length] at this
      exact this
    rw [List.getElem?_reverse (by rw [rng_length]; exact hi), rng_length] at hx
    obtain ⟨_, rfl⟩ := rng_get hx
    refine ⟨by show i < _; omega, fun u H' ⟨e, hy⟩ => ?_⟩
    subst e hy
    refine ⟨Same.refl _, ?_⟩
    show V.int _ = V.int _
    congr 1
    omega
  · show _ ≤ _
    rw [List.length_reverse, rng_length]; omega
end
end Dw

/-! for i, c in enumerate(a text). -/
namespace Dw
open PySem PySem.Spec PyProof.Rows L2
variable [Tabs0]
/-- each sign of x in a new pair -/
def IteS (x : Str) : It :=
  ⟨fun i _ => i < x.cps.size, fun i H v H' => ∃ T c, v = .ref T ∧ H T = none ∧ H' = upd H T (.tup [.int (i : Nat), .str ⟨#[c]⟩]) ∧ x.cps[i]? = some c, fun i _ => x.cps.size ≤ i⟩
theorem turn_enumS {P : Program} {w : World} {K : PySem.W.Frag} {elts : List Expr} {kk : Nat} {tpos : Pos} (x : Str) (t0 : Tok) (e it : Addr) (nei : e ≠ it) :
    Turn P w K (.Tuple elts kk tpos) (IteS x) [e, it] e (fun i h => (∃ old, IsEnum h e it ((0 : Int) + (i : Int)) old) ∧ h.IsStrIter it (strIterType x) x t0 i ∧ i ≤ x.cps.size) where
  mem := by simp
  obj := fun i h ⟨⟨old, he⟩, ⟨o, ho, hc, hd⟩, _⟩ b hb => by
    rcases (show b = e ∨ b = it by simpa using hb) with z | z
    · subst z; exact ⟨_, he, fun v q => nomatch q⟩
    · subst z; exact ⟨o, ho, fun v q => by rw [hd] at q; cases q⟩
  keep := fun i h h' ⟨⟨old, he⟩, ⟨o, ho, r⟩, hl⟩ k => ⟨⟨old, k e (by simp) _ he⟩, ⟨o, k it (by simp) o ho, r⟩, hl⟩
  item := by
    intro X hP hw hK hc i pins s σ H E I hf st hg
    subst hP; subst hw; subst hK
    have G := GoesN.enumFrom (prog := X.prog) (w := X.w) (A := X.A) (elts := elts) (x1 := kk) (pos := tpos) 0 (Draws.text (A := X.A.in1) (I.ok.hd hc) it x t0) e nei (by simp [nei]) (by simp)
    refine thn (G.goes i s (fun v s2 => ∃ T t c u, v = Value.ref T ∧ s.heap.objs.size ≤ T ∧ x.cps[i]? = some c ∧ s2.heap.IsTuple T #[.int ((0 : Int) + (i : Int)) t, .str ⟨#[c]⟩ u] ∧
        (∃ old, IsEnum s2.heap e it ((0 : Int) + ((i + 1 : Nat) : Int)) old) ∧ s2.heap.IsStrIter it (strIterType x) x t0 (i + 1) ∧ (∀ b o, b ∉ [e, it] → s.heap.get? b = some o → s2.heap.get? b = some o) ∧ ∃ h' tk, s2 = { s with heap := h', toks := tk }) E hg ⟨st.1, st.2.1⟩
      fun v h' tk ⟨T, t, y, ev, hT, ⟨c, u, hy, ey⟩, htu⟩ ⟨ho, hit⟩ kp _ => ⟨T, t, c, u, ev, hT, hy, by rw [← ey]; exact htu, ho, hit, kp, h', tk, rfl⟩) fun r s1 ⟨v, er, hv⟩ => ⟨v, er, thn hv fun _ s2 ⟨T, t, c, u, ev, hT, hy, htu, ho, hit, kp, h', tk, es⟩ => ?_⟩
    subst es; subst ev
    have new : ObjOk X.prog X.w (upd H T (.tup [.int (i : Nat), .str ⟨#[c]⟩])) h' T (.tup [.int (i : Nat), .str ⟨#[c]⟩]) :=
      ⟨by show 2 ≤ sizeLine; decide, [.int ((0 : Int) + (i : Int)) t, .str ⟨#[c]⟩ u], .cons ⟨t, by rw [Int.zero_add]⟩ (.cons ⟨u, rfl⟩ .nil), htu⟩
    have I1 : Inv X pins σ (upd H T (.tup [.int (i : Nat), .str ⟨#[c]⟩])) { s with heap := h', toks := tk } := I.turnedNew (ch := [e, it]) kp hf hT new
    refine ⟨.ref T, _, I1, rfl, ⟨T, c, rfl, I.hok.fresh hT, rfl, hy⟩, ⟨ho, hit, hg⟩, fun b hb => ?_⟩
    have lt : b ≠ T := by
      rcases (show b = e ∨ b = it by simpa using hb) with z | z
      · obtain ⟨old, he⟩ := st.1
        rw [z]; exact Nat.ne_of_lt (Nat.lt_of_lt_of_le (Heap.lt_size he) hT)
      · obtain ⟨o, q, _⟩ := st.2.1
        rw [z]; exact Nat.ne_of_lt (Nat.lt_of_lt_of_le (Heap.lt_size q) hT)
    rw [upd_ne lt]
    exact (hf b hb).1
  done := by
    intro X hP hw hK hc i pins s σ H E I hf st hg
    subst hP; subst hw; subst hK
    have G := GoesN.enumFrom (prog := X.prog) (w := X.w) (A := X.A) (elts := elts) (x1 := kk) (pos := tpos) 0 (Draws.text (A := X.A.in1) (I.ok.hd hc) it x t0) e nei (by simp [nei]) (by simp)
    have en : x.cps.size = i := Nat.le_antisymm hg st.2.2
    rw [en] at G
    exact G.stops s _ E ⟨st.1, st.2.1⟩ fun h' tk kp _ => inv_turned I kp hf
  self := fun A i s Q E ⟨⟨_, he⟩, _⟩ h => wpAny_pyIter_enum he h
def iEnumS (ta : TA) : TI := fun σ H R => ta σ H fun vs H1 => ∃ x, vs = [.str x] ∧ R (IteS x) H1
theorem pi_enumS {X : Cx} {e : Expr} {ta : TA} {p pos tpos : Pos} {elts : List Expr} {kk : Nat} (hg : Gl X "enumerate") (hm : X.mg "enumerate" = none) (ha : PA X [e] ta) (hs : starEach [e] X.env = [(false, eval e X.env)] := by rfl) :
    PI X (.Tuple elts kk tpos) (.Call (.Name "enumerate" p) [e] [] pos) (iEnumS ta) := by
  refine ⟨fun pins s σ H R I h => ?_⟩
  refine Call_ (ld_blt I hg hm boot_enumerate (callWith_type1 (thn (ha.run pos pins s σ H _ I h) fun us s1 ⟨vs, H1, I1, r1, q1⟩ => ?_) hs rfl))
  obtain ⟨x, ex, q⟩ := q1
  subst ex
  obtain ⟨u, eu, ru⟩ := vals1 r1
  subst eu
  obtain ⟨t, rfl⟩ := ru
  refine call_enumerate_str fun h' he hit hsz hk => wpAny_pyIter_enum he ?_
  refine ⟨s1.heap.objs.size + 1, [s1.heap.objs.size + 1, s1.heap.objs.size], _, _, H1, rfl, I1.kept (t' := s1.toks) hk, turn_enumS x t (s1.heap.objs.size + 1) s1.heap.objs.size (Nat.succ_ne_self _), ⟨⟨_, he⟩, hit, Nat.zero_le _⟩, fun b hb => ?_, q⟩
  have hle : s1.heap.objs.size ≤ b := by
    rcases (show b = s1.heap.objs.size + 1 ∨ b = s1.heap.objs.size by simpa using hb) with z | z
    · rw [z]; exact Nat.le_succ _
    · rw [z]; exact Nat.le_refl _
  exact I1.fpOk hle (I1.hok.fresh hle)
theorem enumSA {X : Cx} {e : Expr} {ta : TA} {p pos tpos : Pos} {elts : List Expr} {kk : Nat} (hg : Gl X "enumerate") (hm : X.mg "enumerate" = none) (ha : PA X [e] ta) (hs : starEach [e] X.env = [(false, eval e X.env)] := by rfl) :
    PI X (.Tuple elts kk tpos) (.Call (.Name "enumerate" p) [e] [] pos) (iEnumS ta) := pi_enumS hg hm ha hs
section
variable {K : PySem.W.Frag} {Γ : Gam} {ta : TE}
theorem itS {W : Wd} {x : Str} : ∀ (W2 : Wd) (i : Nat) (d : D), (enumD (signs x))[i]? = some d → (∀ a, W2.U a → W2.H a ≠ none) → (IteS x).go i W2.H ∧ ∀ u H', (IteS x).yld i W2.H u H' → Same W2.H H' ∧ Rep (W2.at H') d u := fun W2 i d hx dm => by
  obtain ⟨y, hy, rfl⟩ := enumD_get hx
  obtain ⟨_, c, hc, rfl⟩ := signs_get hy
  refine ⟨(Array.getElem?_eq_some_iff.mp hc).1, fun u H' ⟨T, z, eu, hT, eH, hz⟩ => ?_⟩
  subst eu; subst eH
  rw [hc] at hz; cases hz
  exact ⟨same_upd hT, rep_new_tup dm hT ⟨_, _, rfl, rfl, _, _, rfl, rfl, rfl⟩⟩
theorem enumS_len (x : Str) : (enumD (signs x)).length = x.cps.size := by
  rw [enumD_length]
  unfold signs
  rw [List.length_map, Array.length_toList]
theorem ei_enumS {x : Str} (h : Ev ta Γ (.str x)) : Ei (iEnumS (tCons ta tNil)) Γ (enumD (signs x)) := fun F σ W R g k => h F σ W _ g fun v H s r => by
  refine ⟨x, by rw [show v = V.str x from r], k (IteS x) H s ⟨fun W2 i d dm s2 ku pu hx => itS (W := W) W2 i d hx dm, fun H2 s2 => ?_⟩⟩
  show x.cps.size ≤ _
  rw [enumS_len]; exact Nat.le_refl _
end
end Dw

/-! *xs in a display, o.m(..). -/
namespace Dw
open PySem PySem.Spec PyProof.Rows L2
variable [Tabs0]
section
variable {K : PySem.W.Frag} {Γ : Gam} {ta te : TE} {t : TA} {ds es : List D} {d : D} {C : Addr} {s : Spc} {E : XK}
end
end Dw

/-! a, b, c = x, y, z. -/
namespace Dw
open PySem PySem.Spec PyProof.Rows L2
variable [Tabs0]
end Dw

/-! enumerate of a list that draws go on beside, not, sign * n. -/
namespace Dw
open PySem PySem.Spec PyProof.Rows L2
variable [Tabs0]
section
variable {K : PySem.W.Frag} {Γ : Gam} {ta t : TE}
theorem mul_okS {s : Str} {c n : Nat} (hc : (s = Str.ofString "+" ∧ c = 43) ∨ (s = Str.ofString "-" ∧ c = 45) ∨ (s = Str.ofString "." ∧ c = 46)) (h : n ≤ 8) : MulOk s (n : Int) ∧ Txt.mul s (n : Int) = tx (List.replicate n c) := by
  have hn : n = 0 ∨ n = 1 ∨ n = 2 ∨ n = 3 ∨ n = 4 ∨ n = 5 ∨ n = 6 ∨ n = 7 ∨ n = 8 := by omega
  unfold MulOk
  rcases hc with ⟨rfl, rfl⟩ | ⟨rfl, rfl⟩ | ⟨rfl, rfl⟩ <;> rcases hn with rfl | rfl | rfl | rfl | rfl | rfl | rfl | rfl | rfl <;> exact ⟨by decide +kernel, by decide +kernel⟩
theorem mul_sign {s : Str} {c n : Nat} (hc : (s = Str.ofString "+" ∧ c = 43) ∨ (s = Str.ofString "-" ∧ c = 45) ∨ (s = Str.ofString "." ∧ c = 46)) (h : n ≤ 8) : DR2 rMulS (.str s) (.int n) (.str (tx (List.replicate n c))) := dr2_flat fun W u v Q a b k => ⟨_, _, a, b, (mul_okS hc h).1, k _ (by rw [(mul_okS hc h).2]; rfl)⟩
/-! equality of lists of whole numbers, deep -/
theorem eqv_ints : ∀ a b : List Nat, PyData.eqvAll (pys (ordN a)) (pys (ordN b)) = decide (a = b)
  | [], [] => rfl
  | [], y :: ys => by
    show false = _
    simp
  | x :: xs, [] => by
    show false = _
    simp
  | x :: xs, y :: ys => by
    show ((((x : Nat) : Int) == ((y : Nat) : Int)) && PyData.eqvAll (pys (ordN xs)) (pys (ordN ys))) = _
    rw [eqv_ints xs ys, Bool.eq_iff_iff]
    simp
    intro _
    omega
end
end Dw

/-! first, *rest = a tuple; t[::-1]; t[a:b] of any bounds; x in a dict of the module; the head with the bits of the script. -/
namespace Dw
open PySem PySem.Spec PyProof.Rows L2
variable [Tabs0]
/-! ### first, *rest = t -/
theorem unpack_star1T {prog : Program} {w : World} {A : Around} {E : Value → Shared → Prop} {s : Shared} {l : Addr} {b : Value} {its : List Value} {Q : List Value → Shared → Prop} (hl : IsTup s.heap l (b :: its).toArray) (hh : A.handled = none)
    (hz : its.length ≤ 16000) (h : ∀ (h1 : Heap) (tk : Nat), (∀ c o, s.heap.get? c = some o → h1.get? c = some o) → Q [b, .ref h1.objs.size] { s with heap := h1.push { cls := .type "list", data := .seq its.toArray }, toks := tk }) :
    wpAny (model prog w) A (unpackItems (.ref l) 2 (some 1)) Q E s := by
  have lt : l < s.heap.objs.size := by obtain ⟨o, ho, _⟩ := hl; exact Heap.lt_size ho
  have ne : l ≠ s.heap.objs.size := Nat.ne_of_lt lt
  unfold unpackItems notIterableAtAll
  refine wpAny_bind (wpAny_bind (wpAny_specialOf hl.typeIs slot_tuple_iter.lookup (wpAny_pure ?_)))
  simp only [Bool.false_eq_true, if_false]
  refine wpAny_bind (wpAny_holding (iter_tuple hl ?_))
  refine wpAny_bind (wpAny_holding (draw_tuple ne 1 0 _ _ ⟨_, Heap.get?_push_size _ rfl, rfl, rfl⟩ (hl.push _) (by simp) fun ha hit hs => ?_))
  have hla : IsTup ha l (b :: its).toArray := (hl.push _).extBut hs.extBut ne
  rw [Nat.zero_add] at hit
  obtain ⟨oi, hoi, _⟩ := id hit
  obtain ⟨ol, hol, _⟩ := id hla
  rw [if_neg (show ¬ (((b :: its).toArray.toList.drop 0).take 1).length < 1 by simp)]
  refine wpAny_bind (wpAny_holding (PySem.W.kun_collect (s := { s with heap := ha }) (T := "tuple_iterator") (.inr (.inr (.inr rfl))) (Walks.tuple (A := A.in1) hh s.heap.objs.size l ne _) (fun j u st => st.1.typeIs) (k := 1) (by simp) ⟨hit, hla⟩
    (Heap.lt_size hoi) (Heap.lt_size hol) (fun hb tk kp => ?_) (by rw [sizeLine_eq]; simp; omega)))
  show wpAny _ _ (if its.length < 0 then _ else _) _ _ _
  rw [if_neg (Nat.not_lt_zero _)]
  show wpAny _ _ (newList (its.take (its.length - 0)) >>= fun d => pure ([b] ++ [d] ++ its.drop (its.length - 0))) _ _ _
  rw [Nat.sub_zero, List.take_length, List.drop_length]
  have k2 : ∀ c o, s.heap.get? c = some o → hb.get? c = some o := fun c o e => kp c o (Nat.ne_of_lt (Heap.lt_size e)) (hs.extBut c o (Nat.ne_of_lt (Heap.lt_size e)) (Heap.get?_push_of_some _ e))
  unfold newList
  refine wpAny_bind (wpAny_newObj_type (wpAny_pure ?_) (by show its.toArray.size ≤ sizeLine; rw [sizeLine_eq, List.size_toArray]; omega))
  exact h hb tk k2
/-- from a list or a tuple -/
def gStar1X (K : PySem.W.Frag) (g1 g2 : TG) : TG := fun v σ H Q => ∃ a z zs, v = .ref a ∧ (SqL K H a (z :: zs) ∨ SqT K H a (z :: zs)) ∧ zs.length ≤ 16000 ∧ ∀ p, H p = none → g1 z σ (upd H p (.lst zs)) fun σ1 H1 => g2 (.ref p) σ1 H1 Q
theorem pg_star1X {X : Cx} (hc : X.calm = true) {e1 e2 : Expr} {g1 g2 : TG} {k : Nat} {pos sp : Pos} (h1 : PG X e1 g1) (h2 : PG X e2 g2) (hlen : (assignEach [e1, .Starred e2 sp] X.env).length = 2 := by rfl)
    (hst : (assignEach [e1, .Starred e2 sp] X.env).findIdx? (·.1) = some 1 := by rfl) (hm : (assignEach [e1, .Starred e2 sp] X.env).map (·.2) = [assign e1 X.env, assign e2 X.env] := by rfl) :
    PG X (.Tuple [e1, .Starred e2 sp] k pos) (gStar1X X.K g1 g2) := by
  refine ⟨fun pins s σ H v u Q I r hw => ?_⟩
  obtain ⟨a, z, zs, ev, hq, hl, hw⟩ := hw
  rcases hq with hq | hq
  · exact (pg_star1 hc h1 h2 hlen hst hm).run pins s σ H v u Q I r ⟨a, z, zs, ev, hq, hl, hw⟩
  subst ev
  cases r
  obtain ⟨its, rv, pl, hz⟩ := I.tuple hq
  cases rv with
  | cons rz rr =>
    rename_i b l
    rw [assign_Tuple]
    refine wpAny_bind (wpAny_standAt ?_)
    unfold unpack
    rw [hlen, hst, hm]
    refine wpAny_bind (wpAny_holding (unpack_star1T pl (I.ok.hd hc) (by rw [← rr.length]; exact hl) fun ha tk kp => ?_))
    have I1 : Inv X pins σ H { s with heap := ha, toks := tk } := I.kept kp
    have I2 := I1.laid (t' := tk) (o := .lst zs) (h' := ha.push { cls := .type "list", data := .seq l.toArray }) (fun c o e => Heap.get?_push_of_some _ e) (Nat.le_refl _)
      ⟨by have hz' : zs.length + 1 ≤ sizeLine := hz
          omega, l, 0, rr, Heap.get?_push_size _ rfl⟩
    refine assignInOrder_cons (thn (h1.run pins _ σ _ z b _ I2 rz (hw _ (I1.hok.fresh (Nat.le_refl _)))) fun _ s3 ⟨σ3, H3, I3, q3⟩ => ?_)
    exact assignInOrder_cons (thn (h2.run pins s3 σ3 H3 (.ref ha.objs.size) _ Q I3 rfl q3) fun _ s4 ⟨σ4, H4, I4, q4⟩ => assignInOrder_nil ⟨σ4, H4, I4, q4⟩)
theorem star1XA (K : PySem.W.Frag) {X : Cx} (hc : X.calm = true) {e1 e2 : Expr} {g1 g2 : TG} {k : Nat} {pos sp : Pos} (h1 : PG X e1 g1) (h2 : PG X e2 g2) (hK : X.K = K := by rfl) (hlen : (assignEach [e1, .Starred e2 sp] X.env).length = 2 := by rfl)
    (hst : (assignEach [e1, .Starred e2 sp] X.env).findIdx? (·.1) = some 1 := by rfl) (hm : (assignEach [e1, .Starred e2 sp] X.env).map (·.2) = [assign e1 X.env, assign e2 X.env] := by rfl) :
    PG X (.Tuple [e1, .Starred e2 sp] k pos) (gStar1X K g1 g2) := hK ▸ pg_star1X hc h1 h2 hlen hst hm
section
variable {K : PySem.W.Frag} {Γ : Gam}
theorem ds_starL {te : TE} {De : DE} {a b : Nat} (h : Dl te Γ fun d Γ1 => ∃ d0 ds, (d = .lst (d0 :: ds) ∨ d = .tup (d0 :: ds)) ∧ ds.length ≤ 16000 ∧ De.nx ((Γ1.set a (.val d0)).set b (.val (.lst ds)))) : Ds (tAsg te (gStar1X K (gName a) (gName b))) Γ De := fun F σ W Dr s l => h F σ W _ s fun v W1 d Γ1 st g1 r ⟨d0, ds, e, hz, q⟩ => by
  rcases e with e | e
  · subst e
    obtain ⟨p, vs, rfl, hp, nu, z, zs, rfl, r0, r1⟩ := r
    refine ⟨p, z, zs, rfl, .inl (.of hp), by rw [← r1.length]; exact hz, fun n hn => ?_⟩
    have sm : Same W1.H (upd W1.H n (.lst zs)) := same_upd hn
    exact l.nx _ (W1.at _) _ (st.trans (Stp.of_same g1.ok sm)) (((g1.same sm).set (r0.same sm)).set (rep_new_lst g1.ok.dom hn r1)) q
  · subst e
    obtain ⟨p, vs, rfl, hp, nu, z, zs, rfl, r0, r1⟩ := r
    refine ⟨p, z, zs, rfl, .inr (hp.sq), by rw [← r1.length]; exact hz, fun n hn => ?_⟩
    have sm : Same W1.H (upd W1.H n (.lst zs)) := same_upd hn
    exact l.nx _ (W1.at _) _ (st.trans (Stp.of_same g1.ok sm)) (((g1.same sm).set (r0.same sm)).set (rep_new_lst g1.ok.dom hn r1)) q
end
/-! ### t[a:b] -/
abbrev rSlX (K : PySem.W.Frag) : V → Option Int → Option Int → Hp → VK → Prop := fun x lo hi H Q => rSlL K x lo hi H Q ∨ rSlA K x lo hi H Q
theorem slXA {X : Cx} (K : PySem.W.Frag) (hK : X.K = K := by rfl) : SlR X (rSlX K) := hK ▸ sl_list.or sl_tupA
section
variable {K : PySem.W.Frag} {Γ : Gam} {te : TE} {ds : List D}
theorem cut_whole {α : Type} (xs : List α) (n : Nat) (lo hi : Option Int) (hn : n = xs.length) (h : HT.sIx n 0 lo = 0 ∧ HT.sIx n n hi = n) : (xs.drop (HT.sIx n 0 lo)).take (HT.sIx n n hi - HT.sIx n 0 lo) = xs := by
  rw [h.1, h.2, List.drop_zero, Nat.sub_zero, hn, List.take_length]
theorem ev_sliceTY {tl th : TO} {lo hi : Option Int} (h : Ev te Γ (.tup ds)) (h1 : Eo tl Γ lo) (h2 : Eo th Γ hi) : Ev (tSl (rSlX K) te tl th) Γ (.tup (cutD ds lo hi)) := fun F σ W Q g k => h F σ W _ g fun v H s ⟨a, vs, ev, e, nu, l⟩ => h1 F σ (W.at H) _ (g.same s) fun H1 s1 => h2 F σ ((W.at H).at H1) _ ((g.same s).same s1) fun H2 s2 => by
  have sm : Same H H2 := Same.trans s1 s2
  subst ev
  refine .inr ⟨a, vs, rfl, (e.same sm).sq, fun hw => ?_, fun hw p hp => k _ _ (Same.trans s (Same.trans sm (same_upd hp))) (rep_new_tup (W := W.at H2) (((g.same s).same s1).same s2).ok.dom hp (repL_cut (RepL.same (W := W.at H) sm l)))⟩
  have e1 : cutD ds lo hi = ds := cut_whole ds ds.length lo hi rfl (by rw [l.length]; exact hw)
  rw [e1] at k
  exact k _ H2 (Same.trans s sm) ⟨a, vs, rfl, e.same sm, nu, RepL.same (W := W.at H) sm l⟩
end
/-! ### x in a written dict -/
section
variable {K : PySem.W.Frag} {w : World} {Γ : Gam} {ta tb : TE} {x : Str}
end
/-! ### the head, with the script's bits -/
end Dw

/-! xs[::-1] of lists and tuples, *xs in a list, written dicts as values. -/
namespace Dw
open PySem PySem.Spec PyProof.Rows L2 HT
variable [Tabs0]
section
variable {prog : Program} {w : World} {A : Around} {E : Value → Shared → Prop} {s : Shared}
theorem adjust_m1 (n : Nat) : Builtin.Slice.sliceAdjust none none (-1) (n : Int) = ((n : Int) - 1, -1) := rfl
theorem places_m1 (n : Nat) : Builtin.Slice.slicePlaces ((n : Int) - 1) (-1) (-1) = n := by
  unfold Builtin.Slice.slicePlaces
  have h1 : ¬ ((-1 : Int) > 0) := by omega
  rw [if_neg h1]
  by_cases h : (n : Int) - 1 > -1
  · rw [if_pos h, show (-(-1) : Int) = 1 by decide, Int.ediv_one]; omega
  · rw [if_neg h]; omega
theorem sliceApplied_m1 {sl : Addr} {tk : Tok} {n : Nat} {Q : Int × Int × Nat → Shared → Prop} (hs : s.heap.IsSliceOf sl .none .none (.int (-1) tk))
    (h : Q ((n : Int) - 1, -1, n) s) : wpAny (model prog w) A (Builtin.Slice.sliceApplied (.ref sl) (pure (n : Int))) Q E s := by
  obtain ⟨os, hos, hcs, hds⟩ := id hs
  unfold Builtin.Slice.sliceApplied Builtin.Slice.sliceFields
  refine wpAny_bind (wpAny_bind (wpAny_field hos hds (x := .none) rfl (wpAny_bind (wpAny_field hos hds (x := .none) rfl (wpAny_bind (wpAny_field hos hds (x := .int (-1) tk) rfl (wpAny_pure ?_)))))))
  refine wpAny_bind (slicePart_int ?_)
  show wpAny _ _ (if ((-1 : Int) == 0) = true then _ else _) _ _ s
  rw [if_neg (by decide)]
  refine wpAny_bind (slicePart_none (wpAny_bind (slicePart_none (wpAny_bind (wpAny_pure ?_)))))
  show wpAny _ _ (match Builtin.Slice.sliceAdjust none none (-1) (n : Int) with | (lo, hi) => pure (lo, (-1 : Int), Builtin.Slice.slicePlaces lo hi (-1))) _ _ s
  rw [adjust_m1 n]
  show wpAny _ _ (pure ((n : Int) - 1, (-1 : Int), Builtin.Slice.slicePlaces ((n : Int) - 1) (-1) (-1))) _ _ s
  rw [places_m1]
  exact wpAny_pure h
theorem pick_rev (xs : Array Value) : ((List.range xs.size).filterMap fun (m : Nat) => xs[((xs.size : Int) - 1 + (m : Int) * (-1)).toNat]?) = xs.toList.reverse := by
  apply List.ext_getElem?
  intro i
  have e4 : ((List.range xs.size).filterMap fun (m : Nat) => xs[((xs.size : Int) - 1 + (m : Int) * (-1)).toNat]?) = (List.range xs.size).map fun k => (xs.toList.reverse)[k]?.getD default := by
    refine fm_all fun k hk => ?_
    have hk := List.mem_range.mp hk
    rw [List.getElem?_reverse (by simpa using hk)]
    have h0 : ((xs.size : Int) - 1 + (k : Int) * (-1)).toNat = xs.size - 1 - k := by omega
    have h1 : xs.size - 1 - k < xs.size := by omega
    rw [h0, Array.getElem?_eq_getElem h1]
    simp only [Array.length_toList]
    rw [List.getElem?_eq_getElem (by simpa using h1)]
    simp
  rw [e4, List.getElem?_map]
  by_cases hi : i < xs.size
  · rw [List.getElem?_range hi, Option.map_some, List.getElem?_eq_getElem (by simpa using hi)]; rfl
  · rw [List.getElem?_eq_none (by simpa using hi), List.getElem?_eq_none (by simpa using hi)]; rfl
theorem getItem_tuple_rev {t sl : Addr} {items : Array Value} {tk : Tok} {Q : Value → Shared → Prop} (ht : IsTup s.heap t items) (hs : s.heap.IsSliceOf sl .none .none (.int (-1) tk))
    (h : Q (.ref s.heap.objs.size) { s with heap := s.heap.push { cls := .type "tuple", data := .seq items.toList.reverse.toArray } })
    (hsz : items.size ≤ sizeLine) : wpAny (model prog w) A (getItem (.ref t) (.ref sl)) Q E s := by
  have htake : sizeOk (.seq items.toList.reverse.toArray) := by
    show items.toList.reverse.toArray.size ≤ sizeLine
    rw [List.size_toArray, List.length_reverse, Array.length_toList]
    exact hsz
  obtain ⟨os, hos, hcs, hds⟩ := id hs
  have hTs : s.TypeIs (.ref sl) "slice" := ⟨os, hos, hcs⟩
  unfold getItem
  try with_reducible refine wpAny_holding ?_
  first | refine wpAny_bind (wpAny_pure ?_) | skip
  refine wpAny_bind (wpAny_sequenceKey ht.typeIs (by decide) ?_)
  refine wpAny_bind (wpAny_callSpecial?_slot (name := Str.ofString "__getitem__") ht.typeIs PyProof.Rows.slot_tuple_getitem
    (wpAny_call_entry PyProof.Rows.slot_tuple_getitem ht.typeIs entry_tuple_getitem ?_ (args_tuple_getitem _ _)))
  show wpAny _ _ (Builtin.Tuple.tupleItemsOf (.ref t) >>= _) _ _ s
  refine wpAny_bind (tupleItemsOf_ ht ?_)
  refine wpAny_bind (wpAny_typeOf hTs ?_)
  rw [if_pos (by decide)]
  refine wpAny_bind (sliceApplied_m1 hs ?_)
  have hno : ¬ ((((items.size : Int) - 1) == 0 && (-1 : Int) == 1 && items.size == items.size) = true) := by
    intro q
    rw [Bool.and_eq_true, Bool.and_eq_true] at q
    have q1 : (-1 : Int) = 1 := eq_of_beq q.1.2
    omega
  show wpAny _ _ (if (((items.size : Int) - 1) == 0 && (-1 : Int) == 1 && items.size == items.size) = true then _ else _) _ _ s
  rw [if_neg hno, pick_rev]
  first
    | exact wpAny_bind (m := Builtin.Tuple.tupleExact _) (wpAny_newObj_type (wpAny_pure ⟨_, rfl, wpAny_pure h⟩) htake)
    | exact wpAny_bind (m := Builtin.Tuple.tupleExact _) (wpAny_newObj_type (wpAny_bind (wpAny_pure (wpAny_pure ⟨_, rfl, wpAny_pure h⟩))) htake)
    | exact wpAny_bind (wpAny_bind (m := Builtin.Tuple.tupleExact _) (wpAny_newObj_type (wpAny_pure (wpAny_pure ⟨_, rfl, wpAny_pure h⟩)) htake))
    | exact wpAny_bind (wpAny_bind (m := Builtin.Tuple.tupleExact _) (wpAny_newObj_type (wpAny_pure ⟨_, rfl, wpAny_pure h⟩) htake))
end
/-- xs[::-1] -/
def tSlR (K : PySem.W.Frag) (ta tk : TE) : TE := fun σ H Q => ta σ H fun x H1 => tk σ H1 fun y H2 => ∃ a xs, x = .ref a ∧ y = .int (-1) ∧ ((SqL K H2 a xs ∧ ∀ p, H2 p = none → Q (.ref p) (upd H2 p (.lst xs.reverse))) ∨ (SqT K H2 a xs ∧ ∀ p, H2 p = none → Q (.ref p) (upd H2 p (.tup xs.reverse))))
theorem pe_sliceR {X : Cx} {e e3 : Expr} {ta tk : TE} {p2 pos : Pos} (he : PE X e ta) (hk : PE X e3 tk) : PE X (.Subscript e (.Slice none none (some e3) p2) pos) (tSlR X.K ta tk) := by
  refine ⟨fun pins s σ H Q I h => ?_⟩
  refine Subscript_ (thn (he.run pins s σ H _ I h) fun v s1 ⟨x, H1, I1, r1, q1⟩ => ?_)
  refine wpAny_Slice ?_
  rw [evalPart_none]
  refine wpAny_pure (wpAny_pure ?_)
  refine thn (hk.run pins s1 σ H1 _ I1 q1) fun vk s3 ⟨y, H3, I3, rk, q3⟩ => ?_
  obtain ⟨a, xs, rfl, rfl, q⟩ := q3
  obtain ⟨tk', rfl⟩ := rk
  cases r1
  have I4 : Inv X pins σ H3 { s3 with heap := s3.heap.push { cls := .type "slice", data := .fields #[.none, .none, .int (-1) tk'] } } := I3.kept (t' := s3.toks) fun b ob q => Heap.get?_push_of_some _ q
  generalize hs4 : ({ s3 with heap := s3.heap.push { cls := .type "slice", data := .fields #[.none, .none, .int (-1) tk'] } } : Shared) = s4 at I4 ⊢
  have hsl : s4.heap.IsSliceOf s3.heap.objs.size .none .none (.int (-1) tk') := by rw [← hs4]; exact Heap.IsSliceOf.new ..
  show wpAny (model X.prog X.w) X.A (subscriptTail e (.Slice none none (some e3) p2) (.ref a) (.ref s3.heap.objs.size)) (EP X pins σ Q) X.xe s4
  rcases q with ⟨hx, q⟩ | ⟨hx, q⟩
  · obtain ⟨its, r, ht, hz⟩ := I4.list hx
    have hlen := r.length
    refine tail_any (ops := [.ref a, .ref s3.heap.objs.size]) ht.isList.typeIs slot_list_getitem.lookup ?_ (by with_unfolding_all rfl)
    refine wpAny_getItem_list_slice ht.isList hsl .none .none (.int (-1) tk') (fun z => by cases z) ?_ (by rw [List.size_toArray] <;> omega)
    rw [pick_m1, List.toList_toArray]
    refine ⟨.ref s4.heap.objs.size, _, I4.laid (t' := s4.toks) (o := .lst xs.reverse) (fun b ob q => Heap.get?_push_of_some _ q) (Nat.le_refl _) ?_, rfl, q _ (I4.hok.fresh (Nat.le_refl _))⟩
    exact ⟨by rw [List.length_reverse]; exact hz, its.reverse, 0, Vals_reverse r, Heap.get?_push_size _ rfl⟩
  · obtain ⟨its, r, ht, hz⟩ := I4.tuple hx
    have hlen := r.length
    refine tail_any (ops := [.ref a, .ref s3.heap.objs.size]) ht.typeIs PyProof.Rows.slot_tuple_getitem.lookup ?_ (by with_unfolding_all rfl)
    refine getItem_tuple_rev ht hsl ?_ (by rw [List.size_toArray] <;> omega)
    rw [List.toList_toArray]
    refine ⟨.ref s4.heap.objs.size, _, I4.laid (t' := s4.toks) (o := .tup xs.reverse) (fun b ob q => Heap.get?_push_of_some _ q) (Nat.le_refl _) ?_, rfl, q _ (I4.hok.fresh (Nat.le_refl _))⟩
    exact ⟨by rw [List.length_reverse]; exact hz, its.reverse, Vals_reverse r, IsTup.new _ _⟩
theorem sliceRA {X : Cx} {e e3 : Expr} {ta tk : TE} {p2 pos : Pos} (K : PySem.W.Frag) (he : PE X e ta) (hk : PE X e3 tk) (hK : X.K = K := by rfl) : PE X (.Subscript e (.Slice none none (some e3) p2) pos) (tSlR K ta tk) := hK ▸ pe_sliceR he hk
section
variable {K : PySem.W.Frag} {Γ : Gam} {ta tk te : TE} {ds es : List D} {t : TA}
theorem ev_revT (h : Ev ta Γ (.tup ds)) (hk : Ev tk Γ (.int (-1))) : Ev (tSlR K ta tk) Γ (.tup ds.reverse) := fun F σ W Q g q =>
  h F σ W _ g fun v H s ⟨a, vs, ev, e, nu, l⟩ => hk F σ (W.at H) _ (g.same s) fun u H2 s2 r => by
    subst ev
    exact ⟨a, vs, rfl, r, .inr ⟨(e.same s2).sq, fun p hp => q _ _ (Same.trans s (Same.trans s2 (same_upd hp))) (rep_new_tup (W := W.at H2) ((g.same s).same (W := W.at H) s2).ok.dom hp (repL_rev (RepL.same (W := W.at H) s2 l)))⟩⟩
/-! ### {}, {'a': 1} -/
theorem ev_dnew : Ev tDNewK Γ (.dct [] []) := fun F σ W Q g k => fun p hp => k _ _ (same_upd hp) ⟨p, [], rfl, upd_same, fun u => g.ok.dom p u hp, rfl, rfl⟩
end
end Dw

/-! t != (), a, b, c = [], x, y, tuple(xs) with draws, cuts of the script. -/
namespace Dw
open PySem PySem.Spec PyProof.Rows L2 HT
variable [Tabs0]
theorem ds_par3_o {Γ : Gam} {De : DE} {i j l : Nat} {t1 : TE} {t2 : TA} {ds : List D} (h1 : EvN t1 Γ ds) (h : DlA t2 Γ fun es Γ1 => ∃ y z, es = [y, z] ∧ De.nx (((Γ1.set i (.own ds)).set j (.val y)).set l (.val z))) : Ds (tPar3 i j l (tCons t1 t2)) Γ De := fun F σ W Dr g k =>
  h1 F σ W _ g fun a vs H s n e r => by
    obtain ⟨st1, g1, no1, f1, p1⟩ := g.plus s n (by rw [e]; exact fun z => nomatch z)
    have g1' : SR (fun b => F b ∨ b = a) Γ σ (W.plus H a) := ⟨⟨g1.ok.dom, fun b z => z.elim (g1.ok.fu b) (fun z => z ▸ .inr rfl), fun b z => let ⟨u, f, p⟩ := g1.ok.pu b z; ⟨u, fun w => w.elim f (fun w => p1 (w ▸ z)), p⟩⟩, g1.len, g1.val, fun i ds e => let ⟨b, vs, e1, u, f, p, q, r⟩ := g1.ownX i ds e; ⟨b, vs, e1, u, fun w => w.elim f (fun w => no1 ⟨i, ds, e, w ▸ e1⟩), p, q, r⟩, g1.apartX⟩
    refine h (fun b => F b ∨ b = a) σ (W.plus H a) _ g1' fun vs2 W1 es Γ1 st g2 r2 ⟨y, z, e2, q⟩ => ?_
    subst e2
    obtain ⟨v, _, rfl, ry, w, _, rfl, rz, rfl⟩ := r2
    have ea : W1.H a = some (.lst vs) := (st.fr a (.inr rfl)).trans e
    have g2' : SR F Γ1 σ W1 := ⟨⟨g2.ok.dom, fun b z => g2.ok.fu b (.inl z), fun b z => let ⟨u, f, p⟩ := g2.ok.pu b z; ⟨u, fun w => f (.inl w), p⟩⟩, g2.len, g2.val, fun i ds e => let ⟨b, vs, e1, u, f, p, q, r⟩ := g2.ownX i ds e; ⟨b, vs, e1, u, fun w => f (.inl w), p, q, r⟩, g2.apartX⟩
    have no2 : ¬ ownA Γ1 σ a := fun ⟨i, ds, e1, e2⟩ => by
      obtain ⟨b, vs, e3, _, f, _⟩ := g2.ownX i ds e1
      rw [e2] at e3; cases e3
      exact f (.inr rfl)
    have p2 : ¬ W1.P a := fun z => (g2.ok.pu a z).2.1 (.inr rfl)
    have ra : RepL W1 ds vs := r.stp st
    have g3 := g2'.adopt (i := i) (g2.ok.fu a (.inr rfl)) f1 p2 ea ra no2
    exact ⟨.ref a, v, w, rfl, k.nx _ W1 _ (st1.trans (st.sub fun b z => .inl z)) ((g3.set ry).set rz) q⟩
section
variable {K : PySem.W.Frag} {Γ : Gam} {ta te : TE}
theorem evn_sliceXY {tl th : TO} {ns : List Int} {lo hi : Option Int} (h : Ev te Γ (.scr K (ns.map V.int))) (h1 : Eo tl Γ lo) (h2 : Eo th Γ hi) : EvN (tSl (rSlX K) te tl th) Γ (intD (cutI ns lo hi)) := fun F σ W Q g k => h F σ W _ g fun v H s r => h1 F σ (W.at H) _ (g.same s) fun H1 s1 => h2 F σ ((W.at H).at H1) _ ((g.same s).same s1) fun H2 s2 => by
  have sm : Same H H2 := Same.trans s1 s2
  obtain ⟨a, e, q⟩ := scr_sq (r.same (W := W.at H) sm)
  refine .inl ⟨a, _, e, q, fun p hp => k p _ _ (Same.trans s (Same.trans sm (same_upd hp))) (s.free (sm.free hp)) upd_same (RepL.ints.mpr ?_)⟩
  unfold cutI L2.cutV
  simp [List.map_take, List.map_drop]
end
theorem cut_take (ds : List D) (j : Nat) : Dw.cutD ds none (some (j : Int)) = ds.take j := by
  unfold Dw.cutD
  rw [sIx_none, sIx_nat, List.drop_zero, Nat.sub_zero]
  by_cases h : j ≤ ds.length
  · rw [Nat.min_eq_left h]
  · rw [Nat.min_eq_right (by omega), List.take_length, List.take_of_length_le (by omega)]
theorem cut_drop (ds : List D) (j : Nat) : Dw.cutD ds (some (j : Int)) none = ds.drop j := by
  unfold Dw.cutD
  rw [sIx_none, sIx_nat]
  by_cases h : j ≤ ds.length
  · rw [Nat.min_eq_left h, List.take_of_length_le (by rw [List.length_drop]; exact Nat.le_refl _)]
  · rw [Nat.min_eq_right (by omega), Nat.sub_self, List.take_zero, List.drop_eq_nil_of_le (by omega)]
end Dw

/-! tuple(range(n)), x not in a list of signs. -/
namespace Dw
open PySem PySem.Spec PyProof.Rows L2
variable [Tabs0]
section
variable {K : PySem.W.Frag} {Γ : Gam} {ta : TE}
end
end Dw

/-! cuts of texts, x is not False, t == (). -/
namespace Dw
open PySem PySem.Spec PyProof.Rows L2 HT
variable [Tabs0]
section
variable {K : PySem.W.Frag} {Γ : Gam} {ta te : TE} {x : Str}
theorem ev_sliceS {tl th : TO} {lo hi : Option Int} (h : Ev te Γ (.str x)) (hz : x.length ≤ sizeLine) (h1 : Eo tl Γ lo) (h2 : Eo th Γ hi) : Ev (tSl rSlS te tl th) Γ (.str (cutS x lo hi)) := fun F σ W Q g k => h F σ W _ g fun v H s r => h1 F σ (W.at H) _ (g.same s) fun H1 s1 => h2 F σ ((W.at H).at H1) _ ((g.same s).same s1) fun H2 s2 =>
  ⟨x, r, hz, k _ H2 (Same.trans s (Same.trans s1 s2)) rfl⟩
theorem cutS_drop (l : List Nat) (j : Nat) : cutS (tx l) (some (j : Int)) none = tx (l.drop j) := by
  unfold cutS
  rw [sIx_none, sIx_nat, tx_cps, tx_len]
  by_cases h : j ≤ l.length
  · rw [Nat.min_eq_left h, List.take_of_length_le (by rw [List.length_drop]; exact Nat.le_refl _)]; rfl
  · rw [Nat.min_eq_right (by omega), Nat.sub_self, List.take_zero, List.drop_eq_nil_of_le (by omega)]; rfl
end
end Dw

/-! xs != [] of any list. -/
namespace Dw
open PySem PySem.Spec PyProof.Rows L2 HT
variable [Tabs0]
end Dw

/-! a, b = a list; {i: x, j: y}.get(k, z). -/
namespace Dw
open PySem PySem.Spec PyProof.Rows L2 HT
variable [Tabs0]
section
variable {Γ : Gam} {td ty : TE}
end
end Dw

/-! [b for a in xs for b in a]; a value not in a list; repr of a tuple. -/
namespace Dw
open PySem PySem.Spec PyProof.Rows L2 HT
variable [Tabs0]
/-! a tuple of whole numbers, not in a list of such -/
end Dw

/-! dicts whose keys are tuples of whole numbers, made and walked by one def. -/
namespace Dw
open PySem PySem.Spec PyProof.Rows L2 HT
variable [Tabs0]
/-! worlds without a frame and without a purse: U holds the dicts -/
abbrev NoF : Addr → Prop := fun _ => False
def PW (H : Hp) (U : Addr → Prop) : Wd := ⟨H, U, fun _ => False⟩
def NO (Γ : Gam) : Prop := ∀ (i : Nat) (ds : Ow), Γ[i]? ≠ some (.ownX ds)
theorem NO.set {Γ : Gam} (h : NO Γ) (i : Nat) (d : D) : NO (Γ.set i (.val d)) := fun j ds e => by
  by_cases hij : i = j
  · subst hij
    by_cases hl : i < Γ.length
    · rw [List.getElem?_set_self hl] at e; cases e
    · rw [List.getElem?_eq_none (by rw [List.length_set]; omega)] at e; cases e
  · rw [List.getElem?_set_ne hij] at e; exact h j ds e
abbrev SP (Γ : Gam) (σ : L2.St) (H : Hp) (U : Addr → Prop) : Prop := SR NoF Γ σ (PW H U)
/-! for over a range; for over a dict with tuple keys -/
end Dw

/-! How long a repr may be. -/
namespace Dw
open PySem PySem.Spec PyProof.Rows L2 HT
variable [Tabs0]
/-! ### the length of a repr -/
mutual
def shB : D → Nat
  | .int i => (PyData.shown (.int i)).length | .str x => 10 * x.length + 2
  | .tup ds => shBs ds + 4 | .lst ds => shBs ds + 4 | .tupN ds => shBs ds + 4
  | _ => 5
def shBs : List D → Nat
  | [] => 0
  | d :: ds => shB d + 2 + shBs ds
end
theorem listText_le (ts : List Str) : (listText ts).length ≤ piled ts + 4 := by
  cases ts with
  | nil => decide
  | cons t r =>
    have h := textFrom_length_pos r 1 (("[" : Str) ++ (if (0 : Nat) > 0 then ", " else "" : String) ++ t) (Nat.succ_pos 0)
    have e : ((("[" : Str) ++ (if (0 : Nat) > 0 then ", " else "" : String) ++ t)).length = 1 + t.length := by
      rw [strLen_append, strLen_append]; rfl
    have hX : (listText (t :: r)).length = (textFrom 1 (("[" : Str) ++ (if (0 : Nat) > 0 then ", " else "" : String) ++ t) r).length + 1 := by
      unfold listText
      rw [strLen_append]; rfl
    rw [hX, h, e, piled_cons]
    omega
theorem tupleText_le (ts : List Str) : (tupleText ts).length ≤ piled ts + 4 := by
  unfold tupleText
  rw [strLen_append, strLen_append]
  have e1 : ((("(" : String) : Str)).length = 1 := rfl
  have e3 : (((if ts.length == 1 then ",)" else ")" : String) : Str)).length ≤ 2 := by split <;> decide
  rw [e1]
  by_cases h : ts = []
  · subst h
    have : (Str.join ", " []).length = 0 := rfl
    omega
  · have := join_length_add ts h
    omega
mutual
theorem shB_le : ∀ (k : Nat) (d : D), dOk k d = true → (PyData.shown (py d)).length ≤ shB d
  | _, .non, _ => by show (("None" : String) : Str).length ≤ 5; decide
  | _, .bl b, _ => by cases b <;> (show (PyData.shown (.bool _)).length ≤ 5) <;> decide
  | _, .int i, _ => Nat.le_refl _
  | k, .str x, h => by
    have e : dOk k (.str x) = PyData.strOk x := by cases k <;> rfl
    rw [e] at h
    have a' : x.cps.all (fun c => decide (c < 1114112)) = true := h
    rw [← Array.all_toList, List.all_eq_true] at a'
    exact PySem.StrLaws.reprText_len x fun c hc => Nat.lt_of_lt_of_le (of_decide_eq_true (a' c hc)) (by decide)
  | k + 1, .tup ds, h => by
    have ih := shBs_le k ds h
    show (tupleText (PyData.shownAll (pys ds))).length ≤ shBs ds + 4
    have := tupleText_le (PyData.shownAll (pys ds))
    omega
  | k + 1, .lst ds, h => by
    have ih := shBs_le k ds h
    show (listText (PyData.shownAll (pys ds))).length ≤ shBs ds + 4
    have := listText_le (PyData.shownAll (pys ds))
    omega
  | k + 1, .tupN ds, h => by
    have ih := shBs_le k ds h
    show (tupleText (PyData.shownAll (pys ds))).length ≤ shBs ds + 4
    have := tupleText_le (PyData.shownAll (pys ds))
    omega
  | 0, .tup _, h => nomatch h
  | 0, .lst _, h => nomatch h
  | 0, .tupN _, h => nomatch h
  | k, .obj _ _ _, h => by cases k <;> exact nomatch h
  | k, .raw _, h => by cases k <;> exact nomatch h
  | k, .purse, h => by cases k <;> exact nomatch h
  | k, .rng _ _, h => by cases k <;> exact nomatch h
  | k, .dct _ _, h => by cases k <;> exact nomatch h
  | k, .scr _ _, h => by cases k <;> exact nomatch h
  | k, .tag _, h => by cases k <;> exact nomatch h
theorem shBs_le : ∀ (k : Nat) (ds : List D), dOks k ds = true → piled (PyData.shownAll (pys ds)) ≤ shBs ds
  | _, [], _ => Nat.zero_le _
  | k, d :: ds, h => by
    have e : dOks k (d :: ds) = (dOk k d && dOks k ds) := by cases k <;> rfl
    rw [e, Bool.and_eq_true] at h
    have h1 := shB_le k d h.1
    have h2 := shBs_le k ds h.2
    show piled (PyData.shown (py d) :: PyData.shownAll (pys ds)) ≤ shB d + 2 + shBs ds
    rw [piled_cons]
    omega
end
end Dw
namespace Dw
open PySem PySem.Spec PyProof.Rows L2 HT
variable [Tabs0]
end Dw

/-! Tuples that are known to have no dict of their own: displays, sums, tuple(xs); t.index(x). -/
namespace Dw
open PySem PySem.Spec PyProof.Rows L2 HT
variable [Tabs0]
theorem Dl.weak {t : TE} {Γ : Gam} {Q : D → Gam → Prop} (h : Dl t Γ fun d Γ1 => Q (weakD d) Γ1) : Dl t Γ Q := fun F σ W R g k => h F σ W R g fun v W' d Γ' s r' l q => k v W' (weakD d) Γ' s r' (Rep.weak d v l) q
section
variable {X : Cx} {pins : List (Addr × Obj)} {σ : L2.St} {H : Hp} {s : Shared}
end
/-! ### (x, y) -/
section
variable {Γ : Gam} {t : TA} {ds : List D}
end
/-! ### t + (x,) -/
/-! ### tuple(xs) -/
/-! ### t.m(x) of such a tuple -/
section
variable {X : Cx} {o e : Expr} {es : List Expr} {to : TE} {t : TA} {nm : Str} {p1 p2 : Pos} {id : String} {r : V → List V → Hp → VK → Prop}
end
section
variable {K : PySem.W.Frag} {Γ : Gam} {ta tb : TE}
theorem idx_not {α : Type} [DecidableEq α] {o : List α} {c : α} {m : Nat} (h : m < o.idxOf c) (hm : m < o.length) : o[m] ≠ c := fun e => by
  have h2 : m < o.findIdx (· == c) := h
  have := List.not_of_lt_findIdx h2
  simp [e] at this
end
end Dw
namespace Dw
open PySem PySem.Spec PyProof.Rows L2 HT
variable [Tabs0]
/-! ### a new tuple, by its cell -/
section
variable {K : PySem.W.Frag} {Γ : Gam} {t : TA} {ta : TE} {ds : List D}
end
end Dw
namespace Dw
open PySem PySem.Spec PyProof.Rows L2 HT
variable [Tabs0]
end Dw

/-! {k: v for x in xs if ..}, k in d, d[k]; a call of a local name that holds a def. -/
namespace Dw
open PySem PySem.Spec PyProof.Rows L2 HT
variable [Tabs0]
section
variable {K : PySem.W.Frag} {Γ : Gam} {wi : TI} {g : TG} {tt : TT} {tk tv ta td ty : TE} {vs : List Nat}
/-! ### a call of a local name that holds a def -/
end
end Dw

/-! xs, y = [], e with a cell among them; xs.index(x) of texts. -/
namespace Dw
open PySem PySem.Spec PyProof.Rows L2 HT
variable [Tabs0]
section
variable {K : PySem.W.Frag} {Γ : Gam} {ta tb : TE}
end
end Dw

/-! an own list, lent for the time of one expression whose answer is a tuple of numbers. -/
namespace Dw
open PySem PySem.Spec PyProof.Rows L2 HT
variable [Tabs0]
end Dw

/-! list(d.values()). -/
namespace Dw
open PySem PySem.Spec PyProof.Rows L2 HT
variable [Tabs0]
section
variable {X : Cx} {e : Expr} {te : TE} {p apos cpos pos : Pos}
variable {Γ : Gam} {td : TE}
end
end Dw

/-! xs == [] of any list. -/
namespace Dw
open PySem PySem.Spec PyProof.Rows L2 HT
variable [Tabs0]
/-! ### texts, >= -/
/-! ### range(a, b) -/
end Dw

/-! {"a": 1, ..}, d.get(k, z); cuts and sums of tuples whose cells are known. -/
namespace Dw
open PySem PySem.Spec PyProof.Rows L2 HT
variable [Tabs0]
section
variable {Γ : Gam} {td ty : TE}
end
/-! ### t[a:b], its cell known -/
section
variable {K : PySem.W.Frag} {Γ : Gam} {te : TE} {ds : List D}
end
/-! ### t == () -/
/-! ### a text's count -/
end Dw

/-! min(xs); xs.extend(ys) of an own list; a purse that is made of a number. -/
namespace Dw
open PySem PySem.Spec PyProof.Rows L2 HT
variable [Tabs0]
section
variable {K : PySem.W.Frag} {Γ : Gam} {ta tb : TE}
end
section
variable {s : Spc} {E : XK} {Γ : Gam} {ta : TE}
end
end Dw

/-! x, ys = e, [] with a cell among them. -/
namespace Dw
open PySem PySem.Spec PyProof.Rows L2 HT
variable [Tabs0]
section
variable {s : Spc} {E : XK} {Γ : Gam} {ta : TE}
end
end Dw

/-! tuple("abc"); == of truth values. -/
namespace Dw
open PySem PySem.Spec PyProof.Rows L2 HT
variable [Tabs0]
section
variable {K : PySem.W.Frag} {Γ : Gam} {ta : TE}
end
end Dw

/-! ways[i] += e, of an own list of numbers. -/
namespace Dw
open PySem PySem.Spec PyProof.Rows L2
variable [Tabs0]
section
variable {K : PySem.W.Frag} {Γ : Gam} {De : DE} {te tk : TE}
end
end Dw

/-! A lambda made, with the very heap: all but its maker's table stays. -/
namespace Dw
open PySem PySem.Spec PyProof.Rows L2 LamX
/-- what a lambda's making may have done: nothing, or the maker's table at P is longer and a code object is new -/
def Chg (P : Addr) (q : Str) (H H1 : Hp) : Prop := H1 = H ∨ ∃ (c : Addr) (ps more : Array Value), H P = some (.tbl ps) ∧ H c = none ∧ H1 = upd (upd H P (.tbl (ps ++ more))) c (CodeO c q)
theorem Chg.ne {P : Addr} {q : Str} {H H1 : Hp} (h : Chg P q H H1) {b : Addr} {u : HO} (hb : b ≠ P) (e : H b = some u) : H1 b = some u := by
  rcases h with rfl | ⟨c, ps, more, _, hc, rfl⟩
  · exact e
  · rw [upd_ne (ne_of_none e hc), upd_ne hb]
    exact e
theorem Chg.ext {P : Addr} {q : Str} {H H1 : Hp} (h : Chg P q H H1) : ExtN H H1 := by
  rcases h with rfl | ⟨c, ps, more, hP, hc, rfl⟩
  · exact ExtN.refl _
  · intro b o e n
    rw [upd_ne (ne_of_none e hc), upd_ne (fun z => n ps (Option.some.inj (e.symm.trans (by rw [z]; exact hP))))]
    exact e
section
variable {X : Cx} {pins : List (Addr × Obj)} {σ : L2.St} {H : Hp} {s : Shared}
/-- the tables go on telling the truth -/
theorem tabs_grow {T : List (Addr × Str)} {P c' : Addr} {q : Str} {ps : Array Value} {pos : Pos} (hT : Tabs T H) (hu : ∀ p ∈ T, p.1 = P → p.2 = q) (hP : H P = some (.tbl ps)) (ht : TriplesOk ps.toList)
    (ha : ∀ (pos : Pos) (cv : Value), codeAmong pos ps.toList = some cv → ∃ c, cv = .ref c ∧ H c = some (CodeO c q)) (nC : H c' = none) :
    Tabs T (upd (upd H P (.tbl (ps ++ #[rawInt pos.line, rawInt pos.col, .ref c']))) c' (CodeO c' q)) := by
  have eE : ∀ b o, H b = some o → (∀ ps, o ≠ .tbl ps) → upd (upd H P (.tbl (ps ++ #[rawInt pos.line, rawInt pos.col, .ref c']))) c' (CodeO c' q) b = some o :=
    (Chg.ext (q := q) (.inr ⟨c', ps, _, hP, nC, rfl⟩))
  have eL : (ps ++ #[rawInt pos.line, rawInt pos.col, .ref c']).toList = ps.toList ++ [rawInt pos.line, rawInt pos.col, .ref c'] := by simp
  intro p hp
  by_cases hb : p.1 = P
  · rw [hu p hp hb, hb]
    refine ⟨_, by rw [upd_ne (ne_of_none hP nC), upd_same], by rw [eL]; exact PySem.TriplesOk_snoc _ _ _ _ ht, fun p' cv hcv => ?_⟩
    rw [eL] at hcv
    rcases among_app _ ht hcv with z | z
    · obtain ⟨c0, e1, e2⟩ := ha p' cv z
      exact ⟨c0, e1, eE _ _ e2 codeO_ne⟩
    · exact ⟨c', z, upd_same⟩
  · obtain ⟨ps', a1, a2, a3⟩ := hT p hp
    refine ⟨ps', by rw [upd_ne (ne_of_none a1 nC), upd_ne hb]; exact a1, a2, fun p' cv hcv => ?_⟩
    obtain ⟨c0, e1, e2⟩ := a3 p' cv hcv
    exact ⟨c0, e1, eE _ _ e2 codeO_ne⟩
/-- the lambda is made; what its making did is told -/
theorem lam_make3 {T : List (Addr × Str)} {c P : Addr} {params : Arguments} {body : Expr} {scope : Scope} {pos : Pos} {E Q : Value → Shared → Prop} (I : Inv X pins σ H s) (TB : TabB X.base X.mg c P) (hcode : X.env.code = .ref c)
    (hm : (P, X.env.qual ++ "<lambda>") ∈ T) (hu : ∀ p ∈ T, p.1 = P → p.2 = X.env.qual ++ "<lambda>") (hT : Tabs T H) (hdef : defaultsOf params X.env = ([], [])) (hfree : ∀ y ∈ scope.names, y.2 = .free → ∃ c, X.env.cells.lookup y.1 = some c)
    (h : ∀ (f c' : Addr) (pm ctv : Value) (H1 : Hp) (s' : Shared), Inv X pins σ H1 s' → Chg P (X.env.qual ++ "<lambda>") H H1 → Tabs T H1 →
      s'.heap.get? f = some (PySem.W.kla_obj "<lambda>" (X.env.qual ++ "<lambda>") params body scope (cloFrom X.env.cells scope.names []) pm c' ctv) → H1 f = none → f ∉ frs X.stack → H1 c' = some (CodeO c' (X.env.qual ++ "<lambda>")) → Q (.ref f) s') :
    wpAny (model X.prog X.w) X.A (eval (.Lambda params body scope pos) X.env) Q E s := by
  obtain ⟨ps, hP, ht, ha⟩ := hT _ hm
  have nofr : ∀ f, s.heap.objs.size ≤ f → f ∉ frs X.stack := fun f hf z => by
    rcases List.mem_cons.mp (I.stkSub _ z) with e | e
    · have := I.lt
      rw [← e] at this
      exact Nat.lt_irrefl _ (Nat.lt_of_lt_of_le this hf)
    · exact I.nofs hf e
  have hP' : s.heap.get? P = some { cls := .none, data := .fields ps } := I.hok P _ hP
  have bP := TB.bm.keeps I.bk
  refine PySem.W.kla_eval hdef ?_
  cases hc : codeAmong pos ps.toList with
  | some cv =>
    obtain ⟨c', rfl, hco⟩ := ha pos cv hc
    refine PySem.W.kla_makeFunctionHit (mg := X.mg) (c := c) (P := P) (ps := ps) (closure_ok hfree) I.ok.glob (I.mod.glob.keeps I.bk) hcode (TB.code.keeps I.bk) hP' ht hc bP fun ctv h' tk hx hsz => ?_
    exact h h'.objs.size c' _ ctv H _ (I.kept (t' := tk) fun b o e => Heap.get?_push_of_some _ (hx b o e)) (.inl rfl) hT (Heap.get?_push_size _ rfl) (I.hok.fresh hsz) (nofr _ hsz) hco
  | none =>
    refine PySem.W.kla_makeFunction (mg := X.mg) (c := c) (P := P) (ps := ps) (closure_ok hfree) I.ok.glob (I.mod.glob.keeps I.bk) hcode (TB.code.keeps I.bk) hP' ht hc TB.gP bP fun c' ctv h' tk hx hge hlt hrec htb => ?_
    obtain ⟨c2, oc, vs, t, e2, hoc, hd, hv⟩ := hrec
    cases e2
    have nC : H c' = none := I.hok.fresh hge
    have hsz : s.heap.objs.size ≤ h'.objs.size := Nat.le_trans hge (Nat.le_of_lt hlt)
    have I1 := inv_table (t' := tk) (more := #[rawInt pos.line, rawInt pos.col, .ref c']) (h' := h'.push (PySem.W.kla_obj "<lambda>" (X.env.qual ++ "<lambda>") params body scope (cloFrom X.env.cells scope.names []) ((X.mg "__name__").getD .none) c' ctv)) I hP
      (fun b o hb e => Heap.get?_push_of_some _ (hx b o hb e)) (Heap.get?_push_of_some _ htb) hge ⟨oc, vs, t, Heap.get?_push_of_some _ hoc, hd, hv⟩
    refine h h'.objs.size c' _ ctv _ _ I1 (.inr ⟨c', ps, _, hP, nC, rfl⟩) (tabs_grow hT hu hP ht ha nC) (Heap.get?_push_size _ rfl) ?_ (nofr _ hsz) upd_same
    rw [upd_ne (Nat.ne_of_gt hlt), upd_ne (Nat.ne_of_gt (Nat.lt_of_lt_of_le (Heap.lt_size hP') hsz))]
    exact I.hok.fresh hsz
end
/-! ### the lambda handed to a def -/
def tLam3 (T : List (Addr × Str)) (P : Addr) (q : Str) (TT : (XK → Hp → VK → Prop) → Hp → VK → Prop) (t : XK → TE) : TE := fun σ H Q => Tabs T H ∧ ∀ H1, Chg P q H H1 → Tabs T H1 → TT (fun E H' Q' => t E σ H' Q') H1 Q
section
variable {X : Cx}
theorem pe_lamcall3 {T : List (Addr × Str)} {TT : (XK → Hp → VK → Prop) → Hp → VK → Prop} {x a : Str} {g c P : Addr} {k : Nat} {pg : Arguments} {bg : List Stmt} {sg : Scope} {dV kV doc pm cdv ct oc : Value} {an od : Option Addr} {osl : Array (Option Value)} {Ng : List Str}
    {params : Arguments} {body : Expr} {scope : Scope} {t : XK → TE} {p lpos pos : Pos} (hg : Gl X x) (hm : X.mg x = some (.ref g)) (hk : PySem.W.keepIn X.K (.ref g) = true)
    (lk : X.K.lookup g = some ⟨oc, od, .func (PySem.W.fnOf x x pg bg sg dV kV doc pm an cdv ct), osl⟩) (hcg : PySem.W.codeIn X.K cdv x = true) (hb : L2.Binds X.K (PySem.W.fnOf x x pg bg sg dV kV doc pm an cdv ct) [a] []) (Sg : FnScope Ng [a] sg) (hNg : Ng[0]? = some a) (hva : Vis sg a)
    (hG : GivesTo X Ng x sg g cdv bg a (X.env.qual ++ "<lambda>") TT)
    (TB : TabB X.base X.mg c P) (hcode : X.env.code = .ref c) (hmT : (P, X.env.qual ++ "<lambda>") ∈ T) (hu : ∀ p ∈ T, p.1 = P → p.2 = X.env.qual ++ "<lambda>") (hr : Room (k + 2) X.A) (L : LamS X.env.scope scope) (hdef : defaultsOf params X.env = ([], []))
    (hbind : ∀ (q : Str) (cl : List (Str × Addr)) (pm cv ctv : Value), bindArgs (PySem.W.kla_fn "<lambda>" q params body scope cl pm cv ctv) ⟨[], []⟩ = pure [])
    (hbody : ∀ (A : Around) (outer : List Env) (s : Shared) (H : Hp) (E : XK) (f c' : Addr), Room k (A.deeper (lamEnv X scope s.heap.objs.size f c')) → PE (lamCx X A outer s H E scope f c') body (t E))
    (hdb : (x == ("__debug__" : Str)) = false := by decide) (hd : (a == ("__debug__" : Str)) = false := by decide) (hcd : (a == ("__classdict__" : Str)) = false := by decide) :
    PE X (.Call (.Name x p) [.Lambda params body scope lpos] [] pos) (tLam3 T P (X.env.qual ++ "<lambda>") TT t) := by
  refine ⟨fun pins s σ H Q I h => ?_⟩
  obtain ⟨hT, h⟩ := h
  refine wpAny_Call_Name_kw (ld_glob I hg hm (PySem.W.callWith_K (h₀ := X.base) I.ok.mod.kin hk ?_ (by rfl) (by rfl)) hdb)
  show wpAny _ _ (spliced ((false, eval (.Lambda params body scope lpos) X.env) :: backTo pos (starEach [] X.env))) _ _ s
  refine Calls.spliced_cons (lam_make3 I TB hcode hmT hu hT hdef (L.has I.ok) fun f c' pm' ctv H1 s' I1 eN T1 hf hfn hfr hco => Calls.spliced_nil ⟨I1.kIn, ?_⟩)
  have rc : codeAny (model X.prog X.w) X.A (.call (.ref g) ⟨[.ref f], []⟩) (CR C8.CX0 X.stack X.prog X.w H1 s' Q C8.E0) s' :=
    run_ofS (N := Ng) (ps := [a]) (us := [.ref f]) (vs := [.ref f]) lk hcg Sg hr I1.env0 (hb s' [.ref f] I1.kIn rfl) (.cons rfl .nil) rfl fun hr' =>
      let ⟨t', ht', hq'⟩ := hG f c' s' H1 Q (fun E H' Q' => t E σ H' Q') (fun W pn xe E p1 p2 tk hW => pe_act (i := 0) I1 L hf hfn hfr (hbind _ _ _ _ _) tk hW hr' (fun A outer s H hr2 => hbody A outer s H E f c' hr2) hNg hva hd hcd) hco (h H1 eN T1)
      ⟨t', ht'.nox, hq'⟩
  refine wpAny_call (codeAny_mono rc fun r s2 hq => ?_)
  match r, hq with
  | .error e, hq => exact (show False from hq).elim
  | .ok .next, hq => exact (show False from hq).elim
  | .ok .brk, hq => exact (show False from hq).elim
  | .ok .cont, hq => exact (show False from hq).elim
  | .ok (.ret u), hq => exact I1.after hq
end
end Dw

/-! except (A, B) as e: one clause for two classes, that takes all that comes. -/
namespace Dw
open PySem PySem.Spec PyProof.Rows L2 HotX
/-- what flies goes on flying where all is kept -/
theorem flyZ_keeps {B h h' : Heap} {l : List Env} {a : Addr} {Z : Obj → Prop} (R : HandSPX.FlyingZ B l a Z h) (k : ∀ b o, h.get? b = some o → h'.get? b = some o) : HandSPX.FlyingZ B l a Z h' := by
  obtain ⟨f1, f2, f3, oe, vs, T, oT, ts, he, hz, hd, h1, hn, hne, hT, hdT, h3⟩ := R
  exact ⟨fun b o q => k b o (f1 b o q), f2, f3.of_keeps fun b o q _ => ⟨o, k b o q, rfl⟩, oe, vs, T, oT, ts, k _ _ he, hz, hd, h1, hn, hne, k _ _ hT, hdT, h3⟩
/-- the suite behind it, for what either class takes -/
def wAs2 (K : PySem.W.Frag) (c1 c2 : Value) (i : Nat) (ts : Addr → Value → Option Addr → TS) (D : Ends) : WX := fun cls d σ H =>
  PySem.W.exmAny K cls [c1, c2] = some true ∧ ∀ a, H a = none → ts a cls d { nx := fun σ' H' => D.nx (σ'.set i none) H', rt := D.rt, bk := fun σ' H' => D.bk (σ'.set i none) H', ct := fun σ' H' => D.ct (σ'.set i none) H' } (σ.set i (some (.ref a))) H
section
variable {X : Cx} {x1 x2 n : Str} {c1 c2 : Value} {i kk : Nat} {body suite : List Stmt} {b₀ : Stmt} {p1 p2 tpos pos pos' : Pos} {tb : WX → TS} {ts : Addr → Value → Option Addr → TS}
theorem ps_try_as2 (hs : X.stack = X.env :: X.outer) (hf : X.env.frame = some X.env.locals) (hN : X.N.Nodup) (hi : X.N[i]? = some n) (hln : X.env.kindOf n = some .local) (hc1 : Names X x1 c1) (hc2 : Names X x2 c2)
    (hb : ∀ (W : WX) (pn : List (Addr × Obj)) (xe : Value → Shared → Prop), Takes (X.tr pn xe) W → PassesOwn (model X.prog X.w) X.A X.env xe → PSs (X.tr pn xe) body (tb W))
    (hsu : ∀ (a : Addr) (oe : Obj) (cls : Value) (d : Option Addr) (pn : List (Addr × Obj)), Zc cls d oe → (∃ vs, oe.data = .fields vs) → PSs (X.suite a ((a, oe) :: pn)) (b₀ :: suite) (ts a cls d)) :
    PS X (.Try body [.ExceptHandler (some (.Tuple [.Name x1 p1, .Name x2 p2] kk tpos)) (some n) (b₀ :: suite) pos'] [] [] pos) (fun D σ H => tb (wAs2 X.K c1 c2 i ts D) D σ H) := by
  refine ⟨fun pins s σ H D I h => ?_⟩
  have ok := I.ok
  have hfr : X.A.frames = some (X.env :: X.outer) := by rw [ok.frames, hs]
  refine wpAny_Try_except ?_
  refine wpAny_mono ((hb (wAs2 X.K c1 c2 i ts D) (X.pn ++ pins) (fun e s₁ => wpAny (model X.prog X.w) X.A (noteFrame e X.env) (fun _ s₂ => wpAny (model X.prog X.w) X.A (setFlight e none) (fun _ s₃ =>
    wpAny (model X.prog X.w) X.A (handleBy e X.env [.ExceptHandler (some (.Tuple [.Name x1 p1, .Name x2 p2] kk tpos)) (some n) (b₀ :: suite) pos']) (L2.SP X pins D) X.xe s₃) X.xe s₂) X.xe s₁) (fun u s' xx => ?_) PassesOwn.looking).run [] s σ H D (I.toTry _) h) (fun f s1 hsp => ?_) (fun e s1 he => he)
  · obtain ⟨a, B, sI, pins', σ', H', cls, d, rfl, J', nb, up, sky, na, os, ag, hb1, hyes⟩ := xx
    have J : Inv X pins σ' H' sI := J'.ofTry ok
    rw [hs] at sky
    show wpAny (model X.prog X.w) X.A (noteFrame (.ref a) X.env) _ _ _
    refine Sky.land Zc.steady hfr hf sky fun h3 fl3 up3 => ?_
    have J3 : Inv X pins σ' H' { s' with heap := h3 } := J.landed nb fl3.1 (up.trans up3) os ag
    obtain ⟨oe3, vs3, he3, hz3, hd3⟩ := fl3.there
    have nfr : a ∉ frs (X.env :: X.outer) := fun hm => by
      obtain ⟨_, o', e', hnf⟩ := fl3.2.2.1.mem hm
      rw [he3] at e'; cases e'
      exact hnf _ hd3
    have nL : a ≠ X.env.locals := fun z => nfr (List.mem_filterMap.mpr ⟨X.env, List.mem_cons_self, by rw [hf, z]⟩)
    have nF : a ∉ X.fs := fun hm => by
      obtain ⟨e, he, q⟩ := List.mem_filterMap.mp hm
      exact nfr (List.mem_filterMap.mpr ⟨e, List.mem_cons_of_mem _ he, q⟩)
    have S3 := J3.suite he3 hd3 na nL nF
    have test : ∀ {x : Str} {c : Value} {np : Pos} {Q E : Value → Shared → Prop}, Names X x c → Q c { s' with heap := h3 } → wpAny (model X.prog X.w) (X.A.mark (some (.ref a))) (eval (.Name x np) X.env) Q E { s' with heap := h3 } := fun {x c np Q E} hc q => by
      obtain ⟨hg, hdbg, hm | ⟨hm, hv, hnn⟩⟩ := hc
      · exact ld_glob (X := X.suite a ((a, oe3) :: (X.pn ++ pins))) S3 hg hm q hdbg
      · exact ld_blt (X := X.suite a ((a, oe3) :: (X.pn ++ pins))) S3 hg hm hv q hnn hdbg
    refine wpAny_handleBy_cons (codeAny_handlers_test ?_) (by intro q; cases q)
    refine wpAny_Tuple (wpAny_items_cons (test hc1 (wpAny_items_cons (test hc2 (wpAny_items_nil ⟨by size_fits, ?_⟩)))))
    have kp : ∀ b o, h3.get? b = some o → (h3.push { cls := .type "tuple", data := .seq [c1, c2].toArray }).get? b = some o := fun b o e => Heap.get?_push_of_some _ e
    have LT : PySem.W.Looks (model X.prog X.w) (h3.push { cls := .type "tuple", data := .seq [c1, c2].toArray }) (typeOf (.ref a)) cls := fun A Q E s k q => wpAny_typeOf_ref (k _ _ (kp _ _ he3)) (by rw [hz3.1]; exact q)
    refine (PySem.W.exm_tup2 (M := model X.prog X.w) (J3.kIn.keeps kp) LT (Heap.get?_push_size h3 rfl) hb1).here ?_
    refine codeAny_handlers_suite_as ?_
    refine HandSPX.lands_againZ (flyZ_keeps fl3 kp) fun h4 fl4 up4 => ?_
    have J4 : Inv X pins σ' H' { s' with heap := h4 } := J.landed nb fl4.1 (((up.trans up3).trans (Heap.UpToSlots.of_keeps kp)).trans up4) os ag
    obtain ⟨oe4, vs4, he4, hz4, hd4⟩ := fl4.there
    refine store_ok (X := X.suite a ((a, oe4) :: (X.pn ++ pins))) (v := .ref a) (J4.suite he4 hd4 na nL nF) hN hi (.inl hln) rfl (fun s5 S5 => ?_) (.inr hln)
    refine wpAny_mono ((hsu a oe4 cls d (X.pn ++ pins) hz4 ⟨_, hd4⟩).run [] s5 _ H' _ S5 (hyes a na)) (fun f s6 hsp => ?_) (fun _ _ z => False.elim z)
    have end_ : ∀ {σ6 : L2.St} {H6 : Hp} {Q : Shared → Prop}, Inv (X.suite a ((a, oe4) :: (X.pn ++ pins))) [] σ6 H6 s6 → (∀ s7, Inv X pins (σ6.set i none) H6 s7 → Q s7) →
        wpAny (model X.prog X.w) X.A (do bindName X.env n .none; unbindBehindTheSuite X.env n pos') (fun _ s7 => Q s7) X.xe s6 := fun {σ6 H6 Q} S6 hq => gone_ok (S6.unsuite ok) hN hi hln hq
    match f, hsp with
    | .next, ⟨_, _, S6, q6⟩ => exact end_ S6 fun s7 J7 => ⟨_, _, J7, q6⟩
    | .brk, ⟨_, _, S6, q6⟩ => exact end_ S6 fun s7 J7 => ⟨_, _, J7, q6⟩
    | .cont, ⟨_, _, S6, q6⟩ => exact end_ S6 fun s7 J7 => ⟨_, _, J7, q6⟩
    | .ret u, ⟨_, _, _, S6, r6, q6⟩ => exact end_ S6 fun s7 J7 => ⟨_, _, _, J7, r6, q6⟩
  · match f, hsp with
    | .next, ⟨_, _, J', q⟩ => exact wpAny_execs_nil ⟨_, _, J'.ofTry ok, q⟩
    | .brk, ⟨_, _, J', q⟩ => exact ⟨_, _, J'.ofTry ok, q⟩
    | .cont, ⟨_, _, J', q⟩ => exact ⟨_, _, J'.ofTry ok, q⟩
    | .ret u, ⟨_, _, _, J', r, q⟩ => exact ⟨_, _, _, J'.ofTry ok, r, q⟩
end
end Dw

/-! The exception that is held, within a def that the suite calls. -/
namespace Dw
open PySem PySem.Spec PyProof.Rows L2
variable [Tabs0]
section
variable {X : Cx} {a D : Addr} {oe : Obj}
theorem inst_none {h : Heap} (hz : Zc (.ref D) none oe) (hf : ∃ vs, oe.data = .fields vs) (hget : h.get? a = some oe) : PySem.W.InstAt h a oe D none := by
  obtain ⟨vs, hv⟩ := hf
  obtain ⟨oc, od, oda, osl⟩ := oe
  obtain ⟨h1, h2⟩ := hz
  dsimp only at h1 h2 hv
  subst h1 h2 hv
  exact ⟨hget, rfl, rfl, trivial⟩
theorem inst_some {h : Heap} {dd : Addr} {od : Obj} (hz : Zc (.ref D) (some dd) oe) (hf : ∃ vs, oe.data = .fields vs) (hget : h.get? a = some oe) (ho : h.get? dd = some od) : PySem.W.InstAt h a oe D (some od) := by
  obtain ⟨vs, hv⟩ := hf
  exact ⟨hget, hz.1, by unfold PySem.W.notCls; rw [hv] <;> rfl, by rw [hz.2]; exact ho⟩
end
/-! ### promises of defs that may raise: the one that returns, and the one that raises, side by side -/
section
variable {P : Program} {w : World} {K : PySem.W.Frag} {mg : Str → Option Value} {base : Heap} {k : Nat} {f : Addr} {fd : FuncData} {ps : List Str} {sp sp' : Sp}
/-- one of two promises -/
def spOr (sp sp' : Sp) : Sp := fun vs H Q E => sp vs H Q E ∨ sp' vs H Q E
/-- a def that raises: the class, and no dict -/
structure SpcE where
  ty : Type
  args : ty → List D
  ok : ty → Prop
  cls : Addr
end
end Dw

/-! Defs that an except suite calls, and that neither raise nor loop: nothing is asked of the held exception's context. -/
namespace Dw
open PySem PySem.Spec PyProof.Rows L2
open L2H (RoomH PinOk cxH inv_startH)
variable [Tabs0]
section
variable {P : Program} {w : World} {K : PySem.W.Frag} {mg : Str → Option Value} {base : Heap} {k : Nat} {f : Addr} {fd : FuncData} {ps : List Str} {sp : Addr × Obj → Sp}
/-- the promise of a def f while p is held -/
structure FnS (P : Program) (w : World) (K : PySem.W.Frag) (mg : Str → Option Value) (base : Heap) (k : Nat) (f : Addr) (fd : FuncData) (ps : List Str) (sp : Addr × Obj → Sp) : Prop where
  len : ∀ p vs H Q E, sp p vs H Q E → vs.length = ps.length
  run : ∀ (A : Around) (outer : List Env) (s : Shared) (H : Hp) (args : Args) (us : List Value) (vs : List V) (Q : VK) (E : XK) (p : Addr × Obj), RoomH k A → A.guards = some [] → PinOk outer H s p → Env0 P w K mg base A outer s H → BindsTo s fd args (ps.zip us) → Vals vs us → sp p vs H Q E →
    codeAny (model P w) A (.call (.ref f) args) (CR CX0 outer P w H s Q E) s
theorem fn_ofS {name qual : Str} {params : Arguments} {body : List Stmt} {scope : Scope} {dV kV doc pm cdv ct oc : Value} {an od : Option Addr} {osl : Array (Option Value)} {N : List Str}
    (lk : K.lookup f = some ⟨oc, od, .func (PySem.W.fnOf name qual params body scope dV kV doc pm an cdv ct), osl⟩) (hcd : PySem.W.codeIn K cdv qual = true) (S : FnScope N ps scope) (len : ∀ p vs H Q E, sp p vs H Q E → vs.length = ps.length)
    (hbody : ∀ (A : Around) (outer : List Env) (s : Shared) (H : Hp) (vs : List V) (Q : VK) (E : XK) (p : Addr × Obj), RoomH k (A.deeper (envOfC qual scope s.heap.objs.size f cdv)) → (A.deeper (envOfC qual scope s.heap.objs.size f cdv)).guards = some [] → sp p vs H Q E →
      ∃ t, PSs (cxH CX0 P w K mg base N qual scope f cdv A outer s H E p) body t ∧ t { nx := fun _ H' => Q .non H', rt := Q } (L2.start N vs) H) :
    FnS P w K mg base (k + 1) f (PySem.W.fnOf name qual params body scope dV kV doc pm an cdv ct) ps sp := by
  refine ⟨len, fun A outer s H args us vs Q E p hr hG hpin e0 hb r hsp => ?_⟩
  have hl := len _ _ _ _ _ hsp
  have KX : K.In s.heap := e0.mod.kin.keeps fun b o e => (e0.bs b o e).1
  have lim : s.heap.NoLimit := e0.mod.nolimit.keeps fun b o e => (e0.bs b o e).1
  have hkind : ∀ y ∈ ps.zip us, scope.names.lookup y.1 = some .local ∨ (scope.names.lookup y.1 = some .cell ∧ ((cellsFrom (s.heap.objs.size + 1) scope.names []).lookup y.1).isSome = true) := fun ⟨n, v⟩ hy =>
    (S.par n (List.of_mem_zip hy).1).elim .inl fun q => .inr ⟨q, PySem.W.cellsFrom_some _ _ _ (.inl q)⟩
  refine codeAny_call_function hr.depth (KX _ _ lk) rfl S.co S.gen rfl (PySem.W.codeRec_of KX hcd) (hb _ _ _ _ ?_)
  refine wpAny_newFunctionEnv_cells S.kind hkind fun env he s1 x => ?_
  subst he
  obtain ⟨t, ht, hq⟩ := hbody A outer s H vs Q E p (hr.deeper _) hG hsp
  have I := inv_startH (CX := CX0) (P := P) (w := w) (K := K) (mg := mg) (base := base) (qual := qual) (f := f) (cd := cdv) (A := A) (E := E) S hpin e0 hl r x
  refine ⟨lim.keeps x.toInCall.keep, codeAny_func (wpAny_mono (ht.run [] s1 (L2.start N vs) H _ I hq) (fun fl s' hs => ?_) fun e s' hs => hs)⟩
  match fl, hs with
  | .ret u, ⟨v, _, H', J, rv, q⟩ => exact ⟨v, H', J.os, J.bare, J.base, J.hok, rv, q⟩
  | .next, ⟨_, H', J, q⟩ => exact ⟨V.non, H', J.os, J.bare, J.base, J.hok, rfl, q⟩
  | .brk, ⟨_, _, _, q⟩ => exact False.elim q
  | .cont, ⟨_, _, _, q⟩ => exact False.elim q
end
section
variable {X : Cx} {k : Nat} {f : Addr} {fd : FuncData} {ps : List Str} {sp : Addr × Obj → Sp} {E : L2.St → XK} {x : Str} {q pos : Pos} {e : Expr} {es : List Expr} {t : TA} {p : Addr × Obj}
end
end Dw

/-! try: g = a() / except (A, B) as e: suite; return ("returned", g). -/
namespace Dw
open PySem PySem.Spec PyProof.Rows L2 LamX
variable [Tabs0]
/-- what flies comes with all of the maker's slots -/
theorem takes_len {X : Cx} {W : WX} (t : Takes X W) : Takes X (fun cls d σ H => σ.length = X.N.length → W cls d σ H) := fun u s' ⟨a, B, sI, pins, σ, H, cls, d, e, I, nb, up, sky, na, os, ag, w⟩ =>
  t u s' ⟨a, B, sI, pins, σ, H, cls, d, e, I, nb, up, sky, na, os, ag, w I.len⟩
def TTold3 (K : PySem.W.Frag) (c1 c2 : Value) (n ie : Nat) (wd : Str) (ts : Addr → Value → Option Addr → TS) : (XK → Hp → VK → Prop) → Hp → VK → Prop := fun tl H Q => ∀ Qc : VK, (∀ v H', (∀ t, H' t = none → Q (.ref t) (upd H' t (.tup [.str wd, v]))) → Qc v H') →
  tl (fun cls d H' => PySem.W.exmAny K cls [c1, c2] = some true ∧ ∀ (σ : L2.St) (a : Addr) (D : Ends), σ.length = n → H' a = none → D.rt = Q → ts a cls d D (σ.set ie (some (.ref a))) H') H Qc
theorem told_gives3 {X : Cx} {Ng : List Str} {x a gv e x1 x2 q wd : Str} {sg : Scope} {g : Addr} {cdg c1 c2 : Value} {j kk k3 ig ie : Nat} {p1 p2 p3 p4 p5 p6 p7 p8 p9 pr pt tpos pos pos' : Pos} {b₀ : Stmt} {suite : List Stmt} {ts : Addr → Value → Option Addr → TS}
    (hN : Ng.Nodup) (hig : Ng[ig]? = some gv) (hlg : sg.names.lookup gv = some .local) (hie : Ng[ie]? = some e) (hle : (envOfC x sg 0 g cdg).kindOf e = some .local) (hge : sg.names.lookup x1 = some .globalImplicit) (hge2 : sg.names.lookup x2 = some .globalImplicit)
    (hm1 : X.mg x1 = some c1) (hm2 : X.mg x2 = some c2) (hd1 : (x1 == ("__debug__" : Str)) = false) (hd2 : (x2 == ("__debug__" : Str)) = false) (h0 : ∀ f : Addr, (L2.start Ng [V.ref f])[0]? = some (some (V.ref f))) (hl0 : ∀ f : Addr, (L2.start Ng [V.ref f]).length = Ng.length) (hgl : ig < Ng.length)
    (hd3 : (gv == ("__debug__" : Str)) = false) (hd4 : (gv == ("__classdict__" : Str)) = false)
    (hsu : ∀ (s : Shared) (H : Hp) (a : Addr) (oe : Obj) (cls : Value) (d : Option Addr) (pn : List (Addr × Obj)), Zc cls d oe → (∃ vs, oe.data = .fields vs) →
      PSs ((cxOf C8.CX0 X.prog X.w X.K X.mg X.base Ng x sg g cdg X.A X.stack s H C8.E0).nox.suite a ((a, oe) :: pn)) (b₀ :: suite) (ts a cls d)) :
    GivesTo X Ng x sg g cdg [.Try [.Assign [.Name gv p1] (.Call (.Name a p2) [] [] p3) p4] [.ExceptHandler (some (.Tuple [.Name x1 p5, .Name x2 p6] kk tpos)) (some e) (b₀ :: suite) pos'] [] [] pos, .Return (some (.Tuple [.Constant (.str wd) j p7, .Name gv p8] k3 p9)) pr] a q (TTold3 X.K c1 c2 Ng.length ie wd ts) := by
  intro f c' s H Q tl act hc h
  refine ⟨_, pss_cons (ps_try_as2 (X := (cxOf C8.CX0 X.prog X.w X.K X.mg X.base Ng x sg g cdg X.A X.stack s H C8.E0).nox) (c1 := c1) (c2 := c2) (i := ie)
      (tb := fun W D σ H => ∃ Ech : XK, (∀ cls d σ' H', Ech cls d H' → σ'.length = Ng.length → W cls d σ' H') ∧ σ[0]? = some (some (.ref f)) ∧ H c' = some (CodeO c' q) ∧ tl Ech H fun v H' => D.nx (σ.set ig (some v)) H')
      rfl rfl hN hie hle ⟨hge, hd1, .inl hm1⟩ ⟨hge2, hd2, .inl hm2⟩ (fun W pn xe tk _ => ?_) (hsu s H)) (pss_one (ps_ret (pe_tup (pa_cons pe_str (pa_cons (pe_var (i := ig) hig (.inl hlg) hd3 hd4) pa_nil))))), ?_⟩
  · refine ⟨fun pins s' σ H' D I h' => ?_⟩
    obtain ⟨Ech, hW, h1, h2, h3⟩ := h'
    have hp := act _ pn xe Ech p2 p3 (takes_len tk) hW
    have hq := pss_one (ps_set (pos := p4) (pos' := p1) (i := ig) hN hig (.inl hlg) hp)
    exact hq.run pins s' σ H' D I ⟨h1, h2, h3⟩
  · refine ⟨_, fun cls d σ' H' hE hl => ⟨hE.1, fun a na => hE.2 σ' a _ hl na rfl⟩, h0 f, hc, h _ fun v H' hv => ?_⟩
    have hl : ig < (L2.start Ng [V.ref f]).length := by rw [hl0]; exact hgl
    refine ⟨v, List.getElem?_set_self hl, ?_⟩
    exact ⟨small (show 2 ≤ 100000 by decide), hv⟩
end Dw

/-! told(lambda: body), by data. -/
namespace Dw
open PySem PySem.Spec PyProof.Rows L2 LamX
variable [Tabs0]
/-- the tables that a law knows: all there are -/
structure TabsOk (Tt : List (Addr × Str)) : Prop where
  sound : ∀ p ∈ Tt, Tabs0.nm p.1 = some p.2
  all : ∀ p q, Tabs0.nm p = some q → (p, q) ∈ Tt
theorem tabs_of {F : Addr → Prop} {W : Wd} {Tt : List (Addr × Str)} (ok : WOk F W) (T : TabsOk Tt) (tb : ∀ p q, Tabs0.nm p = some q → W.P p) : Tabs Tt W.H := fun p hp => (ok.pu p.1 (tb _ _ (T.sound p hp))).2.2.tab (T.sound p hp)
/-- a lambda is made: all that is known stays known -/
theorem SR.chg {F : Addr → Prop} {Γ : Gam} {σ : L2.St} {W : Wd} {Tt : List (Addr × Str)} {P : Addr} {q : Str} {H1 : Hp} (g : SR F Γ σ W) (T : TabsOk Tt) (hP : (P, q) ∈ Tt) (tb : ∀ p q, Tabs0.nm p = some q → W.P p) (c : Chg P q W.H H1) (T1 : Tabs Tt H1) :
    Stp F W (W.at H1) ∧ SR F Γ σ (W.at H1) := by
  have pP : W.P P := tb P q (T.sound _ hP)
  obtain ⟨uP, fP, _⟩ := g.ok.pu P pP
  have st : Stp F W (W.at H1) := ⟨fun a u e n => ⟨c.ne (fun z => n (by rw [z]; exact uP)) e, n⟩, rfl, fun a h => by
    cases e : W.H a with
    | none => exact absurd e (g.ok.dom a (g.ok.fu a h))
    | some u => exact c.ne (fun z => fP (by rw [← z]; exact h)) e⟩
  refine ⟨st, ⟨⟨fun a h z => ?_, g.ok.fu, fun a h => ?_⟩, g.len, fun i d e => ?_, fun i ds e => ?_, g.apartX⟩⟩
  · have z : H1 a = none := z
    by_cases hb : a = P
    · obtain ⟨ps, e, _⟩ := T1 _ hP
      rw [hb, show H1 P = _ from e] at z; cases z
    · cases e : W.H a with
      | none => exact g.ok.dom a h e
      | some u => rw [c.ne hb e] at z; cases z
  · obtain ⟨u, f, o⟩ := g.ok.pu a h
    refine ⟨u, f, ?_⟩
    cases n : Tabs0.nm a with
    | some q' =>
      have := T1 _ (T.all a q' n)
      unfold OwnAt
      rw [n]
      exact this
    | none =>
      obtain ⟨x, y, h1, h2, h3, e⟩ := o.purse n
      refine .of ⟨x, y, h1, h2, h3, c.ne (fun z => ?_) e⟩ n
      have := T.sound _ hP
      rw [← show a = P from z, n] at this; cases this
  · obtain ⟨v, e1, r⟩ := g.val i d e
    exact ⟨v, e1, r.stp st⟩
  · obtain ⟨a, vs, e1, u, f, p, e2, r⟩ := g.ownX i ds e
    exact ⟨a, vs, e1, u, f, p, c.ne (fun z => p (by rw [z]; exact pP)) e2, r.stp st⟩
section
variable {K : PySem.W.Frag} {Γ : Gam} {Tt : List (Addr × Str)} {P : Addr} {q wd : Str} {c1 c2 : Value} {n ie i : Nat} {ts : Addr → Value → Option Addr → TS} {t : XK → TE} {d : D} {Q : D → Gam → Prop}
end
/-! ### calls of defs that return, or raise -/
section
variable {Γ : Gam} {s : Spc} {se : SpcE} {sp : Sp} {ta : TA} {E : XK} {d : D}
theorem ev_call_or {x : s.ty} (h : EvA ta Γ (s.args x)) (np : noPs (s.args x) = true) (ok : s.ok x) (hd : ∀ d', s.rel x d' → d' = d) : Ev (tCall (spOr (toSp s) sp) [] E ta) Γ d := fun F σ W R g k => h F σ W _ g fun vs H st r => by
  rw [List.append_nil]
  exact .inl (pure_call (W := W.at H) (g.same st) (fun _ z => z) (RepL.delP _ _ np r) ok fun d' v H' hd' s' r' => by
    rw [hd d' hd'] at r'
    exact k v H' (Same.trans st s') (Rep.addP (W := W) r'))
end
end Dw

/-! Defs that return or raise, by data. -/
namespace Dw
open PySem PySem.Spec PyProof.Rows L2 LamX
variable [Tabs0]
/-! ### raise C() -/
section
variable {X : Cx} {C : Addr} {bmB : List Value} {B newId initId : String}
end
/-! ### what is raised -/
/-- the class, and the fields (none: no dict) -/
structure Exn where
  C : Addr
  fs : List (Str × D)
/-- its dict, as it stands in W -/
def ExHeld (W : Wd) (x : Exn) (ed : Option Addr) : Prop := match x.fs with
  | [] => ed = none
  | f :: fs => ∃ (dd : Addr) (vs : List V), ed = some dd ∧ ¬ W.U dd ∧ W.H dd = some (.xd (((f :: fs).map fun z => z.1).zip vs)) ∧ RepL W ((f :: fs).map fun z => z.2) vs
theorem ExHeld.mono {W W' : Wd} {x : Exn} {ed : Option Addr} (k : ∀ a u, W.H a = some u → ¬ W.U a → W'.H a = some u ∧ ¬ W'.U a) (p : ∀ a, W.P a → W'.P a) (h : ExHeld W x ed) : ExHeld W' x ed := by
  obtain ⟨C, fs⟩ := x
  cases fs with
  | nil => exact h
  | cons f fs =>
    obtain ⟨dd, vs, e, nu, hd, r⟩ := h
    obtain ⟨h1, h2⟩ := k _ _ hd nu
    exact ⟨dd, vs, e, h2, h1, RepL.mono k p _ _ r⟩
theorem ExHeld.same {W : Wd} {H : Hp} {x : Exn} {ed : Option Addr} (s : Same W.H H) (h : ExHeld W x ed) : ExHeld (W.at H) x ed := ExHeld.mono (W := W) (W' := W.at H) (fun a u e n => ⟨s a u e, n⟩) (fun _ z => z) h
/-- raised in W, where the heap was H0 before -/
def ExAt (H0 : Hp) (W : Wd) (x : Exn) (ed : Option Addr) : Prop := (∀ dd, ed = some dd → H0 dd = none) ∧ ExHeld W x ed
/-- an expression that raises x, and leaves what is known -/
def ErT (t : TE) (Γ : Gam) (x : Exn) (R : Option Addr → Hp → Prop) : Prop := ∀ (F : Addr → Prop) (σ : L2.St) (W : Wd) (Q : VK), SR F Γ σ W → (∀ ed H', Same W.H H' → ExAt W.H (W.at H') x ed → R ed H') → t σ W.H Q
/-- .. a statement -/
def ErS (t : TS) (Γ : Gam) (x : Exn) (R : Option Addr → Hp → Prop) : Prop := ∀ (F : Addr → Prop) (σ : L2.St) (W : Wd) (Dr : Ends), SR F Γ σ W → (∀ ed H', Same W.H H' → ExAt W.H (W.at H') x ed → R ed H') → t Dr σ W.H
/-- a statement that leaves what is known -/
def PuS (t : TS) (Γ Γ' : Gam) : Prop := ∀ (F : Addr → Prop) (σ : L2.St) (W : Wd) (Dr : Ends), SR F Γ σ W → (∀ σ' H', Same W.H H' → SR F Γ' σ' (W.at H') → Dr.nx σ' H') → t Dr σ W.H
theorem exAt_back {H0 H1 : Hp} {W : Wd} {x : Exn} {ed : Option Addr} (s : Same H0 H1) (h : ExAt H1 W x ed) : ExAt H0 W x ed := ⟨fun dd e => by
  cases q : H0 dd with
  | none => rfl
  | some u => exact absurd (s dd u q) (by rw [h.1 dd e]; exact fun z => nomatch z), h.2⟩
section
variable {Γ Γ' : Gam} {x : Exn} {R : Option Addr → Hp → Prop} {t u : TS} {te : TE} {c : TT} {d : D} {i : Nat} {g : TG}
theorem ers_first (h : ErS t Γ x R) : ErS (tSeq t u) Γ x R := fun F σ W Dr gg k => h F σ W _ gg k
theorem ers_seq (h : PuS t Γ Γ') (h' : ErS u Γ' x R) : ErS (tSeq t u) Γ x R := fun F σ W Dr gg k => h F σ W _ gg fun σ' H1 s1 g1 => h' F σ' (W.at H1) Dr g1 fun ed H' s' a => k ed H' (Same.trans s1 s') (exAt_back s1 a)
theorem ers_drop (h : ErT te Γ x R) : ErS (tDrop te) Γ x R := fun F σ W Dr gg k => h F σ W _ gg k
theorem ers_ifT (hc : EvT c Γ true) (h : ErS t Γ x R) : ErS (tIfS c t u) Γ x R := fun F σ W Dr gg k => hc F σ W _ gg fun H1 s1 => h F σ (W.at H1) Dr (gg.same s1) fun ed H' s' a => k ed H' (Same.trans s1 s') (exAt_back s1 a)
theorem pus_drop (h : Ev te Γ d) : PuS (tDrop te) Γ Γ := fun F σ W Dr gg k => h F σ W _ gg fun v H s r => k σ H s (gg.same s)
theorem pus_asg (h : Ev te Γ d) : PuS (tAsg te (gName i)) Γ (Γ.set i (.val d)) := fun F σ W Dr gg k => h F σ W _ gg fun v H s r => k _ H s ((gg.same s).set r)
theorem pus_next : PuS tNext Γ Γ := fun F σ W Dr gg k => k σ W.H (Same.refl _) gg
theorem pus_ifF (hc : EvT c Γ false) (h : PuS u Γ Γ') : PuS (tIfS c t u) Γ Γ' := fun F σ W Dr gg k => hc F σ W _ gg fun H1 s1 => h F σ (W.at H1) Dr (gg.same s1) fun σ' H' s' g' => k σ' H' (Same.trans s1 s') g'
end
/-! ### a def that raises -/
structure SpcX where
  ty : Type
  args : ty → List D
  ok : ty → Prop
  ex : ty → Exn
def toSpX (s : SpcX) : Sp := fun vs H _ E => ∃ (x : s.ty) (F : Addr → Prop) (W : Wd), W.H = H ∧ WOk F W ∧ RepL W (s.args x) vs ∧ s.ok x ∧ ∀ ed H', Same W.H H' → ExAt W.H (W.at H') (s.ex x) ed → E (.ref (s.ex x).C) ed H'
/-- both promises -/
abbrev spRX (s : Spc) (sx : SpcX) : Sp := spOr (toSp s) (toSpX sx)
section
variable {P : Program} {w : World} {K : PySem.W.Frag} {mg : Str → Option Value} {base : Heap}
theorem fn_okX {x qual : Str} {st : Stmt} {f : Addr} {fd : FuncData} {N ps : List Str} {k : Nat} {s : Spc} {sx : SpcX} (F : Fun K x qual st f fd) (S : FnScope N ps (defScope st)) (len : ∀ x, (s.args x).length = ps.length) (lenX : ∀ x, (sx.args x).length = ps.length)
    (hbody : ∀ (cdv : Value) (A : Around) (outer : List Env) (s' : Shared) (H : Hp) (E : XK), Room k (A.deeper (envOfC qual (defScope st) s'.heap.objs.size f cdv)) →
      ∃ t, PSs (cxOf (L2.CX P w) P w K mg base N qual (defScope st) f cdv A outer s' H E) (defBody st) t ∧ (∀ x, s.ok x → Ds t (Gz0 N.length (s.args x)) ⟨fun _ => s.rel x .non, s.rel x, fun _ => False, fun _ => False⟩) ∧ ∀ x, sx.ok x → ErS t (Gz0 N.length (sx.args x)) (sx.ex x) fun ed H' => E (.ref (sx.ex x).C) ed H') :
    FnOk P w K mg base (L2.CX P w) (k + 1) f fd ps (spRX s sx) := by
  obtain ⟨oc, od, kV, doc, pm, an, cdv, ct, osl, rfl, lk, hcd⟩ := F.ex
  refine fn_of lk hcd S (fun vs H Q E h => ?_) fun A outer s' H vs Q E hr h => ?_
  · rcases h with h | ⟨x, F, W, _, _, r, _⟩
    · exact spc_len len vs H Q E h
    · rw [← r.length]; exact lenX x
  · obtain ⟨t, p, hb, hx⟩ := hbody cdv A outer s' H E hr
    refine ⟨t, p, ?_⟩
    rcases h with h | ⟨x, F, W, rfl, ok, r, ho, hE⟩
    · exact body_of h hb
    · exact hx x ho F _ W _ (sr_start ok r) hE
end
section
variable {Γ : Gam} {s : Spc} {sx : SpcX} {sp : Sp} {ta tk : TA} {E : XK} {d : D} {ds es : List D} {R : Option Addr → Hp → Prop}
theorem ert_call {x : sx.ty} (h : EvA ta Γ (sx.args x)) (ok : sx.ok x) (hR : ∀ ed H', R ed H' → E (.ref (sx.ex x).C) ed H') : ErT (tCall (spOr sp (toSpX sx)) [] E ta) Γ (sx.ex x) R := fun F σ W Q g k => h F σ W _ g fun vs H st r => by
  rw [List.append_nil]
  exact .inr ⟨x, _, W.at H, rfl, (g.same st).callOk, r, ok, fun ed H' s' a => hR ed H' (k ed H' (Same.trans st s') (exAt_back st a))⟩
end
end Dw

/-! The suite of told, by data: defs that it calls while an exception is held. -/
namespace L2H
theorem RoomH.units {k : Nat} {A : PySem.Around} (r : RoomH k A) : A.units + 64 < PySem.cLine := by have := r.un; omega
end L2H
namespace Dw
open PySem PySem.Spec PyProof.Rows L2 LamX
open L2H (RoomH PinOk cxH inv_startH)
variable [Tabs0]
/-! ### pure readings, where x is held with the dict ed -/
def EvH (t : TE) (Γ : Gam) (x : Exn) (ed : Option Addr) (d : D) : Prop := ∀ (F : Addr → Prop) (σ : L2.St) (W : Wd) (Q : VK), SR F Γ σ W → ExHeld W x ed → (∀ v H, Same W.H H → Rep (W.at H) d v → Q v H) → t σ W.H Q
/-- statements that return d -/
def RtS (t : TS) (Γ : Gam) (x : Exn) (ed : Option Addr) (d : D) : Prop := ∀ (F : Addr → Prop) (σ : L2.St) (W : Wd) (Dr : Ends), SR F Γ σ W → ExHeld W x ed → (∀ v H, Same W.H H → Rep (W.at H) d v → Dr.rt v H) → t Dr σ W.H
section
variable {Γ Γ' : Gam} {x : Exn} {ed : Option Addr} {t u : TS} {te ta tb : TE} {c : TT} {d : D} {i : Nat} {K : PySem.W.Frag}
theorem Ev.held (h : Ev te Γ d) : EvH te Γ x ed d := fun F σ W Q g hx k => h F σ W Q g k
theorem rts_seq (h : PuS t Γ Γ') (h' : RtS u Γ' x ed d) : RtS (tSeq t u) Γ x ed d := fun F σ W Dr g hx k => h F σ W _ g fun σ' H1 s1 g1 => h' F σ' (W.at H1) Dr g1 (hx.same s1) fun v H s r => k v H (Same.trans s1 s) r
theorem rts_first (h : RtS t Γ x ed d) : RtS (tSeq t u) Γ x ed d := fun F σ W Dr g hx k => h F σ W _ g hx k
theorem rts_ifT (hc : EvT c Γ true) (h : RtS t Γ x ed d) : RtS (tIfS c t u) Γ x ed d := fun F σ W Dr g hx k => hc F σ W _ g fun H1 s1 => h F σ (W.at H1) Dr (g.same s1) (hx.same s1) fun v H s r => k v H (Same.trans s1 s) r
theorem rts_ret (h : EvH te Γ x ed d) : RtS (tRet te) Γ x ed d := fun F σ W Dr g hx k => h F σ W _ g hx k
theorem evx_ifT (hc : EvT c Γ true) (h : EvH ta Γ x ed d) : EvH (tIf c ta tb) Γ x ed d := fun F σ W Q g hx k => hc F σ W _ g fun H1 s1 => h F σ (W.at H1) Q (g.same s1) (hx.same s1) fun v H s r => k v H (Same.trans s1 s) r
theorem evx_ifF (hc : EvT c Γ false) (h : EvH tb Γ x ed d) : EvH (tIf c ta tb) Γ x ed d := fun F σ W Q g hx k => hc F σ W _ g fun H1 s1 => h F σ (W.at H1) Q (g.same s1) (hx.same s1) fun v H s r => k v H (Same.trans s1 s) r
end
/-! ### their promise -/
structure SpcS where
  ty : Type
  args : ty → List D
  ok : ty → Prop
  ex : ty → Exn
  out : ty → D
def toSpH (s : SpcS) (a : Addr) (cls : Value) (ed : Option Addr) : Sp := fun vs H Q _ => ∃ (x : s.ty) (F : Addr → Prop) (W : Wd), W.H = H ∧ WOk F W ∧ cls = .ref (s.ex x).C ∧ ExHeld W (s.ex x) ed ∧ RepL W (.raw (.ref a) :: s.args x) vs ∧ s.ok x ∧ ∀ v H', Same W.H H' → Rep (W.at H') (s.out x) v → Q v H'
def toSpS (s : SpcS) : Addr × Obj → Sp := fun p vs H Q E => (∃ vs, p.2.data = .fields vs) ∧ toSpH s p.1 p.2.cls p.2.dict vs H Q E
section
variable {P : Program} {w : World} {K : PySem.W.Frag} {mg : Str → Option Value} {base : Heap}
theorem fnS_ok {x qual : Str} {st : Stmt} {f : Addr} {fd : FuncData} {N ps : List Str} {k : Nat} {s : SpcS} (F : Fun K x qual st f fd) (S : FnScope N ps (defScope st)) (len : ∀ x, (s.args x).length + 1 = ps.length)
    (hbody : ∀ (cdv : Value) (A : Around) (outer : List Env) (s' : Shared) (H : Hp) (E : XK) (p : Addr × Obj) (x : s.ty), RoomH k (A.deeper (envOfC qual (defScope st) s'.heap.objs.size f cdv)) → (A.deeper (envOfC qual (defScope st) s'.heap.objs.size f cdv)).guards = some [] → s.ok x → Zc (.ref (s.ex x).C) p.2.dict p.2 → (∃ vs, p.2.data = .fields vs) → ((s.ex x).fs = [] → p.2.dict = none) →
      ∃ t, PSs (cxH CX0 P w K mg base N qual (defScope st) f cdv A outer s' H E p) (defBody st) t ∧ RtS t (Gz0 N.length (.raw (.ref p.1) :: s.args x)) (s.ex x) p.2.dict (s.out x)) : FnS P w K mg base (k + 1) f fd ps (toSpS s) := by
  obtain ⟨oc, od, kV, doc, pm, an, cdv, ct, osl, rfl, lk, hcd⟩ := F.ex
  refine fn_ofS lk hcd S (fun p vs H Q E ⟨_, x, F, W, _, _, _, _, r, _⟩ => by rw [← r.length]; exact len x) fun A outer s' H vs Q E p hr hG ⟨hf, x, F, W, e, ok, hc, hx, r, ho, hq⟩ => ?_
  subst e
  obtain ⟨t, ht, hd⟩ := hbody cdv A outer s' W.H E p x hr hG ho ⟨hc, rfl⟩ hf fun z => by
    unfold ExHeld at hx
    rw [z] at hx
    exact hx
  exact ⟨t, ht, hd F _ W _ (sr_start ok r) hx hq⟩
end
section
variable {X : Cx} {k : Nat} {f : Addr} {fd : FuncData} {ps : List Str} {s : SpcS} {E : XK} {n : Str} {q pos : Pos} {e : Expr} {es : List Expr} {t : TA} {a : Addr} {oe : Obj} {cls : Value} {ed : Option Addr}
/-- f(e, ..) in the suite that holds oe -/
theorem pe_callH (hz : Zc cls ed oe) (hf : ∃ vs, oe.data = .fields vs) (F : FnS X.prog X.w X.K X.mg X.base k f fd ps (toSpS s)) (hr : RoomH k X.A) (hG : X.A.guards = some []) (hp : (a, oe) ∈ X.pn) (hg : Gl X n) (hm : X.mg n = some (.ref f)) (hk : PySem.W.keepIn X.K (.ref f) = true) (hb : Binds X.K fd ps [])
    (ha : PA X (e :: es) t) (hdb : (n == ("__debug__" : Str)) = false := by decide) (he : starEach (e :: es) X.env = (false, eval e X.env) :: starEach es X.env := by rfl) (hpl : (backTo pos (starEach es X.env)).any (·.1) = false := by rfl) :
    PE X (.Call (.Name n q) (e :: es) [] pos) (fun σ H Q => t σ H fun vs H1 => toSpH s a cls ed vs H1 Q E0) := by
  refine ⟨fun pins s0 σ H Q I h => ?_⟩
  refine wpAny_Call_Name_kw (ld_glob I hg hm (PySem.W.callWith_K (h₀ := X.base) I.ok.mod.kin hk (thn (ha.run pos pins s0 σ H _ I h) fun us s1 ⟨vs, H1, I1, r, hq0⟩ => ⟨I1.kIn, ?_⟩) he hpl) hdb)
  have hq : toSpS s (a, oe) vs H1 Q E0 := by
    obtain ⟨h1, h2⟩ := hz
    subst h1 h2
    exact ⟨hf, hq0⟩
  have hl : us.length = ps.length := by rw [← r.length]; exact F.len _ _ _ _ _ hq
  have b := hb s1 us I1.kIn (by rw [List.append_nil]; exact hl)
  rw [List.append_nil] at b
  have P1 := I1.pin (a, oe) (List.mem_append_left _ hp)
  have hpin : PinOk X.stack H1 s1 (a, oe) := ⟨P1.1, P1.2.1, fun hm => (List.mem_cons.mp (I1.stkSub a hm)).elim P1.2.2.1 P1.2.2.2.1, P1.2.2.2.2⟩
  refine wpAny_call (codeAny_mono (F.run X.A X.stack s1 H1 ⟨us, []⟩ us vs Q E0 (a, oe) hr hG hpin I1.env0 b r hq) fun r s' hq => ?_)
  match r, hq with
  | .error e, hq => exact (show False from hq).elim
  | .ok .next, hq => exact (show False from hq).elim
  | .ok .brk, hq => exact (show False from hq).elim
  | .ok .cont, hq => exact (show False from hq).elim
  | .ok (.ret u), hq => exact I1.after hq
end
section
variable {Γ : Gam} {s : SpcS} {t : TA} {u : TS} {te ta tb : TE} {x : s.ty} {y : Exn} {a : Addr} {ed : Option Addr} {E : XK} {d d1 d2 : D} {i : Nat}
theorem evh_call (h : EvA t Γ (.raw (.ref a) :: s.args x)) (ok : s.ok x) : EvH (fun σ H Q => t σ H fun vs H1 => toSpH s a (.ref (s.ex x).C) ed vs H1 Q E) Γ (s.ex x) ed (s.out x) := fun F σ W Q g hx k => h F σ W _ g fun vs H st r =>
  ⟨x, _, W.at H, rfl, (g.same st).callOk, rfl, hx.same st, r, ok, fun v H' s' r' => k v H' (Same.trans st s') r'⟩
theorem rts_asg (h : EvH te Γ y ed d1) (h' : RtS u (Γ.set i (.val d1)) y ed d) : RtS (tSeq (tAsg te (gName i)) u) Γ y ed d := fun F σ W Dr g hx k => h F σ W _ g hx fun v H1 s1 r1 => h' F _ (W.at H1) Dr ((g.same s1).set r1) (hx.same s1) fun v H s r => k v H (Same.trans s1 s) r
theorem evh_pair (h : EvH ta Γ y ed d1) (h' : EvH tb Γ y ed d2) : EvH (tTup (tCons ta (tCons tb tNil))) Γ y ed (.tup [d1, d2]) := fun F σ W Q g hx k => h F σ W _ g hx fun v1 H1 s1 r1 => h' F σ (W.at H1) _ (g.same s1) (hx.same s1) fun v2 H2 s2 r2 =>
  ⟨small (show 2 ≤ 100000 by decide), fun p hp => k _ _ (Same.trans s1 (Same.trans s2 (same_upd hp))) (rep_new_tup (W := W.at H2) (SR.same (W := W.at H1) s2 (g.same s1)).ok.dom hp ⟨v1, _, rfl, Rep.same (W := W.at H1) s2 r1, v2, _, rfl, r2, rfl⟩)⟩
theorem sr_unset {F : Addr → Prop} {W : Wd} (ok : WOk F W) : ∀ σ : L2.St, SR F (List.replicate σ.length .unset) σ W := fun σ =>
  have no : ∀ (i : Nat) (z : Sl), (List.replicate σ.length Sl.unset)[i]? = some z → z = .unset := fun i z h => List.eq_of_mem_replicate (List.mem_of_getElem? h)
  ⟨ok, by simp, fun i d h => (nomatch no i _ h), fun i d h => (nomatch no i _ h), fun i j a ds es h => (nomatch no i _ h)⟩
end
/-! ### counting truth values -/
section
variable {K : PySem.W.Frag} {Γ : Gam} {ta tb : TE} {bs : List Bool}
theorem flat_bs : ∀ bs : List Bool, (bs.map V.bl).all flatV = true
  | [] => rfl
  | b :: bs => by rw [List.map_cons, List.all_cons, flat_bs bs]; rfl
theorem eq_bl (a b : Bool) : eqV (.bl a) (.bl b) = (a == b) := by cases a <;> cases b <;> rfl
theorem count_bs : ∀ bs : List Bool, (bs.map V.bl).countP (fun z => eqV z (.bl true)) = bs.countP id
  | [] => rfl
  | b :: bs => by
    rw [List.map_cons, List.countP_cons, List.countP_cons, count_bs bs, eq_bl]
    cases b <;> rfl
theorem ev_countB (h : EvB ta Γ (bs.map D.bl)) (hb : Ev tb Γ (.bl true)) : Ev (tBM K "list" (rCnt K) ta (tCons tb tNil)) Γ (.int (bs.countP id : Nat)) := fun F σ W Q g k =>
  h F σ W _ g fun a vs H s e l => by
    refine ⟨tyV_lst e, hb F σ (W.at H) _ (g.same s) fun v H' s' r => ?_⟩
    rw [RepL.bls.mp l] at e
    rw [show v = .bl true from r]
    refine ⟨a, bs.map V.bl, .bl true, rfl, rfl, .of (s' _ _ e), rfl, flat_bs bs, ?_⟩
    rw [count_bs]
    exact k _ H' (Same.trans s s') rfl
theorem ev_idxB (h : EvB ta Γ (bs.map D.bl)) (hb : Ev tb Γ (.bl true)) (hm : true ∈ bs) : Ev (tBM K "list" (rIndex K) ta (tCons tb tNil)) Γ (.int (bs.idxOf true : Nat)) := fun F σ W Q g k =>
  h F σ W _ g fun a vs H s e l => by
    refine ⟨tyV_lst e, hb F σ (W.at H) _ (g.same s) fun v H' s' r => ?_⟩
    rw [RepL.bls.mp l] at e
    rw [show v = .bl true from r]
    have hlt : bs.idxOf true < bs.length := List.idxOf_lt_length_iff.mpr hm
    refine ⟨a, bs.map V.bl, .bl true, bs.idxOf true, .bl true, rfl, rfl, .of (s' _ _ e), rfl, flat_bs bs, ?_, rfl, fun m z hmj hz => ?_, k _ H' (Same.trans s s') rfl⟩
    · rw [List.getElem?_map, List.getElem?_eq_getElem hlt, List.getElem_idxOf hlt]; rfl
    · rw [List.getElem?_map] at hz
      have hml : m < bs.length := Nat.lt_trans hmj hlt
      rw [List.getElem?_eq_getElem hml] at hz
      have ez : z = .bl bs[m] := (Option.some.inj hz).symm
      rw [ez, eq_bl]
      have := idx_not hmj hml
      cases q : bs[m] with
      | false => rfl
      | true => exact absurd q this
end
/-! ### told(lambda: ..), where x is raised -/
section
variable {K : PySem.W.Frag} {Γ : Gam} {Tt : List (Addr × Str)} {P : Addr} {q wd : Str} {c1 c2 : Value} {n ie i : Nat} {ts : Addr → Value → Option Addr → TS} {t : XK → TE} {d : D} {Q : D → Gam → Prop} {x : Exn}
/-- the suite's reading: it returns d -/
def SuitX (ts : Addr → Value → Option Addr → TS) (n ie : Nat) (x : Exn) (d : D) : Prop := ∀ (F : Addr → Prop) (W : Wd) (σ : L2.St) (a : Addr) (Dr : Ends) (ed : Option Addr), WOk F W → σ.length = n → W.H a = none → ExHeld W x ed → (∀ v H', Same W.H H' → Rep (W.at H') d v → Dr.rt v H') → ts a (.ref x.C) ed Dr (σ.set ie (some (.ref a))) W.H
theorem dl_told_excX (T : TabsOk Tt) (hP : (P, q) ∈ Tt) (h0 : Γ[i]? = some (.val .purse)) (hb : ∀ E : XK, ErT (t E) Γ x fun ed H' => E (.ref x.C) ed H') (hx : PySem.W.exmAny K (.ref x.C) [c1, c2] = some true) (hs : SuitX ts n ie x d) (hq : Q d Γ) :
    Dl (tLam3 Tt P q (TTold3 K c1 c2 n ie wd ts) t) Γ Q := fun F σ W R g k => by
  obtain ⟨v0, e0, a, ev, hp, nn, tb⟩ := g.val i .purse h0
  refine ⟨tabs_of g.ok T tb, fun H1 c T1 => ?_⟩
  obtain ⟨st, g1⟩ := g.chg T hP tb c T1
  intro Qc hQ
  refine hb _ F σ (W.at H1) Qc g1 fun ed H' s' ex => ⟨hx, fun σ2 a2 Dr hl na hD => ?_⟩
  have g2 : SR F Γ σ (W.at H') := SR.same (W := W.at H1) s' g1
  refine hs F (W.at H') σ2 a2 Dr ed g2.ok hl na ex.2 fun v H2 s2 r => ?_
  have g3 : SR F Γ σ (W.at H2) := SR.same (W := W.at H') s2 g2
  rw [hD]
  exact k v (W.at H2) d Γ ((st.trans (Stp.of_same g1.ok s')).trans (Stp.of_same (W := W.at H') g2.ok s2)) g3 r hq
end
end Dw

/-! Defs that make lambdas: their code object is known. The head with tables of code objects. -/
namespace Dw
open PySem PySem.Spec PyProof.Rows L2 LamX
variable [Tabs0]
/-- a def of the text, with the address of its code object -/
structure FunC (K : PySem.W.Frag) (x qual : Str) (st : Stmt) (f : Addr) (fd : FuncData) (c : Addr) : Prop where
  ex : ∃ (oc : Value) (od : Option Addr) (kV doc pm : Value) (an : Option Addr) (ct : Value) (osl : Array (Option Value)), fd = PySem.W.fnOf x qual (defArgs st) (defBody st) (defScope st) .none kV doc pm an (.ref c) ct ∧ K.lookup f = some ⟨oc, od, .func fd, osl⟩ ∧ PySem.W.codeIn K (.ref c) qual = true
section
variable {P : Program} {w : World} {K : PySem.W.Frag} {mg : Str → Option Value} {base : Heap}
theorem fnGC_ok {x qual : Str} {st : Stmt} {f c : Addr} {fd : FuncData} {N ps : List Str} {k : Nat} {s : Spc} (F : FunC K x qual st f fd c) (S : FnScope N ps (defScope st)) (len : ∀ x, (s.args x).length = ps.length)
    (hbody : ∀ (A : Around) (outer : List Env) (s' : Shared) (H : Hp) (E : XK), Room k (A.deeper (envOfC qual (defScope st) s'.heap.objs.size f (.ref c))) → (A.deeper (envOfC qual (defScope st) s'.heap.objs.size f (.ref c))).guards = some [] →
      ∃ t, PSs (cxOf CX0 P w K mg base N qual (defScope st) f (.ref c) A outer s' H E).nox (defBody st) t ∧ ∀ x, s.ok x → Ds t (Gz0 N.length (s.args x)) ⟨fun _ => s.rel x .non, s.rel x, fun _ => False, fun _ => False⟩) : FnG P w K mg base (k + 1) f fd ps s := by
  obtain ⟨oc, od, kV, doc, pm, an, ct, osl, rfl, lk, hcd⟩ := F.ex
  refine ⟨len, fun A outer sh H args us vs Q E hr hg e0 hb r hsp => ?_⟩
  obtain ⟨t, p, hd⟩ := hbody A outer sh H E (hr.deeper _) hg
  have old : ∀ b o, base.get? b = some o → sh.heap.get? b = some o := fun b o e => (e0.bs b o e).1
  have KX := e0.mod.kin.keeps old
  refine codeAny_call_function hr.depth (KX _ _ lk) rfl S.co S.gen rfl (PySem.W.codeRec_of KX hcd) (hb _ _ _ _ (wpAny_newFunctionEnv_cells S.kind (cells_in S us) ?_))
  rintro env rfl s1 x1
  refine ⟨(e0.mod.nolimit.keeps old).keeps x1.toInCall.keep, codeAny_func (wpAny_mono (p.nox.run [] s1 _ H _ (inv_start S hr.hd e0 (spc_len len _ _ _ _ hsp) r x1) (body_of hsp hd)) (fun fl s' hs => ?_) fun _ _ z => z)⟩
  have done : ∀ {σ' : L2.St} {H' : Hp} {v : V} {u : Value}, Inv (cxOf CX0 P w K mg base N qual (defScope st) f (.ref c) A outer sh H E) [] σ' H' s' → RelV v u → Q v H' → CE outer P w H sh Q u s' := fun {_ H' v _} J rv q => ⟨v, H', J.os, J.bare, J.base, J.hok, rv, q⟩
  match fl, hs with
  | .ret _, ⟨_, _, _, J, rv, q⟩ => exact done J rv q
  | .next, ⟨_, _, J, q⟩ => exact done (v := .non) (u := .none) J rfl q
  | .brk, ⟨_, _, _, q⟩ => exact q.elim
  | .cont, ⟨_, _, _, q⟩ => exact q.elim
end
/-! ### the head -/
section
variable {P : Program} {w : World} {K : PySem.W.Frag} {mg mb : Str → Option Value} {k : Nat} {fa a : Addr} {fd : FuncData} {x : Str} {s1 : Shared} {vs : List Value} {ns : List Int} {sp : Spc}
/-- the script, and the tables, empty -/
def headT (K : PySem.W.Frag) (a : Addr) (vs : List Value) (ns : List Int) (ts : List Addr) : Hp := fun b => if b ∈ ts then some (.tbl #[]) else headH K a vs ns b
theorem headT_in {b : Addr} {ts : List Addr} (h : b ∈ ts) : headT K a vs ns ts b = some (.tbl #[]) := if_pos h
theorem headT_out {b : Addr} {ts : List Addr} (h : b ∉ ts) : headT K a vs ns ts b = headH K a vs ns b := if_neg h
theorem head_callT (cs : List (Addr × Addr × Str)) (T : TabsOk (cs.map fun p => (p.2.1, p.2.2)))
    (KX : K.In s1.heap) (hns : s1.heap.Ns mainGlobals mg) (hb : s1.heap.Ns builtinsNs mb) (hbb : ∀ x : Str, x ≠ "__name__" → mb x = bootBuiltins x) (hlim : s1.heap.NoLimit) (hg : s1.gens = #[]) (ha : s1.heap.get? a = some { cls := .type "list", data := .seq vs.toArray }) (hi : IntsAre vs ns) (hl : ns.length ≤ sizeLine) (hr : Room k callerA)
    (hT : ∀ p ∈ cs, s1.heap.get? p.2.1 = some { cls := .none, data := .fields #[] }) (nT : ∀ p ∈ cs, K.lookup p.2.1 = none) (hC : ∀ p ∈ cs, PySem.W.CodeHd s1.heap p.1 p.2.1)
    (hbm : ∃ (bm : Addr) (ob : Obj), mg "__builtins__" = some (.ref bm) ∧ bm ≠ builtinsNs ∧ s1.heap.get? bm = some ob ∧ ob.cls = .type "module" ∧ ob.dict = some builtinsNs ∧ ob.data = .plain)
    (F : ∀ base : Heap, (∀ p ∈ cs, TabB base mg p.1 p.2.1) → FnG P w K mg base k fa fd [x] sp) (hbind : ∀ (s : Shared) (u : Value), BindsTo s fd ⟨[u], []⟩ [(x, u)]) (hx : ∃ y : sp.ty, sp.args y = [.scr K (ns.map V.int)] ∧ sp.ok y ∧ ∀ d, sp.rel y d → d = .bl true) :
    codeAny (model P w) callerA (.call (.ref fa) ⟨[.ref a], []⟩) (fun r s' => r = .ok (.ret (.bool true)) ∧ OldK s1.heap s'.heap ∧ s'.os = s1.os ∧ AllBare s'.gens) s1 := by
  obtain ⟨ts, ets⟩ : ∃ ts : List Addr, ts = cs.map fun p => p.2.1 := ⟨_, rfl⟩
  have memT : ∀ p ∈ cs, p.2.1 ∈ ts := fun p hp => by rw [ets]; exact List.mem_map.mpr ⟨p, hp, rfl⟩
  have ofT : ∀ b ∈ ts, ∃ p ∈ cs, p.2.1 = b := fun b hb => by rw [ets] at hb; exact List.mem_map.mp hb
  have rv := vals_ints hi
  have tabO : ∀ b ∈ ts, s1.heap.get? b = some { cls := .none, data := .fields #[] } := fun b hb => by
    obtain ⟨p, hp, e⟩ := ofT b hb
    rw [← e]; exact hT p hp
  have aT : a ∉ ts := fun z => by
    have q := tabO a z
    rw [ha] at q
    cases (show Data.seq vs.toArray _ = Data.fields #[] from congrArg Obj.data (Option.some.inj q))
  -- what is neither the script nor a table stands in the ground
  have grd : ∀ {b : Addr} {o : Obj}, s1.heap.get? b = some o → (∀ vs n, o.data ≠ .seq vs n) → o.data ≠ .fields #[] → (hidT s1.heap (headT K a vs ns ts)).get? b = some o := fun {b o} e h1 h2 => by
    have nb : b ∉ ts := fun z => by
      rw [tabO b z] at e; cases e
      exact h2 rfl
    refine hidT_get e ?_
    rw [headT_out nb]
    refine headH_none fun z => ?_
    rw [z, ha] at e; cases e
    exact h1 _ _ rfl
  have dictG : ∀ {b : Addr} {o : Obj} {es : Array DictEntry} {ep : Nat}, s1.heap.get? b = some o → o.data = .dict es ep → (hidT s1.heap (headT K a vs ns ts)).get? b = some o := fun e d =>
    grd e (fun _ _ z => by rw [d] at z; cases z) (fun z => by rw [d] at z; cases z)
  have nsK : ∀ {b : Addr} {m : Str → Option Value}, s1.heap.Ns b m → (hidT s1.heap (headT K a vs ns ts)).Ns b m := fun ⟨o, es, ep, e, d, r⟩ => ⟨o, es, ep, dictG e d, d, r⟩
  have nK : ∀ b ∈ ts, K.lookup b = none := fun b hb => by
    obtain ⟨p, hp, e⟩ := ofT b hb
    rw [← e]; exact nT p hp
  have kin : K.In (hidT s1.heap (headT K a vs ns ts)) := fun b o e => hidT_get (KX b o e) (by
    have nb : b ∉ ts := fun z => by rw [nK b z] at e; cases e
    rw [headT_out nb]
    exact if_neg fun z => by rw [z.1, z.2] at e; cases e)
  have hS : SqL K (headT K a vs ns ts) a (ns.map V.int) := by
    cases q : K.lookup a with
    | none => exact .inl (.inr ⟨_, (headT_out aT).trans (if_pos ⟨rfl, q⟩)⟩)
    | some o =>
      have e := KX a o q
      rw [ha] at e; cases e
      exact .inr ⟨_, vs.toArray, _, q, rfl, rfl, rfl, by rw [List.size_toArray, hi.length]; exact hl, by simpa using rv⟩
  have hok : HOk P w (headT K a vs ns ts) s1.heap := fun b u z => by
    by_cases hb : b ∈ ts
    · rw [headT_in hb] at z; cases z
      exact tabO b hb
    · rw [headT_out hb] at z
      by_cases q : b = a ∧ K.lookup a = none
      · have z' := (if_pos q).symm.trans z
        cases z'
        rw [q.1]
        exact ⟨ha, by rw [List.length_map]; exact hl, vs, _, rv, ha⟩
      · cases (if_neg q).symm.trans z
  have hM : Mod K mg (hidT s1.heap (headT K a vs ns ts)) := ⟨kin, nsK hns, ⟨mb, nsK hb, hbb⟩, hlim.imp fun mc h => ⟨nsK h.1, h.2⟩⟩
  have TB : ∀ p ∈ cs, TabB (hidT s1.heap (headT K a vs ns ts)) mg p.1 p.2.1 := fun p hp => by
    have hTp := hT p hp
    refine ⟨?_, ?_, fun z => ?_⟩
    · obtain ⟨o, us, file, tf, flags, tg, inF, text, tt, e1, r1, r2, r3, r⟩ := hC p hp
      refine ⟨o, us, file, tf, flags, tg, inF, text, tt, grd e1 (fun _ _ z => ?_) (fun z => ?_), r1, r2, r3, r⟩
      · rw [r2] at z; cases z
      · rw [r2] at z; cases z
        simp at r3
    · obtain ⟨bm, ob, b1, b2, b3, b4, b5, b6⟩ := hbm
      refine ⟨bm, ob, b1, b2, fun q => ?_, fun q => ?_, grd b3 (fun _ _ z => ?_) (fun z => ?_), b4, b5, b6⟩
      · obtain ⟨o, es, ep, e, hd, _⟩ := hns
        rw [q, e] at b3; cases b3
        rw [hd] at b6; cases b6
      · rw [q, hTp] at b3; cases b3
        cases b6
      · rw [b6] at z; cases z
      · rw [b6] at z; cases z
    · obtain ⟨o, es, ep, e, hd, _⟩ := hns
      rw [z, hTp] at e; cases e
      cases hd
  obtain ⟨y, e1, o1, r1⟩ := hx
  have tabI : ∀ p q, Tabs0.nm p = some q → p ∈ ts := fun p q z => by
    obtain ⟨c, hc, e⟩ := List.mem_map.mp (T.all p q z)
    cases e
    exact memT c hc
  have rS : Rep ⟨headT K a vs ns ts, fun b => b ∈ ts, fun b => b ∈ ts⟩ (.scr K (ns.map V.int)) (.ref a) := by
    refine ⟨a, rfl, ?_, tabI⟩
    rcases hS with (h | ⟨o, h⟩) | q
    · exact .inl ⟨_, h, aT, .inl rfl⟩
    · exact .inl ⟨_, h, aT, .inr ⟨o, rfl⟩⟩
    · exact .inr q
  have hsp : toSp sp [.ref a] (headT K a vs ns ts) (fun v _ => v = .bl true) (fun _ _ _ => False) := by
    refine ⟨y, fun _ => False, ⟨headT K a vs ns ts, fun b => b ∈ ts, fun b => b ∈ ts⟩, rfl, ⟨fun b h z => ?_, fun b h => h.elim, fun b h => ⟨h, fun z => z, ?_⟩⟩, by rw [e1]; exact RepL.one rS, o1, fun d v W' h _ _ rp => by rw [r1 d h] at rp; exact rp⟩
    · have z : headT K a vs ns ts b = none := z
      rw [headT_in h] at z; cases z
    · obtain ⟨p, hp, e⟩ := ofT b h
      have nm : Tabs0.nm b = some p.2.2 := by
        rw [← e]; exact T.sound (p.2.1, p.2.2) (List.mem_map.mpr ⟨p, hp, rfl⟩)
      unfold OwnAt
      rw [nm]
      exact TabS.nil (headT_in h)
  refine codeAny_mono ((F _ TB).2 callerA [] s1 _ ⟨[.ref a], []⟩ [.ref a] [.ref a] _ _ hr rfl ⟨rfl, hM, fun b o e => of_hidT e, Nat.le_of_eq (hidT_size _ _), trivial, fun b hb => absurd (show b ∈ ([] : List Addr) from hb) (by simp), hok, .of_eq hg⟩ (hbind s1 (.ref a)) (.cons rfl .nil) hsp) fun r s' h => ?_
  match r, h with
  | .error _, h => exact (show False from h).elim
  | .ok .next, h => exact (show False from h).elim
  | .ok .brk, h => exact (show False from h).elim
  | .ok .cont, h => exact (show False from h).elim
  | .ok (.ret u), ⟨v, H', os, bare, un, hok', r', q⟩ =>
    have q' : v = .bl true := q
    subst q'
    obtain rfl : u = Value.bool true := r'
    have key : ∀ b o, b ∉ ts → s1.heap.get? b = some o → s'.heap.get? b = some o := fun b o nb e => by
      by_cases c : b = a ∧ K.lookup a = none
      · have z : headT K a vs ns ts b = _ := (headT_out nb).trans (if_pos c)
        have e3 := (hok b _ z).1
        rw [e] at e3; cases e3
        exact (hok' b _ (un.frzs b _ _ z)).1
      · exact un.keep b o e ((headT_out nb).trans (if_neg c)) (by intro z; exact absurd (show b ∈ ([] : List Addr) from z) (by simp)) (by simp)
    have grown : ∀ b ∈ ts, ∃ more : Array Value, s'.heap.get? b = some { cls := .none, data := .fields more } := fun b hb => by
      obtain ⟨more, z⟩ := un.tbls b #[] (headT_in hb)
      exact ⟨_, hok' b _ z⟩
    refine ⟨rfl, ⟨fun b o e => ?_, fun b o e => ?_⟩, os, bare⟩
    · by_cases hb : b ∈ ts
      · obtain ⟨more, hm⟩ := grown b hb
        rw [tabO b hb] at e; cases e
        obtain ⟨p, hp, ep⟩ := ofT b hb
        have CT := (hC p hp).tab (hT p hp)
        rw [ep] at CT
        exact .inr (.inl ⟨CT.isCodeTable, rfl, #[], more, rfl, by rw [Array.empty_append]; exact hm⟩)
      · exact .inl (key b o hb e)
    · by_cases hb : b ∈ ts
      · obtain ⟨more, hm⟩ := grown b hb
        exact ⟨_, hm⟩
      · exact ⟨o, key b o hb e⟩
end
/-- the table of a def of the law's text is empty, its code object stands -/
def TabOf (K : PySem.W.Frag) (f : Addr) (h : Heap) : Prop := ∀ (c P : Addr) (o : Obj) (fd : FuncData) (e : Value) (dd : Option Addr) (vs : Array Value) (sl : Array (Option Value)), K.lookup f = some o → o.data = .func fd → fd.code = .ref c → K.lookup c = some ⟨e, dd, .fields vs, sl⟩ → vs[11]? = some (.ref P) →
  h.get? P = some { cls := .none, data := .fields #[] } ∧ PySem.W.CodeHd h c P
end Dw

/-! The end of a law with tables of code objects. -/
namespace Dw
open PySem PySem.Spec PyProof.Rows L2 LamX
/-- what the end must bring -/
def EndT (l : PySem.W.OpenLaw) (w : World) (K : PySem.W.Frag) (mg : Str → Option Value) (k : Nat) (fa : Addr) (x : Str) (h : Heap) (sp : Spc) : Prop :=
  ∃ (fd : FuncData) (I : Tabs0) (cs : List (Addr × Addr × Str)), (∀ (s : Shared) (u : Value), BindsTo s fd ⟨[u], []⟩ [(x, u)]) ∧ @TabsOk I (cs.map fun p => (p.2.1, p.2.2)) ∧ (∀ p ∈ cs, h.get? p.2.1 = some { cls := .none, data := .fields #[] }) ∧ (∀ p ∈ cs, K.lookup p.2.1 = none) ∧ (∀ p ∈ cs, PySem.W.CodeHd h p.1 p.2.1) ∧
    ∀ base : Heap, (∀ p ∈ cs, TabB base mg p.1 p.2.1) → @FnG I l.prog w K mg base k fa fd [x] sp
theorem walk_GT {l : PySem.W.OpenLaw} {k : Nat} {x : Str} {q : Program} {loose : List Str} {XP : (Str → Option Value) → Heap → Prop} {YP : World → Heap → Prop} {d : DefRec} {K : Params → PySem.W.Frag} {sp : PySem.W.Frag → Spc} (hn : l.most = some 63) (hdf : d.params.defaults = []) (hr : Room k callerA)
    (hY : ∀ (w : World) (h : Heap), YP w h → (K w.params).In h) (hsp : ∀ (K : PySem.W.Frag) (ns : List Int), ns.length ≤ 63 → (∀ z ∈ ns, Builtin.Int.intBits z ≤ 1048576) → ∃ y : (sp K).ty, (sp K).args y = [.scr K (ns.map V.int)] ∧ (sp K).ok y ∧ ∀ d, (sp K).rel y d → d = .bl true)
    (F : ∀ (w : World) (mg : Str → Option Value) (fa : Addr) (h : Heap), (K w.params).In h → h.Ns mainGlobals mg → mg d.name = some (.ref fa) → (∀ (y : Str) (f : Addr), ((recsOf q).any fun e => e.name == y) = true → mg y = some (.ref f) → TabOf (K w.params) f h) → EndT l w (K w.params) mg k fa x h (sp (K w.params))) :
    PySem.W.WalkO q loose XP YP l.row.toRowW d [] (fun f vs => PySem.call f vs) := by
  refine Att.attach_callB hn hdf fun w _ s1 mg mb fa _ _ _ _ a _ ns G Y _ _ _ hmg hobj hints hlen hbits hg => ?_
  have KX := hY w _ Y
  obtain ⟨fd, I, cs, hb, T, hT, nT, hC, hF⟩ := F w mg fa _ KX G.T.g hmg fun y f hy hm c P o1 fd1 e dd vs1 sl k1 k2 k3 k4 k5 => by
    obtain ⟨dL, hm1, hn1⟩ := List.any_eq_true.mp hy
    have hn2 : dL.name = y := beq_iff_eq.mp hn1
    obtain ⟨a', o', fd', c', P', h1, h2, h3, h4, h5, h6⟩ := G.T.tab dL hm1
    rw [hn2, hm] at h1; cases h1
    have g1 := KX _ _ k1
    rw [g1] at h2; cases h2
    rw [k2] at h3; cases h3
    rw [k3] at h4; cases h4
    have CH := PySem.W.CodeHd.of h5 h6
    obtain ⟨⟨oc, vc, e1, _, e3, e4⟩, hP⟩ := h6
    have g2 := KX _ _ k4
    rw [g2] at e1; cases e1
    cases e3
    rw [k5] at e4; cases e4
    exact ⟨hP, CH⟩
  exact @head_callT I _ _ _ _ _ _ _ _ _ _ _ _ _ _ cs T KX G.T.g G.T.b G.T.builtins G.T.nolimit hg hobj hints (Nat.le_trans hlen (by decide)) hr hT nT hC G.T.bmain hF hb (hsp _ ns hlen hbits)
end Dw

/-! What is told of an error's class, by a row of truth values. -/
namespace Dw
open PySem PySem.Spec PyProof.Rows L2 LamX
/-- the answers of isinstance for a row of classes -/
def KitRow (K : PySem.W.Frag) (D0 : Addr) : List Addr → List Bool → Prop
  | [], [] => True
  | c :: cs, b :: bs => PySem.W.kitOne K (.ref D0) (.ref c) = some b ∧ KitRow K D0 cs bs
  | _, _ => False
theorem TabsOk.uniq [Tabs0] {Tt : List (Addr × Str)} (T : TabsOk Tt) {P : Addr} {q : Str} (h : (P, q) ∈ Tt) : ∀ p ∈ Tt, p.1 = P → p.2 = q := fun p hp e => by
  have h1 := T.sound p hp
  have h2 := T.sound (P, q) h
  rw [e] at h1
  rw [h1] at h2
  exact Option.some.inj h2
def sortWords : List Str := ["InvalidText", "InvalidNumber", "InvalidName", "InvalidIndex", "InvalidClaim", "InvalidRow", "InvalidRanking", "InvalidRule", "UnknownName", "NotABook", "NotACase", "NotACourt", "InvalidLot", "InvalidOffers", "InvalidCases", "NoRanking", "TooMany", "Broken", "InUse", "NothingToUndo"]
/-- the word, by the row of twenty classes and the two bases -/
def sortW (bs : List Bool) : Str :=
  if (bs.take 20).countP id = 1 ∧ (bs.drop 20).countP id = 1 ∧ (bs.drop 20).idxOf true = (if (bs.take 20).idxOf true < 15 then 0 else 1) then sortWords.getD ((bs.take 20).idxOf true) "other" else "other"
end Dw

/-! [f for a in xs if p for b in ys if q]; all of whole numbers. -/
namespace Dw
open PySem PySem.Spec PyProof.Rows L2
variable [Tabs0]
/-- what is walked stands out of the reach of what changes -/
structure ItK (W : Wd) (J : It) (xs : List D) : Prop where
  go : ∀ (W1 : Wd) (i : Nat) (x : D), (∀ a u, W.H a = some u → ¬ W.U a → W1.H a = some u ∧ ¬ W1.U a) → W1.P = W.P → xs[i]? = some x → J.go i W1.H ∧ ∀ v H', J.yld i W1.H v H' → Same W1.H H' ∧ Rep (W1.at H') x v
  stop : ∀ (W1 : Wd), (∀ a u, W.H a = some u → ¬ W.U a → W1.H a = some u ∧ ¬ W1.U a) → J.stop xs.length W1.H
section
variable {K : PySem.W.Frag} {Γ : Gam} {t : TE} {ta : TA} {xs : List D}
end
section
variable {Γ : Gam} {wi wi1 : TI} {g g1 : TG} {tt tt1 : TT} {te : TE} {vs vs1 : List Nat}
end

/-! ### all of whole numbers -/
/-! ### xs = [e, ..], a list of one's own that is drawn -/
theorem ds_asg_ownL {Γ : Gam} {ta : TA} {De : DE} {i : Nat} (h : DlA ta Γ fun es Γ1 => es.length ≤ sizeLine ∧ De.nx (Γ1.set i (.own es))) : Ds (tAsg (tLst ta) (gName i)) Γ De := fun F σ W Dr g l => h F σ W _ g fun vs W1 es Γ1 s1 g1 r ⟨hz, q⟩ => ⟨by rw [← r.length]; exact hz, fun p hp => by
  have sm : Same W1.H (upd W1.H p (.lst vs)) := same_upd hp
  obtain ⟨st, g2⟩ := g1.setOwn (i := i) sm hp upd_same (RepL.plus (W := W1) hp sm r)
  exact l.nx _ (W1.plus _ p) _ (s1.trans st) g2 q⟩
end Dw

/-! max of a list; sorted of a tuple of whole numbers. -/
namespace Dw
open PySem PySem.Spec PyProof.Rows L2
variable [Tabs0]
section
variable {K : PySem.W.Frag} {Γ : Gam} {ta tb : TE}
end
end Dw

/-! Errors with a field: made, asked for their class and their field, shown. -/
namespace Dw
open PySem PySem.Spec PyProof.Rows L2 LamX
variable [Tabs0]
/-! ### X(given), where X's __init__ stores it -/
/-- the promise of such an __init__ -/
def spXI (C : Addr) (f : Str) : Sp := fun vs H Q _ => ∃ (a : Addr) (y : V), vs = [.ref a, y] ∧ H a = some (exo a C none) ∧ ∀ dx, H dx = none → dx ≠ a → Q .non (upd (upd H dx (exd dx [(f, y)])) a (exo a C (some dx)))
section
variable {P : Program} {w : World} {K : PySem.W.Frag} {mg : Str → Option Value} {base : Heap}
theorem fn_xinit {qual x f : Str} {st : Stmt} {fa C : Addr} {fd : FuncData} {N ps : List Str} {k : Nat} (F : Fun K x qual st fa fd) (S : FnScope N ps (defScope st)) (hp : ps.length = 2) (T : OexC K C) (hno : PySem.W.findIn K (.ref C) f = some none)
    (hN : N.length = 2)
    (hbody : ∀ (cdv : Value) (A : Around) (outer : List Env) (s' : Shared) (H : Hp) (E : XK), PSs (cxOf CX0 P w K mg base N qual (defScope st) fa cdv A outer s' H E).nox (defBody st) (tOst K f (tVar 0) (tVar 1))) :
    FnOk P w K mg base CX0 (k + 1) fa fd ps (spXI C f) :=
  F.ok S (fun vs H Q E ⟨a, y, e, _⟩ => by rw [e, hp]; rfl) fun cdv A outer s' H vs Q E hr ⟨a, y, e, ha, q⟩ => by
    subst e
    refine ⟨_, hbody cdv A outer s' H E, ?_⟩
    have e0 : (L2.start N [.ref a, y])[0]? = some (some (V.ref a)) := by unfold L2.start; simp
    have e1 : (L2.start N [.ref a, y])[1]? = some (some y) := by unfold L2.start; simp
    exact ⟨y, e1, .ref a, e0, a, C, rfl, T, hno, .inl ⟨ha, fun dx h1 h2 => q dx h1 h2⟩⟩
end
/-! ### raise X(e) -/
theorem ers_raiseF {Γ : Gam} {C : Addr} {f : Str} {ta : TA} {d : D} {E : XK} {x : Exn} (hx : x = ⟨C, [(f, d)]⟩) (h : EvA ta Γ [d]) : ErS (fun _ σ H => tMkO C (spXI C f) [] ta σ H fun cls ed H' => E cls ed H') Γ x (fun ed H' => E (.ref C) ed H') := fun F σ W Dr g k => h F σ W _ g fun vs H1 s1 r => by
  subst hx
  obtain ⟨v, _, rfl, rv, rfl⟩ := r
  refine ⟨by show 1 ≤ 1000; decide, fun a ha => ⟨a, v, rfl, upd_same, fun dx hd hne => ⟨rfl, dx, [(f, v)], upd_same, ?_, ?_, ?_⟩⟩⟩
  · rw [upd_ne hne, upd_same]
  · rw [upd_ne hne] at hd
    exact hd
  · have hd1 : H1 dx = none := by rw [upd_ne hne] at hd; exact hd
    have sm : Same H1 (upd (L2.del (upd (upd (upd H1 a (exo a C none)) dx (exd dx [(f, v)])) a (exo a C (some dx))) a) dx (.xd [(f, v)])) := fun b u e => by
      have nb : b ≠ dx := fun z => by rw [z, hd1] at e; cases e
      have na : b ≠ a := fun z => by rw [z, ha] at e; cases e
      rw [upd_ne nb, L2.del_ne na, upd_ne na, upd_ne nb, upd_ne na]
      exact e
    refine k (some dx) _ (Same.trans s1 sm) ⟨fun dd e => ?_, dx, [v], rfl, ?_, upd_same, v, [], rfl, ?_, rfl⟩
    · cases e
      exact s1.free hd1
    · exact fun u => g.ok.dom dx u (s1.free hd1)
    · exact Rep.same (W := W.at H1) sm rv
/-! ### asking the held error -/
def rIsX (K : PySem.W.Frag) (D0 a : Addr) (ed : Option Addr) : List V → Hp → VK → Prop := fun xs H Q => ∃ (c : V) (cv : Value) (b : Bool), xs = [.ref a, c] ∧ (∀ u, RelV c u → u = cv) ∧ PySem.W.kitOne K (.ref D0) cv = some b ∧ (ed = none ∨ ∃ dd fs, ed = some dd ∧ H dd = some (.xd fs)) ∧ Q (.bl b) H
section
variable {X : Cx} {a D0 : Addr} {oe : Obj} {ed : Option Addr}
theorem call_isX (hp : (a, oe) ∈ X.pn) (C : ExcC X.K D0) (hz : Zc (.ref D0) ed oe) (hf : ∃ vs, oe.data = .fields vs) : CallR X (.builtin "isinstance") (rIsX X.K D0 a ed) := by
  intro pins s σ H xs us Q I r h
  obtain ⟨c, cv, b, rfl, hcv, e, hd, q⟩ := h
  match us, r with
  | [_, t], .cons rx (.cons rt .nil) =>
    cases rx
    have ec := hcv _ rt
    subst ec
    obtain ⟨hget, _⟩ := I.pin (a, oe) (List.mem_append_left _ hp)
    rcases hd with hd | ⟨dd, fs, hd, hx⟩
    · rw [hd] at hz
      exact PySem.W.kia_one (PySem.W.handS_kitx_exc C.hg C.hk C.hs C.hd C.ha C.hn C.ht C.hm) I.kIn (inst_none hz hf hget) e (fun z => nomatch z) fun tk => ⟨.bl b, H, I.kept (t' := tk) fun _ _ z => z, rfl, q⟩
    · rw [hd] at hz
      have hx : ObjOk X.prog X.w H s.heap dd (.xd fs) := I.hok dd _ hx
      obtain ⟨mA, hns, _⟩ := hx
      obtain ⟨od, ho, _⟩ := lookIn_ns hns
      obtain ⟨cd, hcd, _⟩ := PySem.W.any_some C.hd
      exact PySem.W.kia_one (PySem.W.kitx_exc (od := some od) (by rw [hcd]; rfl) C.hg C.hk C.hs C.ha C.hn C.ht C.hm) I.kIn (inst_some hz hf hget ho) e (fun z => nomatch z) fun tk => ⟨.bl b, H, I.kept (t' := tk) fun _ _ z => z, rfl, q⟩
/-- e.f, e pinned -/
theorem pe_xfP {e : Expr} {te : TE} {pos : Pos} {n : Str} (hp : (a, oe) ∈ X.pn) (T : XfC X.K D0) (hno : PySem.W.findIn X.K (.ref D0) n = some none) (hz : Zc (.ref D0) ed oe) (hf : ∃ vs, oe.data = .fields vs) (he : PE X e te)
    (hb : attributeBase e n X.env (eval e X.env) = eval e X.env := by rfl) :
    PE X (.Attribute e n pos) (tXf a (.ref D0) ed D0 n te) := by
  refine ⟨fun pins s σ H Q I h => ?_⟩
  refine attr_of hb (thn (he.run pins s σ H _ I h) fun u s1 ⟨x, H1, I1, rx, ex, ec, dd, fs, v, edd, ea, l, q⟩ => ?_)
  subst ex edd
  obtain rfl : u = Value.ref a := rx
  have hget := (I1.pin (a, oe) (List.mem_append_left _ hp)).1
  have hx : ObjOk X.prog X.w H1 s1.heap dd (.xd fs) := I1.hok dd _ ea
  obtain ⟨mA, hns, hr⟩ := hx
  obtain ⟨od, ho, hl⟩ := lookIn_ns hns
  have hn := hr n
  rw [l] at hn
  obtain ⟨w', hw, rw'⟩ := RelO.some_of hn
  exact HandSPX.exc_get I1.kIn (inst_some hz hf hget ho) T.ga T.gg T.exC (PySem.W.findObj_own T.hdC hno rfl (by rw [hl, hw])) (handed_of rw') ⟨v, H1, I1.tok _, rw', q⟩
end
end Dw

/-! Errors with fields, as told's suite reads them; repr of any data. -/
namespace Dw
open PySem PySem.Spec PyProof.Rows L2 LamX
variable [Tabs0]
/-! ### repr of any data -/
def rReprX (K : PySem.W.Frag) : List V → Hp → VK → Prop := fun xs H Q => ∃ (v : V) (d : PyData), xs = [v] ∧ Dp K H v d ∧ d.showable = true ∧ d.hasDict = false ∧ d.depth ≤ 64 ∧ d.shown.length ≤ sizeLine ∧ Q (.str d.shown) H
theorem cr_reprX {X : Cx} (hu : X.A.units + 66 < PySem.cLine) (hG : X.A.guards = some []) : CallR X (.builtin "repr") (rReprX X.K) := by
  intro pins s σ H xs us Q I r h
  obtain ⟨v, d, rfl, hd, h1, h2, h3, h4, q⟩ := h
  obtain ⟨u, rfl, ru⟩ := vals1 r
  cases d with
  | none =>
    cases hd
    obtain rfl : u = Value.none := ru
    exact P.repr_of_none ⟨.str _, H, I.tok _, ⟨_, rfl⟩, q⟩
  | bool b =>
    cases hd
    obtain rfl : u = Value.bool b := ru
    cases b
    · exact P.repr_of_bool ⟨.str _, H, I.tok _, ⟨_, rfl⟩, q⟩
    · exact P.repr_of_bool ⟨.str _, H, I.tok _, ⟨_, rfl⟩, q⟩
  | int i =>
    cases hd
    obtain ⟨t, rfl⟩ := ru
    exact P.repr_of_int (of_decide_eq_true h1) ⟨.str _, H, I.tok _, ⟨_, rfl⟩, q⟩
  | str x =>
    cases hd
    obtain ⟨t, rfl⟩ := ru
    exact P.repr_of_str ⟨.str _, H, I.tok _, ⟨_, rfl⟩, q⟩ h4
  | list ds =>
    cases hd with | lst e l => ?_
    cases ru
    obtain ⟨as, r1⟩ := Dp.reads I (.list ds) _ _ (.lst e l) rfl
    exact repr_of_reads' r1 h1 (PyData.noDict_hsm h2) hG (by omega) (fun _ _ e => e) (fun h' u tk hk => ⟨.str _, H, I.kept (t' := tk) hk, ⟨_, rfl⟩, q⟩) h4
  | tuple ds =>
    cases hd with | tup e l => ?_
    cases ru
    obtain ⟨as, r1⟩ := Dp.reads I (.tuple ds) _ _ (.tup e l) rfl
    exact repr_of_reads' r1 h1 (PyData.noDict_hsm h2) hG (by omega) (fun _ _ e => e) (fun h' u tk hk => ⟨.str _, H, I.kept (t' := tk) hk, ⟨_, rfl⟩, q⟩) h4
  | dict kv => cases hd
/-! ### held readings -/
def EvHA (t : TA) (Γ : Gam) (x : Exn) (ed : Option Addr) (ds : List D) : Prop := ∀ (F : Addr → Prop) (σ : L2.St) (W : Wd) (Q : List V → Hp → Prop), SR F Γ σ W → ExHeld W x ed → (∀ vs H, Same W.H H → RepL (W.at H) ds vs → Q vs H) → t σ W.H Q
section
variable {Γ : Gam} {x : Exn} {ed : Option Addr} {t tr : TA} {te ta tb : TE} {d : D} {ds es : List D} {K : PySem.W.Frag}
theorem evha_nil : EvHA tNil Γ x ed [] := fun F σ W Q g hx k => k [] W.H (Same.refl _) rfl
theorem evha_cons (h : EvH te Γ x ed d) (hr : EvHA tr Γ x ed ds) : EvHA (tCons te tr) Γ x ed (d :: ds) := fun F σ W Q g hx k =>
  h F σ W _ g hx fun v H s r => hr F σ (W.at H) _ (g.same s) (hx.same s) fun vs H' s' l => k (v :: vs) H' (Same.trans s s') ⟨v, vs, rfl, Rep.same (W := W.at H) s' r, l⟩
theorem evh_lst (h : EvHA t Γ x ed ds) (hz : ds.length ≤ sizeLine) : EvH (tLst t) Γ x ed (.lst ds) := fun F σ W Q g hx k => h F σ W _ g hx fun vs H s l => ⟨by rw [← l.length]; exact hz, fun p hp =>
  k _ _ (Same.trans s (same_upd hp)) (rep_new_lst (W := W.at H) (g.same s).ok.dom hp l)⟩
theorem evh_op {r : R2} {d1 d2 : D} (ha : EvH ta Γ x ed d1) (hb : EvH tb Γ x ed d2) (hr : DR2 r d1 d2 d) : EvH (tOp r ta tb) Γ x ed d := fun F σ W Q g hx k =>
  ha F σ W _ g hx fun u H s l => hb F σ (W.at H) _ (g.same s) (hx.same s) fun v H' s' l' => hr (W.at H') u v Q ((g.same s).same s').ok.dom (Rep.same (W := W.at H) s' l) l' fun z H'' s'' q => k z H'' (Same.trans s (Same.trans s' s'')) q
theorem held_dict {W : Wd} (h : ExHeld W x ed) : ed = none ∨ ∃ dd fs, ed = some dd ∧ W.H dd = some (.xd fs) := by
  obtain ⟨C, fs⟩ := x
  cases fs with
  | nil => exact .inl h
  | cons f fs =>
    obtain ⟨dd, vs, e, _, hd, _⟩ := h
    exact .inr ⟨dd, _, e, hd⟩
/-- isinstance(e, C), e with its fields -/
theorem evh_isX {a : Addr} {c : V} {cv : Value} {b : Bool} {D0 : Addr} (h : Ev ta Γ (.raw (.ref a))) (hc : Ev tb Γ (.raw c)) (hv : ∀ u, RelV c u → u = cv) (hk : PySem.W.kitOne K (.ref D0) cv = some b) : EvH (tCB (rIsX K D0 a ed) (tCons ta (tCons tb tNil))) Γ x ed (.bl b) := fun F σ W Q g hx k =>
  h F σ W _ g fun v H s r => hc F σ (W.at H) _ (g.same s) fun w H' s' rc => ⟨c, cv, b, by rw [show v = .ref a from r, show w = c from rc], hv, hk, held_dict (W := W.at H') (hx.same (Same.trans s s')), k _ H' (Same.trans s s') rfl⟩
theorem fs_look {W : Wd} {f : Str} {d : D} : ∀ {fs : List (Str × D)} {vs : List V}, fs.lookup f = some d → RepL W (fs.map fun z => z.2) vs → ∃ v, ((fs.map fun z => z.1).zip vs).lookup f = some v ∧ Rep W d v
  | [], _, h, _ => by cases h
  | (g, e) :: fs, vs, h, r => by
    obtain ⟨v, ws, rfl, rv, rw'⟩ := r
    simp only [List.map_cons, List.zip_cons_cons, List.lookup_cons] at h ⊢
    cases q : f == g with
    | true =>
      rw [q] at h
      cases h
      exact ⟨v, rfl, rv⟩
    | false =>
      rw [q] at h
      exact fs_look h rw'
/-- e.f -/
theorem evh_xf {a : Addr} {f : Str} (h : Ev te Γ (.raw (.ref a))) (hf : x.fs.lookup f = some d) : EvH (tXf a (.ref x.C) ed x.C f te) Γ x ed d := fun F σ W Q g hx k =>
  h F σ W _ g fun v H s r => by
    have hx' : ExHeld (W.at H) x ed := hx.same s
    obtain ⟨C, fs⟩ := x
    cases fs with
    | nil => cases hf
    | cons f0 fs =>
      obtain ⟨dd, vs, e, _, hd, r2⟩ := hx'
      obtain ⟨v1, l, rv⟩ := fs_look hf r2
      exact ⟨r, rfl, dd, _, v1, e, hd, l, k v1 H s rv⟩
theorem rep_reprX {W : Wd} {k : Nat} {v : V} {Q : VK} (r : Rep W d v) (h1 : dOk k d = true) (hk : k ≤ 64) (h2 : shOk d = true) (h3 : shB d ≤ sizeLine) (q : Q (.str (PyData.shown (py d))) W.H) : rReprX K [v] W.H Q := by
  obtain ⟨p1, _, p3⟩ := dOk_py k _ h1
  obtain ⟨s1, s2⟩ := shOk_py _ h2
  exact ⟨v, _, rfl, dp_of d v p1 r, s1, s2, Nat.le_trans p3 hk, Nat.le_trans (shB_le k d h1) h3, q⟩
end
end Dw

/-! x -= e; a = b = e. -/
namespace Dw
open PySem PySem.Spec PyProof.Rows L2
variable [Tabs0]
section
variable {Γ : Gam} {te : TE} {De : DE} {d : D}
/-- x -= y -/
theorem ds_subI {i : Nat} {a b : Int} (h0 : Γ[i]? = some (.val (.int a))) (h : Ev te Γ (.int b)) (q : De.nx (Γ.set i (.val (.int (a - b))))) : Ds (tAug i te (rI0 fun i j => .int (i - j))) Γ De := fun F σ W Dr g l => by
  obtain ⟨v, e, r⟩ := g.val i _ h0
  refine ⟨v, e, h F σ W _ g fun u H s ru => ⟨a, b, r, ru, ?_⟩⟩
  exact l.nx _ (W.at H) _ (Stp.of_same g.ok s) ((g.same s).set (d := .int (a - b)) rfl) q
/-- x += y -/
theorem ds_addI {i : Nat} {a b : Int} (h0 : Γ[i]? = some (.val (.int a))) (h : Ev te Γ (.int b)) (q : De.nx (Γ.set i (.val (.int (a + b))))) : Ds (tAug i te rIAdd) Γ De := fun F σ W Dr g l => by
  obtain ⟨v, e, r⟩ := g.val i _ h0
  refine ⟨v, e, h F σ W _ g fun u H s ru => .inl ⟨a, b, r, ru, ?_⟩⟩
  exact l.nx _ (W.at H) _ (Stp.of_same g.ok s) ((g.same s).set (d := .int (a + b)) rfl) q
end
end Dw

/-! A tuple of whole numbers in a list of such: in, index. -/
namespace Dw
open PySem PySem.Spec PyProof.Rows L2
variable [Tabs0]
theorem plain_ordN : ∀ o : List Nat, PyData.plainAll (pys (ordN o)) = true
  | [] => rfl
  | k :: o => by
    show (PyData.plain (.int k) && PyData.plainAll (pys (ordN o))) = true
    rw [plain_ordN o]; rfl
@[reducible] def dtT : PySem.W.Datum (List Nat) where
  toD o := py (.tup (ordN o))
  plain o := plain_ordN o
  eqv a b := eqv_ints a b
  depth := 1
  depth_le o := (dOk_py 1 (.tup (ordN o)) (dOks_map fun _ _ => rfl)).2.2
end Dw

/-! sorted of a list of tuples of whole numbers that stands in order; an expression read in one of two ways. -/
namespace Dw
open PySem PySem.Spec PyProof.Rows L2
variable [Tabs0]
end Dw

/-! x, ys, zs = e, [..], [..] where ys and zs are one's own. -/
namespace Dw
open PySem PySem.Spec PyProof.Rows L2
variable [Tabs0]
end Dw

/-! sorted of alike data; sorted(xs, key=lambda x: (len(x), x)) of tuples of whole numbers. -/
namespace Dw
open PySem PySem.Spec PyProof.Rows L2 LamX
section
variable {X : Cx} {pins : List (Addr × Obj)} {σ : L2.St} {H : Hp} {s : Shared} {β : Type}
end
/-! ### key=lambda x: (len(x), x) -/
section
variable {X : Cx} {pins : List (Addr × Obj)} {σ : L2.St} {H : Hp} {s : Shared}
end

end Dw

/-! Tagged data (what stands beside it: all tables may change); sorted lots by data. -/
namespace Dw
open PySem PySem.Spec PyProof.Rows L2 LamX
variable [Tabs0]
/-! ### tags -/
section
variable {Γ : Gam} {t : TE} {d e : D} {i : Nat} {Q : D → Gam → Prop}
def TabIn (W : Wd) : Prop := ∀ p q, Tabs0.nm p = some q → W.P p
/-- a slot that knows of the tables -/
def TgS (s : Sl) : Prop := s = .val .purse ∨ ∃ d, s = .val (.tag d)
theorem TgS.purse : TgS (.val .purse) := .inl rfl
theorem TgS.tag {d : D} : TgS (.val (.tag d)) := .inr ⟨d, rfl⟩
theorem SR.tabs {F : Addr → Prop} {Γ : Gam} {σ : L2.St} {W : Wd} {s : Sl} (g : SR F Γ σ W) (h : Γ[i]? = some s) (ht : TgS s) : TabIn W := by
  rcases ht with rfl | ⟨d, rfl⟩
  · obtain ⟨_, _, _, _, _, _, t⟩ := g.val i .purse h
    exact t
  · obtain ⟨_, _, _, t⟩ := g.val i (.tag d) h
    exact t
theorem ev_untag (h : Ev t Γ (.tag d)) : Ev t Γ d := fun F σ W Q g k => h F σ W Q g fun v H s r => k v H s r.1
theorem ev_tag {s : Sl} (hs : Γ[i]? = some s) (ht : TgS s) (h : Ev t Γ d) : Ev t Γ (.tag d) := fun F σ W Q g k => h F σ W Q g fun v H s r => k v H s ⟨r, g.tabs hs ht⟩
end
/-! ### the order of lots -/
/-! ### what is sorted, as data -/
section
variable {K : PySem.W.Frag} {Γ : Gam} {Tt : List (Addr × Str)} {P : Addr} {q : Str} {i : Nat} {te : TE} {l : List (List Nat)} {Q : D → Gam → Prop}
end
/-! ### sorted of alike data -/
end Dw

/-! A def that makes a lambda for sorted. -/
namespace Dw
open PySem PySem.Spec PyProof.Rows L2 LamX
variable [Tabs0]
section
variable {P : Program} {w : World} {K : PySem.W.Frag} {mg : Str → Option Value} {base : Heap}
end
end Dw
namespace Dw
open PySem PySem.Spec PyProof.Rows L2
variable [Tabs0]
end Dw
namespace Dw
open PySem PySem.Spec PyProof.Rows L2
variable [Tabs0]
end Dw

/-! told of what changes tables; several tables. -/
namespace Dw
open PySem PySem.Spec PyProof.Rows L2 LamX
variable [Tabs0]
section
variable {K : PySem.W.Frag} {Γ : Gam} {Tt : List (Addr × Str)} {P : Addr} {q wd : Str} {c1 c2 : Value} {n ie i : Nat} {ts : Addr → Value → Option Addr → TS} {t : XK → TE} {Q Q1 : D → Gam → Prop}
end
section
variable {Γ : Gam} {s : Spc} {sp : Sp} {ta tk : TA} {E : XK} {ds es : List D} {Q : D → Gam → Prop}
end
end Dw
namespace Dw
open PySem
theorem mem_lk {p : Addr} {q : Str} : ∀ {l : List (Addr × Str)}, l.lookup p = some q → (p, q) ∈ l
  | [], h => by cases h
  | a :: l, h => by
    cases e : p == a.1 with
    | true =>
      rw [List.lookup, e] at h
      have h : some a.2 = some q := h
      have e1 : p = a.1 := by simpa using e
      rw [e1, ← Option.some.inj h]
      exact List.mem_cons_self
    | false =>
      rw [List.lookup, e] at h
      exact List.mem_cons_of_mem _ (mem_lk h)
/-- tables by their list -/
theorem tabsOk_of {l : List (Addr × Str)} (nd : (l.map (·.1)).Nodup) : @TabsOk ⟨fun a => l.lookup a⟩ l := by
  refine @TabsOk.mk ⟨fun a => l.lookup a⟩ l (fun p hp => ?_) fun p q z => mem_lk z
  show l.lookup p.1 = some p.2
  induction l with
  | nil => cases hp
  | cons a l ih =>
    obtain ⟨n1, n2⟩ := List.nodup_cons.mp nd
    rcases List.mem_cons.mp hp with rfl | hp
    · simp [List.lookup]
    · have : p.1 ≠ a.1 := fun z => n1 (List.mem_map.mpr ⟨p, hp, z⟩)
      have e : (p.1 == a.1) = false := by simpa using this
      rw [List.lookup, e]
      exact ih n2 hp
theorem f_cons {α : Type} {P : α → Prop} {a : α} {l : List α} (h : P a) (t : ∀ p ∈ l, P p) : ∀ p ∈ a :: l, P p := fun p hp => (List.mem_cons.mp hp).elim (fun e => e ▸ h) (t p)
theorem f_nil {α : Type} {P : α → Prop} : ∀ p ∈ ([] : List α), P p := fun _ h => absurd h (by simp)
end Dw

/-! sorted(set(xs)), xs a list of whole numbers. -/
namespace Dw
open PySem PySem.Spec PyProof.Rows L2
variable [Tabs0]
section
variable {P : Program} {w : World} {A : Around} {E : Value → Shared → Prop} {s : Shared}
end
def rSetL (K : PySem.W.Frag) (w : World) : List V → Hp → VK → Prop := fun vs H Q => ∃ (a : Addr) (ns : List Int), vs = [V.ref a] ∧ SqL K H a (ns.map V.int) ∧ ns.length < 64 ∧
  ∀ (p : Addr) (c : Nat), H p = none → c ≤ ns.length → Q (.ref p) (upd H p (SetO w p (fun j => decide (j ∈ ns)) c))
end Dw

/-! own dicts: d = {}, d[k] = v, d[k] -/
namespace Dw
open PySem PySem.Spec PyProof.Rows L2
variable [Tabs0]
section
variable {K : PySem.W.Frag} {Γ : Gam} {ta tb te tk ty : TE} {De : DE} {ds : List D} {d : D}
end
end Dw

/-! str, repr, bool, == and != of objects whose class has its own __str__, __repr__, __eq__ (and no __bool__, __len__, __ne__). -/
namespace Dw
open PySem PySem.Spec PyProof.Rows L2
section
variable {X : Cx}
/-- a def of the text, called somewhere below the running body -/
theorem run_below {k : Nat} {f : Addr} {fd : FuncData} {ps : List Str} {sp : Sp} (F : FnOk X.prog X.w X.K X.mg X.base CX0 k f fd ps sp) {A : Around} (hr : Room k A) (fr : A.frames = X.A.frames) (hb : Binds X.K fd ps [])
    {pins : List (Addr × Obj)} {σ : L2.St} {H : Hp} {s : Shared} {us : List Value} {vs : List V} {Q : VK} {E1 : Value → Shared → Prop} (I : Inv X pins σ H s) (r : Vals vs us) (hsp : sp vs H Q E0) {R : Value → Shared → Prop}
    (hR : ∀ u s', EP X pins σ Q u s' → R u s') : wpAny (model X.prog X.w) A (call (.ref f) us) R E1 s := by
  have e0 : Env0 X.prog X.w X.K X.mg X.base A X.stack s H := by
    have e := I.env0
    exact ⟨by rw [fr]; exact e.frames, e.mod, e.bs, e.bsz, e.funs, e.frf, e.hok, e.bare⟩
  have hl : us.length = ps.length := by rw [← r.length]; exact F.len _ _ _ _ hsp
  have b := hb s us I.kIn (by rw [List.append_nil]; exact hl)
  rw [List.append_nil] at b
  refine wpAny_call (codeAny_mono (F.run A X.stack s H ⟨us, []⟩ us vs Q E0 hr e0 b r hsp) fun r s' hq => ?_)
  match r, hq with
  | .error e, hq => exact (show False from hq).elim
  | .ok .next, hq => exact (show False from hq).elim
  | .ok .brk, hq => exact (show False from hq).elim
  | .ok .cont, hq => exact (show False from hq).elim
  | .ok (.ret u), hq => exact hR _ _ (I.after hq)
variable {C f : Addr} {fd : FuncData} {p : Str} {n : Nat} {sp : Sp}
/-! ### == and != -/
variable {p2 : Str}
open Builtin in
open Builtin in
/-! ### bool(x) -/
end
end Dw

/-! try .. except C: suite, within a def, by data. -/
namespace Dw
open PySem PySem.Spec PyProof.Rows L2
variable [Tabs0]
section
variable {K : PySem.W.Frag} {c : Value} {ts : Addr → Value → Option Addr → TS} {tb : WX → TS} {Γ : Gam} {De : DE} {x : Exn} {d : D}
end
end Dw

/-! An __init__ that stores its fields, or raises; str, repr, bool, == and != of objects, by data. -/
namespace Dw
open PySem PySem.Spec PyProof.Rows L2 LamX
variable [Tabs0]
section
variable {P : Program} {w : World} {K : PySem.W.Frag} {mg : Str → Option Value} {base : Heap} {C : Addr} {s : Spc} {sx : SpcX}
end
section
variable {Γ : Gam} {s : Spc} {sx : SpcX} {sp : Sp} {C : Addr} {ta : TA} {E : XK} {ns : List Str} {R : Option Addr → Hp → Prop}
end
/-! ### str(x), repr(x), bool(x), x == y, x != y -/
section
variable {Γ : Gam} {s : Spc} {C : Addr} {ta tb : TE} {K : PySem.W.Frag} {ns : List Str} {ds : List D} {dy : D} {b : Bool} {z : Str}
end
end Dw

/-! repr of any data, and of {}. -/
namespace Dw
open PySem PySem.Spec PyProof.Rows L2 LamX
def rReprE : List V → Hp → VK → Prop := fun xs H Q => ∃ a : Addr, xs = [.ref a] ∧ H a = some (.dK []) ∧ Q (.str "{}") H
theorem cr_reprE {X : Cx} (hu : X.A.units + 66 < PySem.cLine) (hG : X.A.guards = some []) : CallR X (.builtin "repr") rReprE := by
  intro pins s σ H xs us Q I r h
  obtain ⟨a, rfl, ha, q⟩ := h
  obtain ⟨u, rfl, ru⟩ := vals1 r
  cases ru
  obtain ⟨_, hsys, vs, hv, o, es, ep, he, hx, hd, _, hp, _⟩ := (show ObjOk X.prog X.w H s.heap a (.dK []) from I.hok a _ ha)
  have e0 : vs = [] := by cases hv; rfl
  subst e0
  have e1 : es.toList = [] := by cases q : es.toList with
    | nil => rfl
    | cons x l => rw [q] at hp; cases hp
  have rd : Reads s.heap (.ref a) (.dict []) (a :: [] ++ []) := .dict he hx.1 hd (by rw [e1]; exact .nil) (by rw [e1]; exact .nil)
  refine repr_of_reads' rd rfl (fun _ hm => ?_) hG (by have d1 : PyData.depth (.dict []) ≤ 1 := (by decide); omega) (fun _ _ e => e) (fun h' u tk hk => ⟨.str "{}", H, I.kept (t' := tk) hk, ⟨_, rfl⟩, q⟩) (by decide)
  rw [List.append_nil] at hm
  have := List.mem_singleton.mp hm
  rw [← this, beq_self_eq_true] at hsys
  cases hsys
variable [Tabs0]
def rReprY (K : PySem.W.Frag) : List V → Hp → VK → Prop := fun xs H Q => rReprX K xs H Q ∨ rReprE xs H Q
theorem cr_reprY {X : Cx} (hu : X.A.units + 66 < PySem.cLine) (hG : X.A.guards = some []) : CallR X (.builtin "repr") (rReprY X.K) := fun pins s σ H xs us Q I r h => h.elim (cr_reprX hu hG pins s σ H xs us Q I r) (cr_reprE hu hG pins s σ H xs us Q I r)
/-- the text that repr gives of a datum -/
def RpD (d : D) (z : Str) : Prop := (∃ k, k ≤ 64 ∧ dOk k d = true ∧ shOk d = true ∧ shB d ≤ sizeLine ∧ z = PyData.shown (py d)) ∨ (d = .dct [] [] ∧ z = "{}")
theorem rep_reprY {K : PySem.W.Frag} {W : Wd} {v : V} {d : D} {z : Str} {Q : VK} (r : Rep W d v) (h : RpD d z) (q : Q (.str z) W.H) : rReprY K [v] W.H Q := by
  rcases h with ⟨k, hk, h1, h2, h3, rfl⟩ | ⟨rfl, rfl⟩
  · exact .inl (rep_reprX r h1 hk h2 h3 q)
  · obtain ⟨a, vs, rfl, h, _⟩ := r
    exact .inr ⟨a, rfl, h, q⟩
section
variable {K : PySem.W.Frag} {Γ : Gam} {te : TE} {d : D} {z : Str} {x : Exn} {ed : Option Addr}
end
end Dw

/-! f(lambda: body, y): a def that calls what it got, in a try, and reads its second argument where it catches. -/
namespace Dw
open PySem PySem.Spec PyProof.Rows L2 LamX
section
variable {X : Cx} {pins : List (Addr × Obj)} {σ : L2.St} {H : Hp} {s : Shared}
end
section
variable {X : Cx} {pins : List (Addr × Obj)} {σ : L2.St} {H : Hp} {s : Shared}
end
section
variable {X : Cx}
end
end Dw

/-! f(lambda: body, y): try: return a() / except C as e: suite, that reads e and y. -/
namespace Dw
open PySem PySem.Spec PyProof.Rows L2 LamX
variable [Tabs0]
section
variable {K : PySem.W.Frag} {Γ : Gam} {Tt : List (Addr × Str)} {P : Addr} {q : Str} {c1 : Value} {ie i j : Nat} {Ng : List Str} {sl : Sl} {ts : Addr → Value → Option Addr → TS} {t : XK → TE} {Q : D → Gam → Prop} {d dj : D} {x : Exn}
end
end Dw

/-! C(name=value), f'..{i}..', x == C(..), xs[k], xs[j] = xs[j], xs[k]. -/
namespace Dw
open PySem PySem.Spec PyProof.Rows L2 LamX HT
variable [Tabs0]
section
variable {Γ : Gam} {s : Spc} {sp : Sp} {C : Addr} {tk : TA} {E : XK} {ns : List Str} {e : D}
end
/-- f'a{i}b' -/
theorem ev_fstrI {Γ : Gam} {te : TE} {i : Int} {a b : Str} (h : Ev te Γ (.int i)) (hz : i.natAbs.log2 < 1920) (h1 : (Str.empty ++ a).length ≤ sizeLine) (h2 : (Str.empty ++ a ++ Str.ofString (toString i)).length ≤ sizeLine) (h3 : (Str.empty ++ a ++ Str.ofString (toString i) ++ b).length ≤ sizeLine) :
    Ev (fun σ H Q => tJs [tC (.str a), tFmt te, tC (.str b)] Str.empty σ H fun out H1 => Q (.str out) H1) Γ (.str (Str.empty ++ a ++ Str.ofString (toString i) ++ b)) := fun F σ W Q g k => by
  refine ⟨a, rfl, h1, h F σ W _ g fun v H s r => ?_⟩
  have r : v = .int i := r
  exact .inr ⟨i, r, hz, _, rfl, h2, b, rfl, h3, k _ H s rfl⟩
section
variable {Γ : Gam} {s : Spc} {C : Addr} {ta tb : TE} {K : PySem.W.Frag} {ns : List Str} {ds : List D} {b : Bool}
end
end Dw
namespace Dw
open PySem PySem.Spec PyProof.Rows L2
variable [Tabs0]
end Dw

/-! x == y, where y may be of another own class; not in a tuple of pairs; readings of one kind or the other. -/
namespace Dw
open PySem PySem.Spec PyProof.Rows L2
section
variable {X : Cx}
variable {C f : Addr} {fd : FuncData} {p p2 : Str} {n : Nat} {sp : Sp}
end
variable [Tabs0]
section
variable {Γ : Gam} {t u : TE} {r r' : R2} {x y d : D}
end
section
variable {Γ : Gam} {s : Spc} {C : Addr} {ta tb : TE} {K : PySem.W.Frag} {ns : List Str} {ds : List D} {dy : D} {b : Bool}
end
end Dw

/-! str(C(..)): of an object that is made, or not. -/
namespace Dw
open PySem PySem.Spec PyProof.Rows L2 LamX
variable [Tabs0]
section
variable {Γ : Gam} {s : Spc} {C : Addr} {ta : TE} {x : Exn} {R : Option Addr → Hp → Prop} {r : List V → Hp → VK → Prop}
end
end Dw

/-! e.replace of written texts in a list, behind an item that gives a token out. -/
namespace Dw
open PySem PySem.Spec PyProof.Rows L2 CwR
section
variable {X : Cx} {e f : Expr} {es : List Expr} {ta tb : TE} {tr : TA} {pos : Pos}
end
variable [Tabs0]
end Dw

/-! set(xs), sorted(set(xs)), len(set(xs)) of a list of texts. -/
namespace Dw
open PySem PySem.Spec PyProof.Rows L2 PySem.Froz
variable [Tabs0]
/-- the set at a holds the texts l -/
def TxS (P : Program) (w : World) (h : Heap) (a : Addr) (l : List Str) : Prop :=
  ∃ D : SD, h.get? a = some (sObj "set" D) ∧ TxOk P w D l ∧ l.Nodup ∧ Ris D.2.2.place.toList ∧ (w.params.followText "set-order" = true ∨ D.2.2.led = true)
section
variable {P : Program} {w : World} {A : Around} {E : Value → Shared → Prop} {s : Shared}
theorem TxS.at {h h' : Heap} {a : Addr} {l : List Str} (R : TxS P w h a l) (k : ∀ o, h.get? a = some o → h'.get? a = some o) : TxS P w h' a l := by
  obtain ⟨D, e, r⟩ := R
  exact ⟨D, k _ e, r⟩
end
end Dw

/-! repr([x]), repr((x,)): x an object of an own class with its own __repr__. -/
namespace Dw
open PySem PySem.Spec PyProof.Rows L2
open Builtin Builtin.List
section
variable {P : Program} {w : World} {A : Around} {E : Value → Shared → Prop} {s : Shared} {K : PySem.W.Frag} {C f : Addr}
/-- an own object within a container's repr -/
theorem under_own {n : Nat} {x : Addr} {ox : Obj} {od : Option Obj} {Q : Str → Shared → Prop} (hn : n ≤ sizeLine) (hu : A.units < cLine) (X : K.In s.heap) (I : PySem.W.InstAt s.heap x ox C od) (hs : PySem.W.findIn K (.ref C) "__repr__" = some (some (.ref f))) (hf : PySem.W.isFn K (.ref f) = true)
    (h : wpAny (model P w) A (call (.ref f) [.ref x]) (fun v z => ∃ t u, v = .str t u ∧ Q t z) E s) : wpAny (model P w) A (pyReprUnder n (.ref x)) Q E s := by
  refine wpAny_pyReprUnder_ref hn ?_
  unfold pyReprObjUnder pyReprObjBy
  refine wpAny_bind (wpAny_cRoomFor hu ?_)
  refine wpAny_bind (wpAny_bind (I.type.here ((PySem.W.looks_findIn X hs).here ?_)))
  show wpAny _ _ (if (some (Value.ref f)).isNone = true then _ else _) _ _ _
  rw [if_neg (by simp)]
  have fin : wpAny (model P w) A (call (.ref f) ([.ref x] ++ []) >>= fun v => pure (some v)) (fun r z => ∃ t u, r = some (Value.str t u) ∧ Q t z) E s :=
    wpAny_bind (wpAny_mono h (fun v z ⟨t, u, e, q⟩ => wpAny_pure ⟨t, u, congrArg some e, q⟩) fun _ _ y => y)
  refine wpAny_bind (m := callSpecialIfBoundBy? _ (.ref x) (Str.ofString "__repr__")) (wpAny_mono (Q := fun r z => ∃ t u, r = some (Value.str t u) ∧ Q t z) ?_ (fun r z ⟨t, u, e, q⟩ => ?_) fun _ _ y => y)
  · simp only [callSpecialIfBoundBy?, bindSpecialIfBound?]
    refine wpAny_holding (wpAny_bind (wpAny_bind (wpAny_bind (I.type.here ((PySem.W.looks_findIn X hs).here ?_)))))
    refine wpAny_bind (wpAny_askSetting (wpAny_ite ?_))
    split
    · exact wpAny_bind ((PySem.W.bind_fn X _ (beq_iff_eq.mp hf)).here (wpAny_pure (by exact fin)))
    · exact wpAny_tryCatch (wpAny_bind ((PySem.W.bind_fn X _ (beq_iff_eq.mp hf)).here (wpAny_pure (by exact fin))))
  · subst e
    refine wpAny_bind (wpAny_isInstance (typeIs_str _ _ _) isSubtype_str_str ?_)
    first
      | exact wpAny_pure ⟨_, _, rfl, q⟩
      | (simp only [if_true]; exact wpAny_pure ⟨_, _, rfl, q⟩)
abbrev emptyO : Obj := { cls := .type "list", data := .seq ([] : List Value).toArray }
/-- what the one item gives: whatever stands around, its text; R holds behind it, and the container stays -/
def OneItem (P : Program) (w : World) (A : Around) (E : Value → Shared → Prop) (x : Value) (t : Str) (s1 : Shared) (R : Shared → Prop) : Prop :=
  ∀ (A' : Around) (n : Nat) (Q' : Str → Shared → Prop), A'.handled = A.handled → A'.frames = A.frames → A'.depth ≤ A.depth + 3 → A'.units ≤ A.units + 3 → n ≤ sizeLine → (∀ z, R z → Q' t z) → wpAny (model P w) A' (pyReprUnder n x) Q' E s1
theorem wt_loop (args : Args) : (Code.builtin "list.__repr__.loop" args).weight = 1 := by kernel_rfl
theorem wt_tup (args : Args) : (Code.builtin "tuple.__repr__" args).weight = 1 := by kernel_rfl
theorem listText1 (t : Str) : listText [t] = ("[" : Str) ++ ("" : String) ++ t ++ "]" := rfl
theorem list_one {a : Addr} {oa : Obj} {na : Nat} {x : Value} {t : Str} {R : Shared → Prop} {Q : Value → Shared → Prop} (hg : A.guards = some []) (hu : A.units + 10 < cLine) (ha : s.heap.get? a = some oa) (hc : oa.cls = .type "list") (hd : oa.data = .seq #[x] na) (hz : (listText [t]).length ≤ 100000)
    (item : OneItem P w A E x t { s with heap := s.heap.push emptyO } R) (hR : ∀ z, R z → (∃ (o : Obj) (n : Nat) (y : Value), z.heap.get? a = some o ∧ o.data = .seq #[y] n) ∧ z.heap.get? s.heap.objs.size = some emptyO)
    (k : ∀ z g u tk, R z → (∀ b o, b ≠ s.heap.objs.size → z.heap.get? b = some o → g.get? b = some o) → Q (.str (listText [t]) u) { z with heap := g, toks := tk }) : wpAny (model P w) A (call (.builtin "repr") [.ref a]) Q E s := by
  have sz : sizeLine = 16777216 := sizeLine_eq
  have ht : t.length ≤ 100000 := by
    have := piled_le_listText [t]
    rw [piled_cons, piled_nil] at this; omega
  have ty : s.TypeIs (.ref a) "list" := ⟨oa, ha, hc⟩
  refine Calls.call_function_entry PySem.F.kind_repr PySem.F.plain_repr PySem.F.entry_repr (PySem.F.args_repr1 _) ?_
  unfold Builtin.«repr»
  refine wpAny_bind (m := oneArg "repr" _) (wpAny_pure ?_)
  refine wpAny_bind (wpAny_cRoomFor (by show A.units + 1 < cLine; omega) ?_)
  refine wpAny_bind (wpAny_specialOf (name := Str.ofString "__repr__") ty F.slot_list_repr.lookup ?_)
  refine wpAny_bind (m := callSpecialIfBound? (.ref a) (Str.ofString "__repr__")) (wpAny_callSpecialIfBound?_slot (name := Str.ofString "__repr__") ty F.slot_list_repr (wpAny_mono (Q := fun v z => ∃ u, v = Value.str (listText [t]) u ∧ Q v z) ?_ (fun v z ⟨u, e, q⟩ => ?ps) fun _ _ y => y))
  case ps =>
    subst e
    refine wpAny_bind (wpAny_isInstance (typeIs_str _ _ _) isSubtype_str_str ?_)
    first
      | exact wpAny_pure ⟨_, rfl, q⟩
      | (simp only [if_true]; exact wpAny_pure ⟨_, rfl, q⟩)
  refine wpAny_call (codeAny_call_builtin F.slot_list_repr.plain F.entry_list_repr (F.slot_list_repr.check _ _ _ _ _ _ _ _ ty (F.args_list_repr_1 _) ?_))
  refine wpAny_list_repr_head (b := 0) (g := []) (l := []) hg (fun _ _ _ m => nomatch m) ha hd ?_
  refine wpAny_bind (wpAny_newList ?_ (by decide))
  have o1 : (s.heap.push emptyO).get? a = some oa := Heap.get?_push_of_some _ ha
  refine wpAny_pure ⟨F.quiet_list_repr_loop _, codeAny_builtin F.entry_list_repr_loop ?_⟩
  show wpAny _ _ («list.__repr__.loop» ⟨[.ref a, .int ((0 : Nat) : Int) 0, .ref s.heap.objs.size, .int ((0 : Nat) : Int) 0], []⟩) _ _ _
  rw [repr_loop_tree]
  refine wpAny_bind (wpAny_listItems o1 hd ?_)
  simp only [Int.toNat_natCast]
  show wpAny _ _ (do let v ← holding [x] (pyReprUnder (0 + 1) x); _) _ _ _
  refine wpAny_bind (wpAny_holding (wpAny_mono (item _ 1 (fun v z => v = t ∧ R z) (by first | rfl | simp [Around.under]) (by first | rfl | simp [Around.under, Code.envs, pushEnvs]) (by show A.in1.in1.depth + _ ≤ _; rw [wt_loop]; simp) (Nat.le_trans (Nat.le_of_eq (units_under_list_loop _ _)) (by simp; try omega)) (by rw [sz]; omega) fun z r => ⟨rfl, r⟩) (fun v z ⟨ev, r⟩ => ?_) fun _ _ y => y))
  have ev := ev.symm
  subst ev
  obtain ⟨⟨o2, n2, y2, h1, hd2⟩, h2⟩ := hR z r
  refine wpAny_bind (wpAny_mkStr ?_ (by rw [sz]; omega))
  refine wpAny_bind ?_
  show wpAny _ _ (updateSeq s.heap.objs.size _) _ _ _
  refine wpAny_updateSeq h2 rfl (wpAny_pure ⟨F.quiet_list_repr_loop _, codeAny_builtin F.entry_list_repr_loop ?_⟩) (by decide)
  have na2 : s.heap.objs.size ≠ a := fun e => absurd (Heap.lt_size ha) (by rw [e]; exact Nat.lt_irrefl _)
  have g2 := Heap.get?_update_self (Obj.mapSeq (·.push (Value.str t z.toks))) h2 rfl
  show wpAny _ _ («list.__repr__.loop» ⟨[.ref a, .int ((0 : Nat) + 1 : Int) 0, .ref s.heap.objs.size, .int (((0 : Nat) : Int).toNat + (t.length + 2) : Nat) 0], []⟩) _ _ _
  rw [repr_loop_tree]
  refine wpAny_bind (wpAny_listItems ((Heap.get?_update_other _ _ na2).trans h1) hd2 ?_)
  show wpAny _ _ (reprEnd (.ref s.heap.objs.size)) _ _ _
  unfold reprEnd
  refine wpAny_bind (wpAny_listItems g2 rfl ?_)
  have fold := repr_fold [(t, z.toks)] 0 "["
  have fold' : (forIn (((([] : List Value).toArray).push (Value.str t z.toks)).toList.zipIdx) ("[" : Str) reprBody : Sem Str) = pure (textFrom 0 "[" [t]) := fold
  rw [fold']
  refine wpAny_bind (wpAny_pure ?_)
  exact wpAny_bind (wpAny_mkStr (wpAny_pure ⟨_, rfl, k z _ _ _ r fun b o nb e => (Heap.get?_update_other _ _ (Ne.symm nb)).trans e⟩) (by show (listText [t]).length ≤ sizeLine; omega))
theorem tup_one {a : Addr} {oa : Obj} {na : Nat} {x : Value} {t : Str} {R : Shared → Prop} {Q : Value → Shared → Prop} (hg : A.guards = some []) (hu : A.units + 10 < cLine) (ha : s.heap.get? a = some oa) (hc : oa.cls = .type "tuple") (hd : oa.data = .seq #[x] na) (hz : (tupleText [t]).length ≤ 100000)
    (item : OneItem P w A E x t s R) (k : ∀ z u tk, R z → Q (.str (tupleText [t]) u) { z with toks := tk }) : wpAny (model P w) A (call (.builtin "repr") [.ref a]) Q E s := by
  have sz : sizeLine = 16777216 := sizeLine_eq
  have ty : s.TypeIs (.ref a) "tuple" := ⟨oa, ha, hc⟩
  refine Calls.call_function_entry PySem.F.kind_repr PySem.F.plain_repr PySem.F.entry_repr (PySem.F.args_repr1 _) ?_
  unfold Builtin.«repr»
  refine wpAny_bind (m := oneArg "repr" _) (wpAny_pure ?_)
  refine wpAny_bind (wpAny_cRoomFor (by show A.units + 1 < cLine; omega) ?_)
  refine wpAny_bind (wpAny_specialOf (name := Str.ofString "__repr__") ty F.slot_tuple_repr.lookup ?_)
  refine wpAny_bind (m := callSpecialIfBound? (.ref a) (Str.ofString "__repr__")) (wpAny_callSpecialIfBound?_slotG (name := Str.ofString "__repr__") ty F.slot_tuple_repr (wpAny_mono (Q := fun v z => ∃ u, v = Value.str (tupleText [t]) u ∧ Q v z) ?_ (fun v z ⟨u, e, q⟩ => ?ps) fun _ _ y => y))
  case ps =>
    subst e
    refine wpAny_bind (wpAny_isInstance (typeIs_str _ _ _) isSubtype_str_str ?_)
    first
      | exact wpAny_pure ⟨_, rfl, q⟩
      | (simp only [if_true]; exact wpAny_pure ⟨_, rfl, q⟩)
  refine wpAny_call (codeAny_call_builtin_own (Code.quiet_builtin _ (by decide +kernel)) F.entry_tuple_repr (F.slot_tuple_repr.check _ _ _ _ _ _ _ _ ty (F.args_tuple_repr_1 _) ?_))
  show wpOwn _ _ _ (Builtin.tupleReprAt 0 ⟨[.ref a], []⟩) _ _ _
  rw [tuple_repr_tree, tupleReprUnderWay_eq]
  refine wpOwn_bind (wpOwn_stackTailAny (g := []) hg (tupGuardF_off _) (tupGuardF_pos _) ?_)
  refine wpOwn_of_wpAny ?_
  show wpAny _ _ (if false = true then _ else _) _ _ _
  rw [if_neg Bool.false_ne_true]
  unfold tupleReprRest Builtin.Tuple.tupleItemsOf
  refine wpAny_bind (wpAny_bind (wpAny_seqItems ha hd (wpAny_pure ?_)))
  rw [← Array.forIn_toList]
  show wpAny _ _ (forIn [x] _ tupBody >>= _) _ _ _
  rw [List.forIn_cons]
  refine wpAny_bind (wpAny_bind (wpAny_bind (wpAny_mono (item _ 1 (fun v z => v = t ∧ R z) (by first | rfl | simp [Around.under]) (by first | rfl | simp [Around.under, Code.envs, pushEnvs]) (by show A.in1.depth + _ ≤ _; rw [wt_tup]; show A.depth + 1 ≤ _; omega) (Nat.le_trans (Nat.le_of_eq (units_under_tuple_repr _ _)) (by simp; try omega)) (by rw [sz]; omega) fun z r => ⟨rfl, r⟩) (fun v z ⟨ev, r⟩ => ?_) fun _ _ y => y)))
  have ev := ev.symm
  subst ev
  refine wpAny_pure ?_
  show wpAny _ _ (forIn ([] : List Value) _ tupBody) _ _ _
  rw [List.forIn_nil]
  refine wpAny_pure ?_
  exact wpAny_bind (wpAny_mkStr (wpAny_pure ⟨_, rfl, k z _ _ r⟩) (by show (tupleText [t]).length ≤ sizeLine; omega))
end
abbrev rOr1 (r r' : List V → Hp → VK → Prop) : List V → Hp → VK → Prop := fun xs H Q => r xs H Q ∨ r' xs H Q
/-- repr([x]), repr((x,)) -/
def rReprO (K : PySem.W.Frag) (C : Addr) (sp : Sp) : List V → Hp → VK → Prop := fun xs H Q => ∃ (l a dx : Addr) (fs : List (Str × V)) (t : Str), xs = [.ref l] ∧ H a = some (.ins C dx fs) ∧ t.length ≤ 1000 ∧
  ((SqL K H l [.ref a] ∧ sp [.ref a] H (fun v H' => v = .str t ∧ SqL K H' l [.ref a] ∧ Q (.str (listText [t])) H') E0) ∨ (SqT K H l [.ref a] ∧ sp [.ref a] H (fun v H' => v = .str t ∧ Q (.str (tupleText [t])) H') E0))
/-- what calls the def below the running body -/
abbrev Runs (X : Cx) (f : Addr) (sp : Sp) : Prop := ∀ (A : Around) (pins : List (Addr × Obj)) (σ : L2.St) (H : Hp) (s : Shared) (us : List Value) (vs : List V) (Q : VK) (E1 : Value → Shared → Prop) (R : Value → Shared → Prop), A.handled = X.A.handled → A.frames = X.A.frames → A.depth ≤ X.A.depth + 3 → A.units ≤ X.A.units + 3 →
  Inv X pins σ H s → Vals vs us → sp vs H Q E0 → (∀ u s', EP X pins σ Q u s' → R u s') → wpAny (model X.prog X.w) A (call (.ref f) us) R E1 s
theorem one_its {vs : List Value} {a : Addr} (r : Vals [V.ref a] vs) : vs = [.ref a] := by
  cases r with
  | cons r1 r2 => cases r2; cases r1; rfl
theorem text1_len {t : Str} (h : t.length ≤ 1000) : (listText [t]).length ≤ 100000 ∧ (tupleText [t]).length ≤ 100000 := by
  constructor
  · rw [listText1, strLen_append, strLen_append, strLen_append]
    have e1 : ((("[" : String) : Str)).length = 1 := rfl
    have e2 : ((("" : String) : Str)).length = 0 := rfl
    have e3 : ((("]" : String) : Str)).length = 1 := rfl
    omega
  · show ((("(" : Str) ++ t) ++ (",)" : Str)).length ≤ _
    rw [strLen_append, strLen_append]
    have e1 : ((("(" : String) : Str)).length = 1 := rfl
    have e2 : (((",)" : String) : Str)).length = 2 := rfl
    omega
theorem cr_reprO_of {X : Cx} {C f : Addr} {sp : Sp} (run : Runs X f sp) (hG : X.A.guards = some []) (hu : X.A.units + 10 < PySem.cLine) (hs : PySem.W.findIn X.K (.ref C) "__repr__" = some (some (.ref f))) (hf : PySem.W.isFn X.K (.ref f) = true) : CallR X (.builtin "repr") (rReprO X.K C sp) := by
  intro pins s σ H xs us Q I r h
  obtain ⟨l, a, dx, fs, t, rfl, ha, ht, h⟩ := h
  obtain ⟨u, rfl, ru⟩ := vals1 r
  cases ru
  obtain ⟨z1, z2⟩ := text1_len ht
  rcases h with ⟨hl, hsp⟩ | ⟨hl, hsp⟩
  · obtain ⟨its, rv, pl, _⟩ := I.list hl
    have ei := one_its rv
    subst ei
    obtain ⟨o, ho, hc, nn, hd⟩ := pl.isList
    have np : H s.heap.objs.size = none := I.hok.fresh (Nat.le_refl _)
    have fp : FpOk X pins H s.heap.objs.size := I.fpOk (Nat.le_refl _) np
    have I1 : Inv X pins σ H { s with heap := s.heap.push emptyO } := I.kept (t' := s.toks) fun b u e => Heap.get?_push_of_some _ e
    have I2 : Inv X ((s.heap.objs.size, emptyO) :: pins) σ H { s with heap := s.heap.push emptyO } := I1.pins_of fun p hp => by
      rcases List.mem_cons.mp hp with rfl | hp
      · exact ⟨Heap.get?_push_size _ rfl, np, fp.2.1, fp.2.2.1, fun v e => by cases e⟩
      · exact I1.pin p (List.mem_append_right _ hp)
    refine list_one (R := fun z => ∃ H', Inv X ((s.heap.objs.size, emptyO) :: pins) σ H' z ∧ SqL X.K H' l [.ref a] ∧ Q (.str (listText [t])) H') hG hu ho hc hd z1 (fun A' n Q' h1 h2 h3 h4 hn hQ => ?_) (fun z ⟨H', I', hs', _⟩ => ?_) fun z g u tk ⟨H', I', hs', q⟩ kp => ?_
    · obtain ⟨mA, J, _⟩ := ins_get I2.hok ha
      obtain ⟨od, J, _⟩ := J.look
      refine under_own hn (by omega) I2.kIn J hs hf (run A' _ σ H _ [.ref a] [.ref a] _ _ _ h1 h2 h3 h4 I2 (.cons rfl .nil) hsp fun v z ⟨x, H', I', rv', ex, hs', q⟩ => ?_)
      subst ex
      obtain ⟨tk, rfl⟩ := rv'
      exact ⟨t, tk, rfl, hQ z ⟨H', I', hs', q⟩⟩
    · obtain ⟨its', rv', pl', _⟩ := I'.list hs'
      have ei := one_its rv'
      subst ei
      obtain ⟨o', ho', _, n', hd'⟩ := pl'.isList
      exact ⟨⟨o', n', .ref a, ho', hd'⟩, (I'.pin _ (List.mem_append_right _ List.mem_cons_self)).1⟩
    · have np' := (I'.pin _ (List.mem_append_right _ List.mem_cons_self)).2.1
      have I3 : Inv X pins σ H' z := I'.pins_of fun p hp => I'.pin p (List.mem_append_right _ (List.mem_cons_of_mem _ hp))
      exact ⟨.str _, H', I3.turned (t' := tk) kp np' fp.2.1 fp.2.2.2.1 fp.2.2.2.2.1 fp.2.2.2.2.2, ⟨_, rfl⟩, q⟩
  · obtain ⟨its, rv, pt, _⟩ := I.tuple hl
    have ei := one_its rv
    subst ei
    obtain ⟨o, ho, hc, nn, hd⟩ := pt
    refine tup_one (R := fun z => ∃ H', Inv X pins σ H' z ∧ Q (.str (tupleText [t])) H') hG hu ho hc hd z2 (fun A' n Q' h1 h2 h3 h4 hn hQ => ?_) fun z u tk ⟨H', I', q⟩ => ?_
    · obtain ⟨mA, J, _⟩ := ins_get I.hok ha
      obtain ⟨od, J, _⟩ := J.look
      refine under_own hn (by omega) I.kIn J hs hf (run A' _ σ H _ [.ref a] [.ref a] _ _ _ h1 h2 h3 h4 I (.cons rfl .nil) hsp fun v z ⟨x, H', I', rv', ex, q⟩ => ?_)
      subst ex
      obtain ⟨tk, rfl⟩ := rv'
      exact ⟨t, tk, rfl, hQ z ⟨H', I', q⟩⟩
    · exact ⟨.str _, H', I'.tok tk, ⟨_, rfl⟩, q⟩
/-- in a def's own body -/
theorem runs_ok {X : Cx} {f : Addr} {fd : FuncData} {p : Str} {n : Nat} {sp : Sp} (F : FnOk X.prog X.w X.K X.mg X.base CX0 n f fd [p] sp) (hr : Room (n + 1) X.A) (hb : Binds X.K fd [p] []) : Runs X f sp := fun A pins σ H s us vs Q E1 R h1 h2 h3 h4 I r hsp hR =>
  run_below F ⟨h1.trans hr.hd, by have := hr.dp; omega, by have := hr.un; omega⟩ h2 hb I r hsp hR
variable [Tabs0]
theorem cr_reprO {X : Cx} {C f : Addr} {fd : FuncData} {p : Str} {n : Nat} {sp : Sp} (F : FnOk X.prog X.w X.K X.mg X.base CX0 n f fd [p] sp) (hr : Room (n + 1) X.A) (hG : X.A.guards = some []) (hs : PySem.W.findIn X.K (.ref C) "__repr__" = some (some (.ref f))) (hf : PySem.W.isFn X.K (.ref f) = true) (hb : Binds X.K fd [p] []) :
    CallR X (.builtin "repr") (rOr1 (rReprY X.K) (rReprO X.K C sp)) := fun pins s σ H xs us Q I r h => h.elim (cr_reprY (by have := hr.un; omega) hG pins s σ H xs us Q I r) (cr_reprO_of (runs_ok F hr hb) hG (by have := hr.un; omega) hs hf pins s σ H xs us Q I r)
end Dw

/-! repr([x]), repr((x,)) while an error is held; what they say of data; a body's end that is never reached. -/
namespace Dw
open PySem PySem.Spec PyProof.Rows L2
open L2H (RoomH PinOk cxH inv_startH)
variable [Tabs0]
section
variable {P : Program} {w : World} {K : PySem.W.Frag} {mg : Str → Option Value} {base : Heap} {k : Nat} {f : Addr} {fd : FuncData} {ps : List Str}
/-- the promise of a def that asks nothing of what is held, nor of what is guarded -/
structure FnT (P : Program) (w : World) (K : PySem.W.Frag) (mg : Str → Option Value) (base : Heap) (k : Nat) (f : Addr) (fd : FuncData) (ps : List Str) (sp : Sp) : Prop where
  len : ∀ vs H Q E, sp vs H Q E → vs.length = ps.length
  run : ∀ (A : Around) (outer : List Env) (s : Shared) (H : Hp) (args : Args) (us : List Value) (vs : List V) (Q : VK) (E : XK) (p : Addr × Obj), RoomH k A → PinOk outer H s p → Env0 P w K mg base A outer s H → BindsTo s fd args (ps.zip us) → Vals vs us → sp vs H Q E →
    codeAny (model P w) A (.call (.ref f) args) (CR CX0 outer P w H s Q E) s
theorem fn_ofT {sp : Sp} {name qual : Str} {params : Arguments} {body : List Stmt} {scope : Scope} {dV kV doc pm cdv ct oc : Value} {an od : Option Addr} {osl : Array (Option Value)} {N : List Str}
    (lk : K.lookup f = some ⟨oc, od, .func (PySem.W.fnOf name qual params body scope dV kV doc pm an cdv ct), osl⟩) (hcd : PySem.W.codeIn K cdv qual = true) (S : FnScope N ps scope) (len : ∀ vs H Q E, sp vs H Q E → vs.length = ps.length)
    (hbody : ∀ (A : Around) (outer : List Env) (s : Shared) (H : Hp) (vs : List V) (Q : VK) (E : XK) (p : Addr × Obj), RoomH k (A.deeper (envOfC qual scope s.heap.objs.size f cdv)) → sp vs H Q E →
      ∃ t, PSs (cxH CX0 P w K mg base N qual scope f cdv A outer s H E p) body t ∧ t { nx := fun _ H' => Q .non H', rt := Q } (L2.start N vs) H) :
    FnT P w K mg base (k + 1) f (PySem.W.fnOf name qual params body scope dV kV doc pm an cdv ct) ps sp := by
  refine ⟨len, fun A outer s H args us vs Q E p hr hpin e0 hb r hsp => ?_⟩
  have hl := len _ _ _ _ hsp
  have KX : K.In s.heap := e0.mod.kin.keeps fun b o e => (e0.bs b o e).1
  have lim : s.heap.NoLimit := e0.mod.nolimit.keeps fun b o e => (e0.bs b o e).1
  have hkind : ∀ y ∈ ps.zip us, scope.names.lookup y.1 = some .local ∨ (scope.names.lookup y.1 = some .cell ∧ ((cellsFrom (s.heap.objs.size + 1) scope.names []).lookup y.1).isSome = true) := fun ⟨n, v⟩ hy =>
    (S.par n (List.of_mem_zip hy).1).elim .inl fun q => .inr ⟨q, PySem.W.cellsFrom_some _ _ _ (.inl q)⟩
  refine codeAny_call_function hr.depth (KX _ _ lk) rfl S.co S.gen rfl (PySem.W.codeRec_of KX hcd) (hb _ _ _ _ ?_)
  refine wpAny_newFunctionEnv_cells S.kind hkind fun env he s1 x => ?_
  subst he
  obtain ⟨t, ht, hq⟩ := hbody A outer s H vs Q E p (hr.deeper _) hsp
  have I := inv_startH (CX := CX0) (P := P) (w := w) (K := K) (mg := mg) (base := base) (qual := qual) (f := f) (cd := cdv) (A := A) (E := E) S hpin e0 hl r x
  refine ⟨lim.keeps x.toInCall.keep, codeAny_func (wpAny_mono (ht.run [] s1 (L2.start N vs) H _ I hq) (fun fl s' hs => ?_) fun e s' hs => hs)⟩
  match fl, hs with
  | .ret u, ⟨v, _, H', J, rv, q⟩ => exact ⟨v, H', J.os, J.bare, J.base, J.hok, rv, q⟩
  | .next, ⟨_, H', J, q⟩ => exact ⟨V.non, H', J.os, J.bare, J.base, J.hok, rfl, q⟩
  | .brk, ⟨_, _, _, q⟩ => exact False.elim q
  | .cont, ⟨_, _, _, q⟩ => exact False.elim q
theorem fnT_ok {x qual : Str} {st : Stmt} {N : List Str} {s : Spc} (F : Fun K x qual st f fd) (S : FnScope N ps (defScope st)) (len : ∀ x, (s.args x).length = ps.length)
    (hbody : ∀ (cdv : Value) (A : Around) (outer : List Env) (s' : Shared) (H : Hp) (E : XK) (p : Addr × Obj), RoomH k (A.deeper (envOfC qual (defScope st) s'.heap.objs.size f cdv)) →
      ∃ t, PSs (cxH CX0 P w K mg base N qual (defScope st) f cdv A outer s' H E p) (defBody st) t ∧ ∀ x, s.ok x → Ds t (Gz0 N.length (s.args x)) ⟨fun _ => s.rel x .non, s.rel x, fun _ => False, fun _ => False⟩) : FnT P w K mg base (k + 1) f fd ps (toSp s) := by
  obtain ⟨oc, od, kV, doc, pm, an, cdv, ct, osl, rfl, lk, hcd⟩ := F.ex
  refine fn_ofT lk hcd S (spc_len len) fun A outer s' H vs Q E p hr h => ?_
  obtain ⟨t, ht, hb⟩ := hbody cdv A outer s' H E p hr
  exact ⟨t, ht, body_of h hb⟩
end
theorem runs_held {X : Cx} {f : Addr} {fd : FuncData} {q : Str} {n : Nat} {sp : Sp} {p : Addr × Obj} (F : FnT X.prog X.w X.K X.mg X.base n f fd [q] sp) (hr : RoomH (n + 1) X.A) (hp : p ∈ X.pn) (hb : Binds X.K fd [q] []) : Runs X f sp := fun A pins σ H s us vs Q E1 R h1 h2 h3 h4 I r hsp hR => by
  have e0 : Env0 X.prog X.w X.K X.mg X.base A X.stack s H := by
    have e := I.env0
    exact ⟨by rw [h2]; exact e.frames, e.mod, e.bs, e.bsz, e.funs, e.frf, e.hok, e.bare⟩
  have hl : us.length = [q].length := by rw [← r.length]; exact F.len _ _ _ _ hsp
  have b := hb s us I.kIn (by rw [List.append_nil]; exact hl)
  rw [List.append_nil] at b
  have P1 := I.pin p (List.mem_append_left _ hp)
  have hpin : PinOk X.stack H s p := ⟨P1.1, P1.2.1, fun hm => (List.mem_cons.mp (I.stkSub p.1 hm)).elim P1.2.2.1 P1.2.2.2.1, P1.2.2.2.2⟩
  refine wpAny_call (codeAny_mono (F.run A X.stack s H ⟨us, []⟩ us vs Q E0 p ⟨by have := hr.dp; omega, by have := hr.un; omega⟩ hpin e0 b r hsp) fun r s' hq => ?_)
  match r, hq with
  | .error e, hq => exact (show False from hq).elim
  | .ok .next, hq => exact (show False from hq).elim
  | .ok .brk, hq => exact (show False from hq).elim
  | .ok .cont, hq => exact (show False from hq).elim
  | .ok (.ret u), hq => exact hR _ _ (I.after hq)
theorem cr_reprOH {X : Cx} {C f : Addr} {fd : FuncData} {q : Str} {n : Nat} {sp : Sp} {p : Addr × Obj} (F : FnT X.prog X.w X.K X.mg X.base n f fd [q] sp) (hr : RoomH (n + 1) X.A) (hG : X.A.guards = some []) (hp : p ∈ X.pn) (hs : PySem.W.findIn X.K (.ref C) "__repr__" = some (some (.ref f))) (hf : PySem.W.isFn X.K (.ref f) = true) (hb : Binds X.K fd [q] []) :
    CallR X (.builtin "repr") (rOr1 (rReprY X.K) (rReprO X.K C sp)) := fun pins s σ H xs us Q I r h => h.elim (cr_reprY (by have := hr.un; omega) hG pins s σ H xs us Q I r) (cr_reprO_of (runs_held F hr hp hb) hG (by have := hr.un; omega) hs hf pins s σ H xs us Q I r)
/-! ### of data -/
section
variable {K : PySem.W.Frag} {C : Addr} {sp : Spc} {Γ : Gam} {te : TE} {ns : List Str} {ds : List D} {t : Str} {x : sp.ty} {F : Addr → Prop} {σ : L2.St} {W : Wd}
theorem rep_reprOL {v : V} {Q : VK} (g : SR F Γ σ W) (r : Rep W (.lst [.obj C ns ds]) v) (ha : sp.args x = [.obj C ns ds]) (np : noPs (sp.args x) = true) (ok : sp.ok x) (hd : ∀ d, sp.rel x d → d = .str t) (ht : t.length ≤ 1000) (q : ∀ H, Same W.H H → Q (.str (listText [t])) H) : rReprO K C (toSp sp) [v] W.H Q := by
  obtain ⟨p, vs, rfl, e, nu, u, _, rfl, r1, rfl⟩ := r
  obtain ⟨a, dx, ws, rfl, hH, nu1, l1, rr⟩ := r1
  refine ⟨p, a, dx, _, t, rfl, hH, ht, .inl ⟨.of e, ?_⟩⟩
  have r0 : RepL W (sp.args x) [.ref a] := by rw [ha]; exact RepL.one ⟨a, dx, ws, rfl, hH, nu1, l1, rr⟩
  exact pure_call g (fun _ z => z) (RepL.delP _ _ np r0) ok fun d' v H' hd' s' r' => by
    rw [hd d' hd'] at r'
    exact ⟨r', .of (s' _ _ e), q H' s'⟩
theorem rep_reprOT {v : V} {Q : VK} (g : SR F Γ σ W) (r : Rep W (.tup [.obj C ns ds]) v) (ha : sp.args x = [.obj C ns ds]) (np : noPs (sp.args x) = true) (ok : sp.ok x) (hd : ∀ d, sp.rel x d → d = .str t) (ht : t.length ≤ 1000) (q : ∀ H, Same W.H H → Q (.str (tupleText [t])) H) : rReprO K C (toSp sp) [v] W.H Q := by
  obtain ⟨p, vs, rfl, e, nu, u, _, rfl, r1, rfl⟩ := r
  obtain ⟨a, dx, ws, rfl, hH, nu1, l1, rr⟩ := r1
  refine ⟨p, a, dx, _, t, rfl, hH, ht, .inr ⟨e.sq, ?_⟩⟩
  have r0 : RepL W (sp.args x) [.ref a] := by rw [ha]; exact RepL.one ⟨a, dx, ws, rfl, hH, nu1, l1, rr⟩
  exact pure_call g (fun _ z => z) (RepL.delP _ _ np r0) ok fun d' v H' hd' s' r' => by
    rw [hd d' hd'] at r'
    exact ⟨r', q H' s'⟩
end
/-- what repr gives: of data, of {}, of [x] and (x,) -/
def RpO (C : Addr) (sp : Spc) (d : D) (z : Str) : Prop := RpD d z ∨ ∃ (x : sp.ty) (ns : List Str) (ds : List D) (t : Str), sp.args x = [.obj C ns ds] ∧ noPs (sp.args x) = true ∧ sp.ok x ∧ (∀ d, sp.rel x d → d = .str t) ∧ t.length ≤ 1000 ∧ ((d = .lst [.obj C ns ds] ∧ z = listText [t]) ∨ (d = .tup [.obj C ns ds] ∧ z = tupleText [t]))
section
variable {K : PySem.W.Frag} {C : Addr} {sp : Spc} {Γ : Gam} {te : TE} {d : D} {z : Str} {x : Exn} {ed : Option Addr}
theorem rep_reprO {F : Addr → Prop} {σ : L2.St} {W : Wd} {v : V} {Q : VK} (g : SR F Γ σ W) (r : Rep W d v) (h : RpO C sp d z) (q : ∀ H, Same W.H H → Q (.str z) H) : rOr1 (rReprY K) (rReprO K C (toSp sp)) [v] W.H Q := by
  rcases h with h | ⟨x, ns, ds, t, ha, np, ok, hd, ht, ⟨rfl, rfl⟩ | ⟨rfl, rfl⟩⟩
  · exact .inl (rep_reprY r h (q _ (Same.refl _)))
  · exact .inr (rep_reprOL g r ha np ok hd ht q)
  · exact .inr (rep_reprOT g r ha np ok hd ht q)
theorem ev_reprO (h : Ev te Γ d) (hz : RpO C sp d z) : Ev (tCB (rOr1 (rReprY K) (rReprO K C (toSp sp))) (tCons te tNil)) Γ (.str z) := fun F σ W Q g q => h F σ W _ g fun v H s r => rep_reprO (W := W.at H) (g.same s) r hz fun H' s' => q _ H' (Same.trans s s') rfl
theorem evh_reprO (h : EvH te Γ x ed d) (hz : RpO C sp d z) : EvH (tCB (rOr1 (rReprY K) (rReprO K C (toSp sp))) (tCons te tNil)) Γ x ed (.str z) := fun F σ W Q g hx q => h F σ W _ g hx fun v H s r => rep_reprO (W := W.at H) (g.same s) r hz fun H' s' => q _ H' (Same.trans s s') rfl
end
section
variable {K : PySem.W.Frag} {C : Addr} {sx : SpcX} {sp : Sp} {Γ : Gam} {ta : TE} {t : TA} {ds es : List D} {E : XK} {R : Option Addr → Hp → Prop}
end
section
open LamX
variable {K : PySem.W.Frag} {Γ : Gam} {Tt : List (Addr × Str)} {P : Addr} {q wd : Str} {c1 c2 : Value} {n ie i : Nat} {sl : Sl} {ts : Addr → Value → Option Addr → TS} {t : XK → TE} {d : D} {Q : D → Gam → Prop} {x : Exn}
/-- told, x raised, by any slot that knows of tables -/
theorem dl_told_excG (T : TabsOk Tt) (hP : (P, q) ∈ Tt) (h0 : Γ[i]? = some sl) (tg : TgS sl) (hb : ∀ E : XK, ErT (t E) Γ x fun ed H' => E (.ref x.C) ed H') (hx : PySem.W.exmAny K (.ref x.C) [c1, c2] = some true) (hs : SuitX ts n ie x d) (hq : Q d Γ) :
    Dl (tLam3 Tt P q (TTold3 K c1 c2 n ie wd ts) t) Γ Q := fun F σ W R g k => by
  have tb := g.tabs h0 tg
  refine ⟨tabs_of g.ok T tb, fun H1 c T1 => ?_⟩
  obtain ⟨st, g1⟩ := g.chg T hP tb c T1
  intro Qc hQ
  refine hb _ F σ (W.at H1) Qc g1 fun ed H' s' ex => ⟨hx, fun σ2 a2 Dr hl na hD => ?_⟩
  have g2 : SR F Γ σ (W.at H') := SR.same (W := W.at H1) s' g1
  refine hs F (W.at H') σ2 a2 Dr ed g2.ok hl na ex.2 fun v H2 s2 r => ?_
  have g3 : SR F Γ σ (W.at H2) := SR.same (W := W.at H') s2 g2
  rw [hD]
  exact k v (W.at H2) d Γ ((st.trans (Stp.of_same g1.ok s')).trans (Stp.of_same (W := W.at H') g2.ok s2)) g3 r hq
end
/-! ### a body's end that is never reached -/
def tDead : TS := fun _ _ _ => False
theorem pss_dead {X : Cx} {ss : List Stmt} : PSs X ss tDead := ⟨fun _ _ _ _ _ _ h => h.elim⟩
end Dw

/-! list(x), x a text. -/
namespace Dw
open PySem PySem.Spec PyProof.Rows L2
theorem vals_ext : ∀ {xs : List V} {us : List Value}, us.length = xs.length → (∀ (i : Nat) (x : V) (u : Value), xs[i]? = some x → us[i]? = some u → RelV x u) → Vals xs us
  | [], [], _, _ => .nil
  | [], _ :: _, h, _ => by simp at h
  | _ :: _, [], h, _ => by simp at h
  | x :: xs, u :: us, h, k => .cons (k 0 x u rfl rfl) (vals_ext (by simpa using h) fun i y v e1 e2 => k (i + 1) y v (by simpa using e1) (by simpa using e2))
def rListS : List V → Hp → VK → Prop := fun xs H Q => ∃ x : Str, xs = [.str x] ∧ x.length ≤ 100000 ∧ ∀ p, H p = none → Q (.ref p) (upd H p (.lst (x.cps.toList.map fun c => V.str ⟨#[c]⟩)))
theorem cr_listS {X : Cx} (hc : X.calm = true) : CallR X (.type "list") rListS := by
  intro pins s σ H vs us Q I r h
  obtain ⟨x, rfl, hz, q⟩ := h
  obtain ⟨u, rfl, ru⟩ := vals1 r
  obtain ⟨t, rfl⟩ := ru
  have sz : x.cps.size = x.length := rfl
  have sl : sizeLine = 16777216 := sizeLine_eq
  refine call_list_str (I.ok.hd hc) x t (fun h' tk acc c kp e it => ?_) (by rw [sz, sl]; omega)
  have hl : (x.cps.toList.map fun c => V.str ⟨#[c]⟩).length = x.cps.size := by rw [List.length_map, Array.length_toList]
  have rv : Vals (x.cps.toList.map fun c => V.str ⟨#[c]⟩) acc.toList := by
    refine vals_ext (by rw [hl, Array.length_toList, it.1]) fun i y v e1 e2 => ?_
    rw [Array.getElem?_toList] at e2
    obtain ⟨d, z, h1, rfl⟩ := it.2 i v e2
    rw [List.getElem?_map, Array.getElem?_toList, h1] at e1
    cases e1
    exact ⟨z, rfl⟩
  exact ⟨.ref _, upd H s.heap.objs.size (.lst (x.cps.toList.map fun c => V.str ⟨#[c]⟩)), I.laid (t' := tk) kp (Nat.le_refl _) ⟨by rw [hl, sz, sl]; omega, acc.toList, c, rv, e⟩, rfl, q _ (I.hok.fresh (Nat.le_refl _))⟩
variable [Tabs0]
abbrev rListA (K : PySem.W.Frag) : List V → Hp → VK → Prop := fun xs H Q => rListOf K xs H Q ∨ rListS xs H Q
theorem listSA {X : Cx} (K : PySem.W.Frag) (hc : X.calm = true := by rfl) (hK : X.K = K := by rfl) : CallR X (.type "list") (rListA K) := hK ▸ fun pins s σ H xs us Q I r h => h.elim (call_list_of pins s σ H xs us Q I r) (cr_listS hc pins s σ H xs us Q I r)
section
variable {K : PySem.W.Frag} {Γ : Gam} {ta : TE} {ds : List D}
theorem evn_listAT (h : Ev ta Γ (.tup ds)) : EvN (tCB (rListA K) (tCons ta tNil)) Γ ds := fun F σ W Q g k => h F σ W _ g fun u H s ⟨p, vs, eu, e, nu, l⟩ => .inl ⟨p, vs, by rw [eu], .inr e.sq, fun n hn => k n vs _ (Same.trans s (same_upd hn)) (s.free hn) upd_same (RepL.plus (W := W.at H) hn (same_upd hn) l)⟩
theorem signs_rep {W : Wd} : ∀ l : List Nat, RepL W (l.map fun c => D.str ⟨#[c]⟩) (l.map fun c => V.str ⟨#[c]⟩)
  | [] => rfl
  | c :: l => ⟨_, _, rfl, rfl, signs_rep l⟩
theorem evn_listAS {x : Str} (h : Ev ta Γ (.str x)) (hz : x.length ≤ 100000) : EvN (tCB (rListA K) (tCons ta tNil)) Γ (signs x) := fun F σ W Q g k => h F σ W _ g fun u H s r => .inr ⟨x, by rw [show u = V.str x from r], hz, fun n hn => k n _ _ (Same.trans s (same_upd hn)) (s.free hn) upd_same (signs_rep _)⟩
end
end Dw

namespace K09
open PySem PySem.Spec PyProof.Rows L2 Dw
variable [Tabs0]
/-! ### the text by places -/
def topS (i : Nat) : Stmt := PySem.Challenge.pw_rankedrules_k09_rankings_refused.main.body.getD i (.Pass ⟨0, 0, 0, 0⟩)
abbrev s_is_name : Stmt := topS 30
abbrev N_is_name : List Str := ["value", "letter"]
theorem sc_is_name : FnScope N_is_name ["value"] (defScope s_is_name) := ⟨rfl, rfl, rfl, by decide +kernel, rfl, by decide +kernel, by decide +kernel⟩
abbrev s_are_names : Stmt := topS 31
abbrev N_are_names : List Str := ["values", "one", "other", "value"]
theorem sc_are_names : FnScope N_are_names ["values"] (defScope s_are_names) := ⟨rfl, rfl, rfl, by decide +kernel, rfl, by decide +kernel, by decide +kernel⟩
abbrev s_is_any_row : Stmt := topS 32
abbrev N_is_any_row : List Str := ["value", "sign"]
theorem sc_is_any_row : FnScope N_is_any_row ["value"] (defScope s_is_any_row) := ⟨rfl, rfl, rfl, by decide +kernel, rfl, by decide +kernel, by decide +kernel⟩
abbrev s_is_row : Stmt := topS 33
abbrev N_is_row : List Str := ["value", "many"]
theorem sc_is_row : FnScope N_is_row ["value", "many"] (defScope s_is_row) := ⟨rfl, rfl, rfl, by decide +kernel, rfl, by decide +kernel, by decide +kernel⟩
abbrev s_is_whole : Stmt := topS 34
abbrev N_is_whole : List Str := ["value"]
theorem sc_is_whole : FnScope N_is_whole ["value"] (defScope s_is_whole) := ⟨rfl, rfl, rfl, by decide +kernel, rfl, by decide +kernel, by decide +kernel⟩
abbrev s_is_index : Stmt := topS 35
abbrev N_is_index : List Str := ["value", "many"]
theorem sc_is_index : FnScope N_is_index ["value", "many"] (defScope s_is_index) := ⟨rfl, rfl, rfl, by decide +kernel, rfl, by decide +kernel, by decide +kernel⟩
abbrev s_wrong_in_lot : Stmt := topS 36
abbrev N_wrong_in_lot : List Str := ["lot", "many", "least", "at", "index"]
theorem sc_wrong_in_lot : FnScope N_wrong_in_lot ["lot", "many"] (defScope s_wrong_in_lot) := ⟨rfl, rfl, rfl, by decide +kernel, rfl, by decide +kernel, by decide +kernel⟩
abbrev s_is_ranking : Stmt := topS 37
abbrev N_is_ranking : List Str := ["value", "many", "rule"]
theorem sc_is_ranking : FnScope N_is_ranking ["value", "many"] (defScope s_is_ranking) := ⟨rfl, rfl, rfl, by decide +kernel, rfl, by decide +kernel, by decide +kernel⟩
abbrev s_InvalidRow___init__ : Stmt := inClass (topS 8) 0
abbrev N_InvalidRow___init__ : List Str := ["self", "given"]
theorem sc_InvalidRow___init__ : FnScope N_InvalidRow___init__ ["self", "given"] (defScope s_InvalidRow___init__) := ⟨rfl, rfl, rfl, by decide +kernel, rfl, by decide +kernel, by decide +kernel⟩
abbrev s_check_row : Stmt := topS 38
abbrev N_check_row : List Str := ["row", "many"]
theorem sc_check_row : FnScope N_check_row ["row", "many"] (defScope s_check_row) := ⟨rfl, rfl, rfl, by decide +kernel, rfl, by decide +kernel, by decide +kernel⟩
abbrev s_InvalidRanking___init__ : Stmt := inClass (topS 9) 0
abbrev N_InvalidRanking___init__ : List Str := ["self", "given"]
theorem sc_InvalidRanking___init__ : FnScope N_InvalidRanking___init__ ["self", "given"] (defScope s_InvalidRanking___init__) := ⟨rfl, rfl, rfl, by decide +kernel, rfl, by decide +kernel, by decide +kernel⟩
abbrev s_check_ranking : Stmt := topS 39
abbrev N_check_ranking : List Str := ["ranking", "many"]
theorem sc_check_ranking : FnScope N_check_ranking ["ranking", "many"] (defScope s_check_ranking) := ⟨rfl, rfl, rfl, by decide +kernel, rfl, by decide +kernel, by decide +kernel⟩
abbrev s_InvalidRule___init__ : Stmt := inClass (topS 10) 0
abbrev N_InvalidRule___init__ : List Str := ["self", "given"]
theorem sc_InvalidRule___init__ : FnScope N_InvalidRule___init__ ["self", "given"] (defScope s_InvalidRule___init__) := ⟨rfl, rfl, rfl, by decide +kernel, rfl, by decide +kernel, by decide +kernel⟩
abbrev s_check_rule : Stmt := topS 40
abbrev N_check_rule : List Str := ["rule", "many"]
theorem sc_check_rule : FnScope N_check_rule ["rule", "many"] (defScope s_check_rule) := ⟨rfl, rfl, rfl, by decide +kernel, rfl, by decide +kernel, by decide +kernel⟩
abbrev s_InvalidLot___init__ : Stmt := inClass (topS 15) 0
abbrev N_InvalidLot___init__ : List Str := ["self", "index"]
theorem sc_InvalidLot___init__ : FnScope N_InvalidLot___init__ ["self", "index"] (defScope s_InvalidLot___init__) := ⟨rfl, rfl, rfl, by decide +kernel, rfl, by decide +kernel, by decide +kernel⟩
abbrev s_check_lot : Stmt := topS 41
abbrev N_check_lot : List Str := ["lot", "many", "wrong"]
theorem sc_check_lot : FnScope N_check_lot ["lot", "many"] (defScope s_check_lot) := ⟨rfl, rfl, rfl, by decide +kernel, rfl, by decide +kernel, by decide +kernel⟩
abbrev s_read_book : Stmt := topS 43
abbrev N_read_book : List Str := ["text", "head", "_", "tail", "names", "first", "rows", "row"]
theorem sc_read_book : FnScope N_read_book ["text"] (defScope s_read_book) := ⟨rfl, rfl, rfl, by decide +kernel, rfl, by decide +kernel, by decide +kernel⟩
abbrev s_row_holds : Stmt := topS 46
abbrev N_row_holds : List Str := ["row", "ranking", "rule"]
theorem sc_row_holds : FnScope N_row_holds ["row", "ranking"] (defScope s_row_holds) := ⟨rfl, rfl, rfl, by decide +kernel, rfl, by decide +kernel, by decide +kernel⟩
abbrev s_all_hold : Stmt := topS 47
abbrev N_all_hold : List Str := ["rows", "ranking", "row"]
theorem sc_all_hold : FnScope N_all_hold ["rows", "ranking"] (defScope s_all_hold) := ⟨rfl, rfl, rfl, by decide +kernel, rfl, by decide +kernel, by decide +kernel⟩
abbrev s_NotABook___init__ : Stmt := inClass (topS 12) 0
abbrev N_NotABook___init__ : List Str := ["self", "given"]
theorem sc_NotABook___init__ : FnScope N_NotABook___init__ ["self", "given"] (defScope s_NotABook___init__) := ⟨rfl, rfl, rfl, by decide +kernel, rfl, by decide +kernel, by decide +kernel⟩
abbrev s_check_book : Stmt := topS 51
abbrev N_check_book : List Str := ["book"]
theorem sc_check_book : FnScope N_check_book ["book"] (defScope s_check_book) := ⟨rfl, rfl, rfl, by decide +kernel, rfl, by decide +kernel, by decide +kernel⟩
abbrev s_Book_rows : Stmt := inClass (topS 50) 3
abbrev N_Book_rows : List Str := ["self"]
theorem sc_Book_rows : FnScope N_Book_rows ["self"] (defScope s_Book_rows) := ⟨rfl, rfl, rfl, by decide +kernel, rfl, by decide +kernel, by decide +kernel⟩
abbrev s_Book_names : Stmt := inClass (topS 50) 2
abbrev N_Book_names : List Str := ["self"]
theorem sc_Book_names : FnScope N_Book_names ["self"] (defScope s_Book_names) := ⟨rfl, rfl, rfl, by decide +kernel, rfl, by decide +kernel, by decide +kernel⟩
abbrev s_holds : Stmt := topS 57
abbrev N_holds : List Str := ["book", "row", "ranking"]
theorem sc_holds : FnScope N_holds ["book", "row", "ranking"] (defScope s_holds) := ⟨rfl, rfl, rfl, by decide +kernel, rfl, by decide +kernel, by decide +kernel⟩
abbrev s_fits : Stmt := topS 58
abbrev N_fits : List Str := ["book", "ranking"]
theorem sc_fits : FnScope N_fits ["book", "ranking"] (defScope s_fits) := ⟨rfl, rfl, rfl, by decide +kernel, rfl, by decide +kernel, by decide +kernel⟩
abbrev s_head_of : Stmt := topS 60
abbrev N_head_of : List Str := ["rules", "rule"]
theorem sc_head_of : FnScope N_head_of ["rules"] (defScope s_head_of) := ⟨rfl, rfl, rfl, by decide +kernel, rfl, by decide +kernel, by decide +kernel⟩
abbrev s_sides : Stmt := topS 62
abbrev N_sides : List Str := ["row", "better", "worse", "rule", "sign"]
theorem sc_sides : FnScope N_sides ["row"] (defScope s_sides) := ⟨rfl, rfl, rfl, by decide +kernel, rfl, by decide +kernel, by decide +kernel⟩
abbrev s_rules_behind : Stmt := topS 63
abbrev N_rules_behind : List Str := ["head", "told", "many", "taken", "better", "worse", "rule"]
theorem sc_rules_behind : FnScope N_rules_behind ["head", "told", "many"] (defScope s_rules_behind) := ⟨rfl, rfl, rfl, by decide +kernel, rfl, by decide +kernel, by decide +kernel⟩
abbrev s_steps : Stmt := topS 64
abbrev N_steps : List Str := ["rows", "many", "told", "row", "head"]
theorem sc_steps : FnScope N_steps ["rows", "many"] (defScope s_steps) := ⟨rfl, rfl, rfl, by decide +kernel, rfl, by decide +kernel, by decide +kernel⟩
abbrev s_endings : Stmt := topS 66
abbrev N_endings : List Str := ["behind", "ways", "head", "rule"]
theorem sc_endings : FnScope N_endings ["behind"] (defScope s_endings) := ⟨rfl, rfl, rfl, by decide +kernel, rfl, by decide +kernel, by decide +kernel⟩
abbrev s_InvalidNumber___init__ : Stmt := inClass (topS 4) 0
abbrev N_InvalidNumber___init__ : List Str := ["self", "given"]
theorem sc_InvalidNumber___init__ : FnScope N_InvalidNumber___init__ ["self", "given"] (defScope s_InvalidNumber___init__) := ⟨rfl, rfl, rfl, by decide +kernel, rfl, by decide +kernel, by decide +kernel⟩
abbrev s_check_most : Stmt := topS 73
abbrev N_check_most : List Str := ["most"]
theorem sc_check_most : FnScope N_check_most ["most"] (defScope s_check_most) := ⟨rfl, rfl, rfl, by decide +kernel, rfl, by decide +kernel, by decide +kernel⟩
abbrev s_surely_wrong : Stmt := topS 78
abbrev N_surely_wrong : List Str := ["book", "most", "index", "row"]
theorem sc_surely_wrong : FnScope N_surely_wrong ["book", "most"] (defScope s_surely_wrong) := ⟨rfl, rfl, rfl, by decide +kernel, rfl, by decide +kernel, by decide +kernel⟩
abbrev s_follows_with : Stmt := topS 79
abbrev N_follows_with : List Str := ["book", "row", "most"]
theorem sc_follows_with : FnScope N_follows_with ["book", "row", "most"] (defScope s_follows_with) := ⟨rfl, rfl, rfl, by decide +kernel, rfl, by decide +kernel, by decide +kernel⟩
abbrev s_judge : Stmt := topS 81
abbrev N_judge : List Str := ["book", "row", "many", "kept"]
theorem sc_judge : FnScope N_judge ["book", "row"] (defScope s_judge) := ⟨rfl, rfl, rfl, by decide +kernel, rfl, by decide +kernel, by decide +kernel⟩
abbrev s_reasons : Stmt := topS 83
abbrev N_reasons : List Str := ["book", "rule", "many"]
theorem sc_reasons : FnScope N_reasons ["book", "rule"] (defScope s_reasons) := ⟨rfl, rfl, rfl, by decide +kernel, rfl, by decide +kernel, by decide +kernel⟩
abbrev s_ranking_at : Stmt := topS 86
abbrev N_ranking_at : List Str := ["book", "number", "behind", "ways", "ranking", "head", "left", "at"]
theorem sc_ranking_at : FnScope N_ranking_at ["book", "number"] (defScope s_ranking_at) := ⟨rfl, rfl, rfl, by decide +kernel, rfl, by decide +kernel, by decide +kernel⟩
abbrev s_number_of : Stmt := topS 87
abbrev N_number_of : List Str := ["book", "ranking", "behind", "ways", "number", "head", "rule", "one"]
theorem sc_number_of : FnScope N_number_of ["book", "ranking"] (defScope s_number_of) := ⟨rfl, rfl, rfl, by decide +kernel, rfl, by decide +kernel, by decide +kernel⟩
abbrev s_places : Stmt := topS 88
abbrev N_places : List Str := ["book", "rule", "many", "numbers", "head"]
theorem sc_places : FnScope N_places ["book", "rule"] (defScope s_places) := ⟨rfl, rfl, rfl, by decide +kernel, rfl, by decide +kernel, by decide +kernel⟩
abbrev s_beginnings : Stmt := topS 89
abbrev N_beginnings : List Str := ["book", "lot", "behind", "head"]
theorem sc_beginnings : FnScope N_beginnings ["book", "lot"] (defScope s_beginnings) := ⟨rfl, rfl, rfl, by decide +kernel, rfl, by decide +kernel, by decide +kernel⟩
abbrev s__law_purse : Stmt := topS 91
abbrev N__law_purse : List Str := ["_law_script", "_law_spot", "_law_cell", "_law_seed", "_law_one"]
theorem sc__law_purse : FnScope N__law_purse ["_law_script", "_law_spot"] (defScope s__law_purse) := ⟨rfl, rfl, rfl, by decide +kernel, rfl, by decide +kernel, by decide +kernel⟩
abbrev s__law_draw : Stmt := topS 92
abbrev N__law_draw : List Str := ["_law_purse_here", "_law_many", "_law_digit"]
theorem sc__law_draw : FnScope N__law_draw ["_law_purse_here", "_law_many"] (defScope s__law_draw) := ⟨rfl, rfl, rfl, by decide +kernel, rfl, by decide +kernel, by decide +kernel⟩
abbrev s__law_sort : Stmt := topS 94
abbrev N__law_sort : List Str := ["_law_e", "_law_words", "_law_flags", "_law_bases", "_law_at"]
theorem sc__law_sort : FnScope N__law_sort ["_law_e"] (defScope s__law_sort) := ⟨rfl, rfl, rfl, by decide +kernel, rfl, by decide +kernel, by decide +kernel⟩
abbrev s_Book___repr__ : Stmt := inClass (topS 50) 8
abbrev N_Book___repr__ : List Str := ["self"]
theorem sc_Book___repr__ : FnScope N_Book___repr__ ["self"] (defScope s_Book___repr__) := ⟨rfl, rfl, rfl, by decide +kernel, rfl, by decide +kernel, by decide +kernel⟩
abbrev s__law_attribute : Stmt := topS 95
abbrev N__law_attribute : List Str := ["_law_e", "_law_word_here", "_law_by_index"]
theorem sc__law_attribute : FnScope N__law_attribute ["_law_e", "_law_word_here"] (defScope s__law_attribute) := ⟨rfl, rfl, rfl, by decide +kernel, rfl, by decide +kernel, by decide +kernel⟩
abbrev s__law_told : Stmt := topS 93
abbrev N__law_told : List Str := ["_law_job", "_law_gave", "_law_e", "_law_word_here"]
theorem sc__law_told : FnScope N__law_told ["_law_job"] (defScope s__law_told) := ⟨rfl, rfl, rfl, by decide +kernel, rfl, by decide +kernel, by decide +kernel⟩
abbrev s__law_labels : Stmt := topS 96
abbrev N__law_labels : List Str := ["_law_purse_here", "_law_many", "_law_some", "_law_k"]
theorem sc__law_labels : FnScope N__law_labels ["_law_purse_here", "_law_many"] (defScope s__law_labels) := ⟨rfl, rfl, rfl, by decide +kernel, rfl, by decide +kernel, by decide +kernel⟩
abbrev s__law_all : Stmt := topS 97
abbrev N__law_all : List Str := ["_law_many", "_law_found", "_law_turn", "_law_later", "_law_begun", "_law_k"]
theorem sc__law_all : FnScope N__law_all ["_law_many"] (defScope s__law_all) := ⟨rfl, rfl, rfl, by decide +kernel, rfl, by decide +kernel, by decide +kernel⟩
abbrev s__law_holds : Stmt := topS 98
abbrev N__law_holds : List Str := ["_law_row_here", "_law_order_here", "_law_signs_here", "_law_k"]
theorem sc__law_holds : FnScope N__law_holds ["_law_row_here", "_law_order_here"] (defScope s__law_holds) := ⟨rfl, rfl, rfl, by decide +kernel, rfl, by decide +kernel, by decide +kernel⟩
abbrev s__law_flipped : Stmt := topS 99
abbrev N__law_flipped : List Str := ["_law_row_here", "_law_sign"]
theorem sc__law_flipped : FnScope N__law_flipped ["_law_row_here"] (defScope s__law_flipped) := ⟨rfl, rfl, rfl, by decide +kernel, rfl, by decide +kernel, by decide +kernel⟩
abbrev s__law_signs : Stmt := topS 100
abbrev N__law_signs : List Str := ["_law_purse_here", "_law_many", "_law_k"]
theorem sc__law_signs : FnScope N__law_signs ["_law_purse_here", "_law_many"] (defScope s__law_signs) := ⟨rfl, rfl, rfl, by decide +kernel, rfl, by decide +kernel, by decide +kernel⟩
abbrev s__law_rows : Stmt := topS 101
abbrev N__law_rows : List Str := ["_law_purse_here", "_law_many", "_law_most", "_law_wrong", "_law_left", "_law_hidden_order", "_law_k", "_law_found", "_law_turn", "_law_row_here", "_law_is_kept"]
theorem sc__law_rows : FnScope N__law_rows ["_law_purse_here", "_law_many", "_law_most", "_law_wrong"] (defScope s__law_rows) := ⟨rfl, rfl, rfl, by decide +kernel, rfl, by decide +kernel, by decide +kernel⟩
abbrev s__law_spelled : Stmt := topS 102
abbrev N__law_spelled : List Str := ["_law_labels_here", "_law_rows_here"]
theorem sc__law_spelled : FnScope N__law_spelled ["_law_labels_here", "_law_rows_here"] (defScope s__law_spelled) := ⟨rfl, rfl, rfl, by decide +kernel, rfl, by decide +kernel, by decide +kernel⟩
abbrev s__law_book : Stmt := topS 103
abbrev N__law_book : List Str := ["_law_purse_here", "_law_least", "_law_span", "_law_most", "_law_many"]
theorem sc__law_book : FnScope N__law_book ["_law_purse_here", "_law_least", "_law_span", "_law_most"] (defScope s__law_book) := ⟨rfl, rfl, rfl, by decide +kernel, rfl, by decide +kernel, by decide +kernel⟩
abbrev s__law_wrong_order : Stmt := topS 104
abbrev N__law_wrong_order : List Str := ["_law_purse_here", "_law_many", "_law_good", "_law_k", "_law_odd", "_law_some"]
theorem sc__law_wrong_order : FnScope N__law_wrong_order ["_law_purse_here", "_law_many"] (defScope s__law_wrong_order) := ⟨rfl, rfl, rfl, by decide +kernel, rfl, by decide +kernel, by decide +kernel⟩
abbrev s__law_firsts : Stmt := topS 105
abbrev N__law_firsts : List Str := ["_law_x", "_law_row_here", "_law_order_here", "_law_told_here"]
theorem sc__law_firsts : FnScope N__law_firsts ["_law_x", "_law_row_here", "_law_order_here"] (defScope s__law_firsts) := ⟨rfl, rfl, rfl, by decide +kernel, rfl, by decide +kernel, by decide +kernel⟩
abbrev s_Book___init__ : Stmt := inClass (topS 50) 0
abbrev N_Book___init__ : List Str := ["self", "text", "parts"]
theorem sc_Book___init__ : FnScope N_Book___init__ ["self", "text"] (defScope s_Book___init__) := ⟨rfl, rfl, rfl, by decide +kernel, rfl, by decide +kernel, by decide +kernel⟩
abbrev s_Book_text : Stmt := inClass (topS 50) 1
abbrev N_Book_text : List Str := ["self"]
theorem sc_Book_text : FnScope N_Book_text ["self"] (defScope s_Book_text) := ⟨rfl, rfl, rfl, by decide +kernel, rfl, by decide +kernel, by decide +kernel⟩
abbrev s__law_right : Stmt := topS 106
abbrev N__law_right : List Str := ["_law_purse_here", "_law_labels_here", "_law_rows_here", "_law_many", "_law_good", "_law_turn", "_law_x", "_law_bad", "_law_seen", "_law_full", "_law_line_here", "_law_log", "_law_n", "_law_order_here", "_law_row_here", "_law_spot"]
theorem sc__law_right : FnScope N__law_right ["_law_purse_here"] (defScope s__law_right) := ⟨rfl, rfl, rfl, by decide +kernel, rfl, by decide +kernel, by decide +kernel⟩
abbrev s_law : Stmt := topS 107
abbrev N_law : List Str := ["_law_script", "_law_spot"]
theorem sc_law : FnScope N_law ["_law_script"] (defScope s_law) := ⟨rfl, rfl, rfl, by decide +kernel, rfl, by decide +kernel, by decide +kernel⟩
/-! ### what the top has written -/
structure Txt (K : PySem.W.Frag) (w : World) (mg : Str → Option Value) where
  C_Book : Addr
  m_Book : mg "Book" = some (.ref C_Book)
  cl_Book : Cls K C_Book
  C_Broken : Addr
  m_Broken : mg "Broken" = some (.ref C_Broken)
  C_InUse : Addr
  m_InUse : mg "InUse" = some (.ref C_InUse)
  C_InvalidCases : Addr
  m_InvalidCases : mg "InvalidCases" = some (.ref C_InvalidCases)
  C_InvalidClaim : Addr
  m_InvalidClaim : mg "InvalidClaim" = some (.ref C_InvalidClaim)
  C_InvalidIndex : Addr
  m_InvalidIndex : mg "InvalidIndex" = some (.ref C_InvalidIndex)
  C_InvalidLot : Addr
  m_InvalidLot : mg "InvalidLot" = some (.ref C_InvalidLot)
  C_InvalidName : Addr
  m_InvalidName : mg "InvalidName" = some (.ref C_InvalidName)
  C_InvalidNumber : Addr
  m_InvalidNumber : mg "InvalidNumber" = some (.ref C_InvalidNumber)
  C_InvalidOffers : Addr
  m_InvalidOffers : mg "InvalidOffers" = some (.ref C_InvalidOffers)
  C_InvalidRanking : Addr
  m_InvalidRanking : mg "InvalidRanking" = some (.ref C_InvalidRanking)
  C_InvalidRow : Addr
  m_InvalidRow : mg "InvalidRow" = some (.ref C_InvalidRow)
  C_InvalidRule : Addr
  m_InvalidRule : mg "InvalidRule" = some (.ref C_InvalidRule)
  C_InvalidText : Addr
  m_InvalidText : mg "InvalidText" = some (.ref C_InvalidText)
  C_NoAnswer : Addr
  m_NoAnswer : mg "NoAnswer" = some (.ref C_NoAnswer)
  C_NoRanking : Addr
  m_NoRanking : mg "NoRanking" = some (.ref C_NoRanking)
  C_NotABook : Addr
  m_NotABook : mg "NotABook" = some (.ref C_NotABook)
  C_NotACase : Addr
  m_NotACase : mg "NotACase" = some (.ref C_NotACase)
  C_NotACourt : Addr
  m_NotACourt : mg "NotACourt" = some (.ref C_NotACourt)
  C_NothingToUndo : Addr
  m_NothingToUndo : mg "NothingToUndo" = some (.ref C_NothingToUndo)
  C_TooMany : Addr
  m_TooMany : mg "TooMany" = some (.ref C_TooMany)
  C_UnknownName : Addr
  m_UnknownName : mg "UnknownName" = some (.ref C_UnknownName)
  C_WrongValue : Addr
  m_WrongValue : mg "WrongValue" = some (.ref C_WrongValue)
  xk_InvalidLot : ExcC K C_InvalidLot
  xm_InvalidLot : PySem.W.exmAny K (.ref C_InvalidLot) [.ref C_WrongValue, .ref C_NoAnswer] = some true
  xo_InvalidLot : OexC K C_InvalidLot
  xf_InvalidLot : XfC K C_InvalidLot
  xn_InvalidLot_given : PySem.W.findIn K (.ref C_InvalidLot) "given" = some none
  xn_InvalidLot_index : PySem.W.findIn K (.ref C_InvalidLot) "index" = some none
  xn_InvalidLot_number : PySem.W.findIn K (.ref C_InvalidLot) "number" = some none
  xn_InvalidLot_told : PySem.W.findIn K (.ref C_InvalidLot) "told" = some none
  kt_InvalidLot : KitRow K C_InvalidLot [C_InvalidText, C_InvalidNumber, C_InvalidName, C_InvalidIndex, C_InvalidClaim, C_InvalidRow, C_InvalidRanking, C_InvalidRule, C_UnknownName, C_NotABook, C_NotACase, C_NotACourt, C_InvalidLot, C_InvalidOffers, C_InvalidCases, C_NoRanking, C_TooMany, C_Broken, C_InUse, C_NothingToUndo, C_WrongValue, C_NoAnswer] [false, false, false, false, false, false, false, false, false, false, false, false, true, false, false, false, false, false, false, false, true, false]
  xk_InvalidNumber : ExcC K C_InvalidNumber
  xm_InvalidNumber : PySem.W.exmAny K (.ref C_InvalidNumber) [.ref C_WrongValue, .ref C_NoAnswer] = some true
  xo_InvalidNumber : OexC K C_InvalidNumber
  xf_InvalidNumber : XfC K C_InvalidNumber
  xn_InvalidNumber_given : PySem.W.findIn K (.ref C_InvalidNumber) "given" = some none
  xn_InvalidNumber_index : PySem.W.findIn K (.ref C_InvalidNumber) "index" = some none
  xn_InvalidNumber_number : PySem.W.findIn K (.ref C_InvalidNumber) "number" = some none
  xn_InvalidNumber_told : PySem.W.findIn K (.ref C_InvalidNumber) "told" = some none
  kt_InvalidNumber : KitRow K C_InvalidNumber [C_InvalidText, C_InvalidNumber, C_InvalidName, C_InvalidIndex, C_InvalidClaim, C_InvalidRow, C_InvalidRanking, C_InvalidRule, C_UnknownName, C_NotABook, C_NotACase, C_NotACourt, C_InvalidLot, C_InvalidOffers, C_InvalidCases, C_NoRanking, C_TooMany, C_Broken, C_InUse, C_NothingToUndo, C_WrongValue, C_NoAnswer] [false, true, false, false, false, false, false, false, false, false, false, false, false, false, false, false, false, false, false, false, true, false]
  xk_InvalidRanking : ExcC K C_InvalidRanking
  xm_InvalidRanking : PySem.W.exmAny K (.ref C_InvalidRanking) [.ref C_WrongValue, .ref C_NoAnswer] = some true
  xo_InvalidRanking : OexC K C_InvalidRanking
  xf_InvalidRanking : XfC K C_InvalidRanking
  xn_InvalidRanking_given : PySem.W.findIn K (.ref C_InvalidRanking) "given" = some none
  xn_InvalidRanking_index : PySem.W.findIn K (.ref C_InvalidRanking) "index" = some none
  xn_InvalidRanking_number : PySem.W.findIn K (.ref C_InvalidRanking) "number" = some none
  xn_InvalidRanking_told : PySem.W.findIn K (.ref C_InvalidRanking) "told" = some none
  kt_InvalidRanking : KitRow K C_InvalidRanking [C_InvalidText, C_InvalidNumber, C_InvalidName, C_InvalidIndex, C_InvalidClaim, C_InvalidRow, C_InvalidRanking, C_InvalidRule, C_UnknownName, C_NotABook, C_NotACase, C_NotACourt, C_InvalidLot, C_InvalidOffers, C_InvalidCases, C_NoRanking, C_TooMany, C_Broken, C_InUse, C_NothingToUndo, C_WrongValue, C_NoAnswer] [false, false, false, false, false, false, true, false, false, false, false, false, false, false, false, false, false, false, false, false, true, false]
  xk_InvalidRow : ExcC K C_InvalidRow
  xm_InvalidRow : PySem.W.exmAny K (.ref C_InvalidRow) [.ref C_WrongValue, .ref C_NoAnswer] = some true
  xo_InvalidRow : OexC K C_InvalidRow
  xf_InvalidRow : XfC K C_InvalidRow
  xn_InvalidRow_given : PySem.W.findIn K (.ref C_InvalidRow) "given" = some none
  xn_InvalidRow_index : PySem.W.findIn K (.ref C_InvalidRow) "index" = some none
  xn_InvalidRow_number : PySem.W.findIn K (.ref C_InvalidRow) "number" = some none
  xn_InvalidRow_told : PySem.W.findIn K (.ref C_InvalidRow) "told" = some none
  kt_InvalidRow : KitRow K C_InvalidRow [C_InvalidText, C_InvalidNumber, C_InvalidName, C_InvalidIndex, C_InvalidClaim, C_InvalidRow, C_InvalidRanking, C_InvalidRule, C_UnknownName, C_NotABook, C_NotACase, C_NotACourt, C_InvalidLot, C_InvalidOffers, C_InvalidCases, C_NoRanking, C_TooMany, C_Broken, C_InUse, C_NothingToUndo, C_WrongValue, C_NoAnswer] [false, false, false, false, false, true, false, false, false, false, false, false, false, false, false, false, false, false, false, false, true, false]
  xk_InvalidRule : ExcC K C_InvalidRule
  xm_InvalidRule : PySem.W.exmAny K (.ref C_InvalidRule) [.ref C_WrongValue, .ref C_NoAnswer] = some true
  xo_InvalidRule : OexC K C_InvalidRule
  xf_InvalidRule : XfC K C_InvalidRule
  xn_InvalidRule_given : PySem.W.findIn K (.ref C_InvalidRule) "given" = some none
  xn_InvalidRule_index : PySem.W.findIn K (.ref C_InvalidRule) "index" = some none
  xn_InvalidRule_number : PySem.W.findIn K (.ref C_InvalidRule) "number" = some none
  xn_InvalidRule_told : PySem.W.findIn K (.ref C_InvalidRule) "told" = some none
  kt_InvalidRule : KitRow K C_InvalidRule [C_InvalidText, C_InvalidNumber, C_InvalidName, C_InvalidIndex, C_InvalidClaim, C_InvalidRow, C_InvalidRanking, C_InvalidRule, C_UnknownName, C_NotABook, C_NotACase, C_NotACourt, C_InvalidLot, C_InvalidOffers, C_InvalidCases, C_NoRanking, C_TooMany, C_Broken, C_InUse, C_NothingToUndo, C_WrongValue, C_NoAnswer] [false, false, false, false, false, false, false, true, false, false, false, false, false, false, false, false, false, false, false, false, true, false]
  xk_NotABook : ExcC K C_NotABook
  xm_NotABook : PySem.W.exmAny K (.ref C_NotABook) [.ref C_WrongValue, .ref C_NoAnswer] = some true
  xo_NotABook : OexC K C_NotABook
  xf_NotABook : XfC K C_NotABook
  xn_NotABook_given : PySem.W.findIn K (.ref C_NotABook) "given" = some none
  xn_NotABook_index : PySem.W.findIn K (.ref C_NotABook) "index" = some none
  xn_NotABook_number : PySem.W.findIn K (.ref C_NotABook) "number" = some none
  xn_NotABook_told : PySem.W.findIn K (.ref C_NotABook) "told" = some none
  kt_NotABook : KitRow K C_NotABook [C_InvalidText, C_InvalidNumber, C_InvalidName, C_InvalidIndex, C_InvalidClaim, C_InvalidRow, C_InvalidRanking, C_InvalidRule, C_UnknownName, C_NotABook, C_NotACase, C_NotACourt, C_InvalidLot, C_InvalidOffers, C_InvalidCases, C_NoRanking, C_TooMany, C_Broken, C_InUse, C_NothingToUndo, C_WrongValue, C_NoAnswer] [false, false, false, false, false, false, false, false, false, true, false, false, false, false, false, false, false, false, false, false, true, false]
  f_is_name : Addr
  e_is_name : FuncData
  F_is_name : Fun K "is_name" "is_name" s_is_name f_is_name e_is_name
  b_is_name : Binds K e_is_name ["value"] []
  m_is_name : mg "is_name" = some (.ref f_is_name)
  f_are_names : Addr
  e_are_names : FuncData
  F_are_names : Fun K "are_names" "are_names" s_are_names f_are_names e_are_names
  b_are_names : Binds K e_are_names ["values"] []
  m_are_names : mg "are_names" = some (.ref f_are_names)
  f_is_any_row : Addr
  e_is_any_row : FuncData
  F_is_any_row : Fun K "is_any_row" "is_any_row" s_is_any_row f_is_any_row e_is_any_row
  b_is_any_row : Binds K e_is_any_row ["value"] []
  m_is_any_row : mg "is_any_row" = some (.ref f_is_any_row)
  f_is_row : Addr
  e_is_row : FuncData
  F_is_row : Fun K "is_row" "is_row" s_is_row f_is_row e_is_row
  b_is_row : Binds K e_is_row ["value", "many"] []
  m_is_row : mg "is_row" = some (.ref f_is_row)
  f_is_whole : Addr
  e_is_whole : FuncData
  F_is_whole : Fun K "is_whole" "is_whole" s_is_whole f_is_whole e_is_whole
  b_is_whole : Binds K e_is_whole ["value"] []
  m_is_whole : mg "is_whole" = some (.ref f_is_whole)
  f_is_index : Addr
  e_is_index : FuncData
  F_is_index : Fun K "is_index" "is_index" s_is_index f_is_index e_is_index
  b_is_index : Binds K e_is_index ["value", "many"] []
  m_is_index : mg "is_index" = some (.ref f_is_index)
  f_wrong_in_lot : Addr
  e_wrong_in_lot : FuncData
  F_wrong_in_lot : Fun K "wrong_in_lot" "wrong_in_lot" s_wrong_in_lot f_wrong_in_lot e_wrong_in_lot
  b_wrong_in_lot : Binds K e_wrong_in_lot ["lot", "many"] []
  m_wrong_in_lot : mg "wrong_in_lot" = some (.ref f_wrong_in_lot)
  f_is_ranking : Addr
  e_is_ranking : FuncData
  F_is_ranking : Fun K "is_ranking" "is_ranking" s_is_ranking f_is_ranking e_is_ranking
  b_is_ranking : Binds K e_is_ranking ["value", "many"] []
  m_is_ranking : mg "is_ranking" = some (.ref f_is_ranking)
  f_InvalidRow___init__ : Addr
  e_InvalidRow___init__ : FuncData
  F_InvalidRow___init__ : Fun K "__init__" "InvalidRow.__init__" s_InvalidRow___init__ f_InvalidRow___init__ e_InvalidRow___init__
  b_InvalidRow___init__ : Binds K e_InvalidRow___init__ ["self", "given"] []
  xj_InvalidRow : PySem.W.findIn K (.ref C_InvalidRow) "__init__" = some (some (.ref f_InvalidRow___init__))
  xy_InvalidRow : PySem.W.typeIn K (.ref f_InvalidRow___init__) = some (.type "function")
  f_check_row : Addr
  e_check_row : FuncData
  F_check_row : Fun K "check_row" "check_row" s_check_row f_check_row e_check_row
  b_check_row : Binds K e_check_row ["row", "many"] []
  m_check_row : mg "check_row" = some (.ref f_check_row)
  f_InvalidRanking___init__ : Addr
  e_InvalidRanking___init__ : FuncData
  F_InvalidRanking___init__ : Fun K "__init__" "InvalidRanking.__init__" s_InvalidRanking___init__ f_InvalidRanking___init__ e_InvalidRanking___init__
  b_InvalidRanking___init__ : Binds K e_InvalidRanking___init__ ["self", "given"] []
  xj_InvalidRanking : PySem.W.findIn K (.ref C_InvalidRanking) "__init__" = some (some (.ref f_InvalidRanking___init__))
  xy_InvalidRanking : PySem.W.typeIn K (.ref f_InvalidRanking___init__) = some (.type "function")
  f_check_ranking : Addr
  e_check_ranking : FuncData
  F_check_ranking : Fun K "check_ranking" "check_ranking" s_check_ranking f_check_ranking e_check_ranking
  b_check_ranking : Binds K e_check_ranking ["ranking", "many"] []
  m_check_ranking : mg "check_ranking" = some (.ref f_check_ranking)
  f_InvalidRule___init__ : Addr
  e_InvalidRule___init__ : FuncData
  F_InvalidRule___init__ : Fun K "__init__" "InvalidRule.__init__" s_InvalidRule___init__ f_InvalidRule___init__ e_InvalidRule___init__
  b_InvalidRule___init__ : Binds K e_InvalidRule___init__ ["self", "given"] []
  xj_InvalidRule : PySem.W.findIn K (.ref C_InvalidRule) "__init__" = some (some (.ref f_InvalidRule___init__))
  xy_InvalidRule : PySem.W.typeIn K (.ref f_InvalidRule___init__) = some (.type "function")
  f_check_rule : Addr
  e_check_rule : FuncData
  F_check_rule : Fun K "check_rule" "check_rule" s_check_rule f_check_rule e_check_rule
  b_check_rule : Binds K e_check_rule ["rule", "many"] []
  m_check_rule : mg "check_rule" = some (.ref f_check_rule)
  f_InvalidLot___init__ : Addr
  e_InvalidLot___init__ : FuncData
  F_InvalidLot___init__ : Fun K "__init__" "InvalidLot.__init__" s_InvalidLot___init__ f_InvalidLot___init__ e_InvalidLot___init__
  b_InvalidLot___init__ : Binds K e_InvalidLot___init__ ["self", "index"] []
  xj_InvalidLot : PySem.W.findIn K (.ref C_InvalidLot) "__init__" = some (some (.ref f_InvalidLot___init__))
  xy_InvalidLot : PySem.W.typeIn K (.ref f_InvalidLot___init__) = some (.type "function")
  f_check_lot : Addr
  e_check_lot : FuncData
  F_check_lot : Fun K "check_lot" "check_lot" s_check_lot f_check_lot e_check_lot
  b_check_lot : Binds K e_check_lot ["lot", "many"] []
  m_check_lot : mg "check_lot" = some (.ref f_check_lot)
  f_read_book : Addr
  e_read_book : FuncData
  F_read_book : Fun K "read_book" "read_book" s_read_book f_read_book e_read_book
  b_read_book : Binds K e_read_book ["text"] []
  m_read_book : mg "read_book" = some (.ref f_read_book)
  f_row_holds : Addr
  e_row_holds : FuncData
  F_row_holds : Fun K "row_holds" "row_holds" s_row_holds f_row_holds e_row_holds
  b_row_holds : Binds K e_row_holds ["row", "ranking"] []
  m_row_holds : mg "row_holds" = some (.ref f_row_holds)
  f_all_hold : Addr
  e_all_hold : FuncData
  F_all_hold : Fun K "all_hold" "all_hold" s_all_hold f_all_hold e_all_hold
  b_all_hold : Binds K e_all_hold ["rows", "ranking"] []
  m_all_hold : mg "all_hold" = some (.ref f_all_hold)
  f_NotABook___init__ : Addr
  e_NotABook___init__ : FuncData
  F_NotABook___init__ : Fun K "__init__" "NotABook.__init__" s_NotABook___init__ f_NotABook___init__ e_NotABook___init__
  b_NotABook___init__ : Binds K e_NotABook___init__ ["self", "given"] []
  xj_NotABook : PySem.W.findIn K (.ref C_NotABook) "__init__" = some (some (.ref f_NotABook___init__))
  xy_NotABook : PySem.W.typeIn K (.ref f_NotABook___init__) = some (.type "function")
  f_check_book : Addr
  e_check_book : FuncData
  F_check_book : Fun K "check_book" "check_book" s_check_book f_check_book e_check_book
  b_check_book : Binds K e_check_book ["book"] []
  m_check_book : mg "check_book" = some (.ref f_check_book)
  f_Book_rows : Addr
  e_Book_rows : FuncData
  F_Book_rows : Fun K "rows" "Book.rows" s_Book_rows f_Book_rows e_Book_rows
  b_Book_rows : Binds K e_Book_rows ["self"] []
  q_Book_rows : Addr
  p_Book_rows : PropOf K C_Book "rows" q_Book_rows f_Book_rows
  f_Book_names : Addr
  e_Book_names : FuncData
  F_Book_names : Fun K "names" "Book.names" s_Book_names f_Book_names e_Book_names
  b_Book_names : Binds K e_Book_names ["self"] []
  q_Book_names : Addr
  p_Book_names : PropOf K C_Book "names" q_Book_names f_Book_names
  f_holds : Addr
  e_holds : FuncData
  F_holds : Fun K "holds" "holds" s_holds f_holds e_holds
  b_holds : Binds K e_holds ["book", "row", "ranking"] []
  m_holds : mg "holds" = some (.ref f_holds)
  f_fits : Addr
  e_fits : FuncData
  F_fits : Fun K "fits" "fits" s_fits f_fits e_fits
  b_fits : Binds K e_fits ["book", "ranking"] []
  m_fits : mg "fits" = some (.ref f_fits)
  f_head_of : Addr
  e_head_of : FuncData
  F_head_of : Fun K "head_of" "head_of" s_head_of f_head_of e_head_of
  b_head_of : Binds K e_head_of ["rules"] []
  m_head_of : mg "head_of" = some (.ref f_head_of)
  f_sides : Addr
  e_sides : FuncData
  F_sides : Fun K "sides" "sides" s_sides f_sides e_sides
  b_sides : Binds K e_sides ["row"] []
  m_sides : mg "sides" = some (.ref f_sides)
  f_rules_behind : Addr
  e_rules_behind : FuncData
  F_rules_behind : Fun K "rules_behind" "rules_behind" s_rules_behind f_rules_behind e_rules_behind
  b_rules_behind : Binds K e_rules_behind ["head", "told", "many"] []
  m_rules_behind : mg "rules_behind" = some (.ref f_rules_behind)
  f_steps : Addr
  e_steps : FuncData
  F_steps : Fun K "steps" "steps" s_steps f_steps e_steps
  b_steps : Binds K e_steps ["rows", "many"] []
  m_steps : mg "steps" = some (.ref f_steps)
  f_endings : Addr
  e_endings : FuncData
  F_endings : Fun K "endings" "endings" s_endings f_endings e_endings
  b_endings : Binds K e_endings ["behind"] []
  m_endings : mg "endings" = some (.ref f_endings)
  f_InvalidNumber___init__ : Addr
  e_InvalidNumber___init__ : FuncData
  F_InvalidNumber___init__ : Fun K "__init__" "InvalidNumber.__init__" s_InvalidNumber___init__ f_InvalidNumber___init__ e_InvalidNumber___init__
  b_InvalidNumber___init__ : Binds K e_InvalidNumber___init__ ["self", "given"] []
  xj_InvalidNumber : PySem.W.findIn K (.ref C_InvalidNumber) "__init__" = some (some (.ref f_InvalidNumber___init__))
  xy_InvalidNumber : PySem.W.typeIn K (.ref f_InvalidNumber___init__) = some (.type "function")
  f_check_most : Addr
  e_check_most : FuncData
  F_check_most : Fun K "check_most" "check_most" s_check_most f_check_most e_check_most
  b_check_most : Binds K e_check_most ["most"] []
  m_check_most : mg "check_most" = some (.ref f_check_most)
  f_surely_wrong : Addr
  e_surely_wrong : FuncData
  F_surely_wrong : Fun K "surely_wrong" "surely_wrong" s_surely_wrong f_surely_wrong e_surely_wrong
  b_surely_wrong : Binds K e_surely_wrong ["book", "most"] []
  m_surely_wrong : mg "surely_wrong" = some (.ref f_surely_wrong)
  f_follows_with : Addr
  e_follows_with : FuncData
  F_follows_with : Fun K "follows_with" "follows_with" s_follows_with f_follows_with e_follows_with
  b_follows_with : Binds K e_follows_with ["book", "row", "most"] []
  m_follows_with : mg "follows_with" = some (.ref f_follows_with)
  f_judge : Addr
  e_judge : FuncData
  F_judge : Fun K "judge" "judge" s_judge f_judge e_judge
  b_judge : Binds K e_judge ["book", "row"] []
  m_judge : mg "judge" = some (.ref f_judge)
  f_reasons : Addr
  e_reasons : FuncData
  F_reasons : Fun K "reasons" "reasons" s_reasons f_reasons e_reasons
  b_reasons : Binds K e_reasons ["book", "rule"] []
  m_reasons : mg "reasons" = some (.ref f_reasons)
  f_ranking_at : Addr
  e_ranking_at : FuncData
  F_ranking_at : Fun K "ranking_at" "ranking_at" s_ranking_at f_ranking_at e_ranking_at
  b_ranking_at : Binds K e_ranking_at ["book", "number"] []
  m_ranking_at : mg "ranking_at" = some (.ref f_ranking_at)
  f_number_of : Addr
  e_number_of : FuncData
  F_number_of : Fun K "number_of" "number_of" s_number_of f_number_of e_number_of
  b_number_of : Binds K e_number_of ["book", "ranking"] []
  m_number_of : mg "number_of" = some (.ref f_number_of)
  f_places : Addr
  e_places : FuncData
  F_places : Fun K "places" "places" s_places f_places e_places
  b_places : Binds K e_places ["book", "rule"] []
  m_places : mg "places" = some (.ref f_places)
  f_beginnings : Addr
  e_beginnings : FuncData
  F_beginnings : Fun K "beginnings" "beginnings" s_beginnings f_beginnings e_beginnings
  b_beginnings : Binds K e_beginnings ["book", "lot"] []
  m_beginnings : mg "beginnings" = some (.ref f_beginnings)
  f__law_purse : Addr
  e__law_purse : FuncData
  F__law_purse : Fun K "_law_purse" "_law_purse" s__law_purse f__law_purse e__law_purse
  b__law_purse : Binds K e__law_purse ["_law_script", "_law_spot"] []
  m__law_purse : mg "_law_purse" = some (.ref f__law_purse)
  f__law_draw : Addr
  e__law_draw : FuncData
  F__law_draw : Fun K "_law_draw" "_law_draw" s__law_draw f__law_draw e__law_draw
  b__law_draw : Binds K e__law_draw ["_law_purse_here", "_law_many"] []
  m__law_draw : mg "_law_draw" = some (.ref f__law_draw)
  f__law_sort : Addr
  e__law_sort : FuncData
  F__law_sort : Fun K "_law_sort" "_law_sort" s__law_sort f__law_sort e__law_sort
  b__law_sort : Binds K e__law_sort ["_law_e"] []
  m__law_sort : mg "_law_sort" = some (.ref f__law_sort)
  f_Book___repr__ : Addr
  e_Book___repr__ : FuncData
  F_Book___repr__ : Fun K "__repr__" "Book.__repr__" s_Book___repr__ f_Book___repr__ e_Book___repr__
  b_Book___repr__ : Binds K e_Book___repr__ ["self"] []
  h_Book___repr__ : Meth K C_Book "__repr__" f_Book___repr__
  f__law_attribute : Addr
  e__law_attribute : FuncData
  F__law_attribute : Fun K "_law_attribute" "_law_attribute" s__law_attribute f__law_attribute e__law_attribute
  b__law_attribute : Binds K e__law_attribute ["_law_e", "_law_word_here"] []
  m__law_attribute : mg "_law_attribute" = some (.ref f__law_attribute)
  f__law_told : Addr
  e__law_told : FuncData
  F__law_told : Fun K "_law_told" "_law_told" s__law_told f__law_told e__law_told
  b__law_told : Binds K e__law_told ["_law_job"] []
  m__law_told : mg "_law_told" = some (.ref f__law_told)
  f__law_labels : Addr
  e__law_labels : FuncData
  F__law_labels : Fun K "_law_labels" "_law_labels" s__law_labels f__law_labels e__law_labels
  b__law_labels : Binds K e__law_labels ["_law_purse_here", "_law_many"] []
  m__law_labels : mg "_law_labels" = some (.ref f__law_labels)
  f__law_all : Addr
  e__law_all : FuncData
  F__law_all : Fun K "_law_all" "_law_all" s__law_all f__law_all e__law_all
  b__law_all : Binds K e__law_all ["_law_many"] []
  m__law_all : mg "_law_all" = some (.ref f__law_all)
  f__law_holds : Addr
  e__law_holds : FuncData
  F__law_holds : Fun K "_law_holds" "_law_holds" s__law_holds f__law_holds e__law_holds
  b__law_holds : Binds K e__law_holds ["_law_row_here", "_law_order_here"] []
  m__law_holds : mg "_law_holds" = some (.ref f__law_holds)
  f__law_flipped : Addr
  e__law_flipped : FuncData
  F__law_flipped : Fun K "_law_flipped" "_law_flipped" s__law_flipped f__law_flipped e__law_flipped
  b__law_flipped : Binds K e__law_flipped ["_law_row_here"] []
  m__law_flipped : mg "_law_flipped" = some (.ref f__law_flipped)
  f__law_signs : Addr
  e__law_signs : FuncData
  F__law_signs : Fun K "_law_signs" "_law_signs" s__law_signs f__law_signs e__law_signs
  b__law_signs : Binds K e__law_signs ["_law_purse_here", "_law_many"] []
  m__law_signs : mg "_law_signs" = some (.ref f__law_signs)
  f__law_rows : Addr
  e__law_rows : FuncData
  F__law_rows : Fun K "_law_rows" "_law_rows" s__law_rows f__law_rows e__law_rows
  b__law_rows : Binds K e__law_rows ["_law_purse_here", "_law_many", "_law_most", "_law_wrong"] []
  m__law_rows : mg "_law_rows" = some (.ref f__law_rows)
  f__law_spelled : Addr
  e__law_spelled : FuncData
  F__law_spelled : Fun K "_law_spelled" "_law_spelled" s__law_spelled f__law_spelled e__law_spelled
  b__law_spelled : Binds K e__law_spelled ["_law_labels_here", "_law_rows_here"] []
  m__law_spelled : mg "_law_spelled" = some (.ref f__law_spelled)
  f__law_book : Addr
  e__law_book : FuncData
  F__law_book : Fun K "_law_book" "_law_book" s__law_book f__law_book e__law_book
  b__law_book : Binds K e__law_book ["_law_purse_here", "_law_least", "_law_span", "_law_most"] []
  m__law_book : mg "_law_book" = some (.ref f__law_book)
  f__law_wrong_order : Addr
  e__law_wrong_order : FuncData
  F__law_wrong_order : Fun K "_law_wrong_order" "_law_wrong_order" s__law_wrong_order f__law_wrong_order e__law_wrong_order
  b__law_wrong_order : Binds K e__law_wrong_order ["_law_purse_here", "_law_many"] []
  m__law_wrong_order : mg "_law_wrong_order" = some (.ref f__law_wrong_order)
  f__law_firsts : Addr
  e__law_firsts : FuncData
  F__law_firsts : Fun K "_law_firsts" "_law_firsts" s__law_firsts f__law_firsts e__law_firsts
  b__law_firsts : Binds K e__law_firsts ["_law_x", "_law_row_here", "_law_order_here"] []
  m__law_firsts : mg "_law_firsts" = some (.ref f__law_firsts)
  f_Book___init__ : Addr
  e_Book___init__ : FuncData
  F_Book___init__ : Fun K "__init__" "Book.__init__" s_Book___init__ f_Book___init__ e_Book___init__
  b_Book___init__ : Binds K e_Book___init__ ["self", "text"] []
  mk_Book : Mk K C_Book f_Book___init__
  f_Book_text : Addr
  e_Book_text : FuncData
  F_Book_text : Fun K "text" "Book.text" s_Book_text f_Book_text e_Book_text
  b_Book_text : Binds K e_Book_text ["self"] []
  q_Book_text : Addr
  p_Book_text : PropOf K C_Book "text" q_Book_text f_Book_text
  f__law_right : Addr
  e__law_right : FuncData
  F__law_right : Fun K "_law_right" "_law_right" s__law_right f__law_right e__law_right
  b__law_right : Binds K e__law_right ["_law_purse_here"] []
  m__law_right : mg "_law_right" = some (.ref f__law_right)
  f_law : Addr
  e_law : FuncData
  F_law : Fun K "law" "law" s_law f_law e_law
  b_law : Binds K e_law ["_law_script"] []
  m_law : mg "law" = some (.ref f_law)
  lc__law_firsts : Addr
  lt__law_firsts : Addr
  FC__law_firsts : FunC K "_law_firsts" "_law_firsts" s__law_firsts f__law_firsts e__law_firsts lc__law_firsts
  lc__law_right : Addr
  lt__law_right : Addr
  FC__law_right : FunC K "_law_right" "_law_right" s__law_right f__law_right e__law_right lc__law_right
  tts : List (Addr × Str)
  tabs : TabsOk tts
  hm__law_firsts : (lt__law_firsts, (envOfC "_law_firsts" (defScope s__law_firsts) 0 f__law_firsts (.ref lc__law_firsts)).qual ++ "<lambda>") ∈ tts
  hm__law_right : (lt__law_right, (envOfC "_law_right" (defScope s__law_right) 0 f__law_right (.ref lc__law_right)).qual ++ "<lambda>") ∈ tts
  n_abs : mg "abs" = none
  n_all : mg "all" = none
  n_bool : mg "bool" = none
  n_divmod : mg "divmod" = none
  n_enumerate : mg "enumerate" = none
  n_int : mg "int" = none
  n_isinstance : mg "isinstance" = none
  n_len : mg "len" = none
  n_list : mg "list" = none
  n_max : mg "max" = none
  n_min : mg "min" = none
  n_range : mg "range" = none
  n_repr : mg "repr" = none
  n_reversed : mg "reversed" = none
  n_sorted : mg "sorted" = none
  n_str : mg "str" = none
  n_sum : mg "sum" = none
  n_tuple : mg "tuple" = none
  n_zip : mg "zip" = none
  t_LETTERS : Tok
  c_LETTERS : mg "LETTERS" = some (.str "abcdefghijklmnopqrstuvwxyz" t_LETTERS)
  t_MOST_LETTERS : Tok
  c_MOST_LETTERS : mg "MOST_LETTERS" = some (.int 8 t_MOST_LETTERS)
  t_MOST_ROWS : Tok
  c_MOST_ROWS : mg "MOST_ROWS" = some (.int 20 t_MOST_ROWS)
  t_MOST_RULES : Tok
  c_MOST_RULES : mg "MOST_RULES" = some (.int 8 t_MOST_RULES)
  t_SIGNS : Tok
  c_SIGNS : mg "SIGNS" = some (.str "+-." t_SIGNS)
  no_text : NoAttr K C_Book "_text"
  no_names : NoAttr K C_Book "_names"
  no_rows : NoAttr K C_Book "_rows"
  ins_Book : InsOk K C_Book
  or_Book : PySem.W.findIn K (.ref C_Book) "__repr__" = some (some (.ref f_Book___repr__))
  ir_Book : PySem.W.isFn K (.ref f_Book___repr__) = true
  ct_Book : PySem.W.typeIn K (.ref C_Book) = some (.type "type")
end K09

namespace K09
open PySem PySem.Spec PyProof.Rows L2 Dw
variable [Tabs0]
/-- a row's signs, as codes -/
def isSign (c : Nat) : Prop := c = 43 ∨ c = 45 ∨ c = 46
structure RowOk (l : List Nat) (n : Nat) : Prop where
  len : l.length = n
  all : ∀ c ∈ l, isSign c
def sgn (l : List Nat) (k : Nat) : Nat := l.getD k 46
theorem ch_dot : (Str.ofString ".") = ch 46 := by decide +kernel
theorem ch_plus : (Str.ofString "+") = ch 43 := by decide +kernel
theorem ch_minus : (Str.ofString "-") = ch 45 := by decide +kernel
theorem sgn_at {l : List Nat} {n k : Nat} (h : l.length = n) (hk : k < n) : atI (tx l).cps.toList (k : Int) = some (sgn l k) := by
  have hl : k < l.length := by omega
  rw [tx_cps]
  refine atI_nat ?_
  unfold sgn
  rw [List.getElem?_eq_getElem hl, List.getD_eq_getElem?_getD, List.getElem?_eq_getElem hl]
  rfl
theorem sgn_is {l : List Nat} {n : Nat} (h : RowOk l n) (k : Nat) : isSign (sgn l k) := by
  unfold sgn
  rw [List.getD_eq_getElem?_getD]
  cases q : l[k]? with
  | none => exact .inr (.inr rfl)
  | some c => exact h.all c (List.mem_of_getElem? q)
theorem isSign.lt {c : Nat} (h : isSign c) : c < 1114112 := by rcases h with h | h | h <;> omega
/-- the signs of a row along an order, without the dots -/
def told (l : List Nat) (o : List Nat) : List Nat := (o.map (sgn l)).filter (fun c => !decide (c = 46))
/-- whether a row holds -/
def holdsB (l : List Nat) (o : List Nat) : Bool :=
  match told l o with
  | [] => true
  | c :: _ => decide (c = 43)
def ordD (o : List Nat) : List D := o.map fun (k : Nat) => D.int k
theorem small8 {n : Nat} (h : n ≤ 8) : n ≤ sizeLine := Nat.le_trans h (by decide)
theorem told_strs (l o : List Nat) : (o.filter fun k => !decide (ch (sgn l k) = Str.ofString ".")).map (fun k => D.str (ch (sgn l k))) = ((told l o).map ch).map D.str := by
  unfold told
  rw [List.filter_map, List.map_map, List.map_map]
  have e : (fun k => !decide (ch (sgn l k) = Str.ofString ".")) = ((fun c => !decide (c = 46)) ∘ sgn l) := by
    funext k
    show (!decide (ch (sgn l k) = Str.ofString ".")) = !decide (sgn l k = 46)
    rw [ch_dot, Bool.eq_iff_iff]
    simp [ch_eq]
  rw [e]
  rfl
theorem told_ok {l : List Nat} {n : Nat} (h : RowOk l n) (o : List Nat) : ∀ x ∈ (told l o).map ch, okS x := by
  intro x hx
  obtain ⟨c, hc, rfl⟩ := List.mem_map.mp hx
  obtain ⟨k, _, rfl⟩ := List.mem_map.mp (List.mem_filter.mp hc).1
  exact okS_ch (sgn_is h k).lt
def spHolds : Spc where
  ty := List Nat × List Nat × Bool
  args := fun x => [.str (tx x.1), if x.2.2 then .lst (ordD x.2.1) else .tup (ordD x.2.1)]
  ok := fun x => ∃ n, RowOk x.1 n ∧ n ≤ 8 ∧ x.2.1.length ≤ 8 ∧ ∀ k ∈ x.2.1, k < n
  rel := fun x d => d = .bl (holdsB x.1 x.2.1)
end K09

namespace K09
open PySem PySem.Spec PyProof.Rows L2 Dw
variable [Tabs0]
theorem d__law_holds {P : Program} {w : World} {K : PySem.W.Frag} {mg : Str → Option Value} {base : Heap} (T : Txt K w mg) : FnOk P w K mg base CX0 1 T.f__law_holds T.e__law_holds ["_law_row_here", "_law_order_here"] (toSp (spHolds)) := by
  refine fn_ok T.F__law_holds sc__law_holds (fun _ => rfl) fun cdv A outer s' H E hr => ?_
  refine ⟨_, (pss_cons (ps_setLc (i := 2) (own := [("_law_k", 3)]) rfl sc__law_holds.nd rfl rfl (sw_true rfl rfl rfl (by decide +kernel)) (piR K (pv 1)) (blkOk_by (own := [("_law_k", 3)]) (N := N__law_holds) (sc := (defScope s__law_holds)) (by decide +kernel)) (fun _ _ _ _ _ => pg_name (i := 3) sc__law_holds.nd rfl (Or.inl rfl)) (fun _ _ _ _ _ => pts_one (pt_cmpR (neA K hr.units) (pe_ix (ixA K) (pv 0) (pv 3) (fun _ _ => rfl)) pe_str (nomark _))) (fun _ _ _ _ _ => (pe_ix (ixA K) (pv 0) (pv 3) (fun _ _ => rfl)))) (pss_one (ps_ret (pe_or (pe_cmpR (eqA K hr.units) (pv 2) (pe_lst pa_nil) (nomark _)) (pe_one (pe_cmpR (eqA K hr.units) (pe_ix (ixA K) (pv 2) pe_int (fun _ _ => rfl)) pe_str (nomark _))))))), fun x hx => ?_⟩
  obtain ⟨x, o, l⟩ := x
  obtain ⟨n, hx, hn, ho, hk⟩ := hx
  have hx : RowOk x n := hx
  have ho : o.length ≤ 8 := ho
  have hk : ∀ k ∈ o, k < n := hk
  have hz : (tx x).length ≤ sizeLine := by rw [tx_len, hx.len]; exact small8 hn
  refine ds_seq (ds_asg (Ev.dl (EvN.ev (evn_lc (xs := o) (c := fun k : Nat => D.int k) (p := fun k => !decide (ch (sgn x k) = Str.ofString ".")) (f := fun k => .str (ch (sgn x k))) ?it (by omega) fun k hk' => ⟨[3], _, dg_name, fun i hi => hi,
    evt_test (ev_op (ev_op (ev_var rfl) (ev_var rfl) (dr2_ixS hz (sgn_at hx.len (hk k hk')))) ev_str ne_str'), fun _ => ev_op (ev_var rfl) (ev_var rfl) (dr2_ixS hz (sgn_at hx.len (hk k hk')))⟩)) ?_))
  case it =>
    cases l with
    | true => exact ej_list (ev_var rfl).b
    | false => exact ej_tup (ev_var rfl)
  rw [told_strs]
  have e0 := eq_strsL (K := K) (xs := (told x o).map ch) (ys := []) (told_ok hx o) (fun _ h => absurd h (by simp))
  have ht : holdsB x o = (decide ((told x o).map ch = []) || decide (ch ((told x o).getD 0 0) = Str.ofString "+")) := by
    unfold holdsB
    cases told x o with
    | nil => rfl
    | cons c r =>
      show decide (c = 43) = (decide (ch c :: r.map ch = []) || decide (ch c = Str.ofString "+"))
      rw [ch_plus, Bool.eq_iff_iff]
      simp [ch_eq]
  refine ds_ret (Ev.dl (ev_orV (b := decide (ch ((told x o).getD 0 0) = Str.ofString "+")) (ev_op (ev_var rfl) (evn_lst eva_nil (Nat.zero_le _)).ev e0) fun h => ev_op (ev_ix (ev_var rfl).b ev_int (d := .str (ch ((told x o).getD 0 0))) ?_) ev_str eq_str') ?_)
  · cases q : told x o with
    | nil => rw [q] at h; exact absurd h (by simp)
    | cons c r => exact atI_nat (j := 0) rfl
  · show D.bl _ = D.bl (holdsB x o)
    rw [ht]
end K09

namespace K09
open PySem PySem.Spec PyProof.Rows L2 Dw
variable [Tabs0]
/-! flipped -/
def flip1 (c : Nat) : Nat := if c = 43 then 45 else if c = 45 then 43 else 46
def flipped (l : List Nat) : List Nat := l.map flip1
theorem flip_get {c : Nat} (h : isSign c) : valV (mergeK [] ([(Str.ofString "+", Str.ofString "-"), (Str.ofString "-", Str.ofString "+"), (Str.ofString ".", Str.ofString ".")].map fun p => ((Sum.inr p.1 : Key), V.str p.2))) (Sum.inr (ch c)) = some (.str (ch (flip1 c))) := by
  rcases h with rfl | rfl | rfl <;> decide +kernel
theorem flip1_is {c : Nat} (h : isSign c) : isSign (flip1 c) := by
  rcases h with rfl | rfl | rfl <;> first | exact .inl rfl | exact .inr (.inl rfl) | exact .inr (.inr rfl)
def spFlip : Spc where
  ty := List Nat
  args := fun l => [.str (tx l)]
  ok := fun l => ∃ n, RowOk l n ∧ n ≤ 8
  rel := fun l d => d = .str (tx (flipped l))
def spSigns : Spc where
  ty := Nat
  args := fun n => [.purse, .int n]
  ok := fun n => n ≤ 8
  rel := fun n d => ∃ l, RowOk l n ∧ d = .str (tx l)
def spDraw : Spc where
  ty := Nat
  args := fun n => [.purse, .int n]
  ok := fun n => 0 < n ∧ n < 100000
  rel := fun n d => ∃ r : Nat, r < n ∧ d = .int r
end K09

namespace K09
open PySem PySem.Spec PyProof.Rows L2 Dw
variable [Tabs0]
theorem d__law_draw {P : Program} {w : World} {K : PySem.W.Frag} {mg : Str → Option Value} {base : Heap} (T : Txt K w mg) : FnOk P w K mg base CX0 1 T.f__law_draw T.e__law_draw ["_law_purse_here", "_law_many"] (toSp (spDraw)) := by
  refine fn_ok T.F__law_draw sc__law_draw (fun _ => rfl) fun cdv A outer s' H E hr => ?_
  refine ⟨_, (pss_cons (ps_if (pt_cmpR opGt (pe_ix (ixA K) (pv 0) pe_int (fun _ _ => rfl)) pe_int (nomark _)) (pss_cons (ps_asg (pe_callB call_divmod (by rfl) T.n_divmod (by decide +kernel) (pa_cons (pe_ix (ixA K) (pv 0) pe_int (fun _ _ => rfl)) (pa_cons (pv 1) pa_nil))) (tupA K 2 rfl (pgs_cons (pg_sub (pv 0) pe_int set_list) (pgs_cons (pg_name (i := 2) sc__law_draw.nd rfl (Or.inl rfl)) pgs_nil)))) (pss_one (ps_ret (pv 2)))) pss_nil) (pss_cons (ps_asg (pe_op op_mod (pe_callTy call_int1 (by rfl) T.n_int (by decide +kernel) (pa_cons (pe_op (plusE K) (pe_op opTimes (pe_ix (ixA K) (pv 0) pe_int (fun _ _ => rfl)) pe_int) pe_int) pa_nil)) pe_int) (pg_sub (pv 0) pe_int set_list)) (pss_one (ps_ret (pe_op op_mod (pe_callTy call_int1 (by rfl) T.n_int (by decide +kernel) (pa_cons (pe_op op_fdiv (pe_ix (ixA K) (pv 0) pe_int (fun _ _ => rfl)) pe_int) pa_nil)) (pv 1)))))), fun x hx => ?_⟩
  obtain ⟨x, rfl⟩ : ∃ n : Nat, n = x := ⟨x, rfl⟩
  obtain ⟨hn0, hn1⟩ := hx
  have hn0 : 0 < x := hn0
  have hn1 : x < 100000 := hn1
  refine fun F σ W Dr g l => ?_
  obtain ⟨v0, e0, a, ev, hp, nn, tb⟩ := g.val 0 .purse rfl
  obtain ⟨v1, e1, r1⟩ := g.val 1 (.int x) rfl
  subst ev
  rw [show v1 = V.int x from r1] at e1
  have l2 : 2 < σ.length := by rw [← g.len]; exact (show 2 < 3 by decide)
  obtain ⟨p, q, hp0, hq0, hq1, hH⟩ := (g.ok.pu a hp).2.2.purse nn
  have i0 : atI [V.int p, V.int q] 0 = some (V.int p) := atI_nat (j := 0) rfl
  have i1 : atI [V.int p, V.int q] 1 = some (V.int q) := atI_nat (j := 1) rfl
  have md : ∀ z : Int, (x : Int) ≠ 0 → ∃ r : Nat, r < x ∧ V.int (z % (x : Int)) = V.int r := fun z hz => ⟨(z % (x : Int)).toNat, by
    have h1 := Int.emod_nonneg z hz
    have h2 := Int.emod_lt_of_pos z (show (0 : Int) < x by omega)
    omega, by
    have h1 := Int.emod_nonneg z hz
    rw [Int.toNat_of_nonneg h1]⟩
  refine ⟨.ref a, e0, .inl ⟨a, _, 0, .int p, rfl, rfl, .of hH, i0, p, 0, rfl, rfl, _, rfl, ite2 (fun hpos => ?_) (fun _ => ?_)⟩⟩
  · refine ⟨.ref a, e0, .inl ⟨a, _, 0, .int p, rfl, rfl, .of hH, i0, .int x, e1, p, x, rfl, ⟨by omega, by omega⟩, fun t ht => ?_⟩⟩
    have na : a ≠ t := ne_of_none hH ht
    have s1 : Same W.H (upd W.H t (.tup [.int (p / x), .int (p % x)])) := same_upd ht
    obtain ⟨st, ok'⟩ := purse_step (x := p / x) (g.ok.same s1) hp nn (Int.ediv_nonneg hp0 (by omega)) hq0 hq1
    obtain ⟨r, hr1, hr2⟩ := md p (by omega)
    refine ⟨t, _, rfl, .of upd_same, rfl, .int (p / x), [.int (p % x)], rfl, .ref a, e0, ⟨a, _, 0, 0, rfl, rfl, (upd_ne na).trans hH, rfl, .int (p % x), [], rfl, rfl, ?_⟩⟩
    refine ⟨.int (p % x), List.getElem?_set_self l2, ?_⟩
    exact l.rt _ (Wd.at _ _) (.int r) ((Stp.of_same g.ok s1).trans st) ok' hr2 ⟨r, hr1, rfl⟩
  · refine ⟨.ref a, e0, .inl ⟨a, _, 1, .int q, rfl, rfl, .of hH, i1, .inl ⟨q, 48683, rfl, rfl, .inl ⟨by omega, by omega⟩, .inl (.inl ⟨q * 48683, 40503, rfl, rfl, .inl ⟨_, rfl, _, _, rfl, rfl, (show (0 : Int) < 2147483647 by decide), ?_⟩⟩)⟩⟩⟩
    have b0 := Int.emod_nonneg (q * 48683 + 40503) (show (2147483647 : Int) ≠ 0 by decide)
    have b1 := Int.emod_lt_of_pos (q * 48683 + 40503) (show (0 : Int) < 2147483647 by decide)
    obtain ⟨st, ok'⟩ := purse_step (x := p) (y := (q * 48683 + 40503) % 2147483647) g.ok hp nn hp0 b0 b1
    obtain ⟨r, hr1, hr2⟩ := md ((q * 48683 + 40503) % 2147483647 / 1024) (by omega)
    refine ⟨.ref a, e0, a, _, 1, 1, rfl, rfl, hH, rfl, ?_⟩
    refine ⟨.ref a, e0, .inl ⟨a, _, 1, .int ((q * 48683 + 40503) % 2147483647), rfl, rfl, .of upd_same, atI_nat (j := 1) rfl, _, 1024, rfl, rfl, ⟨by decide, by decide⟩, .inl ⟨_, rfl, .int x, e1, _, _, rfl, rfl, (show (0 : Int) < x by omega), ?_⟩⟩⟩
    exact l.rt _ (Wd.at _ _) (.int r) st ok' hr2 ⟨r, hr1, rfl⟩
end K09

namespace K09
open PySem PySem.Spec PyProof.Rows L2 Dw
variable [Tabs0]
theorem d__law_flipped {P : Program} {w : World} {K : PySem.W.Frag} {mg : Str → Option Value} {base : Heap} (T : Txt K w mg) : FnOk P w K mg base CX0 1 T.f__law_flipped T.e__law_flipped ["_law_row_here"] (toSp (spFlip)) := by
  refine fn_ok T.F__law_flipped sc__law_flipped (fun _ => rfl) fun cdv A outer s' H E hr => ?_
  refine ⟨_, (pss_one (ps_ret (joinA K pe_str (pe_lc (own := [("_law_sign", 1)]) rfl sc__law_flipped.nd (piR K (pv 0)) (blkOk_by (own := [("_law_sign", 1)]) (N := N__law_flipped) (sc := (defScope s__law_flipped)) (by decide +kernel)) (fun _ _ _ _ _ => pg_name (i := 1) sc__law_flipped.nd rfl (Or.inl rfl)) (fun _ _ _ _ _ => pts_nil) (fun _ _ _ _ _ => (pe_dget (hu_of hr) (pe_disp (pps_cons pe_str pe_str (pps_cons pe_str pe_str (pps_cons pe_str pe_str pps_nil))) (by rfl) (by rfl) (fun z => by cases z) (by decide)) (pv 1) (fun _ _ => rfl))))))), fun x hx => ?_⟩
  obtain ⟨l, rfl⟩ : ∃ l : List Nat, l = x := ⟨x, rfl⟩
  obtain ⟨n, hl, hn⟩ := hx
  have hl : RowOk l n := hl
  have it : Ei (iAnyR K (tVar 0)) (Gz0 2 (spFlip.args l)) (l.map fun c => D.str (ch c)) := by
    have := ej_str (K := K) (ta := tVar 0) (Γ := Gz0 2 (spFlip.args l)) (x := tx l) (ev_var rfl)
    rw [signs_tx, List.map_map] at this
    exact this
  refine ds_ret (Ev.dl (ev_join (x := Str.ofString "") (ys := (flipped l).map ch) ev_str (EvN.b ?_) ?_) ?_)
  · have e1 : (((flipped l).map ch).map D.str) = ((l.filter fun _ => true).map fun c => D.str (ch (flip1 c))) := by
      rw [List.filter_eq_self.mpr (fun _ _ => rfl)]
      unfold flipped
      rw [List.map_map, List.map_map]; rfl
    rw [e1]
    exact evn_lc (c := fun c => .str (ch c)) (p := fun _ => true) (f := fun c => .str (ch (flip1 c))) it (by rw [hl.len]; omega)
      fun c hc => ⟨[1], _, dg_name, fun i hi => hi, evt_yes, fun _ => ev_dget [(Str.ofString "+", Str.ofString "-"), (Str.ofString "-", Str.ofString "+"), (Str.ofString ".", Str.ofString ".")] rfl (by decide) (ev_var rfl) (flip_get (hl.all c hc))⟩
  · rw [chs_len]
    show (l.map flip1).length + ((l.map flip1).map ch).length * 0 ≤ _
    rw [List.length_map, hl.len]
    omega
  · show D.str _ = D.str _
    rw [join_chs]
end K09

namespace K09
open PySem PySem.Spec PyProof.Rows L2 Dw
variable [Tabs0]
theorem d__law_signs {P : Program} {w : World} {K : PySem.W.Frag} {mg : Str → Option Value} {base : Heap} (T : Txt K w mg) : FnOk P w K mg base CX0 2 T.f__law_signs T.e__law_signs ["_law_purse_here", "_law_many"] (toSp (spSigns)) := by
  refine fn_ok T.F__law_signs sc__law_signs (fun _ => rfl) fun cdv A outer s' H E hr => ?_
  refine ⟨_, (pss_one (ps_ret (joinA K pe_str (pe_lc (own := [("_law_k", 2)]) rfl sc__law_signs.nd (pi_range1 (by rfl) T.n_range (pa_cons (pv 1) pa_nil)) (blkOk_by (own := [("_law_k", 2)]) (N := N__law_signs) (sc := (defScope s__law_signs)) (by decide +kernel)) (fun _ _ _ _ _ => pg_name (i := 2) sc__law_signs.nd rfl (Or.inl rfl)) (fun _ _ _ _ _ => pts_nil) (fun _ _ _ _ _ => (pe_ix (ixA K) pe_str (pe_call (d__law_draw T) (hr.mono (by decide)) (by rfl) T.m__law_draw T.F__law_draw.kp T.b__law_draw .nil pass0 (pa_cons (pv 0) (pa_cons pe_int pa_nil))) (fun _ _ => rfl))))))), fun x hx => ?_⟩
  obtain ⟨n, rfl⟩ : ∃ n : Nat, n = x := ⟨x, rfl⟩
  have hn : n ≤ 8 := hx
  refine ds_ret (dl_join ev_str (dl_lc (di_range (dla_cons (Ev.dl (ev_var rfl) (dla_nil ⟨n, rfl, by omega, by rw [rng_length]; omega, fun i acc Γ' => Γ' = wipeG (Gz0 3 (spSigns.args n)) [2] ∧ ∃ l : List Nat, acc = (l.map ch).map D.str ∧ RowOk l i, ⟨rfl, [], rfl, rfl, fun c h => absurd h (by simp)⟩, fun i x acc Γ' hx' ⟨e, l, ea, hl⟩ => ?_, fun acc Γ' ⟨e, l, ea, hl⟩ => ?_⟩))))))
  · subst e
    refine ⟨[2], _, dg_name, fun i hi => hi, dlt_yes ⟨fun _ => ?_, fun h => nomatch h⟩⟩
    refine dl_op (Ev.dl ev_str (dl_call (dla_cons (Ev.dl (ev_var rfl) (dla_cons (Ev.dl ev_int (dla_nil ⟨(4 : Nat), rfl, ⟨by decide, by decide⟩, fun d hd => ?_⟩)))))))
    obtain ⟨r, hr', ed⟩ := hd
    subst ed
    have : ∃ c, isSign c ∧ atI (Str.ofString "+-..").cps.toList (r : Int) = some c := by
      rcases (show r = 0 ∨ r = 1 ∨ r = 2 ∨ r = 3 by omega) with rfl | rfl | rfl | rfl
      · exact ⟨43, .inl rfl, by decide +kernel⟩
      · exact ⟨45, .inr (.inl rfl), by decide +kernel⟩
      · exact ⟨46, .inr (.inr rfl), by decide +kernel⟩
      · exact ⟨46, .inr (.inr rfl), by decide +kernel⟩
    obtain ⟨c, hc, hat⟩ := this
    refine ⟨_, dr2_ixS (by decide +kernel) hat, rfl, l ++ [c], ?_, by rw [List.length_append, hl.len]; rfl, fun z hz => ?_⟩
    · rw [ea, List.map_append, List.map_append]; rfl
    · rcases List.mem_append.mp hz with hz | hz
      · exact hl.all z hz
      · rw [List.mem_singleton.mp hz]; exact hc
  · rw [rng_length] at hl
    refine ⟨l.map ch, congrArg D.lst ea, ?_, l, hl, by rw [join_chs]⟩
    rw [chs_len, List.length_map, hl.len]
    show n + n * 0 ≤ _
    omega
end K09

namespace K09
open PySem PySem.Spec PyProof.Rows L2 Dw
variable [Tabs0]
structure NameOk (l : List Nat) : Prop where
  lo : 1 ≤ l.length
  hi : l.length ≤ 8
  all : ∀ c ∈ l, 97 ≤ c ∧ c ≤ 122
theorem lettersS : Str.ofString "abcdefghijklmnopqrstuvwxyz" = tx ((List.range 26).map (97 + ·)) := by decide +kernel
theorem signsS : Str.ofString "+-." = tx [43, 45, 46] := by decide +kernel
theorem NameOk.len {l : List Nat} (h : NameOk l) : (tx l).length ≤ sizeLine := by rw [tx_len]; exact small8 h.hi
theorem RowOk.sz {l : List Nat} {n : Nat} (h : RowOk l n) (hn : n ≤ 8) : (tx l).length ≤ sizeLine := by rw [tx_len, h.len]; exact small8 hn
theorem ev_cast {t : TE} {Γ : Gam} {d d' : D} (h : d = d') (e : Ev t Γ d) : Ev t Γ d' := h ▸ e
def nameD (ls : List (List Nat)) : List D := ls.map fun l => D.str (tx l)
structure NamesOk (ls : List (List Nat)) : Prop where
  lo : 1 ≤ ls.length
  hi : ls.length ≤ 8
  all : ∀ l ∈ ls, NameOk l
  inc : ∀ p ∈ ls.zip (ls.drop 1), p.1 < p.2
theorem zip_names (ls ms : List (List Nat)) : zipD (nameD ls) (nameD ms) = (ls.zip ms).map fun p => D.tup [.str (tx p.1), .str (tx p.2)] := by
  unfold zipD nameD
  rw [List.zip_map, List.map_map]; rfl
end K09

namespace K09
open PySem PySem.Spec PyProof.Rows L2 Dw
variable [Tabs0]
theorem ev_notT {K : PySem.W.Frag} {t : TE} {Γ : Gam} {b : Bool} (h : EvT (tTru K t) Γ b) : Ev (tNotT K t) Γ (.bl (!b)) := fun F σ W Q g k => by
  have e := h F σ W (fun c H => Q (.bl (!c)) H) g fun H s => k _ H s rfl
  exact e
structure LotOk (o : List Nat) (m : Nat) : Prop where
  lt : ∀ k ∈ o, k < m
  inc : o.Pairwise (· < ·)
end K09

namespace K09
open PySem PySem.Spec PyProof.Rows L2 Dw
variable [Tabs0]
/-! plain data: what a claim or a certificate may be -/
mutual
def plW (z : Nat) : Nat → D → Bool
  | _, .non => true | _, .bl _ => true | _, .int _ => true | _, .str x => PyData.strOk x && decide (x.length ≤ 100000)
  | k + 1, .tup ds => decide (ds.length ≤ z) && plWs z k ds
  | k + 1, .lst ds => decide (ds.length ≤ z) && plWs z k ds
  | k + 1, .dct ks ds => decide (ds.length ≤ z) && plWs z k ds
  | 0, .tup _ => false | 0, .lst _ => false | 0, .dct _ _ => false
  | _, .obj _ _ _ => false | _, .raw _ => false | _, .purse => false | _, .rng _ _ => false | _, .scr _ _ => false | _, .tag _ => false | _, .tupN _ => false
def plWs (z : Nat) : Nat → List D → Bool
  | _, [] => true
  | k, d :: ds => plW z k d && plWs z k ds
end
abbrev plB := plW 60
abbrev plBs := plWs 60
theorem plWs_iff {z k : Nat} : ∀ {ds : List D}, plWs z k ds = true ↔ ∀ d ∈ ds, plW z k d = true
  | [] => by simp [plWs]
  | d :: ds => by
    have e : plWs z k (d :: ds) = (plW z k d && plWs z k ds) := by cases k <;> rfl
    rw [e, Bool.and_eq_true, plWs_iff (ds := ds)]
    simp
theorem plBs_iff {k : Nat} {ds : List D} : plBs k ds = true ↔ ∀ d ∈ ds, plB k d = true := plWs_iff
mutual
theorem plW_mono {z z' : Nat} (hz : z ≤ z') : ∀ (k m : Nat) (d : D), k ≤ m → plW z k d = true → plW z' m d = true
  | _, _, .non, _, _ => by unfold plW; rfl
  | _, _, .bl _, _, _ => by unfold plW; rfl
  | _, _, .int _, _, _ => by unfold plW; rfl
  | k, m, .str x, _, h => by
    have e : plW z k (.str x) = (PyData.strOk x && decide (x.length ≤ 100000)) := by cases k <;> rfl
    have e2 : plW z' m (.str x) = (PyData.strOk x && decide (x.length ≤ 100000)) := by cases m <;> rfl
    rw [e2, ← e, h]
  | k + 1, m + 1, .tup ds, hm, h => by
    have h : (decide (ds.length ≤ z) && plWs z k ds) = true := h
    show (decide (ds.length ≤ z') && plWs z' m ds) = true
    rw [Bool.and_eq_true] at h ⊢
    exact ⟨decide_eq_true (Nat.le_trans (of_decide_eq_true h.1) hz), plWs_mono hz k m ds (by omega) h.2⟩
  | k + 1, m + 1, .lst ds, hm, h => by
    have h : (decide (ds.length ≤ z) && plWs z k ds) = true := h
    show (decide (ds.length ≤ z') && plWs z' m ds) = true
    rw [Bool.and_eq_true] at h ⊢
    exact ⟨decide_eq_true (Nat.le_trans (of_decide_eq_true h.1) hz), plWs_mono hz k m ds (by omega) h.2⟩
  | k + 1, m + 1, .dct ks ds, hm, h => by
    have h : (decide (ds.length ≤ z) && plWs z k ds) = true := h
    show (decide (ds.length ≤ z') && plWs z' m ds) = true
    rw [Bool.and_eq_true] at h ⊢
    exact ⟨decide_eq_true (Nat.le_trans (of_decide_eq_true h.1) hz), plWs_mono hz k m ds (by omega) h.2⟩
  | 0, _, .tup _, _, h => nomatch h
  | 0, _, .lst _, _, h => nomatch h
  | 0, _, .dct _ _, _, h => nomatch h
  | k + 1, 0, .tup _, hm, _ => absurd hm (by omega)
  | k + 1, 0, .lst _, hm, _ => absurd hm (by omega)
  | k + 1, 0, .dct _ _, hm, _ => absurd hm (by omega)
  | k, _, .obj _ _ _, _, h => by cases k <;> exact nomatch h
  | k, _, .raw _, _, h => by cases k <;> exact nomatch h
  | k, _, .purse, _, h => by cases k <;> exact nomatch h
  | k, _, .rng _ _, _, h => by cases k <;> exact nomatch h
  | k, _, .scr _ _, _, h => by cases k <;> exact nomatch h
  | k, _, .tag _, _, h => by cases k <;> exact nomatch h
  | k, _, .tupN _, _, h => by cases k <;> exact nomatch h
theorem plWs_mono {z z' : Nat} (hz : z ≤ z') : ∀ (k m : Nat) (ds : List D), k ≤ m → plWs z k ds = true → plWs z' m ds = true
  | _, _, [], _, _ => by unfold plWs; rfl
  | k, m, d :: ds, hm, h => by
    have e : plWs z k (d :: ds) = (plW z k d && plWs z k ds) := by cases k <;> rfl
    have e2 : plWs z' m (d :: ds) = (plW z' m d && plWs z' m ds) := by cases m <;> rfl
    rw [e, Bool.and_eq_true] at h
    rw [e2, plW_mono hz k m d hm h.1, plWs_mono hz k m ds hm h.2]; rfl
end
theorem plB_mono (k m : Nat) (d : D) (h : k ≤ m) (q : plB k d = true) : plB m d = true := plW_mono (Nat.le_refl _) k m d h q
mutual
theorem plB_np : ∀ (k : Nat) (d : D), plB k d = true → noP d = true
  | _, .non, _ => rfl
  | _, .bl _, _ => rfl
  | _, .int _, _ => rfl
  | _, .str _, _ => rfl
  | k + 1, .tup ds, h => plBs_np k ds (by have h : (decide (ds.length ≤ 60) && plBs k ds) = true := h; rw [Bool.and_eq_true] at h; exact h.2)
  | k + 1, .lst ds, h => plBs_np k ds (by have h : (decide (ds.length ≤ 60) && plBs k ds) = true := h; rw [Bool.and_eq_true] at h; exact h.2)
  | k + 1, .dct _ ds, h => plBs_np k ds (by have h : (decide (ds.length ≤ 60) && plBs k ds) = true := h; rw [Bool.and_eq_true] at h; exact h.2)
  | 0, .tup _, h => nomatch h
  | 0, .lst _, h => nomatch h
  | 0, .dct _ _, h => nomatch h
  | k, .obj _ _ _, h => by cases k <;> exact nomatch h
  | _, .raw _, _ => rfl
  | k, .purse, h => by cases k <;> exact nomatch h
  | _, .rng _ _, _ => rfl
  | k, .scr _ _, h => by cases k <;> exact nomatch h
  | k, .tag _, h => by cases k <;> exact nomatch h
  | k, .tupN _, h => by cases k <;> exact nomatch h
theorem plBs_np : ∀ (k : Nat) (ds : List D), plBs k ds = true → noPs ds = true
  | _, [], _ => rfl
  | k, d :: ds, h => by
    have e : plBs k (d :: ds) = (plB k d && plBs k ds) := by cases k <;> rfl
    rw [e, Bool.and_eq_true] at h
    show (noP d && noPs ds) = true
    rw [plB_np k d h.1, plBs_np k ds h.2]; rfl
end
/-- a plain value -/
def Pv (d : D) : Prop := plB 12 d = true
theorem Pv.ty {d : D} (h : Pv d) : hasTy d = true := by
  cases d <;> first | rfl | exact nomatch h
theorem Pv.np {d : D} (h : Pv d) : noP d = true := plB_np _ _ h
theorem Pv.str {x : Str} (h : Pv (.str x)) : okS x ∧ x.length ≤ 100000 := by
  have h : (PyData.strOk x && decide (x.length ≤ 100000)) = true := h
  rw [Bool.and_eq_true, decide_eq_true_eq] at h
  exact h
theorem Pv.tup {ds : List D} (h : Pv (.tup ds)) : ds.length ≤ 60 ∧ ∀ d ∈ ds, Pv d := by
  have h : (decide (ds.length ≤ 60) && plBs 11 ds) = true := h
  rw [Bool.and_eq_true, decide_eq_true_eq] at h
  exact ⟨h.1, fun d hd => plB_mono 11 12 d (by decide) (plBs_iff.mp h.2 d hd)⟩
theorem np1 {d : D} {r : List D} (h : Pv d) (hr : noPs r = true) : noPs (d :: r) = true := by
  show (noP d && noPs r) = true
  rw [h.np, hr]; rfl
theorem pv_strs {l : List Nat} (h : ∀ c ∈ l, c < 1114112) (hz : l.length ≤ 100000) : Pv (.str (tx l)) := by
  show (PyData.strOk (tx l) && decide ((tx l).length ≤ 100000)) = true
  rw [show PyData.strOk (tx l) = true from okS_tx h, tx_len, decide_eq_true hz]; rfl
/-! what isinstance tells -/
def isStrB : D → Bool | .str _ => true | _ => false
def isTupB : D → Bool | .tup _ => true | _ => false
def isIntB : D → Bool | .int _ => true | .bl _ => true | _ => false
def isBoolB : D → Bool | .bl _ => true | _ => false
section
variable {K : PySem.W.Frag} {d : D}
theorem kit_str (h : hasTy d = true) : PySem.W.kitOne K (tyD d) (.type "str") = some (isStrB d) := by cases d <;> first | rfl | exact nomatch h
theorem kit_tup (h : hasTy d = true) : PySem.W.kitOne K (tyD d) (.type "tuple") = some (isTupB d) := by cases d <;> first | rfl | exact nomatch h
theorem kit_int (h : hasTy d = true) : PySem.W.kitOne K (tyD d) (.type "int") = some (isIntB d) := by cases d <;> first | rfl | exact nomatch h
theorem kit_bool (h : hasTy d = true) : PySem.W.kitOne K (tyD d) (.type "bool") = some (isBoolB d) := by cases d <;> first | rfl | exact nomatch h
theorem str_of (h : isStrB d = true) : ∃ x, d = .str x := by cases d <;> first | exact ⟨_, rfl⟩ | exact nomatch h
theorem tup_of (h : isTupB d = true) : ∃ x, d = .tup x := by cases d <;> first | exact ⟨_, rfl⟩ | exact nomatch h
end
def wholeB : D → Bool | .int _ => true | _ => false
theorem whole_eq (d : D) : (isIntB d && !isBoolB d) = wholeB d := by cases d <;> rfl
theorem whole_of {d : D} (h : wholeB d = true) : ∃ i, d = .int i := by cases d <;> first | exact ⟨_, rfl⟩ | exact nomatch h
def spWholeG : Spc where
  ty := D
  args := fun d => [d]
  ok := fun d => Pv d
  rel := fun d e => e = .bl (wholeB d)
def idxB : D → Int → Bool | .int i, m => decide (0 ≤ i) && decide (i < m) | _, _ => false
theorem idx_whole (d : D) (m : Int) : (wholeB d && idxB d m) = idxB d m := by cases d <;> first | rfl | exact Bool.true_and _
def spIndexG : Spc where
  ty := D × Nat
  args := fun x => [x.1, .int x.2]
  ok := fun x => Pv x.1
  rel := fun x e => e = .bl (idxB x.1 x.2)
/-- a text of some codes -/
def rowC (l : List Nat) : Bool := decide (1 ≤ l.length) && decide (l.length ≤ 8) && l.all fun c => decide (c ∈ [43, 45, 46])
def anyRowB : D → Bool | .str x => rowC x.cps.toList | _ => false
theorem rowC_ok {l : List Nat} : rowC l = true ↔ RowOk l l.length ∧ 1 ≤ l.length ∧ l.length ≤ 8 := by
  unfold rowC
  rw [Bool.and_eq_true, Bool.and_eq_true, decide_eq_true_eq, decide_eq_true_eq, List.all_eq_true]
  constructor
  · rintro ⟨⟨h1, h2⟩, h⟩
    refine ⟨⟨rfl, fun c hc => ?_⟩, h1, h2⟩
    have := of_decide_eq_true (h c hc)
    simp only [List.mem_cons, List.not_mem_nil, or_false] at this
    exact this
  · rintro ⟨h, h1, h2⟩
    refine ⟨⟨h1, h2⟩, fun c hc => decide_eq_true ?_⟩
    rcases h.all c hc with rfl | rfl | rfl <;> decide
def spAnyG : Spc where
  ty := D
  args := fun d => [d]
  ok := fun d => Pv d
  rel := fun d e => e = .bl (anyRowB d)
def lenB : D → Nat → Bool | .str x, n => decide (x.length = n) | _, _ => false
def rowB (d : D) (n : Nat) : Bool := anyRowB d && lenB d n
def spRowG : Spc where
  ty := D × Nat
  args := fun x => [x.1, .int x.2]
  ok := fun x => Pv x.1
  rel := fun x e => e = .bl (rowB x.1 x.2)
theorem rowB_iff {d : D} {n : Nat} : rowB d n = true ↔ ∃ l, d = .str (tx l) ∧ RowOk l n ∧ 1 ≤ n ∧ n ≤ 8 := by
  constructor
  · intro h
    unfold rowB at h
    rw [Bool.and_eq_true] at h
    cases d <;> first | exact absurd h.1 Bool.false_ne_true | skip
    rename_i x
    obtain ⟨h1, h2⟩ := h
    obtain ⟨r, a, b⟩ := rowC_ok.mp h1
    have h2 : decide (x.length = n) = true := h2
    rw [decide_eq_true_eq] at h2
    have e : x.cps.toList.length = n := by rw [← h2]; rfl
    rw [e] at r a b
    exact ⟨x.cps.toList, congrArg D.str (of_tx x), r, a, b⟩
  · rintro ⟨l, rfl, r, a, b⟩
    show (rowC (tx l).cps.toList && decide ((tx l).length = n)) = true
    rw [tx_cps, tx_len, r.len, decide_eq_true rfl, Bool.and_true]
    exact rowC_ok.mpr (by rw [r.len]; exact ⟨r, a, b⟩)
def letterC (c : Nat) : Bool := decide (c ∈ (List.range 26).map (97 + ·))
theorem letter_iff {c : Nat} : letterC c = true ↔ 97 ≤ c ∧ c ≤ 122 := by
  unfold letterC
  rw [decide_eq_true_eq, List.mem_map]
  constructor
  · rintro ⟨a, h, rfl⟩
    have := List.mem_range.mp h
    omega
  · rintro ⟨h1, h2⟩
    exact ⟨c - 97, List.mem_range.mpr (by omega), by omega⟩
def nmC (l : List Nat) : Bool := decide (1 ≤ l.length) && decide (l.length ≤ 8) && l.all letterC
theorem nmC_ok {l : List Nat} : nmC l = true ↔ NameOk l := by
  unfold nmC
  rw [Bool.and_eq_true, Bool.and_eq_true, decide_eq_true_eq, decide_eq_true_eq, List.all_eq_true]
  exact ⟨fun ⟨⟨h1, h2⟩, h⟩ => ⟨h1, h2, fun c hc => letter_iff.mp (h c hc)⟩, fun h => ⟨⟨h.lo, h.hi⟩, fun c hc => letter_iff.mpr (h.all c hc)⟩⟩
def nmB : D → Bool | .str x => nmC x.cps.toList | _ => false
def spNameG : Spc where
  ty := D
  args := fun d => [d]
  ok := fun d => Pv d
  rel := fun d e => e = .bl (nmB d)
theorem nmB_iff {d : D} : nmB d = true ↔ ∃ l, d = .str (tx l) ∧ NameOk l := by
  constructor
  · intro h
    cases d <;> first | exact absurd h Bool.false_ne_true | skip
    rename_i x
    exact ⟨x.cps.toList, congrArg D.str (of_tx x), nmC_ok.mp h⟩
  · rintro ⟨l, rfl, h⟩
    show nmC (tx l).cps.toList = true
    rw [tx_cps]
    exact nmC_ok.mpr h
end K09

namespace K09
open PySem PySem.Spec PyProof.Rows L2 Dw
variable [Tabs0]
theorem d_is_whole {P : Program} {w : World} {K : PySem.W.Frag} {mg : Str → Option Value} {base : Heap} (T : Txt K w mg) : FnOk P w K mg base CX0 1 T.f_is_whole T.e_is_whole ["value"] (toSp (spWholeG)) := by
  refine fn_ok T.F_is_whole sc_is_whole (fun _ => rfl) fun cdv A outer s' H E hr => ?_
  refine ⟨_, (pss_one (ps_ret (pe_and (pe_callB (isiA K) (by rfl) T.n_isinstance (by decide +kernel) (pa_cons (pv 0) (pa_cons (pe_bltn (v := .ty "int") (by rfl) T.n_int (by decide +kernel) rfl) pa_nil))) (pe_one (notA K (pe_callB (isiA K) (by rfl) T.n_isinstance (by decide +kernel) (pa_cons (pv 0) (pa_cons (pe_bltn (v := .ty "bool") (by rfl) T.n_bool (by decide +kernel) rfl) pa_nil)))))))), fun x hx => ?_⟩
  obtain ⟨d, rfl⟩ : ∃ l : D, l = x := ⟨x, rfl⟩
  have hd : Pv d := hx
  refine ds_ret (Ev.dl (ev_cast (congrArg D.bl (whole_eq d)) (ev_andV (a := isIntB d) (b := !isBoolB d) (ev_isi (ev_var rfl) ev_raw (.inl hd.ty) (.ty "int") (kit_int hd.ty)) fun _ => ev_notT (b := isBoolB d) (evt_tru_bl (ev_isi (ev_var rfl) ev_raw (.inl hd.ty) (.ty "bool") (kit_bool hd.ty))))) rfl)
end K09

namespace K09
open PySem PySem.Spec PyProof.Rows L2 Dw
variable [Tabs0]
theorem d_is_index {P : Program} {w : World} {K : PySem.W.Frag} {mg : Str → Option Value} {base : Heap} (T : Txt K w mg) : FnOk P w K mg base CX0 2 T.f_is_index T.e_is_index ["value", "many"] (toSp (spIndexG)) := by
  refine fn_ok T.F_is_index sc_is_index (fun _ => rfl) fun cdv A outer s' H E hr => ?_
  refine ⟨_, (pss_one (ps_ret (pe_and (pe_call (d_is_whole T) (hr.mono (by decide)) (by rfl) T.m_is_whole T.F_is_whole.kp T.b_is_whole .nil pass0 (pa_cons (pv 0) pa_nil)) (pe_one (pe_chain opLe opLt pe_int (pv 0) (pv 1)))))), fun x hx => ?_⟩
  obtain ⟨d, m⟩ := x
  have hd : Pv d := hx
  refine ds_ret (Ev.dl (ev_cast (congrArg D.bl (idx_whole d m)) (ev_andV (a := wholeB d) (b := idxB d m) (ev_call (s := spWholeG) (x := d) (eva_cons (ev_var rfl) eva_nil) (np1 hd rfl) hd fun d h => h) fun h => ?_)) rfl)
  obtain ⟨i, rfl⟩ := whole_of h
  exact ev_chain ev_int (ev_var rfl) (fun _ => ev_var rfl) dr2_le fun _ => lt_int'
end K09

namespace K09
open PySem PySem.Spec PyProof.Rows L2 Dw
variable [Tabs0]
theorem d_is_any_row {P : Program} {w : World} {K : PySem.W.Frag} {mg : Str → Option Value} {base : Heap} (T : Txt K w mg) : FnOk P w K mg base CX0 1 T.f_is_any_row T.e_is_any_row ["value"] (toSp (spAnyG)) := by
  refine fn_ok T.F_is_any_row sc_is_any_row (fun _ => rfl) fun cdv A outer s' H E hr => ?_
  refine ⟨_, (pss_cons (ps_if (PW.pt (pw_or (pt_not (truA K (pe_callB (isiA K) (by rfl) T.n_isinstance (by decide +kernel) (pa_cons (pv 0) (pa_cons (pe_bltn (v := .ty "str") (by rfl) T.n_str (by decide +kernel) rfl) pa_nil))))) (pw_or1 (pt_not (pt_chain opLe opLe pe_int (pe_callB (lenA K) (by rfl) T.n_len (by decide +kernel) (pa_cons (pv 0) pa_nil)) (pe_glob (v := .int 8) (by rfl) T.c_MOST_RULES ⟨_, rfl⟩)))))) (pss_one (ps_ret pe_bl)) pss_nil) (pss_one (ps_ret (pe_callB (allA K) (by rfl) T.n_all (by decide +kernel) (pa_cons (pe_lc (own := [("sign", 1)]) rfl sc_is_any_row.nd (piR K (pv 0)) (blkOk_by (own := [("sign", 1)]) (N := N_is_any_row) (sc := (defScope s_is_any_row)) (by decide +kernel)) (fun _ _ _ _ _ => pg_name (i := 1) sc_is_any_row.nd rfl (Or.inl rfl)) (fun _ _ _ _ _ => pts_nil) (fun _ _ _ _ _ => (pe_cmpR (inA K) (pv 1) (pe_glob (v := .str "+-.") (by rfl) T.c_SIGNS ⟨_, rfl⟩) (by rfl)))) pa_nil))))), fun x hx => ?_⟩
  obtain ⟨d, rfl⟩ : ∃ l : D, l = x := ⟨x, rfl⟩
  have hd : Pv d := hx
  by_cases hs : isStrB d = true
  · obtain ⟨s, rfl⟩ := str_of hs
    obtain ⟨l, rfl⟩ : ∃ l, s = tx l := ⟨_, of_tx s⟩
    have hz := hd.str.2
    rw [tx_len] at hz
    have hc : (decide ((1 : Int) ≤ ((tx l).length : Int)) && decide (((tx l).length : Int) ≤ 8)) = (decide (1 ≤ l.length) && decide (l.length ≤ 8)) := by
      rw [tx_len]
      congr 1
      · exact decide_eq_decide.mpr (by omega)
      · exact decide_eq_decide.mpr (by omega)
    refine ds_seq (ds_if (EvT.dl (b := !(decide (1 ≤ l.length) && decide (l.length ≤ 8))) ?_ ⟨fun h => ?_, fun h => ?_⟩))
    · have e := evt_or (Γ := Gz0 2 (spAnyG.args (.str (tx l)))) (a := false) (b := !(decide ((1 : Int) ≤ ((tx l).length : Int)) && decide (((tx l).length : Int) ≤ 8))) (evt_not (a := true) (evt_tru_bl (K := K) (ev_isi (K := K) (ta := tVar 0) (d := .str (tx l)) (ev_var rfl) ev_raw (.inl rfl) (.ty "str") rfl))) fun _ => evt_not (evt_chain (ta := tC (.int 1)) (tb := tCB (Dw.rLen K) (tCons (tVar 0) tNil)) (tc := tC (.int 8)) ev_int (ev_lenS (ev_var rfl) (small (by rw [tx_len]; exact hz))) (fun _ => ev_int) dr2_le fun _ => dr2_le)
      rw [hc] at e
      exact e
    · refine ds_ret (Ev.dl ev_bl ?_)
      show D.bl false = D.bl (rowC (tx l).cps.toList)
      unfold rowC
      rw [tx_cps, show (decide (1 ≤ l.length) && decide (l.length ≤ 8)) = false by rw [Bool.not_eq_true'] at h; exact h]; rfl
    · refine ds_next (ds_ret (Ev.dl (ev_all_lc (xs := l) (c := fun c => .str (ch c)) (b := fun c => decide (c ∈ [43, 45, 46])) ?_ (by omega) fun c hc => ⟨[1], _, dg_name, fun i hi => hi, evt_yes, ev_op (ev_var rfl) ev_str ?_⟩) ?_))
      · have := ej_str (K := K) (ta := tVar 0) (Γ := Gz0 2 (spAnyG.args (.str (tx l)))) (x := tx l) (ev_var rfl)
        rw [signs_tx, List.map_map] at this
        exact this
      · rw [signsS]; exact in_code
      · show D.bl _ = D.bl (rowC (tx l).cps.toList)
        unfold rowC
        rw [tx_cps, show (decide (1 ≤ l.length) && decide (l.length ≤ 8)) = true by rw [Bool.not_eq_false'] at h; exact h]; rfl
  · have hs : isStrB d = false := by simpa using hs
    refine ds_seq (ds_if (EvT.dl (b := true) (evt_or (a := true) (b := false) (evt_not (a := false) (evt_tru_bl (ev_isi (ev_var rfl) ev_raw (.inl hd.ty) (.ty "str") (by rw [kit_str hd.ty, hs])))) fun h => (nomatch h)) ⟨fun _ => ds_ret (Ev.dl ev_bl ?_), fun h => (nomatch h)⟩))
    cases d <;> first | rfl | exact nomatch hs
end K09

namespace K09
open PySem PySem.Spec PyProof.Rows L2 Dw
variable [Tabs0]
theorem d_is_row {P : Program} {w : World} {K : PySem.W.Frag} {mg : Str → Option Value} {base : Heap} (T : Txt K w mg) : FnOk P w K mg base CX0 2 T.f_is_row T.e_is_row ["value", "many"] (toSp (spRowG)) := by
  refine fn_ok T.F_is_row sc_is_row (fun _ => rfl) fun cdv A outer s' H E hr => ?_
  refine ⟨_, (pss_one (ps_ret (pe_and (pe_call (d_is_any_row T) (hr.mono (by decide)) (by rfl) T.m_is_any_row T.F_is_any_row.kp T.b_is_any_row .nil pass0 (pa_cons (pv 0) pa_nil)) (pe_one (pe_cmpR (eqA K hr.units) (pe_callB (lenA K) (by rfl) T.n_len (by decide +kernel) (pa_cons (pv 0) pa_nil)) (pv 1) (nomark _)))))), fun x hx => ?_⟩
  obtain ⟨d, n⟩ := x
  have hd : Pv d := hx
  refine ds_ret (Ev.dl (ev_andV (a := anyRowB d) (b := lenB d n) (ev_call (s := spAnyG) (x := d) (eva_cons (ev_var rfl) eva_nil) (np1 hd rfl) hd fun d h => h) fun h => ?_) rfl)
  cases d <;> first | exact absurd h Bool.false_ne_true | skip
  rename_i s
  refine ev_op (ev_lenS (ev_var rfl) (small hd.str.2)) (ev_var rfl) (eq_ib ?_)
  exact decide_eq_decide.mpr (by omega)
end K09

namespace K09
open PySem PySem.Spec PyProof.Rows L2 Dw
variable [Tabs0]
theorem d_is_name {P : Program} {w : World} {K : PySem.W.Frag} {mg : Str → Option Value} {base : Heap} (T : Txt K w mg) : FnOk P w K mg base CX0 1 T.f_is_name T.e_is_name ["value"] (toSp (spNameG)) := by
  refine fn_ok T.F_is_name sc_is_name (fun _ => rfl) fun cdv A outer s' H E hr => ?_
  refine ⟨_, (pss_cons (ps_if (PW.pt (pw_or (pt_not (truA K (pe_callB (isiA K) (by rfl) T.n_isinstance (by decide +kernel) (pa_cons (pv 0) (pa_cons (pe_bltn (v := .ty "str") (by rfl) T.n_str (by decide +kernel) rfl) pa_nil))))) (pw_or1 (pt_not (pt_chain opLe opLe pe_int (pe_callB (lenA K) (by rfl) T.n_len (by decide +kernel) (pa_cons (pv 0) pa_nil)) (pe_glob (v := .int 8) (by rfl) T.c_MOST_LETTERS ⟨_, rfl⟩)))))) (pss_one (ps_ret pe_bl)) pss_nil) (pss_one (ps_ret (pe_callB (allA K) (by rfl) T.n_all (by decide +kernel) (pa_cons (pe_lc (own := [("letter", 1)]) rfl sc_is_name.nd (piR K (pv 0)) (blkOk_by (own := [("letter", 1)]) (N := N_is_name) (sc := (defScope s_is_name)) (by decide +kernel)) (fun _ _ _ _ _ => pg_name (i := 1) sc_is_name.nd rfl (Or.inl rfl)) (fun _ _ _ _ _ => pts_nil) (fun _ _ _ _ _ => (pe_cmpR (inA K) (pv 1) (pe_glob (v := .str "abcdefghijklmnopqrstuvwxyz") (by rfl) T.c_LETTERS ⟨_, rfl⟩) (by rfl)))) pa_nil))))), fun x hx => ?_⟩
  obtain ⟨d, rfl⟩ : ∃ l : D, l = x := ⟨x, rfl⟩
  have hd : Pv d := hx
  by_cases hs : isStrB d = true
  · obtain ⟨s, rfl⟩ := str_of hs
    obtain ⟨l, rfl⟩ : ∃ l, s = tx l := ⟨_, of_tx s⟩
    have hz := hd.str.2
    rw [tx_len] at hz
    have hc : (decide ((1 : Int) ≤ ((tx l).length : Int)) && decide (((tx l).length : Int) ≤ 8)) = (decide (1 ≤ l.length) && decide (l.length ≤ 8)) := by
      rw [tx_len]
      congr 1
      · exact decide_eq_decide.mpr (by omega)
      · exact decide_eq_decide.mpr (by omega)
    refine ds_seq (ds_if (EvT.dl (b := !(decide (1 ≤ l.length) && decide (l.length ≤ 8))) ?_ ⟨fun h => ?_, fun h => ?_⟩))
    · have e := evt_or (Γ := Gz0 2 (spNameG.args (.str (tx l)))) (a := false) (b := !(decide ((1 : Int) ≤ ((tx l).length : Int)) && decide (((tx l).length : Int) ≤ 8))) (evt_not (a := true) (evt_tru_bl (K := K) (ev_isi (K := K) (ta := tVar 0) (d := .str (tx l)) (ev_var rfl) ev_raw (.inl rfl) (.ty "str") rfl))) fun _ => evt_not (evt_chain (ta := tC (.int 1)) (tb := tCB (Dw.rLen K) (tCons (tVar 0) tNil)) (tc := tC (.int 8)) ev_int (ev_lenS (ev_var rfl) (small (by rw [tx_len]; exact hz))) (fun _ => ev_int) dr2_le fun _ => dr2_le)
      rw [hc] at e
      exact e
    · refine ds_ret (Ev.dl ev_bl ?_)
      show D.bl false = D.bl (nmC (tx l).cps.toList)
      unfold nmC
      rw [tx_cps, show (decide (1 ≤ l.length) && decide (l.length ≤ 8)) = false by rw [Bool.not_eq_true'] at h; exact h]; rfl
    · refine ds_next (ds_ret (Ev.dl (ev_all_lc (xs := l) (c := fun c => .str (ch c)) (b := letterC) ?_ (by omega) fun c hc => ⟨[1], _, dg_name, fun i hi => hi, evt_yes, ev_op (ev_var rfl) ev_str ?_⟩) ?_))
      · have := ej_str (K := K) (ta := tVar 0) (Γ := Gz0 2 (spNameG.args (.str (tx l)))) (x := tx l) (ev_var rfl)
        rw [signs_tx, List.map_map] at this
        exact this
      · rw [lettersS]; exact in_code
      · show D.bl _ = D.bl (nmC (tx l).cps.toList)
        unfold nmC
        rw [tx_cps, show (decide (1 ≤ l.length) && decide (l.length ≤ 8)) = true by rw [Bool.not_eq_false'] at h; exact h]; rfl
  · have hs : isStrB d = false := by simpa using hs
    refine ds_seq (ds_if (EvT.dl (b := true) (evt_or (a := true) (b := false) (evt_not (a := false) (evt_tru_bl (ev_isi (ev_var rfl) ev_raw (.inl hd.ty) (.ty "str") (by rw [kit_str hd.ty, hs])))) fun h => (nomatch h)) ⟨fun _ => ds_ret (Ev.dl ev_bl ?_), fun h => (nomatch h)⟩))
    cases d <;> first | rfl | exact nomatch hs

end K09

namespace K09
open PySem PySem.Spec PyProof.Rows L2 Dw
variable [Tabs0]
def bookTx (ls rs : List (List Nat)) : List Nat := TL.joinL [32] ((TL.joinL [32] ls ++ [58]) :: rs)
def bookD (C : Addr) (ls rs : List (List Nat)) : D := .obj C ["_text", "_names", "_rows"] [.str (tx (bookTx ls rs)), .tup (nameD ls), .tup (nameD rs)]
structure BookOk (ls rs : List (List Nat)) : Prop where
  names : NamesOk ls
  few : rs.length ≤ 20
  rows : ∀ r ∈ rs, RowOk r ls.length
theorem kit_self {K : PySem.W.Frag} {C : Addr} : PySem.W.kitOne K (.ref C) (.ref C) = some true := by
  unfold PySem.W.kitOne
  rw [if_pos]
  first | exact beq_self_eq_true _ | simp | rfl
abbrev Bk := List (List Nat) × List (List Nat)
def spCheck (C : Addr) : Spc where
  ty := Bk
  args := fun x => [bookD C x.1 x.2]
  ok := fun _ => True
  rel := fun _ d => d = .non
def spBNames (C : Addr) : Spc where
  ty := Bk
  args := fun x => [bookD C x.1 x.2]
  ok := fun _ => True
  rel := fun x d => d = .tup (nameD x.1)
def spBRows (C : Addr) : Spc where
  ty := Bk
  args := fun x => [bookD C x.1 x.2]
  ok := fun _ => True
  rel := fun x d => d = .tup (nameD x.2)
/-! signs fused -/
end K09

namespace K09
open PySem PySem.Spec PyProof.Rows L2 Dw
variable [Tabs0]
theorem d_Book_names {P : Program} {w : World} {K : PySem.W.Frag} {mg : Str → Option Value} {base : Heap} (T : Txt K w mg) : FnOk P w K mg base CX0 1 T.f_Book_names T.e_Book_names ["self"] (toSp (spBNames T.C_Book)) := by
  refine fn_ok T.F_Book_names sc_Book_names (fun _ => rfl) fun cdv A outer s' H E hr => ?_
  refine ⟨_, (pss_one (ps_ret (fldA K (pv 0)))), fun x hx => ?_⟩
  obtain ⟨ls, rs⟩ := x
  exact ds_ret (Ev.dl (ev_fld T.cl_Book T.no_names (ev_var rfl) (by rfl)) rfl)
end K09

namespace K09
open PySem PySem.Spec PyProof.Rows L2 Dw
variable [Tabs0]
theorem d_Book_rows {P : Program} {w : World} {K : PySem.W.Frag} {mg : Str → Option Value} {base : Heap} (T : Txt K w mg) : FnOk P w K mg base CX0 1 T.f_Book_rows T.e_Book_rows ["self"] (toSp (spBRows T.C_Book)) := by
  refine fn_ok T.F_Book_rows sc_Book_rows (fun _ => rfl) fun cdv A outer s' H E hr => ?_
  refine ⟨_, (pss_one (ps_ret (fldA K (pv 0)))), fun x hx => ?_⟩
  obtain ⟨ls, rs⟩ := x
  exact ds_ret (Ev.dl (ev_fld T.cl_Book T.no_rows (ev_var rfl) (by rfl)) rfl)
end K09

namespace K09
open PySem PySem.Spec PyProof.Rows L2 Dw
variable [Tabs0]
theorem np_name (ls : List (List Nat)) : noPs (nameD ls) = true := noPs_map (fun _ => rfl) ls
theorem np_ord (o : List Nat) : noPs (ordD o) = true := noPs_map (fun _ => rfl) o
theorem np_tup {ds : List D} (h : noPs ds = true) : noPs [.tup ds] = true := by show (noPs ds && true) = true; rw [h]; rfl
theorem np_book (C : Addr) (ls rs : List (List Nat)) : noPs [bookD C ls rs] = true := by
  show ((true && ((noPs (nameD ls)) && (noPs (nameD rs) && true))) && true) = true
  rw [np_name, np_name]; rfl
theorem joinL_len {m : Nat} : ∀ ls : List (List Nat), (∀ p ∈ ls, p.length ≤ m) → (TL.joinL [32] ls).length ≤ ls.length * (m + 1)
  | [], _ => Nat.zero_le _
  | [p], h => by
    have := h p (List.mem_singleton.mpr rfl)
    show p.length ≤ 1 * (m + 1)
    omega
  | p :: q :: r, h => by
    have h1 := h p List.mem_cons_self
    have h2 := joinL_len (q :: r) fun x hx => h x (List.mem_cons_of_mem _ hx)
    show (p ++ ([32] ++ TL.joinL [32] (q :: r))).length ≤ (List.length (q :: r) + 1) * (m + 1)
    rw [List.length_append, List.length_append, Nat.add_mul]
    show p.length + (1 + _) ≤ _
    omega
theorem joinL_mem {c : Nat} : ∀ ls : List (List Nat), c ∈ TL.joinL [32] ls → c = 32 ∨ ∃ p ∈ ls, c ∈ p
  | [], h => absurd h (by simp [TL.joinL])
  | [p], h => .inr ⟨p, List.mem_singleton.mpr rfl, h⟩
  | p :: q :: r, h => by
    have h : c ∈ p ++ ([32] ++ TL.joinL [32] (q :: r)) := h
    rcases List.mem_append.mp h with h | h
    · exact .inr ⟨p, List.mem_cons_self, h⟩
    · rcases List.mem_append.mp h with h | h
      · exact .inl (List.mem_singleton.mp h)
      · rcases joinL_mem (q :: r) h with h | ⟨x, hx, hc⟩
        · exact .inl h
        · exact .inr ⟨x, List.mem_cons_of_mem _ hx, hc⟩
theorem bookTx_eq (ls : List (List Nat)) : ∀ rs : List (List Nat), bookTx ls rs = TL.joinL [32] ls ++ ([58] ++ TL.joinL [32] ([] :: rs))
  | [] => rfl
  | q :: r => by
    show (TL.joinL [32] ls ++ [58]) ++ ([32] ++ TL.joinL [32] (q :: r)) = TL.joinL [32] ls ++ ([58] ++ ([] ++ ([32] ++ TL.joinL [32] (q :: r))))
    rw [List.nil_append, List.append_assoc]
theorem spaceS : Str.ofString " " = tx [32] := by decide +kernel
theorem colonS : Str.ofString ":" = tx [58] := by decide +kernel
theorem split_sp {ps : List (List Nat)} (hne : ps ≠ []) (h : ∀ p ∈ ps, 32 ∉ p) : Txt.split (tx (TL.joinL [32] ps)) (Str.ofString " ") = ps.map tx := by
  rw [spaceS]
  refine (SX.split_S (a := TL.joinL [32] ps) (b := [32]) (by simp) (by decide)).trans ?_
  rw [SX.spl_join hne h]; rfl
theorem part_sp {p q : List Nat} (h : 58 ∉ p) : Txt.partition (tx (p ++ ([58] ++ q))) (Str.ofString ":") = (tx p, tx [58], tx q) := by
  rw [colonS]
  exact SX.partition_some (by simp) (SX.par_head q h)
theorem BookOk.h58 {ls rs : List (List Nat)} (h : BookOk ls rs) : 58 ∉ TL.joinL [32] ls := fun hm => by
  rcases joinL_mem ls hm with h' | ⟨p, hp, hc⟩
  · cases h'
  · have := (h.names.all p hp).all 58 hc; omega
theorem BookOk.h32 {ls rs : List (List Nat)} (h : BookOk ls rs) : ∀ p ∈ ls, 32 ∉ p := fun p hp hc => by
  have := (h.names.all p hp).all 32 hc; omega
theorem BookOk.r32 {ls rs : List (List Nat)} (h : BookOk ls rs) : ∀ p ∈ [] :: rs, 32 ∉ p := fun p hp hc => by
  rcases List.mem_cons.mp hp with rfl | hp
  · exact absurd hc (by simp)
  · rcases (h.rows p hp).all 32 hc with h | h | h <;> cases h
theorem BookOk.hl {ls rs : List (List Nat)} (h : BookOk ls rs) : (TL.joinL [32] ls).length ≤ 72 := by
  have := joinL_len (m := 8) ls fun p hp => (h.names.all p hp).hi
  have := h.names.hi
  omega
theorem BookOk.tl {ls rs : List (List Nat)} (h : BookOk ls rs) : (TL.joinL [32] ([] :: rs)).length ≤ 189 := by
  have e := joinL_len (m := 8) ([] :: rs) fun p hp => by
    rcases List.mem_cons.mp hp with rfl | hp
    · exact Nat.zero_le _
    · rw [(h.rows p hp).len]; exact h.names.hi
  rw [List.length_cons] at e
  have := h.few
  omega
theorem BookOk.len {ls rs : List (List Nat)} (h : BookOk ls rs) : (tx (bookTx ls rs)).length ≤ 300 := by
  rw [tx_len, bookTx_eq, List.length_append, List.length_append]
  have := h.hl
  have := h.tl
  show _ + (1 + _) ≤ _
  omega
def spInit : Spc where
  ty := Bk
  args := fun x => [.str (tx (bookTx x.1 x.2))]
  ok := fun x => BookOk x.1 x.2
  rel := fun x d => d = .tup [.str (tx (bookTx x.1 x.2)), .tup (nameD x.1), .tup (nameD x.2)]
theorem nameD_map (ls : List (List Nat)) : (ls.map tx).map D.str = nameD ls := by rw [List.map_map]; rfl
end K09

namespace K09
open PySem PySem.Spec PyProof.Rows L2 Dw
variable [Tabs0]
structure FuOk (ls rs : List (List Nat)) (o : List Nat) : Prop where
  book : BookOk ls rs
  lot : LotOk o rs.length
theorem inc_len {m : Nat} : ∀ (o : List Nat) (lo : Nat), lo ≤ m → (∀ k ∈ o, lo ≤ k ∧ k < m) → o.Pairwise (· < ·) → o.length + lo ≤ m
  | [], lo, h, _, _ => by rw [List.length_nil]; omega
  | a :: o, lo, h, hk, hp => by
    obtain ⟨h1, h2⟩ := hk a List.mem_cons_self
    obtain ⟨p1, p2⟩ := List.pairwise_cons.mp hp
    have := inc_len o (a + 1) (by omega) (fun k hm => ⟨p1 k hm, (hk k (List.mem_cons_of_mem _ hm)).2⟩) p2
    rw [List.length_cons]; omega
theorem lot_len {o : List Nat} {m : Nat} (h : LotOk o m) : o.length ≤ m := inc_len o 0 (Nat.zero_le _) (fun k hk => ⟨Nat.zero_le _, h.lt k hk⟩) h.inc
end K09

namespace K09
open PySem PySem.Spec PyProof.Rows L2 Dw
variable [Tabs0]
def lots : Nat → List (List Nat)
  | 0 => [[]]
  | n + 1 => lots n ++ (lots n).map (· ++ [n])
def ordT (os : List (List Nat)) : List D := os.map fun o => D.tup (ordD o)
theorem ordD_snoc (o : List Nat) (i : Nat) : ordD o ++ [D.int i] = ordD (o ++ [i]) := by
  unfold ordD
  rw [List.map_append]; rfl
theorem ordD_len (o : List Nat) : (ordD o).length = o.length := List.length_map ..
theorem ordT_len (o : List (List Nat)) : (ordT o).length = o.length := List.length_map ..
end K09

namespace K09
open PySem PySem.Spec PyProof.Rows L2 Dw
variable [Tabs0]
theorem erase_map {α β : Type} (f : α → β) : ∀ (l : List α) (i : Nat), (l.map f).eraseIdx i = (l.eraseIdx i).map f
  | [], i => rfl
  | a :: l, 0 => rfl
  | a :: l, i + 1 => congrArg (f a :: ·) (erase_map f l i)
theorem perm_erase {α : Type} {a : α} : ∀ {l : List α} {i : Nat}, l[i]? = some a → (a :: l.eraseIdx i).Perm l
  | [], i, h => by cases h
  | b :: l, 0, h => by
    have : b = a := by simpa using h
    subst this
    exact .refl _
  | b :: l, i + 1, h => (List.Perm.swap b a (l.eraseIdx i)).trans ((perm_erase (l := l) (i := i) (by simpa using h)).cons b)
def strs0 : List Str := ["a", "b", "cost", "far", "level", "near", "safe", "t", "width", "zzzzzzzz"]
def lab0 : List (List Nat) := strs0.map fun s => s.cps.toList
theorem lab0_D : nameD lab0 = strs0.map D.str := by
  unfold nameD lab0
  rw [List.map_map]
  exact List.map_congr_left fun s _ => congrArg D.str (of_tx s).symm
def nameB (l : List Nat) : Bool := decide (1 ≤ l.length) && decide (l.length ≤ 8) && l.all fun c => decide (97 ≤ c) && decide (c ≤ 122)
theorem nameB_ok {l : List Nat} (h : nameB l = true) : NameOk l := by
  unfold nameB at h
  rw [Bool.and_eq_true, Bool.and_eq_true, List.all_eq_true] at h
  exact ⟨of_decide_eq_true h.1.1, of_decide_eq_true h.1.2, fun c hc => by
    have := h.2 c hc
    rw [Bool.and_eq_true] at this
    exact ⟨of_decide_eq_true this.1, of_decide_eq_true this.2⟩⟩
theorem lab0_ok : ∀ l ∈ lab0, NameOk l := by
  have h : lab0.all nameB = true := by decide +kernel
  exact fun l hl => nameB_ok (List.all_eq_true.mp h l hl)
theorem lab0_nd : lab0.Nodup := by decide +kernel
theorem lab0_len : lab0.length = 10 := rfl
theorem lt_of_ne : ∀ a b : List Nat, a ≠ b → ¬ b < a → a < b
  | [], [], h, _ => absurd rfl h
  | [], b :: bs, _, _ => List.nil_lt_cons b bs
  | a :: as, [], _, h => absurd (List.nil_lt_cons a as) h
  | a :: as, b :: bs, h, h' => by
    rw [List.cons_lt_cons_iff] at h' ⊢
    by_cases e : a = b
    · subst e
      exact .inr ⟨rfl, lt_of_ne as bs (fun z => h (by rw [z])) fun z => h' (.inr ⟨rfl, z⟩)⟩
    · exact .inl (by
        have : ¬ b < a := fun z => h' (.inl z)
        omega)
theorem rising_inc : ∀ (x : Str) (r : List Str), risingS x r = true → (x :: r).Nodup → ∀ p ∈ (((x :: r).map fun s => s.cps.toList).zip (r.map fun s => s.cps.toList)), p.1 < p.2
  | x, [], _, _, p, hp => by cases hp
  | x, y :: r, h, nd, p, hp => by
    have h : (!ltCps y.cps.toList x.cps.toList && risingS y r) = true := h
    rw [Bool.and_eq_true, ltCps_eq, Bool.not_eq_true', decide_eq_false_iff_not] at h
    obtain ⟨n1, n2⟩ := List.nodup_cons.mp nd
    rcases List.mem_cons.mp hp with rfl | hp
    · exact lt_of_ne _ _ (fun z => n1 (by
        have z' : x.cps.toList = y.cps.toList := z
        have : x = y := by rw [of_tx x, of_tx y, z']
        rw [this]; exact List.mem_cons_self)) h.1
    · exact rising_inc y r h.2 n2 p hp
def spLabels : Spc where
  ty := Nat
  args := fun n => [.purse, .int n]
  ok := fun n => 1 ≤ n ∧ n ≤ 8
  rel := fun n d => ∃ ls, d = .lst (nameD ls) ∧ NamesOk ls ∧ ls.length = n
theorem nameD_len (ls : List (List Nat)) : (nameD ls).length = ls.length := List.length_map ..
theorem nodup_tx {l : List (List Nat)} (h : l.Nodup) : (l.map tx).Nodup := by
  rw [List.nodup_iff_pairwise_ne] at h ⊢
  exact List.pairwise_map.mpr (h.imp fun h z => h (tx_eq.mp z))
theorem names_of {zs : List Str} {acc left : List (List Nat)} {n : Nat} (hp : (acc ++ left).Perm lab0) (hz : zs.Perm (acc.map tx)) (hs : sortedS zs = true) (hl : acc.length = n) (h1 : 1 ≤ n) (h8 : n ≤ 8) :
    NamesOk (zs.map fun s => s.cps.toList) := by
  have ln : zs.length = n := by rw [hz.length_eq, List.length_map, hl]
  have nd : zs.Nodup := hz.nodup_iff.mpr (nodup_tx (List.nodup_append.mp (hp.nodup_iff.mpr lab0_nd)).1)
  refine ⟨by rw [List.length_map]; omega, by rw [List.length_map]; omega, fun l h => ?_, ?_⟩
  · obtain ⟨s, h1, rfl⟩ := List.mem_map.mp h
    obtain ⟨m, h2, rfl⟩ := List.mem_map.mp (hz.mem_iff.mp h1)
    show NameOk (tx m).cps.toList
    rw [tx_cps]
    exact lab0_ok m (hp.mem_iff.mp (List.mem_append_left _ h2))
  · cases zs with
    | nil => exact fun p hp => by cases hp
    | cons x r => exact rising_inc x r hs nd
end K09

namespace K09
open PySem PySem.Spec PyProof.Rows L2 Dw
variable [Tabs0]
theorem d__law_labels {P : Program} {w : World} {K : PySem.W.Frag} {mg : Str → Option Value} {base : Heap} (T : Txt K w mg) : FnOk P w K mg base CX0 2 T.f__law_labels T.e__law_labels ["_law_purse_here", "_law_many"] (toSp (spLabels)) := by
  refine fn_ok T.F__law_labels sc__law_labels (fun _ => rfl) fun cdv A outer s' H E hr => ?_
  refine ⟨_, (pss_cons (ps_set (i := 2) sc__law_labels.nd rfl (Or.inr rfl) (pe_lst (pa_cons pe_str (pa_cons pe_str (pa_cons pe_str (pa_cons pe_str (pa_cons pe_str (pa_cons pe_str (pa_cons pe_str (pa_cons pe_str (pa_cons pe_str (pa_cons pe_str pa_nil)))))))))))) (pss_one (ps_ret (pe_callB (sortedA K) (by rfl) T.n_sorted (by decide +kernel) (pa_cons (pe_lc (own := [("_law_k", 3)]) rfl sc__law_labels.nd (pi_range1 (by rfl) T.n_range (pa_cons (pv 1) pa_nil)) (blkOk_by (own := [("_law_k", 3)]) (N := N__law_labels) (sc := (defScope s__law_labels)) (by decide +kernel)) (fun _ _ _ _ _ => pg_name (i := 3) sc__law_labels.nd rfl (Or.inl rfl)) (fun _ _ _ _ _ => pts_nil) (fun _ _ _ _ _ => (bmA K PySem.F.plainAttrs_list PySem.F.slot_list_pop PySem.F.type_list_pop mt_popAt (pv 2) (pa_cons (pe_call (d__law_draw T) (hr.mono (by decide)) (by rfl) T.m__law_draw T.F__law_draw.kp T.b__law_draw .nil pass0 (pa_cons (pv 0) (pa_cons (pe_callB (lenA K) (by rfl) T.n_len (by decide +kernel) (pa_cons (pv 2) pa_nil)) pa_nil))) pa_nil)))) pa_nil))))), fun x hx => ?_⟩
  obtain ⟨n, rfl⟩ : ∃ l : Nat, l = x := ⟨x, rfl⟩
  obtain ⟨h1, h8⟩ := hx
  have h1 : 1 ≤ n := h1
  have h8 : n ≤ 8 := h8
  refine ds_seq (ds_asg_own (ds := nameD lab0) ?_ ?_)
  · rw [lab0_D]
    exact evn_lst (eva_cons ev_str (eva_cons ev_str (eva_cons ev_str (eva_cons ev_str (eva_cons ev_str (eva_cons ev_str (eva_cons ev_str (eva_cons ev_str (eva_cons ev_str (eva_cons ev_str eva_nil)))))))))) (small (show 10 ≤ 100000 by decide))
  refine ds_ret (dl_sortedS (dl_lc (di_range (dla_cons (Ev.dl (ev_var rfl) (dla_nil ⟨n, rfl, by omega, by rw [rng_length]; omega,
    fun i acc Γ' => ∃ ys left : List (List Nat), Γ' = [.val .purse, .val (.int n), .own (nameD left), .unset] ∧ acc = nameD ys ∧ (ys ++ left).Perm lab0 ∧ ys.length = i,
    ⟨[], lab0, rfl, rfl, .refl _, rfl⟩, fun i x acc Γ' hx' ⟨ys, left, e, ea, hp, hl⟩ => ?_, fun acc Γ' ⟨ys, left, e, ea, hp, hl⟩ => ?_⟩))))))
  · subst e
    obtain ⟨hi, rfl⟩ := rng_get hx'
    have hlen : left.length = 10 - i := by
      have := hp.length_eq
      rw [List.length_append, hl, lab0_len] at this
      omega
    refine ⟨[3], _, dg_name, fun i hi => hi, dlt_yes ⟨fun _ => ?_, fun h => nomatch h⟩⟩
    refine dl_popAt ⟨_, rfl⟩ (dla_cons (dl_call (s := spDraw) (dla_cons (Ev.dl (ev_var rfl) (dla_cons (Ev.dl (ev_len (evb_own (ds := nameD left) rfl)) (dla_nil ⟨(nameD left).length, rfl, ⟨by rw [nameD_len]; omega, by rw [nameD_len]; omega⟩, fun d hd => ?_⟩)))))))
    obtain ⟨r, hr1, rfl⟩ := hd
    rw [nameD_len] at hr1
    have hg : left[r]? = some left[r] := List.getElem?_eq_getElem hr1
    refine dla_nil ⟨r, r, nameD left, .str (tx left[r]), rfl, rfl, by omega, by omega, ?_, ?_, ys ++ [left[r]], left.eraseIdx r, ?_, ?_, ?_, ?_⟩
    · rw [nameD_len]
      unfold seqIndex?
      have : ¬ ((r : Int) < 0) := by omega
      simp only [this, if_false]
      rw [if_pos (by simp; omega)]
      rfl
    · unfold nameD
      rw [List.getElem?_map, hg]; rfl
    · show [Sl.val .purse, .val (.int n), .own ((nameD left).eraseIdx r), .unset] = _
      rw [show (nameD left).eraseIdx r = nameD (left.eraseIdx r) from erase_map _ left r]
    · rw [ea]; unfold nameD; rw [List.map_append]; rfl
    · rw [List.append_assoc]
      exact (List.Perm.append_left ys (perm_erase hg)).trans hp
    · rw [List.length_append, hl]; rfl
  · rw [rng_length] at hl
    refine ⟨ys.map tx, ?_, by rw [List.length_map]; omega, fun zs hz hs => ⟨zs.map fun s => s.cps.toList, ?_, names_of hp hz hs hl h1 h8, ?_⟩⟩
    · rw [ea, nameD_map]
    · unfold nameD
      rw [List.map_map]
      exact congrArg D.lst (List.map_congr_left fun s _ => congrArg D.str (of_tx s))
    · rw [List.length_map, hz.length_eq, List.length_map, hl]
end K09

namespace K09
open PySem PySem.Spec PyProof.Rows L2 Dw
variable [Tabs0]
def spRows : Spc where
  ty := Nat × Nat × Nat
  args := fun x => [.purse, .int x.1, .int x.2.1, .int x.2.2]
  ok := fun x => 1 ≤ x.1 ∧ x.1 ≤ 8 ∧ x.2.1 < 1000 ∧ 0 < x.2.2 ∧ x.2.2 < 1000
  rel := fun x d => ∃ rs, d = .lst (nameD rs) ∧ rs.length ≤ x.2.1 ∧ ∀ r ∈ rs, RowOk r x.1
theorem flipped_ok {l : List Nat} {n : Nat} (h : RowOk l n) : RowOk (flipped l) n := by
  refine ⟨by unfold flipped; rw [List.length_map, h.len], fun c hc => ?_⟩
  unfold flipped at hc
  obtain ⟨b, hb, rfl⟩ := List.mem_map.mp hc
  exact flip1_is (h.all b hb)
end K09

namespace K09
open PySem PySem.Spec PyProof.Rows L2 Dw
variable [Tabs0]
theorem d__law_rows {P : Program} {w : World} {K : PySem.W.Frag} {mg : Str → Option Value} {base : Heap} (T : Txt K w mg) : FnOk P w K mg base CX0 3 T.f__law_rows T.e__law_rows ["_law_purse_here", "_law_many", "_law_most", "_law_wrong"] (toSp (spRows)) := by
  refine fn_ok T.F__law_rows sc__law_rows (fun _ => rfl) fun cdv A outer s' H E hr => ?_
  refine ⟨_, (pss_cons (ps_par (i := 4) (j := 5) (by rfl) sc__law_rows.nd rfl rfl (by decide) rfl rfl (pa_cons (pe_listRg rfl (by rfl) T.n_list (prg_1 (by rfl) T.n_range (pv 1))) (pa_cons (pe_lst pa_nil) pa_nil)) (by rfl)) (pss_cons (ps_for PassesOwn.never rfl (pi_range1 (by rfl) T.n_range (pa_cons (pv 1) pa_nil)) (pg_name (i := 6) sc__law_rows.nd rfl (Or.inl rfl)) (pss_one (ps_expr (bmA K PySem.F.plainAttrs_list PySem.F.slot_list_append PySem.F.type_list_append mt_append (pv 5) (pa_cons (bmA K PySem.F.plainAttrs_list PySem.F.slot_list_pop PySem.F.type_list_pop mt_popAt (pv 4) (pa_cons (pe_call (d__law_draw T) (hr.mono (by decide)) (by rfl) T.m__law_draw T.F__law_draw.kp T.b__law_draw .nil pass0 (pa_cons (pv 0) (pa_cons (pe_callB (lenA K) (by rfl) T.n_len (by decide +kernel) (pa_cons (pv 4) pa_nil)) pa_nil))) pa_nil)) pa_nil))))) (pss_cons (ps_set (i := 7) sc__law_rows.nd rfl (Or.inl rfl) (pe_lst pa_nil)) (pss_cons (ps_for PassesOwn.never rfl (pi_range1 (by rfl) T.n_range (pa_cons (pe_call (d__law_draw T) (hr.mono (by decide)) (by rfl) T.m__law_draw T.F__law_draw.kp T.b__law_draw .nil pass0 (pa_cons (pv 0) (pa_cons (pe_op (plusE K) (pv 2) pe_int) pa_nil))) pa_nil)) (pg_name (i := 8) sc__law_rows.nd rfl (Or.inl rfl)) (pss_cons (ps_set (i := 9) sc__law_rows.nd rfl (Or.inl rfl) (pe_call (d__law_signs T) (hr.mono (by decide)) (by rfl) T.m__law_signs T.F__law_signs.kp T.b__law_signs .nil pass0 (pa_cons (pv 0) (pa_cons (pv 1) pa_nil)))) (pss_cons (ps_set (i := 10) sc__law_rows.nd rfl (Or.inl rfl) (pe_cmpR opGt (pe_call (d__law_draw T) (hr.mono (by decide)) (by rfl) T.m__law_draw T.F__law_draw.kp T.b__law_draw .nil pass0 (pa_cons (pv 0) (pa_cons (pv 3) pa_nil))) pe_int (nomark _))) (pss_one (ps_expr (bmA K PySem.F.plainAttrs_list PySem.F.slot_list_append PySem.F.type_list_append mt_append (pv 7) (pa_cons (pe_ifExp (PW.pt (pw_or (truA K (pe_call (d__law_holds T) (hr.mono (by decide)) (by rfl) T.m__law_holds T.F__law_holds.kp T.b__law_holds .nil pass0 (pa_cons (pv 9) (pa_cons (pv 5) pa_nil)))) (pw_or1 (pt_not (truA K (pv 10)))))) (pv 9) (pe_call (d__law_flipped T) (hr.mono (by decide)) (by rfl) T.m__law_flipped T.F__law_flipped.kp T.b__law_flipped .nil pass0 (pa_cons (pv 9) pa_nil))) pa_nil))))))) (pss_one (ps_ret (pv 7))))))), fun x hx => ?_⟩
  obtain ⟨n, most, wrong⟩ := x
  obtain ⟨h1, h8, hm, hw, hw2⟩ := hx
  have h1 : 1 ≤ n := h1
  have h8 : n ≤ 8 := h8
  have hm : most < 1000 := hm
  have hw : 0 < wrong := hw
  have hw2 : wrong < 1000 := hw2
  refine ds_seq (ds_par_oo (evn_listRg (n := n) (ev_var rfl) (by omega)) (evn_lst eva_nil (Nat.zero_le _)) ?_)
  refine ds_seq (ds_for (fun xs i Γ' => xs = rng n ∧ ∃ (left hid : List Nat) (s6 : Sl), Γ' = [.val .purse, .val (.int n), .val (.int most), .val (.int wrong), .own (ordD left), .own (ordD hid), s6, .unset, .unset, .unset, .unset] ∧ left.length + i = n ∧ hid.length = i ∧ (∀ k ∈ left, k < n) ∧ ∀ k ∈ hid, k < n)
    (di_range (dla_cons (Ev.dl (ev_var rfl) (dla_nil ⟨n, rfl, by omega, ⟨rfl, List.range n, [], _, rfl, List.length_range, rfl, fun k h => List.mem_range.mp h, fun k h => absurd h (by simp)⟩, fun i x Γ' hx' ⟨exs, left, hid, s6, e, l1, l2, k1, k2⟩ => ?_, fun Γ' ⟨exs, left, hid, s6, e, l1, l2, k1, k2⟩ => ?_⟩)))))
  · subst e
    obtain ⟨hi, rfl⟩ := rng_get hx'
    refine ⟨[6], _, dg_name, ds_drop (dl_append ⟨_, rfl⟩ (dla_cons (dl_popAt ⟨_, rfl⟩ (dla_cons (dl_call (s := spDraw) (dla_cons (Ev.dl (ev_var rfl) (dla_cons (Ev.dl (ev_len (evb_own (ds := ordD left) rfl)) (dla_nil ⟨(ordD left).length, rfl, ⟨by rw [ordD_len]; omega, by rw [ordD_len]; omega⟩, fun d hd => ?_⟩)))))))))) ⟩
    obtain ⟨r, hr1, rfl⟩ := hd
    rw [ordD_len] at hr1
    have hg : left[r]? = some left[r] := List.getElem?_eq_getElem hr1
    refine dla_nil ⟨r, r, ordD left, .int left[r], rfl, rfl, by omega, by omega, ?_, ?_, dla_nil ⟨_, ordD hid, rfl, rfl, ?_, rfl, left.eraseIdx r, hid ++ [left[r]], .val (.int i), ?_, ?_, ?_, ?_⟩⟩
    · rw [ordD_len]
      unfold seqIndex?
      have : ¬ ((r : Int) < 0) := by omega
      simp only [this, if_false]
      rw [if_pos (by simp; omega)]
      rfl
    · unfold ordD
      rw [List.getElem?_map, hg]; rfl
    · rw [ordD_len, l2]; exact Nat.lt_of_lt_of_le (by omega : i < 9) (by decide)
    · show [Sl.val .purse, .val (.int n), .val (.int most), .val (.int wrong), .own ((ordD left).eraseIdx r), .own (ordD hid ++ [.int left[r]]), .val (.int i), .unset, .unset, .unset, .unset] = _
      rw [show (ordD left).eraseIdx r = ordD (left.eraseIdx r) from erase_map _ left r, ordD_snoc]
    · rw [List.length_eraseIdx, if_pos hr1]; omega
    · rw [List.length_append, l2]; rfl
    · exact ⟨fun k hk => k1 k (List.mem_of_mem_eraseIdx hk), fun k hk => by
        rcases List.mem_append.mp hk with hk | hk
        · exact k2 k hk
        · rw [List.mem_singleton.mp hk]; exact k1 _ (List.getElem_mem hr1)⟩
  · subst e
    rw [rng_length] at l2
    refine ds_freeze 5 rfl (ds_seq (ds_asg_own (evn_lst eva_nil (Nat.zero_le _)) ?_))
    refine ds_seq (ds_for (fun xs i Γ' => xs.length ≤ most ∧ ∃ (rs : List (List Nat)) (s8 s9 s10 : Sl), Γ' = [.val .purse, .val (.int n), .val (.int most), .val (.int wrong), .own (ordD left), .val (.lst (ordD hid)), s6, .own (nameD rs), s8, s9, s10] ∧ rs.length = i ∧ ∀ r ∈ rs, RowOk r n)
      (di_range (dla_cons (dl_call (s := spDraw) (dla_cons (Ev.dl (ev_var rfl) (dla_cons (Ev.dl (ev_op (ev_var rfl) ev_int pl_int) (dla_nil ⟨most + 1, rfl, ⟨by omega, by omega⟩, fun d hd => ?_⟩)))))))))
    obtain ⟨r, hr1, rfl⟩ := hd
    refine dla_nil ⟨r, rfl, by omega, ⟨by rw [rng_length]; omega, [], _, _, _, rfl, rfl, fun k h => absurd h (by simp)⟩, fun i x Γ' hx' ⟨exs, rs, s8, s9, s10, e, p1, p2⟩ => ?_, fun Γ' ⟨exs, rs, s8, s9, s10, e, p1, p2⟩ => ?_⟩
    · subst e
      obtain ⟨hi, rfl⟩ := rng_get hx'
      refine ⟨[8], _, dg_name, ds_seq (ds_asg (dl_call (s := spSigns) (dla_cons (Ev.dl (ev_var rfl) (dla_cons (Ev.dl (ev_var rfl) (dla_nil ⟨n, rfl, h8, fun d hd => ?_⟩)))))))⟩
      obtain ⟨row, hrow, rfl⟩ := hd
      refine ds_seq (ds_asg (dl_op (dl_call (s := spDraw) (dla_cons (Ev.dl (ev_var rfl) (dla_cons (Ev.dl (ev_var rfl) (dla_nil ⟨wrong, rfl, ⟨hw, by omega⟩, fun d hd => ?_⟩))))))))
      obtain ⟨z, hz, rfl⟩ := hd
      refine Ev.dl ev_int ⟨_, dr2_gt, ?_⟩
      refine ds_drop (dl_append ⟨_, rfl⟩ (dla_cons (Ev.dl (ev_cast (d' := .str (tx (if (holdsB row hid || !decide ((0 : Int) < (z : Int))) = true then row else flipped row))) ?_ (ev_if (a := holdsB row hid || !decide ((0 : Int) < (z : Int))) (evt_or (evt_tru_bl (ev_call (s := spHolds) (x := (row, hid, true)) (eva_cons (ev_var rfl) (eva_cons (ev_var rfl) eva_nil)) ?_ ⟨n, hrow, h8, by rw [l2]; exact h8, k2⟩ fun d h => h)) fun _ => evt_not (evt_tru_bl (ev_var rfl))) (fun _ => ev_var (d := .str (tx row)) rfl) fun _ => ev_call (s := spFlip) (x := row) (eva_cons (ev_var rfl) eva_nil) rfl ⟨n, hrow, h8⟩ fun d h => h)) (dla_nil ⟨_, nameD rs, rfl, rfl, ?_, ?_⟩))))
      · cases (holdsB row hid || !decide ((0 : Int) < (z : Int))) <;> rfl
      · show ((noPs (ordD hid)) && true) = true
        rw [np_ord]; rfl
      · rw [nameD_len, p1]; exact Nat.lt_of_lt_of_le (by omega : i < 1001) (by decide)
      · refine ⟨exs, rs ++ [if (holdsB row hid || !decide ((0 : Int) < (z : Int))) = true then row else flipped row], .val (.int i), .val (.str (tx row)), .val (.bl (decide ((0 : Int) < (z : Int)))), ?_, by rw [List.length_append, p1]; rfl, fun q hq => ?_⟩
        · unfold nameD
          rw [List.map_append]; rfl
        · rcases List.mem_append.mp hq with hq | hq
          · exact p2 q hq
          · rw [List.mem_singleton.mp hq]
            cases (holdsB row hid || !decide ((0 : Int) < (z : Int)))
            · exact flipped_ok hrow
            · exact hrow
    · subst e
      exact ds_ret_own rfl ⟨rs, rfl, by rw [p1]; exact exs, p2⟩
end K09

namespace K09
open PySem PySem.Spec PyProof.Rows L2 Dw
variable [Tabs0]
def spSpelled : Spc where
  ty := Bk
  args := fun x => [.lst (nameD x.1), .lst (nameD x.2)]
  ok := fun x => BookOk x.1 x.2
  rel := fun x d => d = .str (tx (bookTx x.1 x.2))
theorem sum_tx {m : Nat} : ∀ ls : List (List Nat), (∀ p ∈ ls, p.length ≤ m) → ((ls.map tx).map (·.length)).sum ≤ ls.length * m
  | [], _ => Nat.zero_le _
  | p :: r, h => by
    have h1 := h p List.mem_cons_self
    have h2 := sum_tx r fun x hx => h x (List.mem_cons_of_mem _ hx)
    rw [List.map_cons, List.map_cons, List.sum_cons, tx_len, List.length_cons, Nat.add_mul]
    omega
theorem join_sp (ls : List (List Nat)) : Txt.join (Str.ofString " ") (ls.map tx) = tx (TL.joinL [32] ls) := by rw [spaceS, join_tx]
end K09

namespace K09
open PySem PySem.Spec PyProof.Rows L2 Dw
variable [Tabs0]
theorem d__law_spelled {P : Program} {w : World} {K : PySem.W.Frag} {mg : Str → Option Value} {base : Heap} (T : Txt K w mg) : FnOk P w K mg base CX0 1 T.f__law_spelled T.e__law_spelled ["_law_labels_here", "_law_rows_here"] (toSp (spSpelled)) := by
  refine fn_ok T.F__law_spelled sc__law_spelled (fun _ => rfl) fun cdv A outer s' H E hr => ?_
  refine ⟨_, (pss_one (ps_ret (joinA K pe_str (pe_op (plusE K) (pe_lst (pa_cons (pe_op (plusE K) (joinA K pe_str (pv 0)) pe_str) pa_nil)) (pe_callTy (listA K) (by rfl) T.n_list (by decide +kernel) (pa_cons (pv 1) pa_nil)))))), fun x hx => ?_⟩
  obtain ⟨ls, rs⟩ := x
  have hb : BookOk ls rs := hx
  have h8 := hb.names.hi
  have h20 := hb.few
  have hl := hb.hl
  have s1 := sum_tx (m := 8) ls fun p hp => (hb.names.all p hp).hi
  have s2 := sum_tx (m := 8) rs fun p hp => by rw [(hb.rows p hp).len]; exact h8
  refine ds_ret (Ev.dl (ev_cast (d := .str (Txt.join (Str.ofString " ") (((TL.joinL [32] ls ++ [58]) :: rs).map tx))) ?_ (ev_join ev_str (EvN.b (ds := (((TL.joinL [32] ls ++ [58]) :: rs).map tx).map D.str) ?_) ?_)) rfl)
  · rw [join_sp]; rfl
  · have e : (((TL.joinL [32] ls ++ [58]) :: rs).map tx).map D.str = [D.str (tx (TL.joinL [32] ls) ++ Str.ofString ":")] ++ nameD rs := by
      rw [colonS, tx_append, List.map_cons, List.map_cons, nameD_map]; rfl
    rw [e]
    refine pl_evn (EvN.b (evn_lst (eva_cons (ev_op (ev_cast (d' := .str (tx (TL.joinL [32] ls))) ?_ (ev_join (x := Str.ofString " ") (ys := ls.map tx) ev_str ?_ ?_)) ev_str (pl_str ?_)) eva_nil) (small (show 1 ≤ 100000 by decide)))) (EvN.b (evn_list (ev_var (d := .lst (nameD rs)) rfl).b)) ?_
    · rw [join_sp]
    · rw [nameD_map]; exact (ev_var rfl).b
    · rw [List.length_map, spaceS, tx_len]
      show _ + ls.length * 1 ≤ _
      omega
    · rw [tx_len, colonS, tx_len]
      show _ + 1 ≤ _
      exact small (by omega)
    · rw [nameD_len]
      show 1 + _ ≤ _
      exact small (by omega)
  · rw [List.map_cons, List.map_cons, List.sum_cons, List.length_cons, List.length_map, tx_len, List.length_append, spaceS, tx_len]
    show (_ + 1) + _ + (rs.length + 1) * 1 ≤ _
    omega
end K09

namespace K09
open PySem PySem.Spec PyProof.Rows L2 Dw
variable [Tabs0]
theorem dr2_pow {i j : Int} (h : CPow i j) : DR2 (rI CPow fun i j => .int (i ^ j.toNat)) (.int i) (.int j) (.int (i ^ j.toNat)) := dr2_rI h fun _ => rfl
theorem ds_runS {t u : TS} {F : Addr → Prop} {σ : L2.St} {W : Wd} {Dr : Ends} {Γ : Gam} {Γ' : Gam → Prop} (h : Ds t Γ ⟨Γ', fun _ => False, fun _ => False, fun _ => False⟩) (g : SR F Γ σ W) (k : ∀ σ' W' Γ2, Stp F W W' → SR F Γ2 σ' W' → Γ' Γ2 → u Dr σ' W'.H) : tSeq t u Dr σ W.H :=
  h F σ W { Dr with nx := u Dr } g ⟨k, fun _ _ _ _ _ _ h => h.elim, fun _ _ _ _ _ h => h.elim, fun _ _ _ _ _ h => h.elim⟩
theorem scr_at {ns : List Int} {spot : Nat} (h : spot < ns.length) : atI (ns.map V.int) (spot : Int) = some (.int (ns.getD spot 0)) := by
  refine atI_nat ?_
  rw [List.getElem?_map, List.getElem?_eq_getElem h, List.getD_eq_getElem?_getD, List.getElem?_eq_getElem h]; rfl
theorem seed_ok {s z : Int} : 0 ≤ (s * 41539 + z % 2147483647 + 101) % 2147483647 ∧ (s * 41539 + z % 2147483647 + 101) % 2147483647 < 2147483647 := ⟨Int.emod_nonneg _ (by decide), Int.emod_lt_of_pos _ (by decide)⟩
end K09

namespace K09
open PySem PySem.Spec PyProof.Rows L2 Dw
variable [Tabs0]
theorem d__law_purse {P : Program} {w : World} {K : PySem.W.Frag} {mg : Str → Option Value} {base : Heap} (T : Txt K w mg) : FnOk P w K mg base CX0 1 T.f__law_purse T.e__law_purse ["_law_script", "_law_spot"] (toPurse K) := by
  refine T.F__law_purse.ok sc__law_purse (fun vs H Q E ⟨F, W, ns, spot, _, _, r, _⟩ => by rw [← r.length]; rfl) fun cdv A outer s' H vs Q E hr h => ?_
  refine ⟨_, (pss_cons (ps_set (i := 2) sc__law_purse.nd rfl (Or.inl rfl) (pe_ifExp (pt_cmpR opLt (pv 1) (pe_callB (lenA K) (by rfl) T.n_len (by decide +kernel) (pa_cons (pv 0) pa_nil)) (nomark _)) (pe_ix (ixA K) (pv 0) (pv 1) (fun _ _ => rfl)) (pe_op opTimes pe_int (pe_op (plusE K) (pv 1) pe_int)))) (pss_cons (ps_set (i := 3) sc__law_purse.nd rfl (Or.inl rfl) (pe_op (plusE K) pe_int (pv 1))) (pss_cons (ps_for PassesOwn.never rfl (piR K (pe_op (plusE K) (pe_slice (slXA K) (pv 0) po_none (po_some pe_int)) (pe_lst (pa_cons (pv 2) pa_nil)))) (pg_name (i := 4) sc__law_purse.nd rfl (Or.inl rfl)) (pss_one (ps_set (i := 3) sc__law_purse.nd rfl (Or.inl rfl) (pe_op op_mod (pe_callTy call_int1 (by rfl) T.n_int (by decide +kernel) (pa_cons (pe_op (plusE K) (pe_op (plusE K) (pe_op opTimes (pv 3) pe_int) (pe_op op_mod (pe_callTy call_int1 (by rfl) T.n_int (by decide +kernel) (pa_cons (pv 4) pa_nil)) pe_int)) pe_int) pa_nil)) pe_int)))) (pss_one (ps_ret (pe_lst (pa_cons (pe_ifExp (pt_cmpR opGe (pe_callB call_abs (by rfl) T.n_abs (by decide +kernel) (pa_cons (pv 2) pa_nil)) (pe_op op_pow pe_int pe_int) (nomark _)) (pe_callB call_abs (by rfl) T.n_abs (by decide +kernel) (pa_cons (pv 2) pa_nil)) pe_int) (pa_cons (pv 3) pa_nil)))))))), ?_⟩
  obtain ⟨F, W, ns, spot, rfl, ok, r, hz, hs, hbit, k⟩ := h
  have g0 : SR F (Gz0 5 [.scr K (ns.map V.int), .int spot]) (L2.start N__law_purse vs) W := sr_start (N := N__law_purse) ok r
  have l0 : (ns.map V.int).length = ns.length := List.length_map ..
  refine ds_runS (Γ' := fun Γ => ∃ cell : Int, Γ = [.val (.scr K (ns.map V.int)), .val (.int spot), .val (.int cell), .unset, .unset]) (ds_asg (Ev.dl (ev_if (a := decide ((spot : Int) < ((ns.map V.int).length : Int))) (evt_test (ev_op (ev_var rfl) (ev_lenX (ev_var rfl)) lt_int')) (fun h => ev_ixX (z := ns.getD spot 0) (ev_var rfl) (ev_var rfl) (scr_at ?_)) fun h => ev_op ev_int (ev_op (ev_var rfl) ev_int pl_int) (times_int ?_)) ?_)) g0 fun σ1 W1 Γ1 st1 g1 ⟨cell, e1⟩ => ?_
  · have := of_decide_eq_true h
    rw [l0] at this; omega
  · exact .inl ⟨by decide, by decide⟩
  · by_cases h : (spot : Int) < ((ns.map V.int).length : Int)
    · rw [if_pos (decide_eq_true h)]; exact ⟨_, rfl⟩
    · rw [if_neg (fun z => h (of_decide_eq_true z))]; exact ⟨_, rfl⟩
  subst e1
  refine ds_runS (Γ' := fun Γ => ∃ seed : Int, Γ = [.val (.scr K (ns.map V.int)), .val (.int spot), .val (.int cell), .val (.int seed), .unset] ∧ 0 ≤ seed ∧ seed < 2147483647) (ds_asg (Ev.dl (ev_op ev_int (ev_var rfl) pl_int) ⟨907 + (spot : Int), rfl, by omega, by omega⟩)) g1 fun σ2 W2 Γ2 st2 g2 ⟨seed, e2, b0, b1⟩ => ?_
  subst e2
  refine ds_runS (Γ' := fun Γ => ∃ (seed : Int) (s4 : Sl), Γ = [.val (.scr K (ns.map V.int)), .val (.int spot), .val (.int cell), .val (.int seed), s4] ∧ 0 ≤ seed ∧ seed < 2147483647)
    (ds_for (fun xs i Γ' => (∀ x ∈ xs, ∃ z : Int, x = .int z) ∧ ∃ (seed : Int) (s4 : Sl), Γ' = [.val (.scr K (ns.map V.int)), .val (.int spot), .val (.int cell), .val (.int seed), s4] ∧ 0 ≤ seed ∧ seed < 2147483647)
      (dj_list (Ev.dl (EvN.ev (pl_evn (EvN.b (evn_sliceXY (hi := some 5) (ev_var rfl) eo_none (eo_some ev_int))) (EvN.b (evn_lst (eva_cons (ev_var rfl) eva_nil) (small (show 1 ≤ 100000 by decide)))) ?_)) ⟨_, rfl, ⟨fun x hx => ?_, seed, _, rfl, b0, b1⟩, fun i x Γ' hx' ⟨hx0, seed', s4, e, c0, c1⟩ => ?_, fun Γ' ⟨hx0, seed', s4, e, c0, c1⟩ => ⟨seed', s4, e, c0, c1⟩⟩))) g2 fun σ3 W3 Γ3 st3 g3 ⟨seed', s4, e3, c0, c1⟩ => ?_
  · unfold Dw.intD Dw.cutI
    rw [List.length_map, List.length_take, List.length_drop]
    show _ + 1 ≤ _
    exact small (by omega)
  · rcases List.mem_append.mp hx with hx | hx
    · obtain ⟨z, _, rfl⟩ := List.mem_map.mp hx
      exact ⟨z, rfl⟩
    · rw [List.mem_singleton.mp hx]; exact ⟨cell, rfl⟩
  · subst e
    obtain ⟨z, rfl⟩ := hx0 x (List.mem_of_getElem? hx')
    refine ⟨[4], _, dg_name, ds_asg (Ev.dl (ev_op (ev_int1 (ev_op (ev_op (ev_op (ev_var rfl) ev_int (times_int ?_)) (ev_op (ev_int1 (ev_var rfl)) ev_int (dr2_mod (by decide))) pl_int) ev_int pl_int)) ev_int (dr2_mod (by decide))) ⟨hx0, _, _, rfl, seed_ok.1, seed_ok.2⟩)⟩
    exact .inr ⟨by decide, by decide⟩
  subst e3
  have st := st1.trans (st2.trans st3)
  have ea : ∀ c : Int, 0 ≤ (if c < 0 then -c else c) := fun c => by by_cases h : c < 0 <;> simp [h] <;> omega
  have ep : (10 : Int) ^ (18 : Int).toNat = 1000000000000000000 := by decide +kernel
  refine evn_lst (ds := [.int (if (decide ((10 : Int) ^ (18 : Int).toNat ≤ (if cell < 0 then -cell else cell))) = true then (if cell < 0 then -cell else cell) else 0), .int seed']) (eva_cons (ev_cast ?_ (ev_if (a := decide ((10 : Int) ^ (18 : Int).toNat ≤ (if cell < 0 then -cell else cell))) (evt_test (ev_op (ev_abs (ev_var rfl)) (ev_op ev_int ev_int (dr2_pow ?_)) dr2_ge)) (fun _ => ev_abs (ev_var rfl)) fun _ => ev_int)) (eva_cons (ev_var rfl) eva_nil)) (small (show 2 ≤ 100000 by decide)) F σ3 W3 _ g3 fun a vs H' sm hn ha rl => ?_
  · cases decide ((10 : Int) ^ (18 : Int).toNat ≤ (if cell < 0 then -cell else cell)) <;> rfl
  · exact ⟨by decide, by decide, by decide⟩
  · have ev := RepL.ints (ns := [_, _]) |>.mp rl
    rw [ev] at ha
    refine k a _ _ W3 H' st g3.ok sm hn ha ?_ c0 c1
    cases decide ((10 : Int) ^ (18 : Int).toNat ≤ (if cell < 0 then -cell else cell))
    · exact Int.le_refl _
    · exact ea cell

end K09

namespace K09
open PySem PySem.Spec PyProof.Rows L2 Dw
variable [Tabs0]
/-! lots and rankings of any plain values -/
def wrongM (m : Int) : List D → Nat → Int → Option Nat
  | [], _, _ => none
  | d :: r, at_, least => if idxB d m && (match d with | .int i => decide (least ≤ i) | _ => false) then wrongM m r (at_ + 1) (match d with | .int i => i + 1 | _ => 0) else some at_
theorem wrong_int {m : Int} {i : Int} {r : List D} {k : Nat} {least : Int} : wrongM m (.int i :: r) k least = if (decide (0 ≤ i) && decide (i < m)) && decide (least ≤ i) then wrongM m r (k + 1) (i + 1) else some k := rfl
theorem wrong_not {m : Int} {d : D} {r : List D} {k : Nat} {least : Int} (h : idxB d m = false) : wrongM m (d :: r) k least = some k := by
  unfold wrongM
  rw [h]; rfl
def wrongD (m : Int) (ds : List D) : D := match wrongM m ds 0 0 with | none => .non | some k => .int k
def spWrongG : Spc where
  ty := List D × Nat
  args := fun x => [.tup x.1, .int x.2]
  ok := fun x => Pv (.tup x.1)
  rel := fun x e => e = wrongD x.2 x.1
def intOf : D → Int | .int i => i | _ => 0
theorem all_ints : ∀ {ds : List D}, ds.all wholeB = true → ds = (ds.map intOf).map D.int
  | [], _ => rfl
  | d :: r, h => by
    rw [List.all_cons, Bool.and_eq_true] at h
    obtain ⟨i, rfl⟩ := whole_of h.1
    rw [List.map_cons, List.map_cons, ← all_ints h.2]; rfl
def rangeI (n : Nat) : List Int := (List.range n).map fun k : Nat => (k : Int)
def rkB : D → Nat → Bool | .tup ds, n => ds.all wholeB && decide ((ds.map intOf).mergeSort (fun a b => decide (a ≤ b)) = rangeI n) | _, _ => false
def spIsRkG : Spc where
  ty := D × Nat
  args := fun x => [x.1, .int x.2]
  ok := fun x => Pv x.1 ∧ x.2 ≤ 8
  rel := fun x e => e = .bl (rkB x.1 x.2)
theorem sort_u {ns ns' : List Int} (h1 : ns'.Perm ns) (h2 : ns'.Pairwise (· ≤ ·)) : ns' = ns.mergeSort (fun a b => decide (a ≤ b)) := by
  have p := List.mergeSort_perm ns (fun a b => decide (a ≤ b))
  have s := List.pairwise_mergeSort (le := fun a b : Int => decide (a ≤ b)) (fun a b c h1 h2 => by
    simp only [decide_eq_true_eq] at h1 h2 ⊢
    omega) (fun a b => by
    simp only [Bool.or_eq_true, decide_eq_true_eq]
    omega) ns
  refine List.Perm.eq_of_pairwise (le := (· ≤ ·)) (fun a b _ _ h h' => Int.le_antisymm h h') h2 (s.imp fun {a b} h => of_decide_eq_true h) (h1.trans p.symm)
theorem rkB_iff {d : D} {n : Nat} : rkB d n = true ↔ ∃ o, d = .tup (ordD o) ∧ o.Perm (List.range n) := by
  constructor
  · intro h
    cases d <;> first | exact absurd h Bool.false_ne_true | skip
    rename_i ds
    have h : (ds.all wholeB && decide ((ds.map intOf).mergeSort (fun a b => decide (a ≤ b)) = rangeI n)) = true := h
    rw [Bool.and_eq_true, decide_eq_true_eq] at h
    obtain ⟨h1, h2⟩ := h
    have p := List.mergeSort_perm (ds.map intOf) (fun a b => decide (a ≤ b))
    rw [h2] at p
    have nn : ∀ i ∈ ds.map intOf, 0 ≤ i := fun i hi => by
      have := p.symm.subset hi
      obtain ⟨k, _, rfl⟩ := List.mem_map.mp this
      omega
    refine ⟨(ds.map intOf).map Int.toNat, ?_, ?_⟩
    · have e : ordD ((ds.map intOf).map Int.toNat) = (ds.map intOf).map D.int := by
        unfold ordD
        rw [List.map_map]
        refine List.map_congr_left fun i hi => ?_
        have := nn i hi
        show D.int ((i.toNat : Nat) : Int) = D.int i
        rw [show ((i.toNat : Nat) : Int) = i by omega]
      rw [e, ← all_ints h1]
    · have := (p.symm).map Int.toNat
      have e : (rangeI n).map Int.toNat = List.range n := by
        unfold rangeI
        rw [List.map_map, show (Int.toNat ∘ fun k : Nat => (k : Int)) = id by funext k; simp, List.map_id]
      rw [e] at this
      exact this
  · rintro ⟨o, rfl, h⟩
    show ((ordD o).all wholeB && decide (((ordD o).map intOf).mergeSort (fun a b => decide (a ≤ b)) = rangeI n)) = true
    have e1 : (ordD o).all wholeB = true := by
      unfold ordD
      rw [List.all_map, List.all_eq_true]
      exact fun _ _ => rfl
    have e2 : (ordD o).map intOf = o.map fun k : Nat => (k : Int) := by unfold ordD; rw [List.map_map]; rfl
    rw [e1, e2, ← sort_u (ns' := rangeI n) ((h.map _).symm) (List.pairwise_map.mpr ((List.pairwise_lt_range (n := n)).imp fun {a b} h => by omega)), decide_eq_true rfl]; rfl
theorem eqv_ints : ∀ xs ys : List Int, PyData.eqvAll (pys (xs.map D.int)) (pys (ys.map D.int)) = decide (xs = ys)
  | [], [] => rfl
  | [], y :: ys => by
    show false = _
    simp
  | x :: xs, [] => by
    show false = _
    simp
  | x :: xs, y :: ys => by
    show ((x == y) && PyData.eqvAll (pys (xs.map D.int)) (pys (ys.map D.int))) = _
    rw [eqv_ints xs ys, Bool.eq_iff_iff]
    simp
theorem sh_ints (xs : List Int) : dOk 1 (.lst (xs.map D.int)) = true := dOks_map fun _ _ => rfl
theorem eq_intsL {K : PySem.W.Frag} {xs ys : List Int} : DR2 (rEqX K) (.lst (xs.map D.int)) (.lst (ys.map D.int)) (.bl (decide (xs = ys))) := by
  obtain ⟨p1, s1⟩ := dOk_shaped (sh_ints xs) (by decide)
  obtain ⟨p2, s2⟩ := dOk_shaped (sh_ints ys) (by decide)
  have := eq_deep (K := K) p1 p2 s1 s2
  rw [show PyData.eqv (py (.lst (xs.map D.int))) (py (.lst (ys.map D.int))) = PyData.eqvAll (pys (xs.map D.int)) (pys (ys.map D.int)) from rfl, eqv_ints] at this
  exact this
theorem rng_int (n : Nat) : rng n = (rangeI n).map D.int := by unfold rng rangeI; rw [List.map_map]; rfl
/-! names of any plain values -/
def codesOf : D → List Nat | .str x => x.cps.toList | _ => []
def incB (ls : List (List Nat)) : Bool := (ls.zip (ls.drop 1)).all fun p => decide (p.1 < p.2)
def namesB (ds : List D) : Bool := ds.all nmB && incB (ds.map codesOf)
theorem all_names : ∀ {ds : List D}, ds.all nmB = true → ds = nameD (ds.map codesOf) ∧ ∀ l ∈ ds.map codesOf, NameOk l
  | [], _ => ⟨rfl, fun l h => absurd h (by simp)⟩
  | d :: r, h => by
    rw [List.all_cons, Bool.and_eq_true] at h
    obtain ⟨l, rfl, hl⟩ := nmB_iff.mp h.1
    obtain ⟨e, hr⟩ := all_names h.2
    have ec : codesOf (.str (tx l)) = l := tx_cps l
    rw [List.map_cons, ec]
    refine ⟨?_, fun x hx => ?_⟩
    · show D.str (tx l) :: r = D.str (tx l) :: nameD (r.map codesOf)
      rw [← e]
    · rcases List.mem_cons.mp hx with rfl | hx
      · exact hl
      · exact hr x hx
theorem codes_name (ls : List (List Nat)) : (nameD ls).map codesOf = ls := by
  unfold nameD
  rw [List.map_map]
  have e : (codesOf ∘ fun l => D.str (tx l)) = id := by funext l; exact tx_cps l
  rw [e, List.map_id]
theorem namesB_iff {ds : List D} : namesB ds = true ↔ ∃ ls, ds = nameD ls ∧ (∀ l ∈ ls, NameOk l) ∧ ∀ p ∈ ls.zip (ls.drop 1), p.1 < p.2 := by
  unfold namesB incB
  rw [Bool.and_eq_true]
  constructor
  · rintro ⟨h1, h2⟩
    obtain ⟨e, hn⟩ := all_names h1
    exact ⟨_, e, hn, fun p hp => of_decide_eq_true (List.all_eq_true.mp h2 p hp)⟩
  · rintro ⟨ls, rfl, h1, h2⟩
    rw [codes_name]
    refine ⟨?_, List.all_eq_true.mpr fun p hp => decide_eq_true (h2 p hp)⟩
    unfold nameD
    rw [List.all_map, List.all_eq_true]
    exact fun l hl => nmB_iff.mpr ⟨l, rfl, h1 l hl⟩
def spNamesG : Spc where
  ty := List D
  args := fun ds => [.tup ds]
  ok := fun ds => Pv (.tup ds)
  rel := fun ds e => e = .bl (namesB ds)
theorem cut_tail (ds : List D) : Dw.cutD ds (some 1) none = ds.drop 1 := by
  unfold Dw.cutD
  rw [HT.sIx_none]
  have e : HT.sIx ds.length 0 (some 1) = min 1 ds.length := by
    show (if (1 : Int) < 0 then ((1 : Int) + (ds.length : Int)).toNat else min (1 : Int).toNat ds.length) = _
    rw [if_neg (by decide)]; rfl
  rw [e]
  cases ds with
  | nil => rfl
  | cons d r =>
    rw [show min 1 (d :: r).length = 1 by simp [Nat.min_def], List.take_of_length_le (by simp)]
theorem names_ok {ls : List (List Nat)} (h : NamesOk ls) : namesB (nameD ls) = true := namesB_iff.mpr ⟨ls, rfl, h.all, h.inc⟩
theorem row_ok {l : List Nat} {n : Nat} (h : RowOk l n) (h1 : 1 ≤ n) (h8 : n ≤ 8) : rowB (.str (tx l)) n = true := rowB_iff.mpr ⟨l, rfl, h, h1, h8⟩
theorem pv_row {l : List Nat} {n : Nat} (h : RowOk l n) (h8 : n ≤ 8) : Pv (.str (tx l)) := pv_strs (fun c hc => (h.all c hc).lt) (by rw [h.len]; omega)
end K09

namespace K09
open PySem PySem.Spec PyProof.Rows L2 Dw
variable [Tabs0]
theorem d_wrong_in_lot {P : Program} {w : World} {K : PySem.W.Frag} {mg : Str → Option Value} {base : Heap} (T : Txt K w mg) : FnOk P w K mg base CX0 3 T.f_wrong_in_lot T.e_wrong_in_lot ["lot", "many"] (toSp (spWrongG)) := by
  refine fn_ok T.F_wrong_in_lot sc_wrong_in_lot (fun _ => rfl) fun cdv A outer s' H E hr => ?_
  refine ⟨_, (pss_cons (ps_set (i := 2) sc_wrong_in_lot.nd rfl (Or.inl rfl) pe_int) (pss_cons (ps_for PassesOwn.never rfl (enumTA K (by rfl) T.n_enumerate (pa_cons (pv 0) pa_nil)) (tupA K 2 rfl (pgs_cons (pg_name (i := 3) sc_wrong_in_lot.nd rfl (Or.inl rfl)) (pgs_cons (pg_name (i := 4) sc_wrong_in_lot.nd rfl (Or.inl rfl)) pgs_nil))) (pss_cons (ps_if (PW.pt (pw_or (pt_not (truA K (pe_call (d_is_index T) (hr.mono (by decide)) (by rfl) T.m_is_index T.F_is_index.kp T.b_is_index .nil pass0 (pa_cons (pv 4) (pa_cons (pv 1) pa_nil))))) (pw_or1 (pt_cmpR opLt (pv 4) (pv 2) (nomark _))))) (pss_one (ps_ret (pv 3))) pss_nil) (pss_one (ps_set (i := 2) sc_wrong_in_lot.nd rfl (Or.inl rfl) (pe_op (plusE K) (pv 4) pe_int))))) (pss_one (ps_ret pe_non)))), fun x hx => ?_⟩
  obtain ⟨ds, m⟩ := x
  have hd : Pv (.tup ds) := hx
  refine ds_seq (ds_asg (Ev.dl ev_int ?_))
  refine ds_seq (ds_for (fun xs i Γ' => ∃ (least : Int) (s3 s4 : Sl), Γ' = [.val (.tup ds), .val (.int m), .val (.int least), s3, s4] ∧ xs = enumD ds ∧ wrongM m ds 0 0 = wrongM m (ds.drop i) i least)
    (di_enumT (Ev.dl (ev_var rfl) ⟨ds, rfl, ⟨0, .unset, .unset, rfl, rfl, rfl⟩, fun i x Γ' hx' ⟨c, s3, s4, e, exs, hc⟩ => ?_, fun Γ' ⟨c, s3, s4, e, exs, hc⟩ => ?_⟩)))
  · subst e
    obtain ⟨y, hy, rfl⟩ := enumD_get hx'
    obtain ⟨hi, ey⟩ := List.getElem?_eq_some_iff.mp hy
    have ed : ds.drop i = y :: ds.drop (i + 1) := by rw [List.drop_eq_getElem_cons hi, ey]
    rw [ed] at hc
    have hp : Pv y := hd.tup.2 y (List.mem_of_getElem? hy)
    refine ⟨[3] ++ [4], _, dg_tup2 dg_name dg_name, ?_⟩
    cases hd' : idxB y m with
    | false =>
      refine ds_seq (ds_if (EvT.dl (b := true) (evt_or (a := true) (b := false) (evt_not (a := false) (evt_tru_bl (ev_call (s := spIndexG) (x := (y, m)) (eva_cons (ev_var rfl) (eva_cons (ev_var rfl) eva_nil)) (np1 (r := [_]) hp rfl) hp fun d h => by rw [h, hd']))) fun h => (nomatch h)) ⟨fun _ => ds_ret (Ev.dl (ev_var rfl) ?_), fun h => (nomatch h)⟩))
      show D.int (i : Int) = wrongD m ds
      unfold wrongD
      rw [hc, wrong_not hd']
    | true =>
      cases y <;> first | exact absurd hd' Bool.false_ne_true | skip
      rename_i z
      rw [wrong_int] at hc
      have hd2 : (decide (0 ≤ z) && decide (z < (m : Int))) = true := hd'
      rw [hd2, Bool.true_and] at hc
      refine ds_seq (ds_if (EvT.dl (b := decide (z < c)) (evt_or (a := false) (b := decide (z < c)) (evt_not (a := true) (evt_tru_bl (ev_call (s := spIndexG) (x := (.int z, m)) (eva_cons (ev_var rfl) (eva_cons (ev_var rfl) eva_nil)) rfl hp fun d h => by rw [h, hd']))) fun _ => evt_test (ev_op (ev_var rfl) (ev_var rfl) lt_int')) ⟨fun h => ?_, fun h => ?_⟩))
      · refine ds_ret (Ev.dl (ev_var rfl) ?_)
        show D.int (i : Int) = wrongD m ds
        unfold wrongD
        have : ¬ c ≤ z := by have := of_decide_eq_true h; omega
        rw [hc, if_neg (by rw [decide_eq_true_eq]; exact this)]
      · refine ds_next (ds_asg (Ev.dl (ev_op (ev_var rfl) ev_int pl_int) ⟨z + 1, _, _, rfl, exs, ?_⟩))
        have : c ≤ z := by have := of_decide_eq_false h; omega
        rw [hc, if_pos (decide_eq_true this)]
  · subst e
    refine ds_ret (Ev.dl ev_non ?_)
    show D.non = wrongD m ds
    unfold wrongD
    rw [hc, List.drop_eq_nil_of_le (by rw [enumD_length]; exact Nat.le_refl _)]; rfl
end K09

namespace K09
open PySem PySem.Spec PyProof.Rows L2 Dw
variable [Tabs0]
theorem d_is_ranking {P : Program} {w : World} {K : PySem.W.Frag} {mg : Str → Option Value} {base : Heap} (T : Txt K w mg) : FnOk P w K mg base CX0 2 T.f_is_ranking T.e_is_ranking ["value", "many"] (toSp (spIsRkG)) := by
  refine fn_ok T.F_is_ranking sc_is_ranking (fun _ => rfl) fun cdv A outer s' H E hr => ?_
  refine ⟨_, (pss_cons (ps_if (PW.pt (pw_or (pt_not (truA K (pe_callB (isiA K) (by rfl) T.n_isinstance (by decide +kernel) (pa_cons (pv 0) (pa_cons (pe_bltn (v := .ty "tuple") (by rfl) T.n_tuple (by decide +kernel) rfl) pa_nil))))) (pw_or1 (pt_not (truA K (pe_callB (allA K) (by rfl) T.n_all (by decide +kernel) (pa_cons (pe_lc (own := [("rule", 2)]) rfl sc_is_ranking.nd (piR K (pv 0)) (blkOk_by (own := [("rule", 2)]) (N := N_is_ranking) (sc := (defScope s_is_ranking)) (by decide +kernel)) (fun _ _ _ _ _ => pg_name (i := 2) sc_is_ranking.nd rfl (Or.inl rfl)) (fun _ _ _ _ _ => pts_nil) (fun _ _ _ _ _ => (pe_call (d_is_whole T) (hr.mono (by decide)) (by rfl) T.m_is_whole T.F_is_whole.kp T.b_is_whole .nil pass0 (pa_cons (pv 2) pa_nil)))) pa_nil))))))) (pss_one (ps_ret pe_bl)) pss_nil) (pss_one (ps_ret (pe_cmpR (eqA K hr.units) (pe_callB (sortTA K) (by rfl) T.n_sorted (by decide +kernel) (pa_cons (pv 0) pa_nil)) (pe_listRg rfl (by rfl) T.n_list (prg_1 (by rfl) T.n_range (pv 1))) (nomark _))))), fun x hx => ?_⟩
  obtain ⟨d, n⟩ := x
  obtain ⟨hd, h8⟩ := hx
  have hd : Pv d := hd
  have h8 : n ≤ 8 := h8
  by_cases ht : isTupB d = true
  · obtain ⟨ds, rfl⟩ := tup_of ht
    obtain ⟨hz, hp⟩ := hd.tup
    refine ds_seq (ds_if (EvT.dl (b := !ds.all wholeB) (evt_or (a := false) (b := !ds.all wholeB) (evt_not (a := true) (evt_tru_bl (ev_isi (ev_var rfl) ev_raw (.inl rfl) (.ty "tuple") rfl))) fun _ => evt_not (evt_tru_bl (ev_all_lc (K := K) (xs := ds) (c := fun d => d) (b := wholeB) ?it (by omega) fun k hk => ⟨[2], _, dg_name, fun i hi => hi, evt_yes, ev_call (s := spWholeG) (x := k) (eva_cons (ev_var rfl) eva_nil) (np1 (hp k hk) rfl) (hp k hk) fun d h => h⟩))) ⟨fun h => ?_, fun h => ds_next ?_⟩))
    case it => rw [List.map_id']; exact ej_tup (ev_var rfl)
    · refine ds_ret (Ev.dl ev_bl ?_)
      show D.bl false = D.bl (ds.all wholeB && _)
      rw [Bool.not_eq_true'] at h
      rw [h]; rfl
    · rw [Bool.not_eq_false'] at h
      refine ds_ret (Ev.dl (ev_op (x := .lst (((ds.map intOf).mergeSort (fun a b => decide (a ≤ b))).map D.int)) (y := .lst ((rangeI n).map D.int)) (EvN.ev ?srt) (EvN.ev ?rg) eq_intsL) ?_)
      case srt => exact evn_sortT (ns := ds.map intOf) (ev_cast (congrArg D.tup (all_ints h)) (ev_var rfl)) (by rw [List.length_map]; omega) fun ns h1 h2 => sort_u h1 h2
      case rg => rw [← rng_int]; exact evn_listRg (ev_var rfl) (by omega)
      show D.bl _ = D.bl (ds.all wholeB && _)
      rw [h]; rfl
  · have ht : isTupB d = false := by simpa using ht
    refine ds_seq (ds_if (EvT.dl (b := true) (evt_or (a := true) (b := false) (evt_not (a := false) (evt_tru_bl (ev_isi (ev_var rfl) ev_raw (.inl hd.ty) (.ty "tuple") (by rw [kit_tup hd.ty, ht])))) fun h => (nomatch h)) ⟨fun _ => ds_ret (Ev.dl ev_bl ?_), fun h => (nomatch h)⟩))
    cases d <;> first | rfl | exact nomatch ht
end K09

namespace K09
open PySem PySem.Spec PyProof.Rows L2 Dw
variable [Tabs0]
theorem d_are_names {P : Program} {w : World} {K : PySem.W.Frag} {mg : Str → Option Value} {base : Heap} (T : Txt K w mg) : FnOk P w K mg base CX0 2 T.f_are_names T.e_are_names ["values"] (toSp (spNamesG)) := by
  refine fn_ok T.F_are_names sc_are_names (fun _ => rfl) fun cdv A outer s' H E hr => ?_
  refine ⟨_, (pss_cons (ps_if (pt_not (truA K (pe_callB (allA K) (by rfl) T.n_all (by decide +kernel) (pa_cons (pe_lc (own := [("value", 3)]) rfl sc_are_names.nd (piR K (pv 0)) (blkOk_by (own := [("value", 3)]) (N := N_are_names) (sc := (defScope s_are_names)) (by decide +kernel)) (fun _ _ _ _ _ => pg_name (i := 3) sc_are_names.nd rfl (Or.inl rfl)) (fun _ _ _ _ _ => pts_nil) (fun _ _ _ _ _ => (pe_call (d_is_name T) (hr.mono (by decide)) (by rfl) T.m_is_name T.F_is_name.kp T.b_is_name .nil pass0 (pa_cons (pv 3) pa_nil)))) pa_nil)))) (pss_one (ps_ret pe_bl)) pss_nil) (pss_one (ps_ret (pe_callB (allA K) (by rfl) T.n_all (by decide +kernel) (pa_cons (pe_lc (own := [("one", 1), ("other", 2)]) rfl sc_are_names.nd (zipA K (by rfl) T.n_zip (pa_cons (pv 0) (pa_cons (pe_slice (slXA K) (pv 0) (po_some pe_int) po_none) pa_nil))) (blkOk_by (own := [("one", 1), ("other", 2)]) (N := N_are_names) (sc := (defScope s_are_names)) (by decide +kernel)) (fun _ _ _ _ _ => tupA K 2 rfl (pgs_cons (pg_name (i := 1) sc_are_names.nd rfl (Or.inl rfl)) (pgs_cons (pg_name (i := 2) sc_are_names.nd rfl (Or.inl rfl)) pgs_nil))) (fun _ _ _ _ _ => pts_nil) (fun _ _ _ _ _ => (pe_cmpR opLt (pv 1) (pv 2) (nomark _)))) pa_nil))))), fun x hx => ?_⟩
  obtain ⟨ds, rfl⟩ : ∃ l : List D, l = x := ⟨x, rfl⟩
  have hd : Pv (.tup ds) := hx
  obtain ⟨hz, hp⟩ := hd.tup
  refine ds_seq (ds_if (EvT.dl (b := !ds.all nmB) (evt_not (evt_tru_bl (ev_all_lc (K := K) (xs := ds) (c := fun d => d) (b := nmB) ?it (by omega) fun k hk => ⟨[3], _, dg_name, fun i hi => hi, evt_yes, ev_call (s := spNameG) (x := k) (eva_cons (ev_var rfl) eva_nil) (np1 (hp k hk) rfl) (hp k hk) fun d h => h⟩))) ⟨fun h => ?_, fun h => ds_next ?_⟩))
  case it => rw [List.map_id']; exact ej_tup (ev_var rfl)
  · refine ds_ret (Ev.dl ev_bl ?_)
    show D.bl false = D.bl (namesB ds)
    unfold namesB
    rw [Bool.not_eq_true'] at h
    rw [h]; rfl
  · rw [Bool.not_eq_false'] at h
    obtain ⟨e, hn⟩ := all_names h
    generalize hls : ds.map codesOf = ls at e hn
    subst e
    have el : (nameD ls).length = ls.length := List.length_map ..
    refine ds_ret (Ev.dl (ev_all_lc (xs := ls.zip (ls.drop 1)) (c := fun p => .tup [.str (tx p.1), .str (tx p.2)]) (b := fun p => decide (p.1 < p.2)) ?_ ?_ ?_) ?_)
    · rw [← zip_names]
      have e : nameD (ls.drop 1) = Dw.cutD (nameD ls) (some 1) none := by
        rw [cut_tail]
        unfold nameD
        rw [List.map_drop]
      rw [e]
      exact ei_zipT (ev_var rfl) (ev_sliceTY (ev_var rfl) (eo_some ev_int) eo_none)
    · rw [List.length_zip]; omega
    · intro p hp
      exact ⟨[1] ++ [2], _, dg_tup2 dg_name dg_name, fun i hi => hi, evt_yes, ev_op (ev_var rfl) (ev_var rfl) lt_tx⟩
    · show D.bl (incB ls) = D.bl (namesB (nameD ls))
      unfold namesB
      rw [h, codes_name]; rfl

end K09

namespace K09
open PySem PySem.Spec PyProof.Rows L2 Dw
variable [Tabs0]
/-! the layers -/
def rowAt (rs : List (List Nat)) (i : Nat) : List Nat := rs.getD i []
def minB (rs : List (List Nat)) (still : List Nat) (k : Nat) : Bool := still.any fun i => decide (sgn (rowAt rs i) k = 45)
def plusB (rs : List (List Nat)) (lay : List Nat) (i : Nat) : Bool := lay.any fun k => decide (sgn (rowAt rs i) k = 43)
def openB (rs : List (List Nat)) (i : Nat) : Bool := (rowAt rs i).any fun c => !decide (c = 46)
def open0 (rs : List (List Nat)) : List Nat := (List.range rs.length).filter (openB rs)
def layF (rs : List (List Nat)) : Nat → List (List Nat) → List Nat → List Nat → List (List Nat) × List Nat
  | 0, made, _, still => (made, still)
  | f + 1, made, left, still =>
    if still = [] then (if left = [] then made else made ++ [left], [])
    else if left.filter (fun k => !minB rs still k) = [] then (made, still)
    else layF rs f (made ++ [left.filter fun k => !minB rs still k]) (left.filter (minB rs still)) (still.filter fun i => !plusB rs (left.filter fun k => !minB rs still k) i)
def splitM (rs : List (List Nat)) (n : Nat) : List (List Nat) × List Nat := layF rs (n + 1) [] (List.range n) (open0 rs)
/-- a row that some layer settles, all ahead of it being dots, and none of it a minus -/
def Settled (rs : List (List Nat)) (made : List (List Nat)) (i : Nat) : Prop := ∃ pre lay post, made = pre ++ lay :: post ∧ (∀ l ∈ pre, ∀ k ∈ l, sgn (rowAt rs i) k = 46) ∧ (∀ k ∈ lay, sgn (rowAt rs i) k ≠ 45) ∧ ∃ k ∈ lay, sgn (rowAt rs i) k = 43
structure LayI (rs : List (List Nat)) (n : Nat) (made : List (List Nat)) (left still : List Nat) : Prop where
  perm : (made.flatten ++ left).Perm (List.range n)
  ne : ∀ l ∈ made, l ≠ []
  sub : still.Sublist (open0 rs)
  dots : ∀ i ∈ still, ∀ l ∈ made, ∀ k ∈ l, sgn (rowAt rs i) k = 46
  done : ∀ i ∈ open0 rs, i ∉ still → Settled rs made i
  inc : left.Sublist (List.range n)
theorem Settled.more {rs made i} (l : List (List Nat)) (h : Settled rs made i) : Settled rs (made ++ l) i := by
  obtain ⟨pre, lay, post, rfl, h1, h2, h3⟩ := h
  exact ⟨pre, lay, post ++ l, by simp, h1, h2, h3⟩
theorem filter_split (p : Nat → Bool) : ∀ l : List Nat, ((l.filter fun k => !p k) ++ l.filter p).Perm l
  | [] => .refl _
  | a :: l => by
    have ih := filter_split p l
    cases h : p a with
    | true =>
      rw [List.filter_cons_of_neg (by simp [h]), List.filter_cons_of_pos h]
      exact (List.perm_middle).trans (ih.cons a)
    | false =>
      rw [List.filter_cons_of_pos (by simp [h]), List.filter_cons_of_neg (by simp [h])]
      exact ih.cons a
theorem LayI.next {rs n made left still} (hs : ∀ i c, sgn (rowAt rs i) c = 43 ∨ sgn (rowAt rs i) c = 45 ∨ sgn (rowAt rs i) c = 46) (h : LayI rs n made left still) (hl : left.filter (fun k => !minB rs still k) ≠ []) :
    LayI rs n (made ++ [left.filter fun k => !minB rs still k]) (left.filter (minB rs still)) (still.filter fun i => !plusB rs (left.filter fun k => !minB rs still k) i) := by
  have nomin : ∀ i ∈ still, ∀ k ∈ left.filter (fun k => !minB rs still k), sgn (rowAt rs i) k ≠ 45 := fun i hi k hk z => by
    have h1 := (List.mem_filter.mp hk).2
    have : minB rs still k = true := List.any_eq_true.mpr ⟨i, hi, decide_eq_true z⟩
    rw [this] at h1; cases h1
  refine ⟨?_, fun l hm => ?_, (List.filter_sublist).trans h.sub, fun i hi l hm k hk => ?_, fun i hi hn => ?_, (List.filter_sublist).trans h.inc⟩
  · rw [List.flatten_append, List.append_assoc]
    refine (List.Perm.append_left _ ?_).trans h.perm
    simp only [List.flatten_cons, List.flatten_nil, List.append_nil]
    exact filter_split _ left
  · rcases List.mem_append.mp hm with hm | hm
    · exact h.ne l hm
    · rw [List.mem_singleton.mp hm]; exact hl
  · obtain ⟨hi, hp⟩ := List.mem_filter.mp hi
    rcases List.mem_append.mp hm with hm | hm
    · exact h.dots i hi l hm k hk
    · rw [List.mem_singleton.mp hm] at hk
      rcases hs i k with z | z | z
      · have : plusB rs (left.filter fun k => !minB rs still k) i = true := List.any_eq_true.mpr ⟨k, hk, decide_eq_true z⟩
        rw [this] at hp; cases hp
      · exact absurd z (nomin i hi k hk)
      · exact z
  · by_cases hi2 : i ∈ still
    · have hp : plusB rs (left.filter fun k => !minB rs still k) i = true := by
        cases q : plusB rs (left.filter fun k => !minB rs still k) i with
        | true => rfl
        | false => exact absurd (List.mem_filter.mpr ⟨hi2, by rw [q]; rfl⟩) hn
      obtain ⟨k, hk, z⟩ := List.any_eq_true.mp hp
      exact ⟨made, _, [], by simp, fun l hm k hk => h.dots i hi2 l hm k hk, nomin i hi2, k, hk, of_decide_eq_true z⟩
    · exact (h.done i hi hi2).more _
theorem lay_len {rs : List (List Nat)} {left still : List Nat} (hl : left.filter (fun k => !minB rs still k) ≠ []) : (left.filter (minB rs still)).length < left.length := by
  have := (filter_split (minB rs still) left).length_eq
  rw [List.length_append] at this
  have h2 : 0 < (left.filter fun k => !minB rs still k).length := List.length_pos_iff.mpr hl
  omega
theorem layI_0 (rs : List (List Nat)) (n : Nat) : LayI rs n [] (List.range n) (open0 rs) :=
  ⟨.refl _, fun l h => absurd h (by simp), List.Sublist.refl _, fun i _ l h => absurd h (by simp), fun i h h' => absurd h h', List.Sublist.refl _⟩
/-- how the making ends -/
theorem layF_end {rs : List (List Nat)} {n : Nat} (hs : ∀ i c, sgn (rowAt rs i) c = 43 ∨ sgn (rowAt rs i) c = 45 ∨ sgn (rowAt rs i) c = 46) : ∀ (f : Nat) (made : List (List Nat)) (left still : List Nat), LayI rs n made left still → left.length < f →
    (∃ ls, layF rs f made left still = (ls, []) ∧ LayI rs n ls [] []) ∨ (∃ ls lf st, layF rs f made left still = (ls, st) ∧ st ≠ [] ∧ LayI rs n ls lf st ∧ lf.filter (fun k => !minB rs st k) = [])
  | 0, _, _, _, _, h => absurd h (Nat.not_lt_zero _)
  | f + 1, made, left, still, h, hf => by
    unfold layF
    by_cases h1 : still = []
    · subst h1
      rw [if_pos rfl]
      refine .inl ⟨_, rfl, ?_⟩
      by_cases h2 : left = []
      · rw [if_pos h2]; subst h2; exact h
      · rw [if_neg h2]
        refine ⟨?_, fun l hm => ?_, h.sub, fun i hi => absurd hi (by simp), fun i hi hn => (h.done i hi hn).more _, List.nil_sublist _⟩
        · have := h.perm
          simpa using this
        · rcases List.mem_append.mp hm with hm | hm
          · exact h.ne l hm
          · rw [List.mem_singleton.mp hm]; exact h2
    · rw [if_neg h1]
      by_cases h2 : left.filter (fun k => !minB rs still k) = []
      · rw [if_pos h2]; exact .inr ⟨_, _, _, rfl, h1, h, h2⟩
      · rw [if_neg h2]
        exact layF_end hs f _ _ _ (h.next hs h2) (by have := lay_len h2; omega)
/-- a row along an order: dots, then a sign -/
theorem told_dots {l : List Nat} : ∀ {p : List Nat}, (∀ k ∈ p, sgn l k = 46) → told l p = []
  | [], _ => rfl
  | k :: p, h => by
    have ih := told_dots (l := l) (p := p) fun j hj => h j (List.mem_cons_of_mem _ hj)
    unfold told at ih ⊢
    rw [List.map_cons, List.filter_cons_of_neg (by rw [h k List.mem_cons_self]; decide)]
    exact ih
theorem told_app (l p q : List Nat) : told l (p ++ q) = told l p ++ told l q := by
  unfold told
  rw [List.map_append, List.filter_append]
theorem holds_lay {l : List Nat} : ∀ {q : List Nat}, (∀ k ∈ q, sgn l k = 43 ∨ sgn l k = 46) → (∃ k ∈ q, sgn l k = 43) → ∀ r, holdsB l (q ++ r) = true
  | [], _, h, _ => by obtain ⟨k, hk, _⟩ := h; cases hk
  | k :: q, h, h2, r => by
    rcases h k List.mem_cons_self with z | z
    · unfold holdsB told
      rw [List.cons_append, List.map_cons, List.filter_cons_of_pos (by rw [z]; decide), z]; rfl
    · have : told l (k :: q ++ r) = told l (q ++ r) := by
        unfold told
        rw [List.cons_append, List.map_cons, List.filter_cons_of_neg (by rw [z]; decide)]
      unfold holdsB
      rw [this]
      obtain ⟨j, hj, zj⟩ := h2
      rcases List.mem_cons.mp hj with rfl | hj
      · rw [z] at zj; cases zj
      · exact holds_lay (fun x hx => h x (List.mem_cons_of_mem _ hx)) ⟨j, hj, zj⟩ r
theorem holds_pre {l p q : List Nat} (h : ∀ k ∈ p, sgn l k = 46) : holdsB l (p ++ q) = holdsB l q := by
  unfold holdsB
  rw [told_app, told_dots h]; rfl
theorem holds_dots {l p : List Nat} (h : ∀ k ∈ p, sgn l k = 46) : holdsB l p = true := by
  unfold holdsB
  rw [told_dots h]
/-- layers each in some order -/
def walked (g : List Nat → List Nat) (ls : List (List Nat)) : List Nat := (ls.map g).flatten
theorem walked_perm {g : List Nat → List Nat} (hg : ∀ l, (g l).Perm l) : ∀ ls : List (List Nat), (walked g ls).Perm ls.flatten
  | [] => .refl _
  | l :: ls => by
    show (g l ++ walked g ls).Perm (l ++ ls.flatten)
    exact (hg l).append (walked_perm hg ls)
theorem settled_holds {rs : List (List Nat)} {ls : List (List Nat)} {i : Nat} (hs : ∀ i c, sgn (rowAt rs i) c = 43 ∨ sgn (rowAt rs i) c = 45 ∨ sgn (rowAt rs i) c = 46) {g : List Nat → List Nat} (hg : ∀ l, (g l).Perm l) (h : Settled rs ls i) : holdsB (rowAt rs i) (walked g ls) = true := by
  obtain ⟨pre, lay, post, rfl, h1, h2, k, hk, hk2⟩ := h
  have e : walked g (pre ++ lay :: post) = walked g pre ++ (g lay ++ walked g post) := by
    unfold walked
    simp
  rw [e, holds_pre fun k hk => ?_]
  · refine holds_lay (fun j hj => ?_) ⟨k, (hg lay).mem_iff.mpr hk, hk2⟩ _
    rcases hs i j with z | z | z
    · exact .inl z
    · exact absurd z (h2 j ((hg lay).mem_iff.mp hj))
    · exact .inr z
  · have hm := (walked_perm hg pre).mem_iff.mp hk
    obtain ⟨l, hl, hk⟩ := List.mem_flatten.mp hm
    exact h1 l hl k hk
theorem closed_dots {rs : List (List Nat)} {i : Nat} (hi : i < rs.length) (h : i ∉ open0 rs) (k : Nat) : sgn (rowAt rs i) k = 46 := by
  have hn : openB rs i = false := by
    cases q : openB rs i with
    | false => rfl
    | true => exact absurd (List.mem_filter.mpr ⟨List.mem_range.mpr hi, q⟩) h
  unfold openB at hn
  unfold sgn
  rw [List.getD_eq_getElem?_getD]
  cases q : (rowAt rs i)[k]? with
  | none => rfl
  | some c =>
    have := (List.any_eq_false.mp hn) c (List.mem_of_getElem? q)
    simpa using this
/-- where the layers end well, each order through them fits -/
theorem lay_fits {rs : List (List Nat)} {n : Nat} {ls : List (List Nat)} (hs : ∀ i c, sgn (rowAt rs i) c = 43 ∨ sgn (rowAt rs i) c = 45 ∨ sgn (rowAt rs i) c = 46) (h : LayI rs n ls [] []) {g : List Nat → List Nat} (hg : ∀ l, (g l).Perm l) :
    (walked g ls).Perm (List.range n) ∧ ∀ i, i < rs.length → holdsB (rowAt rs i) (walked g ls) = true := by
  refine ⟨(walked_perm hg ls).trans (by have := h.perm; simpa using this), fun i hi => ?_⟩
  by_cases ho : i ∈ open0 rs
  · exact settled_holds hs hg (h.done i ho (by simp))
  · exact holds_dots fun k _ => closed_dots hi ho k
/-- where they end badly, no order fits -/
theorem lay_stuck' {rs : List (List Nat)} {n : Nat} {ls : List (List Nat)} {lf st : List Nat} (h : LayI rs n ls lf st) (hne : st ≠ []) (hl : lf.filter (fun k => !minB rs st k) = []) (hr : ∀ i, i < rs.length → (rowAt rs i).length ≤ n) (o : List Nat) (ho : o.Perm (List.range n)) : ∃ i ∈ st, holdsB (rowAt rs i) o = false := by
  have bar : ∀ k ∈ lf, ∃ i ∈ st, sgn (rowAt rs i) k = 45 := fun k hk => by
    have : minB rs st k = true := by
      cases q : minB rs st k with
      | true => rfl
      | false =>
        have hm : k ∈ lf.filter (fun k => !minB rs st k) := List.mem_filter.mpr ⟨hk, by rw [q]; rfl⟩
        rw [hl] at hm; cases hm
    obtain ⟨i, hi, z⟩ := List.any_eq_true.mp this
    exact ⟨i, hi, of_decide_eq_true z⟩
  have inn : ∀ i ∈ st, i < rs.length := fun i hi => List.mem_range.mp (List.mem_filter.mp (h.sub.subset hi)).1
  have pl : ∀ k < n, k ∉ lf → ∀ i ∈ st, sgn (rowAt rs i) k = 46 := fun k hk hn i hi => by
    have : k ∈ ls.flatten ++ lf := h.perm.mem_iff.mpr (List.mem_range.mpr hk)
    rcases List.mem_append.mp this with hm | hm
    · obtain ⟨l, hl, hk⟩ := List.mem_flatten.mp hm
      exact h.dots i hi l hl k hk
    · exact absurd hm hn
  have hlf : ∃ k ∈ lf, k < n := by
    obtain ⟨i, hi⟩ := List.exists_mem_of_ne_nil st hne
    have ho := (List.mem_filter.mp (h.sub.subset hi)).2
    obtain ⟨c, hc, z⟩ := List.any_eq_true.mp ho
    obtain ⟨k, hk, e⟩ := List.mem_iff_getElem.mp hc
    have hkn : k < n := Nat.lt_of_lt_of_le hk (hr i (inn i hi))
    by_cases hk2 : k ∈ lf
    · exact ⟨k, hk2, hkn⟩
    · have := pl k hkn hk2 i hi
      unfold sgn at this
      rw [List.getD_eq_getElem?_getD, List.getElem?_eq_getElem hk] at this
      have this : (rowAt rs i)[k] = 46 := this
      rw [e] at this
      rw [this] at z; cases z
  obtain ⟨k0, hk0, hk0n⟩ := hlf
  -- the first of the order that is in no layer
  have first : ∀ o : List Nat, (∃ k ∈ o, k ∈ lf) → ∃ p k q, o = p ++ k :: q ∧ k ∈ lf ∧ ∀ j ∈ p, j ∉ lf := fun o => by
    induction o with
    | nil => rintro ⟨k, hk, _⟩; cases hk
    | cons a o ih =>
      intro hx
      by_cases ha : a ∈ lf
      · exact ⟨[], a, o, rfl, ha, fun j hj => absurd hj (by simp)⟩
      · obtain ⟨k, hk, hk2⟩ := hx
        rcases List.mem_cons.mp hk with rfl | hk
        · exact absurd hk2 ha
        · obtain ⟨p, j, q, e, h1, h2⟩ := ih ⟨k, hk, hk2⟩
          refine ⟨a :: p, j, q, by rw [e]; rfl, h1, fun x hx => ?_⟩
          rcases List.mem_cons.mp hx with rfl | hx
          · exact ha
          · exact h2 x hx
  obtain ⟨p, k, q, e, h1, h2⟩ := first o ⟨k0, ho.mem_iff.mpr (List.mem_range.mpr hk0n), hk0⟩
  obtain ⟨i, hi, z⟩ := bar k h1
  refine ⟨i, hi, ?_⟩
  rw [e, holds_pre fun j hj => pl j (List.mem_range.mp (ho.mem_iff.mp (by rw [e]; exact List.mem_append_left _ hj))) (h2 j hj) i hi]
  unfold holdsB told
  rw [List.map_cons, List.filter_cons_of_pos (by rw [z]; decide), z]; rfl
/-! all orders -/
def allM (n : Nat) : Nat → List (List Nat)
  | 0 => [[]]
  | i + 1 => (allM n i).flatMap fun o => ((List.range n).filter fun k => !decide (k ∈ o)).map fun k => o ++ [k]
theorem allM_mem (n : Nat) : ∀ (i : Nat) (o : List Nat), o ∈ allM n i ↔ o.length = i ∧ o.Nodup ∧ ∀ k ∈ o, k < n
  | 0, o => by
    show o ∈ [[]] ↔ _
    constructor
    · intro h; rw [List.mem_singleton.mp h]; exact ⟨rfl, List.nodup_nil, fun k h => absurd h (by simp)⟩
    · rintro ⟨h, _⟩
      rw [List.length_eq_zero_iff.mp h]; exact List.mem_singleton.mpr rfl
  | i + 1, o => by
    show o ∈ List.flatMap _ _ ↔ _
    rw [List.mem_flatMap]
    constructor
    · rintro ⟨p, hp, ho⟩
      obtain ⟨k, hk, rfl⟩ := List.mem_map.mp ho
      obtain ⟨hk1, hk2⟩ := List.mem_filter.mp hk
      obtain ⟨l, nd, lt⟩ := (allM_mem n i p).mp hp
      have hkp : k ∉ p := by simpa using hk2
      refine ⟨by rw [List.length_append, l]; rfl, ?_, fun j hj => ?_⟩
      · rw [List.nodup_append]
        exact ⟨nd, by simp, fun a ha b hb e => by rw [List.mem_singleton.mp hb] at e; subst e; exact hkp ha⟩
      · rcases List.mem_append.mp hj with hj | hj
        · exact lt j hj
        · rw [List.mem_singleton.mp hj]; exact List.mem_range.mp hk1
    · rintro ⟨l, nd, lt⟩
      have hne : o ≠ [] := fun z => by rw [z] at l; cases l
      have e := List.dropLast_concat_getLast hne
      have nd' := nd
      rw [← e, List.nodup_append] at nd'
      refine ⟨o.dropLast, (allM_mem n i _).mpr ⟨by rw [List.length_dropLast, l]; rfl, nd'.1, fun k hk => lt k (List.dropLast_subset o hk)⟩, List.mem_map.mpr ⟨o.getLast hne, List.mem_filter.mpr ⟨List.mem_range.mpr (lt _ (List.getLast_mem hne)), ?_⟩, e⟩⟩
      have : o.getLast hne ∉ o.dropLast := fun z => nd'.2.2 _ z _ (List.mem_singleton.mpr rfl) rfl
      simpa using this
theorem nd_perm : ∀ (o m : List Nat), o.Nodup → (∀ k ∈ o, k ∈ m) → m.length ≤ o.length → o.Perm m
  | [], m, _, _, h => by
    have : m = [] := List.length_eq_zero_iff.mp (Nat.le_zero.mp h)
    subst this; exact .refl _
  | a :: o, m, nd, hm, hl => by
    have p := List.perm_cons_erase (hm a List.mem_cons_self)
    obtain ⟨n1, n2⟩ := List.nodup_cons.mp nd
    refine ((nd_perm o (m.erase a) n2 (fun k hk => (List.mem_erase_of_ne (fun e : k = a => n1 (by rw [← e]; exact hk))).mpr (hm k (List.mem_cons_of_mem _ hk))) ?_).cons a).trans p.symm
    have := p.length_eq
    rw [List.length_cons] at this hl
    omega
theorem perm_iff {n : Nat} {o : List Nat} : o.Perm (List.range n) ↔ o.length = n ∧ o.Nodup ∧ ∀ k ∈ o, k < n := by
  constructor
  · intro h
    exact ⟨by rw [h.length_eq, List.length_range], h.nodup_iff.mpr List.nodup_range, fun k hk => List.mem_range.mp (h.mem_iff.mp hk)⟩
  · rintro ⟨l, nd, lt⟩
    exact nd_perm o _ nd (fun k hk => List.mem_range.mpr (lt k hk)) (by rw [List.length_range, l]; exact Nat.le_refl _)
def fitM (rs : List (List Nat)) (n : Nat) : List (List Nat) := (allM n n).filter fun o => rs.all fun r => holdsB r o
theorem fitM_mem {rs : List (List Nat)} {n : Nat} {o : List Nat} : o ∈ fitM rs n ↔ o.Perm (List.range n) ∧ ∀ r ∈ rs, holdsB r o = true := by
  unfold fitM
  rw [List.mem_filter, allM_mem, perm_iff, List.all_eq_true]
theorem all_rows {rs : List (List Nat)} {p : List Nat → Prop} : (∀ r ∈ rs, p r) ↔ ∀ i, i < rs.length → p (rowAt rs i) := by
  constructor
  · intro h i hi
    unfold rowAt
    rw [List.getD_eq_getElem?_getD, List.getElem?_eq_getElem hi]
    exact h _ (List.getElem_mem hi)
  · intro h r hr
    obtain ⟨i, hi, rfl⟩ := List.mem_iff_getElem.mp hr
    have := h i hi
    unfold rowAt at this
    rw [List.getD_eq_getElem?_getD, List.getElem?_eq_getElem hi] at this
    exact this
end K09

namespace K09
open PySem PySem.Spec PyProof.Rows L2 Dw
variable [Tabs0]
theorem np_to {o : List Nat} {r : List D} (h : noPs r = true) : noPs (.tup (ordD o) :: r) = true := by show (noPs (ordD o) && noPs r) = true; rw [np_ord, h]; rfl
theorem np_lo {o : List Nat} {r : List D} (h : noPs r = true) : noPs (.lst (ordD o) :: r) = true := by show (noPs (ordD o) && noPs r) = true; rw [np_ord, h]; rfl
theorem np_tn {o : List (List Nat)} {r : List D} (h : noPs r = true) : noPs (.tup (nameD o) :: r) = true := by show (noPs (nameD o) && noPs r) = true; rw [np_name, h]; rfl
theorem np_ln {o : List (List Nat)} {r : List D} (h : noPs r = true) : noPs (.lst (nameD o) :: r) = true := by show (noPs (nameD o) && noPs r) = true; rw [np_name, h]; rfl
theorem np_bk {C : Addr} {ls rs : List (List Nat)} {r : List D} (h : noPs r = true) : noPs (bookD C ls rs :: r) = true := by
  have e := np_book C ls rs
  have e : (noP (bookD C ls rs) && true) = true := e
  rw [Bool.and_true] at e
  show (noP (bookD C ls rs) && noPs r) = true
  rw [e, h]; rfl
theorem sgn_ev {K : PySem.W.Frag} {ta tb : TE} {Γ : Gam} {l : List Nat} {n k : Nat} (h : RowOk l n) (h8 : n ≤ 8) (hk : k < n) (ha : Ev ta Γ (.str (tx l))) (hb : Ev tb Γ (.int k)) : Ev (tOp (rIx K) ta tb) Γ (.str (ch (sgn l k))) := ev_op ha hb (dr2_ixS (h.sz h8) (sgn_at h.len hk))
def spCkRk : Spc where
  ty := List Nat × Nat
  args := fun x => [.tup (ordD x.1), .int x.2]
  ok := fun x => x.1.Perm (List.range x.2) ∧ x.2 ≤ 8
  rel := fun _ d => d = .non
def spRowHolds : Spc where
  ty := List Nat × List Nat
  args := fun x => [.str (tx x.1), .tup (ordD x.2)]
  ok := fun x => ∃ n, RowOk x.1 n ∧ n ≤ 8 ∧ ∀ k ∈ x.2, k < n
  rel := fun x d => d = .bl (holdsB x.1 x.2)
def spAllHold : Spc where
  ty := List (List Nat) × List Nat
  args := fun x => [.tup (nameD x.1), .tup (ordD x.2)]
  ok := fun x => ∃ n, (∀ r ∈ x.1, RowOk r n) ∧ n ≤ 8 ∧ x.1.length ≤ 1000 ∧ ∀ k ∈ x.2, k < n
  rel := fun x d => d = .bl (x.1.all fun r => holdsB r x.2)
theorem holds_at {l o : List Nat} {i k : Nat} (q : o[i]? = some k) (h : ∀ j ∈ o.take i, sgn l j = 46) (hk : sgn l k ≠ 46) : holdsB l o = decide (sgn l k = 43) := by
  obtain ⟨hi, e⟩ := List.getElem?_eq_some_iff.mp q
  have e1 : o = o.take i ++ k :: o.drop (i + 1) := by
    rw [← e, List.getElem_cons_drop, List.take_append_drop]
  have e2 : holdsB l o = holdsB l (o.take i ++ k :: o.drop (i + 1)) := by rw [← e1]
  rw [e2, holds_pre h]
  unfold holdsB told
  rw [List.map_cons, List.filter_cons_of_pos (by simp [hk])]
def rowsD (b : Bool) (rs : List (List Nat)) : D := if b = true then .lst (nameD rs) else .tup (nameD rs)
theorem np_rd {b : Bool} {o : List (List Nat)} {r : List D} (h : noPs r = true) : noPs (rowsD b o :: r) = true := by
  cases b with
  | true => exact np_ln h
  | false => exact np_tn h
theorem isEmpty_ord (l : List Nat) : (ordD l).isEmpty = decide (l = []) := by cases l <;> rfl
end K09

namespace K09
open PySem PySem.Spec PyProof.Rows L2 Dw
variable [Tabs0]
theorem d_row_holds {P : Program} {w : World} {K : PySem.W.Frag} {mg : Str → Option Value} {base : Heap} (T : Txt K w mg) : FnOk P w K mg base CX0 1 T.f_row_holds T.e_row_holds ["row", "ranking"] (toSp (spRowHolds)) := by
  refine fn_ok T.F_row_holds sc_row_holds (fun _ => rfl) fun cdv A outer s' H E hr => ?_
  refine ⟨_, (pss_cons (ps_for PassesOwn.never rfl (piR K (pv 1)) (pg_name (i := 2) sc_row_holds.nd rfl (Or.inl rfl)) (pss_one (ps_if (pt_cmpR (neA K hr.units) (pe_ix (ixA K) (pv 0) (pv 2) (fun _ _ => rfl)) pe_str (nomark _)) (pss_one (ps_ret (pe_cmpR (eqA K hr.units) (pe_ix (ixA K) (pv 0) (pv 2) (fun _ _ => rfl)) pe_str (nomark _)))) pss_nil))) (pss_one (ps_ret pe_bl))), fun x hx => ?_⟩
  obtain ⟨l, o⟩ := x
  obtain ⟨n, hl, h8, hk⟩ := hx
  have hl : RowOk l n := hl
  have hk : ∀ k ∈ o, k < n := hk
  refine ds_seq (ds_for (fun xs i Γ' => xs = ordD o ∧ ∃ s : Sl, Γ' = [.val (.str (tx l)), .val (.tup (ordD o)), s] ∧ ∀ k ∈ o.take i, sgn l k = 46)
    (dj_tup (Ev.dl (ev_var rfl) ⟨ordD o, rfl, ⟨rfl, _, rfl, fun k h => absurd h (by simp)⟩, fun i x Γ' hx' ⟨exs, s, e, hd⟩ => ?_, fun Γ' ⟨exs, s, e, hd⟩ => ?_⟩)))
  · subst e
    have hx3 : (o.map fun k : Nat => D.int k)[i]? = some x := hx'
    rw [List.getElem?_map] at hx3
    cases q : o[i]? with
    | none => rw [q] at hx3; cases hx3
    | some k =>
      rw [q] at hx3; cases hx3
      have hkn := hk k (List.mem_of_getElem? q)
      refine ⟨[2], _, dg_name, ds_if (EvT.dl (evt_test (ev_op (sgn_ev hl h8 hkn (ev_var rfl) (ev_var rfl)) ev_str ne_str')) ⟨fun h => ?_, fun h => ?_⟩)⟩
      · refine ds_ret (Ev.dl (ev_op (sgn_ev hl h8 hkn (ev_var rfl) (ev_var rfl)) ev_str eq_str') ?_)
        show D.bl _ = D.bl (holdsB l o)
        have hne : sgn l k ≠ 46 := fun z => by
          rw [z, ← ch_dot] at h
          simp at h
        rw [holds_at q hd hne, ch_plus]
        congr 1
        rw [Bool.eq_iff_iff]; simp [ch_eq]
      · refine ds_next ⟨exs, _, rfl, fun j hj => ?_⟩
        have hz : sgn l k = 46 := by
          rw [ch_dot] at h
          simpa [ch_eq] using h
        rw [List.take_add_one, q] at hj
        rcases List.mem_append.mp hj with hj | hj
        · exact hd j hj
        · rw [List.mem_singleton.mp hj]; exact hz
  · subst e
    rw [ordD_len, List.take_length] at hd
    exact ds_ret (Ev.dl ev_bl (congrArg D.bl (holds_dots hd).symm))
end K09

namespace K09
open PySem PySem.Spec PyProof.Rows L2 Dw
variable [Tabs0]
theorem d_all_hold {P : Program} {w : World} {K : PySem.W.Frag} {mg : Str → Option Value} {base : Heap} (T : Txt K w mg) : FnOk P w K mg base CX0 2 T.f_all_hold T.e_all_hold ["rows", "ranking"] (toSp (spAllHold)) := by
  refine fn_ok T.F_all_hold sc_all_hold (fun _ => rfl) fun cdv A outer s' H E hr => ?_
  refine ⟨_, (pss_one (ps_ret (pe_callB (allA K) (by rfl) T.n_all (by decide +kernel) (pa_cons (pe_lc (own := [("row", 2)]) rfl sc_all_hold.nd (piR K (pv 0)) (blkOk_by (own := [("row", 2)]) (N := N_all_hold) (sc := (defScope s_all_hold)) (by decide +kernel)) (fun _ _ _ _ _ => pg_name (i := 2) sc_all_hold.nd rfl (Or.inl rfl)) (fun _ _ _ _ _ => pts_nil) (fun _ _ _ _ _ => (pe_call (d_row_holds T) (hr.mono (by decide)) (by rfl) T.m_row_holds T.F_row_holds.kp T.b_row_holds .nil pass0 (pa_cons (pv 2) (pa_cons (pv 1) pa_nil))))) pa_nil)))), fun x hx => ?_⟩
  obtain ⟨rs, o⟩ := x
  obtain ⟨n, hr', h8, hz, hk⟩ := hx
  have hr' : ∀ r ∈ rs, RowOk r n := hr'
  have hz : rs.length ≤ 1000 := hz
  exact ds_ret (Ev.dl (ev_all_lc (K := K) (xs := rs) (c := fun r => .str (tx r)) (b := fun r => holdsB r o) (ej_tup (ev_var rfl)) (by omega) fun r hr => ⟨[2], _, dg_name, fun i hi => hi, evt_yes, ev_call (s := spRowHolds) (x := (r, o)) (eva_cons (ev_var rfl) (eva_cons (ev_var rfl) eva_nil)) (np_to (r := []) rfl) ⟨n, hr' r hr, h8, hk⟩ fun d h => h⟩) rfl)
end K09

namespace K09
open PySem PySem.Spec PyProof.Rows L2 Dw
variable [Tabs0]
theorem lay_step {rs : List (List Nat)} {f : Nat} {made : List (List Nat)} {left still : List Nat} (h1 : still ≠ []) : layF rs (f + 1) made left still = if left.filter (fun k => !minB rs still k) = [] then (made, still) else layF rs f (made ++ [left.filter fun k => !minB rs still k]) (left.filter (minB rs still)) (still.filter fun i => !plusB rs (left.filter fun k => !minB rs still k) i) := by
  show (if still = [] then _ else _) = _
  rw [if_neg h1]
/-- what stays so while layers are made -/
structure Mk (rs : List (List Nat)) (n m : Nat) (made : List (List Nat)) (left still : List Nat) : Prop where
  eq : layF rs m made left still = splitM rs n
  lt : left.length < m
  few : made.length + left.length ≤ n
  ltn : ∀ k ∈ left, k < n
  ltr : ∀ i ∈ still, i < rs.length
  fst : still.length ≤ rs.length
  flat : made.flatten.length + left.length ≤ n
theorem Mk.next {rs n m made left still} (h : Mk rs n (m + 1) made left still) (h1 : still ≠ []) (h2 : left.filter (fun k => !minB rs still k) ≠ []) : Mk rs n m (made ++ [left.filter fun k => !minB rs still k]) (left.filter (minB rs still)) (still.filter fun i => !plusB rs (left.filter fun k => !minB rs still k) i) := by
  have l := lay_len h2
  have e := h.eq
  rw [lay_step h1, if_neg h2] at e
  refine ⟨e, by have := h.lt; omega, ?_, fun k hk => h.ltn k (List.mem_filter.mp hk).1, fun i hi => h.ltr i (List.mem_filter.mp hi).1, Nat.le_trans (List.length_filter_le _ _) h.fst, ?_⟩
  · have := h.few
    rw [List.length_append]
    show made.length + 1 + _ ≤ n
    omega
  · have := h.flat
    have e2 := (filter_split (minB rs still) left).length_eq
    rw [List.length_append] at e2
    rw [List.flatten_append, List.length_append]
    simp only [List.flatten_cons, List.flatten_nil, List.append_nil]
    omega
def spFits (C : Addr) : Spc where
  ty := Bk × List Nat
  args := fun x => [bookD C x.1.1 x.1.2, .tup (ordD x.2)]
  ok := fun x => BookOk x.1.1 x.1.2 ∧ x.2.Perm (List.range x.1.1.length)
  rel := fun x d => d = .bl (x.1.2.all fun r => holdsB r x.2)
theorem BookOk.n8 {ls rs} (h : BookOk ls rs) : ls.length ≤ 8 := h.names.hi
theorem ev_names {C : Addr} {K : PySem.W.Frag} {t : TE} {Γ : Gam} {ls rs : List (List Nat)} (h : Ev t Γ (.tup (nameD ls))) : Ev (tCB (Dw.rLen K) (tCons t tNil)) Γ (.int (ls.length : Nat)) := ev_cast (congrArg (fun n : Nat => D.int n) (nameD_len ls)) (ev_lenT (ds := nameD ls) h)
end K09

namespace K09
open PySem PySem.Spec PyProof.Rows L2 Dw
variable [Tabs0]
theorem ev_inOT {K : PySem.W.Frag} {Γ : Gam} {ta tb : TE} {neg : Bool} {r' : R2} {c : Nat} {l : List Nat} (ha : Ev ta Γ (.int c)) (h : Ev tb Γ (.tup (ordN l))) : Ev (tOp (rOr (rIn K neg) r') ta tb) Γ (.bl (if neg then !decide (c ∈ l) else decide (c ∈ l))) := by
  have e := ev_inT (neg := neg) (K := K) (r' := r') ha h rfl (sc_ord l)
  rw [show scV (.int (c : Int)) = V.int (c : Int) from rfl, inV_ord c l] at e
  exact e
def extM (n : Nat) (o : List Nat) : List (List Nat) := ((List.range n).filter fun k => !decide (k ∈ o)).map fun k => o ++ [k]
theorem allM_succ (n i : Nat) : allM n (i + 1) = (allM n i).flatMap (extM n) := rfl
theorem extM_len (n : Nat) (o : List Nat) : (extM n o).length ≤ n := by
  unfold extM
  rw [List.length_map]
  have := List.length_filter_le (fun k => !decide (k ∈ o)) (List.range n)
  rw [List.length_range] at this
  exact this
theorem flat_len (n : Nat) : ∀ l : List (List Nat), (l.flatMap (extM n)).length ≤ l.length * n
  | [] => Nat.zero_le _
  | o :: l => by
    rw [List.flatMap_cons, List.length_append, List.length_cons, Nat.add_mul]
    have := extM_len n o
    have := flat_len n l
    omega
theorem allM_len (n : Nat) : ∀ i, (allM n i).length ≤ n ^ i
  | 0 => Nat.le_refl _
  | i + 1 => by
    rw [allM_succ, Nat.pow_succ]
    exact Nat.le_trans (flat_len n _) (Nat.mul_le_mul_right n (allM_len n i))
theorem pow5 {i n : Nat} (h : i ≤ 5) (hn : n ≤ 5) : n ^ i ≤ 3125 := Nat.le_trans (Nat.pow_le_pow_left hn i) (Nat.le_trans (Nat.pow_le_pow_right (by decide) h) (by decide))
def spAll : Spc where
  ty := Nat
  args := fun n => [.int n]
  ok := fun n => n ≤ 5
  rel := fun n d => d = .lst (ordT (allM n n))
def spBook : Spc where
  ty := Nat × Nat × Nat
  args := fun x => [.purse, .int x.1, .int x.2.1, .int x.2.2]
  ok := fun x => 1 ≤ x.1 ∧ 1 ≤ x.2.1 ∧ x.1 + x.2.1 ≤ 9 ∧ x.2.2 ≤ 20
  rel := fun x d => ∃ ls rs, d = .tup [.lst (nameD ls), .lst (nameD rs)] ∧ BookOk ls rs ∧ x.1 ≤ ls.length ∧ ls.length < x.1 + x.2.1 ∧ rs.length ≤ x.2.2
end K09

namespace K09
open PySem PySem.Spec PyProof.Rows L2 Dw
variable [Tabs0]
theorem d__law_all {P : Program} {w : World} {K : PySem.W.Frag} {mg : Str → Option Value} {base : Heap} (T : Txt K w mg) : FnOk P w K mg base CX0 1 T.f__law_all T.e__law_all ["_law_many"] (toSp (spAll)) := by
  refine fn_ok T.F__law_all sc__law_all (fun _ => rfl) fun cdv A outer s' H E hr => ?_
  refine ⟨_, (pss_cons (ps_set (i := 1) sc__law_all.nd rfl (Or.inl rfl) (pe_lst (pa_cons (pe_tup pa_nil) pa_nil))) (pss_cons (ps_for PassesOwn.never rfl (pi_range1 (by rfl) T.n_range (pa_cons (pv 0) pa_nil)) (pg_name (i := 2) sc__law_all.nd rfl (Or.inl rfl)) (pss_cons (ps_set (i := 3) sc__law_all.nd rfl (Or.inl rfl) (pe_lst pa_nil)) (pss_cons (ps_for PassesOwn.never rfl (piR K (pv 1)) (pg_name (i := 4) sc__law_all.nd rfl (Or.inr rfl)) (pss_one (ps_set (i := 3) sc__law_all.nd rfl (Or.inl rfl) (pe_op (plusE K) (pv 3) (pe_lc (own := [("_law_k", 5)]) rfl sc__law_all.nd (pi_range1 (by rfl) T.n_range (pa_cons (pv 0) pa_nil)) (blkOk_by (own := [("_law_k", 5)]) (N := N__law_all) (sc := (defScope s__law_all)) (by decide +kernel)) (fun _ _ _ _ _ => pg_name (i := 5) sc__law_all.nd rfl (Or.inl rfl)) (fun _ _ _ _ _ => pts_one (pt_cmpR (ninA K) (pv 5) (pv 4) (by rfl))) (fun _ _ _ _ _ => (pe_op (plusE K) (pv 4) (pe_tup (pa_cons (pv 5) pa_nil))))))))) (pss_one (ps_set (i := 1) sc__law_all.nd rfl (Or.inl rfl) (pv 3)))))) (pss_one (ps_ret (pv 1))))), fun x hx => ?_⟩
  obtain ⟨n, rfl⟩ : ∃ l : Nat, l = x := ⟨x, rfl⟩
  have hn : n ≤ 5 := hx
  refine ds_seq (ds_asg (Ev.dl (EvN.ev (evn_lst (eva_cons (ev_tup eva_nil (Nat.zero_le _)) eva_nil) (small (show 1 ≤ 100000 by decide)))) ?_))
  refine ds_seq (ds_for (fun xs i Γ' => xs = rng n ∧ ∃ s2 s3 s4, Γ' = [.val (.int n), .val (.lst (ordT (allM n i))), s2, s3, s4, .unset]) (di_range (dla_cons (Ev.dl (ev_var rfl) (dla_nil ⟨n, rfl, by omega, ⟨rfl, _, _, _, rfl⟩, fun i x Γ' hx' ⟨exs, s2, s3, s4, e⟩ => ?_, fun Γ' ⟨exs, s2, s3, s4, e⟩ => ?_⟩)))))
  · subst e
    obtain ⟨hi, rfl⟩ := rng_get hx'
    have hz : (allM n i).length ≤ 3125 := Nat.le_trans (allM_len n i) (pow5 (by omega) hn)
    refine ⟨[2], _, dg_name, ds_seq (ds_asg (Ev.dl (EvN.ev (evn_lst eva_nil (Nat.zero_le _))) ?_))⟩
    refine ds_seq (ds_for (fun xs j Γ' => xs = ordT (allM n i) ∧ ∃ s4, Γ' = [.val (.int n), .val (.lst (ordT (allM n i))), .val (.int i), .val (.lst (ordT (((allM n i).take j).flatMap (extM n)))), s4, .unset])
      (dj_list (Ev.dl (ev_var rfl) ⟨ordT (allM n i), rfl, ⟨rfl, _, rfl⟩, fun j x Γ' hx2 ⟨exs, s4, e⟩ => ?_, fun Γ' ⟨exs, s4, e⟩ => ?_⟩)))
    · subst e
      have hx3 : ((allM n i).map fun o => D.tup (ordD o))[j]? = some x := hx2
      rw [List.getElem?_map] at hx3
      cases q : (allM n i)[j]? with
      | none => rw [q] at hx3; cases hx3
      | some o =>
        rw [q] at hx3; cases hx3
        have hj : j < (allM n i).length := (List.getElem?_eq_some_iff.mp q).1
        have hm : o ∈ allM n i := List.mem_of_getElem? q
        have ol := ((allM_mem n i o).mp hm).1
        have fl := flat_len n ((allM n i).take j)
        rw [List.length_take, Nat.min_eq_left (Nat.le_of_lt hj)] at fl
        have el := extM_len n o
        have jn : j * n ≤ 3125 * 5 := Nat.mul_le_mul (by omega) hn
        refine ⟨[4], _, dg_name, ds_asg (Ev.dl (ev_cast (d' := .lst (ordT (((allM n i).take (j + 1)).flatMap (extM n)))) ?_ (EvN.ev (pl_evn (ev_var (d := .lst (ordT (((allM n i).take j).flatMap (extM n)))) rfl).b (EvN.b (evn_lc (xs := List.range n) (c := fun k : Nat => D.int k) (p := fun k => !decide (k ∈ o)) (f := fun k => .tup (ordD o ++ [.int (k : Nat)])) (ei_range (eva_cons (ev_var rfl) eva_nil) (by omega)) (by rw [List.length_range]; omega)
          fun k hk => ⟨[5], _, dg_name, fun i hi => hi, evt_test (ev_inOT (neg := true) (l := o) (ev_var rfl) (ev_var rfl)), fun _ => ev_op (ev_var rfl) (ev_tup (eva_cons (ev_var rfl) eva_nil) (small (show 1 ≤ 100000 by decide))) (pl_tup ?_)⟩)) ?_))) ⟨rfl, _, rfl⟩)⟩
        · have e1 : ((allM n i).take (j + 1)).flatMap (extM n) = ((allM n i).take j).flatMap (extM n) ++ extM n o := by
            rw [List.take_add_one, q, List.flatMap_append]; simp
          rw [e1]
          unfold ordT
          rw [List.map_append]
          unfold extM
          rw [List.map_map]
          congr 3
          funext k
          exact congrArg D.tup (ordD_snoc o k)
        · rw [ordD_len, ol]
          show i + 1 ≤ _
          exact small (by omega)
        · rw [ordT_len, List.length_map]
          have := List.length_filter_le (fun k => !decide (k ∈ o)) (List.range n)
          rw [List.length_range] at this
          exact small (by omega)
    · subst e
      rw [ordT_len, List.take_length]
      exact ds_asg (Ev.dl (ev_var rfl) ⟨rfl, _, _, _, rfl⟩)
  · subst e
    rw [rng_length]
    exact ds_ret (Ev.dl (ev_var rfl) rfl)
end K09

namespace K09
open PySem PySem.Spec PyProof.Rows L2 Dw
variable [Tabs0]
theorem d__law_book {P : Program} {w : World} {K : PySem.W.Frag} {mg : Str → Option Value} {base : Heap} (T : Txt K w mg) : FnOk P w K mg base CX0 4 T.f__law_book T.e__law_book ["_law_purse_here", "_law_least", "_law_span", "_law_most"] (toSp (spBook)) := by
  refine fn_ok T.F__law_book sc__law_book (fun _ => rfl) fun cdv A outer s' H E hr => ?_
  refine ⟨_, (pss_cons (ps_set (i := 4) sc__law_book.nd rfl (Or.inl rfl) (pe_op (plusE K) (pv 1) (pe_call (d__law_draw T) (hr.mono (by decide)) (by rfl) T.m__law_draw T.F__law_draw.kp T.b__law_draw .nil pass0 (pa_cons (pv 0) (pa_cons (pv 2) pa_nil))))) (pss_one (ps_ret (pe_tup (pa_cons (pe_call (d__law_labels T) (hr.mono (by decide)) (by rfl) T.m__law_labels T.F__law_labels.kp T.b__law_labels .nil pass0 (pa_cons (pv 0) (pa_cons (pv 4) pa_nil))) (pa_cons (pe_call (d__law_rows T) (hr.mono (by decide)) (by rfl) T.m__law_rows T.F__law_rows.kp T.b__law_rows .nil pass0 (pa_cons (pv 0) (pa_cons (pv 4) (pa_cons (pv 3) (pa_cons pe_int pa_nil))))) pa_nil)))))), fun x hx => ?_⟩
  obtain ⟨lo, sp, most⟩ := x
  obtain ⟨h1, h2, h3, h4⟩ := hx
  have h1 : 1 ≤ lo := h1
  have h2 : 1 ≤ sp := h2
  have h3 : lo + sp ≤ 9 := h3
  have h4 : most ≤ 20 := h4
  refine ds_seq (ds_asg (dl_op (Ev.dl (ev_var rfl) (dl_call (s := spDraw) (dla_cons (Ev.dl (ev_var rfl) (dla_cons (Ev.dl (ev_var rfl) (dla_nil ⟨sp, rfl, ⟨by omega, by omega⟩, fun d hd => ?_⟩)))))))))
  obtain ⟨r, hr1, rfl⟩ := hd
  refine ⟨.int ((lo + r : Nat) : Int), pl_int, ?_⟩
  refine ds_ret (dl_tup (dla_cons (dl_call (s := spLabels) (dla_cons (Ev.dl (ev_var rfl) (dla_cons (Ev.dl (ev_var rfl) (dla_nil ⟨lo + r, rfl, ⟨by omega, by omega⟩, fun d hd => ?_⟩))))))))
  obtain ⟨ls, rfl, hl, hn⟩ := hd
  refine dla_cons (dl_call (s := spRows) (dla_cons (Ev.dl (ev_var rfl) (dla_cons (Ev.dl (ev_var rfl) (dla_cons (Ev.dl (ev_var rfl) (dla_cons (Ev.dl ev_int (dla_nil ⟨(lo + r, most, 9), rfl, ⟨by show 1 ≤ lo + r; omega, by show lo + r ≤ 8; omega, by show most < 1000; omega, by show 0 < 9; decide, by show 9 < 1000; decide⟩, fun d hd => ?_⟩))))))))))
  obtain ⟨rs, rfl, hm, hrs⟩ := hd
  have hm : rs.length ≤ most := hm
  exact dla_nil ⟨small (show 2 ≤ 100000 by decide), ls, rs, rfl, ⟨hl, by omega, fun q hq => by rw [hn]; exact hrs q hq⟩, by show lo ≤ ls.length; omega, by show ls.length < lo + sp; omega, hm⟩
end K09

namespace K09
open PySem PySem.Spec PyProof.Rows L2 Dw
variable [Tabs0]
def selQ (rs : List (List Nat)) (o : List Nat) : List (List Nat) := o.map fun i => rowAt rs i
def Fit (rs : List (List Nat)) (n : Nat) : Prop := ∃ o : List Nat, o.Perm (List.range n) ∧ ∀ r ∈ rs, holdsB r o = true
def SgnOk (rs : List (List Nat)) (n : Nat) : Prop := (∀ i c, sgn (rowAt rs i) c = 43 ∨ sgn (rowAt rs i) c = 45 ∨ sgn (rowAt rs i) c = 46) ∧ ∀ i, i < rs.length → (rowAt rs i).length ≤ n
theorem selQ_len (rs : List (List Nat)) (o : List Nat) : (selQ rs o).length = o.length := List.length_map ..
theorem selQ_at {rs : List (List Nat)} {o : List Nat} {j : Nat} (h : j < o.length) : rowAt (selQ rs o) j = rowAt rs o[j] := by
  unfold selQ
  conv => lhs; unfold rowAt
  rw [List.getD_eq_getElem?_getD, List.getElem?_map, List.getElem?_eq_getElem h]; rfl
theorem fit_sel {rs : List (List Nat)} {n : Nat} {p q : List Nat} (h : Fit (selQ rs q) n) (hs : ∀ k ∈ p, k ∈ q) : Fit (selQ rs p) n := by
  obtain ⟨o, ho, hh⟩ := h
  refine ⟨o, ho, fun r hr => ?_⟩
  obtain ⟨k, hk, rfl⟩ := List.mem_map.mp hr
  exact hh _ (List.mem_map.mpr ⟨k, hs k hk, rfl⟩)
/-- where the layers end badly, the rows that stay open fit no order -/
theorem stuck_open {rs : List (List Nat)} {n : Nat} {ls : List (List Nat)} {lf st : List Nat} (h : LayI rs n ls lf st) (hne : st ≠ []) (hl : lf.filter (fun k => !minB rs st k) = []) (hr : ∀ i, i < rs.length → (rowAt rs i).length ≤ n) : ¬ Fit (selQ rs st) n := by
  rintro ⟨o, ho, hh⟩
  obtain ⟨i, hi, z⟩ := lay_stuck' h hne hl hr o ho
  rw [hh _ (List.mem_map.mpr ⟨i, hi, rfl⟩)] at z; cases z
def Still (rs : List (List Nat)) (n : Nat) : List Nat := (splitM rs n).2
theorem still_cases {rs : List (List Nat)} {n : Nat} (h : SgnOk rs n) : (Still rs n = [] ∧ Fit rs n) ∨ ∃ ls lf, Still rs n ≠ [] ∧ LayI rs n ls lf (Still rs n) ∧ lf.filter (fun k => !minB rs (Still rs n) k) = [] ∧ ¬ Fit (selQ rs (Still rs n)) n := by
  rcases layF_end h.1 (n + 1) [] (List.range n) (open0 rs) (layI_0 rs n) (by rw [List.length_range]; omega) with ⟨ls, e, hh⟩ | ⟨ls, lf, st, e, h1, hh, h2⟩
  · have e : splitM rs n = (ls, []) := e
    refine .inl ⟨by unfold Still; rw [e], ?_⟩
    obtain ⟨w1, w2⟩ := lay_fits h.1 hh (g := fun l => l) (fun l => .refl _)
    exact ⟨_, w1, all_rows.mpr w2⟩
  · have e : splitM rs n = (ls, st) := e
    have e2 : Still rs n = st := by unfold Still; rw [e]
    refine .inr ⟨ls, lf, ?_⟩
    rw [e2]
    exact ⟨h1, hh, h2, stuck_open hh h1 h2 h.2⟩
theorem still_fit {rs : List (List Nat)} {n : Nat} (h : SgnOk rs n) : Still rs n = [] ↔ Fit rs n := by
  constructor
  · intro e
    rcases still_cases h with ⟨_, f⟩ | ⟨_, _, z, _⟩
    · exact f
    · exact absurd e z
  · intro f
    rcases still_cases h with ⟨e, _⟩ | ⟨ls, lf, z, hh, h2, nf⟩
    · exact e
    · obtain ⟨o, ho, hf⟩ := f
      refine absurd ⟨o, ho, fun r hr => ?_⟩ nf
      obtain ⟨k, hk, rfl⟩ := List.mem_map.mp hr
      exact all_rows.mp hf k (List.mem_range.mp (List.mem_filter.mp (hh.sub.subset hk)).1)
/-! the lot that is told -/
def qStep (rs : List (List Nat)) (n : Nat) (kept : List Nat) (i : Nat) : List Nat :=
  if Still (selQ rs (kept.filter fun j => !decide (j = i))) n = [] then kept else kept.filter fun j => !decide (j = i)
structure QI (rs : List (List Nat)) (n : Nat) (kept seen : List Nat) : Prop where
  sub : kept.Sublist (List.range rs.length)
  nf : ¬ Fit (selQ rs kept) n
  min : ∀ i ∈ seen, i ∈ kept → Fit (selQ rs (kept.filter fun j => !decide (j = i))) n
theorem sel_sgn {rs : List (List Nat)} {n : Nat} (h : SgnOk rs n) {o : List Nat} (ho : ∀ k ∈ o, k < rs.length) : SgnOk (selQ rs o) n := by
  refine ⟨fun i c => ?_, fun i hi => ?_⟩
  · by_cases hi : i < o.length
    · rw [selQ_at hi]; exact h.1 _ _
    · unfold rowAt sgn
      rw [List.getD_eq_getElem?_getD (l := selQ rs o), List.getElem?_eq_none (by rw [selQ_len]; omega)]
      exact .inr (.inr rfl)
  · rw [selQ_len] at hi
    rw [selQ_at hi]
    exact h.2 _ (ho _ (List.getElem_mem hi))
theorem QI.next {rs : List (List Nat)} {n : Nat} (h : SgnOk rs n) {kept seen : List Nat} (q : QI rs n kept seen) (i : Nat) : QI rs n (qStep rs n kept i) (seen ++ [i]) := by
  have hf : ∀ k ∈ kept.filter (fun j => !decide (j = i)), k < rs.length := fun k hk => List.mem_range.mp (q.sub.subset (List.mem_filter.mp hk).1)
  unfold qStep
  by_cases e : Still (selQ rs (kept.filter fun j => !decide (j = i))) n = []
  · rw [if_pos e]
    refine ⟨q.sub, q.nf, fun j hj hk => ?_⟩
    rcases List.mem_append.mp hj with hj | hj
    · exact q.min j hj hk
    · rw [List.mem_singleton.mp hj]
      exact (still_fit (sel_sgn h hf)).mp e
  · rw [if_neg e]
    refine ⟨List.filter_sublist.trans q.sub, fun f => e ((still_fit (sel_sgn h hf)).mpr f), fun j hj hk => ?_⟩
    have hk' := (List.mem_filter.mp hk).1
    rcases List.mem_append.mp hj with hj | hj
    · refine fit_sel (q.min j hj hk') fun k hk2 => ?_
      obtain ⟨a, b⟩ := List.mem_filter.mp hk2
      exact List.mem_filter.mpr ⟨(List.mem_filter.mp a).1, b⟩
    · have := (List.mem_filter.mp hk).2
      rw [List.mem_singleton.mp hj] at this
      simp at this
/-! all lots of some things -/
end K09

namespace K09
open PySem PySem.Spec PyProof.Rows L2 Dw
variable [Tabs0]
/-! heads as bits -/
def headOf (l : List Nat) : Nat := (l.map fun k => 2 ^ k).sum
def hd (p : Nat → Bool) (n : Nat) : Nat := headOf ((List.range n).filter p)
theorem headOf_snoc (l : List Nat) (k : Nat) : headOf (l ++ [k]) = headOf l + 2 ^ k := by unfold headOf; rw [List.map_append, List.sum_append]; simp
theorem hd_succ (p : Nat → Bool) (n : Nat) : hd p (n + 1) = hd p n + if p n = true then 2 ^ n else 0 := by
  unfold hd
  rw [List.range_succ, List.filter_append]
  cases h : p n with
  | true => rw [List.filter_cons_of_pos h, List.filter_nil, headOf_snoc, if_pos rfl]
  | false => rw [List.filter_cons_of_neg (by rw [h]; decide), List.filter_nil, List.append_nil, if_neg (by decide)]; rfl
theorem hd_lt (p : Nat → Bool) : ∀ n, hd p n < 2 ^ n
  | 0 => by
    have : hd p 0 = 0 := rfl
    rw [this]; decide
  | n + 1 => by
    have := hd_lt p n
    rw [hd_succ, Nat.pow_succ]
    split <;> omega
theorem hd_bit (p : Nat → Bool) : ∀ n k, (hd p n).testBit k = (decide (k < n) && p k)
  | 0, k => by
    have : hd p 0 = 0 := rfl
    rw [this]; simp
  | n + 1, k => by
    have ih := hd_bit p n k
    have lt := hd_lt p n
    rw [hd_succ]
    cases h : p n with
    | false =>
      rw [if_neg (by decide), Nat.add_zero, ih]
      by_cases hk : k = n
      · subst hk; rw [h]; simp
      · have : decide (k < n + 1) = decide (k < n) := decide_eq_decide.mpr (by omega)
        rw [this]
    | true =>
      have e := Nat.two_pow_add_eq_or_of_lt lt 1
      rw [Nat.mul_one] at e
      rw [if_pos rfl, Nat.add_comm, e, Nat.testBit_or, Nat.testBit_two_pow, ih]
      by_cases hk : k = n
      · subst hk; rw [h]; simp
      · have e1 : decide (n = k) = false := decide_eq_false (by omega)
        have : decide (k < n + 1) = decide (k < n) := decide_eq_decide.mpr (by omega)
        rw [e1, this]; rfl
theorem and_zero {a b : Nat} : a &&& b = 0 ↔ ∀ k, ¬ (a.testBit k = true ∧ b.testBit k = true) := by
  constructor
  · intro h k hk
    have := congrArg (fun z => z.testBit k) h
    simp only [Nat.testBit_and, Nat.zero_testBit, hk.1, hk.2] at this
    cases this
  · intro h
    apply Nat.eq_of_testBit_eq
    intro k
    rw [Nat.testBit_and, Nat.zero_testBit]
    cases p : a.testBit k with
    | false => rfl
    | true =>
      cases q : b.testBit k with
      | false => rfl
      | true => exact absurd ⟨p, q⟩ (h k)
def sideM (c : Nat) (r : List Nat) : Nat := hd (fun k => decide (sgn r k = c)) r.length
def sidesM (r : List Nat) : Nat × Nat := (sideM 43 r, sideM 45 r)
theorem side_bit {c : Nat} {r : List Nat} {k : Nat} (hc : c ≠ 46) : (sideM c r).testBit k = decide (sgn r k = c) := by
  unfold sideM
  rw [hd_bit]
  by_cases h : k < r.length
  · simp [h]
  · have : sgn r k = 46 := by unfold sgn; rw [List.getD_eq_getElem?_getD, List.getElem?_eq_none (by omega)]; rfl
    rw [this]
    have : decide (46 = c) = false := decide_eq_false fun z => hc z.symm
    rw [this]; simp
def takenM (head : Nat) (told : List (Nat × Nat)) : Nat := told.foldl (fun t s => if s.1 &&& head = 0 then t ||| s.2 else t) head
theorem taken_bit (head k : Nat) : ∀ (told : List (Nat × Nat)) (t : Nat), (told.foldl (fun t s => if s.1 &&& head = 0 then t ||| s.2 else t) t).testBit k = (t.testBit k || told.any fun s => decide (s.1 &&& head = 0) && s.2.testBit k)
  | [], t => by simp
  | s :: told, t => by
    rw [List.foldl_cons, taken_bit head k told, List.any_cons]
    by_cases h : s.1 &&& head = 0
    · rw [if_pos h, Nat.testBit_or, decide_eq_true h, Bool.true_and, Bool.or_assoc]
    · rw [if_neg h, decide_eq_false h, Bool.false_and, Bool.false_or]
def behindM (head : Nat) (told : List (Nat × Nat)) (n : Nat) : List Nat := (List.range n).filter fun k => decide (takenM head told &&& 2 ^ k = 0)
theorem two_bit {a k : Nat} : decide (a &&& 2 ^ k = 0) = !a.testBit k := by
  rw [Bool.eq_iff_iff, decide_eq_true_eq, and_zero, Bool.not_eq_true']
  constructor
  · intro h
    cases q : a.testBit k with
    | false => rfl
    | true => exact absurd ⟨q, by rw [Nat.testBit_two_pow]; simp⟩ (h k)
  · rintro h j ⟨h1, h2⟩
    rw [Nat.testBit_two_pow] at h2
    have : k = j := of_decide_eq_true h2
    subst this
    rw [h] at h1; cases h1
/-- whether k may come right behind the head: no row has a minus for it, and no plus in the head -/
def openBit (rs : List (List Nat)) (head k : Nat) : Bool := !head.testBit k && rs.all fun r => !(decide (sideM 43 r &&& head = 0) && decide (sgn r k = 45))
theorem behind_eq (rs : List (List Nat)) (head n : Nat) : behindM head (rs.map sidesM) n = (List.range n).filter (openBit rs head) := by
  unfold behindM
  refine List.filter_congr fun k _ => ?_
  rw [two_bit]
  unfold takenM openBit
  rw [taken_bit, Bool.not_or, List.any_map]
  congr 1
  rw [List.not_any_eq_all_not]
  congr 1
  funext r
  show (!(decide (sideM 43 r &&& head = 0) && (sideM 45 r).testBit k)) = _
  rw [side_bit (by decide)]
def stepsM (rs : List (List Nat)) (n : Nat) : List (List Nat) := (List.range (2 ^ n)).map fun head => behindM head (rs.map sidesM) n
/-- the ways, head by head from the last one down -/
def endStep (behind : List (List Nat)) (ways : List Nat) (head : Nat) : List Nat := ways.set head (((behind.getD head []).map fun k => ways.getD (head ||| 2 ^ k) 0).sum)
def endTo (behind : List (List Nat)) (i : Nat) : List Nat := ((List.range (behind.length - 1)).reverse.take i).foldl (endStep behind) (List.replicate behind.length 1)
def endM (behind : List (List Nat)) : List Nat := endTo behind (behind.length - 1)
theorem endTo_len (behind : List (List Nat)) : ∀ i, (endTo behind i).length = behind.length := by
  intro i
  unfold endTo
  generalize (List.range (behind.length - 1)).reverse.take i = l
  have : ∀ (l : List Nat) (w : List Nat), (l.foldl (endStep behind) w).length = w.length := fun l => by
    induction l with
    | nil => intro w; rfl
    | cons a l ih => intro w; rw [List.foldl_cons, ih]; unfold endStep; rw [List.length_set]
  rw [this, List.length_replicate]
theorem rev_get {m i : Nat} (h : i < m) : (List.range m).reverse[i]? = some (m - 1 - i) := by
  rw [List.getElem?_reverse (by simpa using h), List.length_range, List.getElem?_range (by omega)]
theorem endTo_succ {behind : List (List Nat)} {i : Nat} (h : i < behind.length - 1) : endTo behind (i + 1) = endStep behind (endTo behind i) (behind.length - 1 - 1 - i) := by
  unfold endTo
  rw [List.take_add_one, rev_get h, List.foldl_append]; rfl
theorem getD_set_ne {l : List Nat} {i j v : Nat} (h : i ≠ j) : (l.set i v).getD j 0 = l.getD j 0 := by
  rw [List.getD_eq_getElem?_getD, List.getElem?_set_ne h, ← List.getD_eq_getElem?_getD]
theorem getD_set_self {l : List Nat} {i v : Nat} (h : i < l.length) : (l.set i v).getD i 0 = v := by
  rw [List.getD_eq_getElem?_getD, List.getElem?_set_self h]; rfl
/-- what is written stays: ways from the head m - 1 - i on are final once i steps are done -/
theorem endTo_keep {behind : List (List Nat)} {i : Nat} (h : i ≤ behind.length - 1) {j : Nat} (hj : behind.length - 1 - i ≤ j) : (endM behind).getD j 0 = (endTo behind i).getD j 0 := by
  unfold endM
  obtain ⟨d, hd⟩ : ∃ d, behind.length - 1 = i + d := ⟨behind.length - 1 - i, by omega⟩
  have : ∀ d, i + d ≤ behind.length - 1 → (endTo behind (i + d)).getD j 0 = (endTo behind i).getD j 0 := fun d => by
    induction d with
    | zero => intro _; rfl
    | succ d ih =>
      intro hd
      rw [← Nat.add_assoc, endTo_succ (by omega)]
      unfold endStep
      rw [getD_set_ne (by omega)]
      exact ih (by omega)
  conv => lhs; rw [hd]
  exact this d (by omega)
theorem end_last {behind : List (List Nat)} (h : 0 < behind.length) : (endM behind).getD (behind.length - 1) 0 = 1 := by
  rw [endTo_keep (i := 0) (by omega) (by omega)]
  unfold endTo
  simp only [List.take_zero, List.foldl_nil]
  rw [List.getD_eq_getElem?_getD, List.getElem?_replicate, if_pos (by omega)]; rfl
theorem end_at {behind : List (List Nat)} {head : Nat} (h : head < behind.length - 1) (up : ∀ k ∈ behind.getD head [], head < head ||| 2 ^ k) : (endM behind).getD head 0 = ((behind.getD head []).map fun k => (endM behind).getD (head ||| 2 ^ k) 0).sum := by
  obtain ⟨i, hi⟩ : ∃ i, head = behind.length - 1 - 1 - i ∧ i < behind.length - 1 := ⟨behind.length - 1 - 1 - head, by omega, by omega⟩
  rw [endTo_keep (i := i + 1) (by omega) (j := head) (by omega), endTo_succ hi.2, ← hi.1]
  unfold endStep
  rw [getD_set_self (by rw [endTo_len]; omega)]
  congr 1
  refine List.map_congr_left fun k hk => ?_
  exact (endTo_keep (i := i) (by omega) (by have := up k hk; omega)).symm
theorem steps_len (rs : List (List Nat)) (n : Nat) : (stepsM rs n).length = 2 ^ n := by unfold stepsM; rw [List.length_map, List.length_range]
theorem steps_at {rs : List (List Nat)} {n head : Nat} (h : head < 2 ^ n) : (stepsM rs n).getD head [] = (List.range n).filter (openBit rs head) := by
  unfold stepsM
  rw [List.getD_eq_getElem?_getD, List.getElem?_map, List.getElem?_range h]
  show behindM _ _ _ = _
  rw [behind_eq]
theorem or_up {head k : Nat} (h : head.testBit k = false) : head < head ||| 2 ^ k := by
  have h1 : head ≤ head ||| 2 ^ k := Nat.left_le_or
  rcases Nat.lt_or_eq_of_le h1 with h2 | h2
  · exact h2
  · have := congrArg (fun z => z.testBit k) h2
    simp only [Nat.testBit_or, Nat.testBit_two_pow] at this
    rw [h] at this; simp at this
theorem open_bit {rs : List (List Nat)} {head k : Nat} (h : openBit rs head k = true) : head.testBit k = false := by
  unfold openBit at h
  rw [Bool.and_eq_true, Bool.not_eq_true'] at h
  exact h.1
end K09

namespace K09
open PySem PySem.Spec PyProof.Rows L2 Dw
variable [Tabs0]
theorem sum_cast : ∀ l : List Nat, ((l.map fun k : Nat => (k : Int)).sum : Int) = ((l.sum : Nat) : Int)
  | [] => rfl
  | a :: l => by rw [List.map_cons, List.sum_cons, List.sum_cons, sum_cast l]; omega
def lolD (l : List (List Nat)) : List D := l.map fun o => D.lst (ordN o)
def sidD (l : List (Nat × Nat)) : List D := l.map fun s => D.tup [.int (s.1 : Nat), .int (s.2 : Nat)]
theorem np_ll {o : List (List Nat)} {r : List D} (h : noPs r = true) : noPs (.lst (lolD o) :: r) = true := by
  have e : noPs (lolD o) = true := noPs_map (f := fun o => D.lst (ordN o)) (fun l => np_ord l) o
  show (noPs (lolD o) && noPs r) = true; rw [e, h]; rfl
theorem np_sd {o : List (Nat × Nat)} {r : List D} (h : noPs r = true) : noPs (.lst (sidD o) :: r) = true := by
  have e : noPs (sidD o) = true := noPs_map (f := fun s : Nat × Nat => D.tup [.int (s.1 : Nat), .int (s.2 : Nat)]) (fun l => rfl) o
  show (noPs (sidD o) && noPs r) = true; rw [e, h]; rfl
def ordX (b : Bool) (l : List Nat) : D := if b = true then .lst (ordD l) else .tup (ordD l)
def spHeadOf : Spc where
  ty := List Nat × Bool
  args := fun x => [ordX x.2 x.1]
  ok := fun x => x.1.length ≤ 1000 ∧ ∀ k ∈ x.1, k ≤ 1000
  rel := fun x d => d = .int (headOf x.1 : Nat)
theorem ei_ordX {K : PySem.W.Frag} {ta : TE} {Γ : Gam} {b : Bool} {l : List Nat} (ha : Ev ta Γ (ordX b l)) : Ei (iAnyR K ta) Γ (l.map fun k : Nat => D.int k) := by
  cases b with
  | true => exact ej_list (Ev.b (ds := ordD l) ha)
  | false => exact ej_tup ha
def spSides : Spc where
  ty := List Nat
  args := fun r => [.str (tx r)]
  ok := fun r => ∃ n, RowOk r n ∧ n ≤ 8
  rel := fun r d => d = .tup [.int (sideM 43 r : Nat), .int (sideM 45 r : Nat)]
theorem enum_signs (r : List Nat) : enumD (Dw.signs (tx r)) = (List.range r.length).map fun (i : Nat) => D.tup [.int i, .str (ch (sgn r i))] := by
  apply List.ext_getElem?
  intro i
  have ls : (Dw.signs (tx r)).length = r.length := by rw [signs_tx, List.length_map, List.length_map]
  by_cases hi : i < r.length
  · obtain ⟨x, hx⟩ : ∃ x, (enumD (Dw.signs (tx r)))[i]? = some x := ⟨_, List.getElem?_eq_getElem (by rw [enumD_length, ls]; exact hi)⟩
    obtain ⟨y, hy, rfl⟩ := enumD_get hx
    rw [hx, List.getElem?_map, List.getElem?_range hi]
    rw [signs_tx, List.map_map, List.getElem?_map, List.getElem?_eq_getElem hi] at hy
    cases hy
    show _ = some (D.tup [D.int i, D.str (ch (sgn r i))])
    unfold sgn
    rw [List.getD_eq_getElem?_getD, List.getElem?_eq_getElem hi]; rfl
  · rw [List.getElem?_eq_none (by rw [enumD_length, ls]; omega), List.getElem?_eq_none (by simpa using hi)]
def spBehind : Spc where
  ty := Nat × List (Nat × Nat) × Nat
  args := fun x => [.int (x.1 : Nat), .lst (sidD x.2.1), .int (x.2.2 : Nat)]
  ok := fun x => x.2.2 ≤ 8 ∧ x.2.1.length ≤ 1000
  rel := fun x d => d = .lst (ordD (behindM x.1 x.2.1 x.2.2))
def spSteps : Spc where
  ty := List (List Nat) × Nat × Bool
  args := fun x => [rowsD x.2.2 x.1, .int (x.2.1 : Nat)]
  ok := fun x => (∀ r ∈ x.1, RowOk r x.2.1) ∧ x.2.1 ≤ 8 ∧ x.1.length ≤ 1000
  rel := fun x d => d = .lst (lolD (stepsM x.1 x.2.1))
structure EndOk (b : List (List Nat)) : Prop where
  lo : 1 ≤ b.length
  hi : b.length ≤ 256
  in_ : ∀ head, head < b.length → ∀ k ∈ b.getD head [], head ||| 2 ^ k < b.length ∧ k ≤ 8
  few : ∀ head, (b.getD head []).length ≤ 8
def spEnd : Spc where
  ty := List (List Nat)
  args := fun b => [.lst (lolD b)]
  ok := fun b => EndOk b
  rel := fun b d => d = .lst (ordD (endM b))
theorem pow8 {n : Nat} (h : n ≤ 8) : 2 ^ n ≤ 256 := Nat.le_trans (Nat.pow_le_pow_right (by decide) h) (by decide)
theorem steps_ok {rs : List (List Nat)} {n : Nat} (h : n ≤ 8) : EndOk (stepsM rs n) := by
  refine ⟨by rw [steps_len]; exact Nat.two_pow_pos n, by rw [steps_len]; exact pow8 h, fun head hh k hk => ?_, fun head => ?_⟩
  · rw [steps_len] at hh ⊢
    rw [steps_at hh] at hk
    have kn := List.mem_range.mp (List.mem_filter.mp hk).1
    exact ⟨Nat.or_lt_two_pow hh (Nat.pow_lt_pow_right (by decide) kn), by omega⟩
  · by_cases hh : head < 2 ^ n
    · rw [steps_at hh]
      have := List.length_filter_le (openBit rs head) (List.range n)
      rw [List.length_range] at this
      omega
    · rw [List.getD_eq_getElem?_getD, List.getElem?_eq_none (by rw [steps_len]; omega)]; exact Nat.zero_le _
theorem ei_rows {K : PySem.W.Frag} {ta : TE} {Γ : Gam} {b : Bool} {rs : List (List Nat)} (ha : Ev ta Γ (rowsD b rs)) : Ei (iAnyR K ta) Γ (rs.map fun r => D.str (tx r)) := by
  cases b with
  | true => exact ej_list (Ev.b (ds := nameD rs) ha)
  | false => exact ej_tup ha
theorem lolD_at {l : List (List Nat)} {i : Nat} (h : i < l.length) : atI (lolD l) (i : Int) = some (.lst (ordD (l.getD i []))) := by
  refine atI_nat ?_
  unfold lolD
  rw [List.getElem?_map, List.getElem?_eq_getElem h, List.getD_eq_getElem?_getD, List.getElem?_eq_getElem h]; rfl
theorem ordD_at {l : List Nat} {i : Nat} (h : i < l.length) : atI (ordD l) (i : Int) = some (.int (l.getD i 0 : Nat)) := by
  refine atI_nat ?_
  unfold ordD
  rw [List.getElem?_map, List.getElem?_eq_getElem h, List.getD_eq_getElem?_getD, List.getElem?_eq_getElem h]; rfl
theorem ordD_set (l : List Nat) (i v : Nat) : (ordD l).set i (.int (v : Nat)) = ordD (l.set i v) := by unfold ordD; rw [List.map_set]
theorem rep_one (m : Nat) : (List.replicate m [D.int (1 : Nat)]).flatten = ordD (List.replicate m 1) := by
  unfold ordD
  rw [List.map_replicate]
  induction m with
  | zero => rfl
  | succ m ih => rw [List.replicate_succ, List.flatten_cons, ih, List.replicate_succ]; rfl
theorem nz_nat (a : Nat) : (!(((a : Nat) : Int) != 0)) = decide (a = 0) := by
  rw [Bool.eq_iff_iff]; simp
end K09

namespace K09
open PySem PySem.Spec PyProof.Rows L2 Dw
variable [Tabs0]
theorem d_head_of {P : Program} {w : World} {K : PySem.W.Frag} {mg : Str → Option Value} {base : Heap} (T : Txt K w mg) : FnOk P w K mg base CX0 1 T.f_head_of T.e_head_of ["rules"] (toSp (spHeadOf)) := by
  refine fn_ok T.F_head_of sc_head_of (fun _ => rfl) fun cdv A outer s' H E hr => ?_
  refine ⟨_, (pss_one (ps_ret (pe_callB (sumA K) (by rfl) T.n_sum (by decide +kernel) (pa_cons (pe_lc (own := [("rule", 1)]) rfl sc_head_of.nd (piR K (pv 0)) (blkOk_by (own := [("rule", 1)]) (N := N_head_of) (sc := (defScope s_head_of)) (by decide +kernel)) (fun _ _ _ _ _ => pg_name (i := 1) sc_head_of.nd rfl (Or.inl rfl)) (fun _ _ _ _ _ => pts_nil) (fun _ _ _ _ _ => (pe_op op_shl pe_int (pv 1)))) pa_nil)))), fun x hx => ?_⟩
  obtain ⟨l, b⟩ := x
  obtain ⟨hz, hk⟩ := hx
  have hz : l.length ≤ 1000 := hz
  have hk : ∀ k ∈ l, k ≤ 1000 := hk
  refine ds_ret (Ev.dl (ev_cast (d' := .int (headOf l : Nat)) ?c (ev_sum (ns := l.map fun k => ((2 ^ k : Nat) : Int)) (EvN.b ?e))) rfl)
  case c =>
    unfold headOf
    rw [← sum_cast, List.map_map]; rfl
  case e =>
    rw [List.map_map]
    exact evn_lc1 (xs := l) (c := fun k : Nat => D.int k) (f := fun k => D.int ((2 ^ k : Nat) : Int)) (ei_ordX (b := b) (ev_var (d := ordX b l) rfl)) (by omega) fun k hk' => ⟨[1], _, dg_name, fun i hi => hi, evt_yes, ev_op ev_int (ev_var rfl) (dr2_shl1 (hk k hk'))⟩
end K09

namespace K09
open PySem PySem.Spec PyProof.Rows L2 Dw
variable [Tabs0]
theorem d_sides {P : Program} {w : World} {K : PySem.W.Frag} {mg : Str → Option Value} {base : Heap} (T : Txt K w mg) : FnOk P w K mg base CX0 2 T.f_sides T.e_sides ["row"] (toSp (spSides)) := by
  refine fn_ok T.F_sides sc_sides (fun _ => rfl) fun cdv A outer s' H E hr => ?_
  refine ⟨_, (pss_cons (ps_set (i := 1) sc_sides.nd rfl (Or.inl rfl) (pe_call (d_head_of T) (hr.mono (by decide)) (by rfl) T.m_head_of T.F_head_of.kp T.b_head_of .nil pass0 (pa_cons (pe_lc (own := [("rule", 3), ("sign", 4)]) rfl sc_sides.nd (enumSA (by rfl) T.n_enumerate (pa_cons (pv 0) pa_nil)) (blkOk_by (own := [("rule", 3), ("sign", 4)]) (N := N_sides) (sc := (defScope s_sides)) (by decide +kernel)) (fun _ _ _ _ _ => tupA K 2 rfl (pgs_cons (pg_name (i := 3) sc_sides.nd rfl (Or.inl rfl)) (pgs_cons (pg_name (i := 4) sc_sides.nd rfl (Or.inl rfl)) pgs_nil))) (fun _ _ _ _ _ => pts_one (pt_cmpR (eqA K hr.units) (pv 4) pe_str (nomark _))) (fun _ _ _ _ _ => (pv 3))) pa_nil))) (pss_cons (ps_set (i := 2) sc_sides.nd rfl (Or.inl rfl) (pe_call (d_head_of T) (hr.mono (by decide)) (by rfl) T.m_head_of T.F_head_of.kp T.b_head_of .nil pass0 (pa_cons (pe_lc (own := [("rule", 3), ("sign", 4)]) rfl sc_sides.nd (enumSA (by rfl) T.n_enumerate (pa_cons (pv 0) pa_nil)) (blkOk_by (own := [("rule", 3), ("sign", 4)]) (N := N_sides) (sc := (defScope s_sides)) (by decide +kernel)) (fun _ _ _ _ _ => tupA K 2 rfl (pgs_cons (pg_name (i := 3) sc_sides.nd rfl (Or.inl rfl)) (pgs_cons (pg_name (i := 4) sc_sides.nd rfl (Or.inl rfl)) pgs_nil))) (fun _ _ _ _ _ => pts_one (pt_cmpR (eqA K hr.units) (pv 4) pe_str (nomark _))) (fun _ _ _ _ _ => (pv 3))) pa_nil))) (pss_one (ps_ret (pe_tup (pa_cons (pv 1) (pa_cons (pv 2) pa_nil))))))), fun x hx => ?_⟩
  obtain ⟨r, rfl⟩ : ∃ l : List Nat, l = x := ⟨x, rfl⟩
  obtain ⟨n, hr', h8⟩ := hx
  have hr' : RowOk r n := hr'
  have rl : r.length ≤ 8 := by rw [hr'.len]; exact h8
  have sl : ∀ c, ((List.range r.length).filter fun i => decide (sgn r i = c)).length ≤ 1000 := fun c => by
    have := List.length_filter_le (fun i => decide (sgn r i = c)) (List.range r.length)
    rw [List.length_range] at this
    omega
  have sk : ∀ c, ∀ k ∈ (List.range r.length).filter fun i => decide (sgn r i = c), k ≤ 1000 := fun c k hk => by
    have := List.mem_range.mp (List.mem_filter.mp hk).1
    omega
  refine ds_seq (ds_asg (Ev.dl (ev_call (s := spHeadOf) (d := .int (sideM 43 r : Nat)) (x := ((List.range r.length).filter fun i => decide (sgn r i = 43), true)) (eva_cons (EvN.ev (evn_lc (xs := List.range r.length) (c := fun (i : Nat) => D.tup [.int i, .str (ch (sgn r i))]) (p := fun i => decide (sgn r i = 43)) (f := fun (i : Nat) => D.int i) ?i1 (by rw [List.length_range]; omega) fun i hi => ⟨[3] ++ [4], _, dg_tup2 dg_name dg_name, fun i hi => hi, ?t1, fun _ => ev_var rfl⟩)) eva_nil) (np_lo (r := []) rfl) ⟨sl 43, sk 43⟩ fun d h => h) ?_))
  case i1 => rw [← enum_signs]; exact ei_enumS (ev_var rfl)
  case t1 => exact evt_test (ev_op (ev_var rfl) ev_str (eq_sb (by rw [ch_plus, Bool.eq_iff_iff]; simp [ch_eq])))
  refine ds_seq (ds_asg (Ev.dl (ev_call (s := spHeadOf) (d := .int (sideM 45 r : Nat)) (x := ((List.range r.length).filter fun i => decide (sgn r i = 45), true)) (eva_cons (EvN.ev (evn_lc (xs := List.range r.length) (c := fun (i : Nat) => D.tup [.int i, .str (ch (sgn r i))]) (p := fun i => decide (sgn r i = 45)) (f := fun (i : Nat) => D.int i) ?i2 (by rw [List.length_range]; omega) fun i hi => ⟨[3] ++ [4], _, dg_tup2 dg_name dg_name, fun i hi => hi, ?t2, fun _ => ev_var rfl⟩)) eva_nil) (np_lo (r := []) rfl) ⟨sl 45, sk 45⟩ fun d h => h) ?_))
  case i2 => rw [← enum_signs]; exact ei_enumS (ev_var rfl)
  case t2 => exact evt_test (ev_op (ev_var rfl) ev_str (eq_sb (by rw [ch_minus, Bool.eq_iff_iff]; simp [ch_eq])))
  exact ds_ret (Ev.dl (ev_tup (eva_cons (ev_var rfl) (eva_cons (ev_var rfl) eva_nil)) (small (show 2 ≤ 100000 by decide))) rfl)
end K09

namespace K09
open PySem PySem.Spec PyProof.Rows L2 Dw
variable [Tabs0]
theorem d_rules_behind {P : Program} {w : World} {K : PySem.W.Frag} {mg : Str → Option Value} {base : Heap} (T : Txt K w mg) : FnOk P w K mg base CX0 1 T.f_rules_behind T.e_rules_behind ["head", "told", "many"] (toSp (spBehind)) := by
  refine fn_ok T.F_rules_behind sc_rules_behind (fun _ => rfl) fun cdv A outer s' H E hr => ?_
  refine ⟨_, (pss_cons (ps_set (i := 3) sc_rules_behind.nd rfl (Or.inr rfl) (pv 0)) (pss_cons (ps_for PassesOwn.never rfl (piR K (pv 1)) (tupA K 2 rfl (pgs_cons (pg_name (i := 4) sc_rules_behind.nd rfl (Or.inl rfl)) (pgs_cons (pg_name (i := 5) sc_rules_behind.nd rfl (Or.inl rfl)) pgs_nil))) (pss_one (ps_if (pt_not (truA K (pe_op op_and (pv 4) (pv 0)))) (pss_one (ps_aug (i := 3) sc_rules_behind.nd rfl (Or.inr rfl) (pv 5) iop_or)) pss_nil))) (pss_one (ps_ret (pe_lc (own := [("rule", 6)]) rfl sc_rules_behind.nd (pi_range1 (by rfl) T.n_range (pa_cons (pv 2) pa_nil)) (blkOk_by (own := [("rule", 6)]) (N := N_rules_behind) (sc := (defScope s_rules_behind)) (by decide +kernel)) (fun _ _ _ _ _ => pg_name (i := 6) sc_rules_behind.nd rfl (Or.inl rfl)) (fun _ _ _ _ _ => pts_one (pt_not (truA K (pe_op op_and (pv 3) (pe_op op_shl pe_int (pv 6)))))) (fun _ _ _ _ _ => (pv 6))))))), fun x hx => ?_⟩
  obtain ⟨head, told, n⟩ := x
  obtain ⟨h8, hz⟩ := hx
  have h8 : n ≤ 8 := h8
  have hz : told.length ≤ 1000 := hz
  refine ds_seq (ds_asg (Ev.dl (ev_var (d := .int (head : Nat)) rfl) ?_))
  refine ds_seq (ds_for (fun xs i Γ' => xs = sidD told ∧ ∃ s4 s5 : Sl, Γ' = [.val (.int (head : Nat)), .val (.lst (sidD told)), .val (.int (n : Nat)), .val (.int (((told.take i).foldl (fun t s => if s.1 &&& head = 0 then t ||| s.2 else t) head : Nat) : Int)), s4, s5, .unset])
    (dj_list (Ev.dl (ev_var rfl) ⟨sidD told, rfl, ⟨rfl, _, _, rfl⟩, fun i x Γ' hx' ⟨exs, s4, s5, e⟩ => ?_, fun Γ' ⟨exs, s4, s5, e⟩ => ?_⟩)))
  · subst e
    have hx3 : (told.map fun s => D.tup [.int (s.1 : Nat), .int (s.2 : Nat)])[i]? = some x := hx'
    rw [List.getElem?_map] at hx3
    cases q : told[i]? with
    | none => rw [q] at hx3; cases hx3
    | some s =>
      rw [q] at hx3; cases hx3
      have nx : (told.take (i + 1)).foldl (fun t s => if s.1 &&& head = 0 then t ||| s.2 else t) head = if s.1 &&& head = 0 then ((told.take i).foldl (fun t s => if s.1 &&& head = 0 then t ||| s.2 else t) head) ||| s.2 else (told.take i).foldl (fun t s => if s.1 &&& head = 0 then t ||| s.2 else t) head := by
        rw [List.take_add_one, q, List.foldl_append]; rfl
      have fin : ∀ (t : Nat) (s4 s5 : Sl), t = (told.take (i + 1)).foldl (fun t s => if s.1 &&& head = 0 then t ||| s.2 else t) head → sidD told = sidD told ∧ ∃ s4' s5' : Sl, [Sl.val (.int (head : Nat)), .val (.lst (sidD told)), .val (.int (n : Nat)), .val (.int ((t : Nat) : Int)), s4, s5, .unset] = [.val (.int (head : Nat)), .val (.lst (sidD told)), .val (.int (n : Nat)), .val (.int (((told.take (i + 1)).foldl (fun t s => if s.1 &&& head = 0 then t ||| s.2 else t) head : Nat) : Int)), s4', s5', .unset] := fun t s4 s5 ht => ⟨rfl, s4, s5, by rw [ht]⟩
      generalize (told.take i).foldl (fun t s => if s.1 &&& head = 0 then t ||| s.2 else t) head = t at nx
      refine ⟨[4] ++ [5], _, dg_tup2 dg_name dg_name, ds_if (EvT.dl (evt_not (evt_tru_int (ev_op (ev_var (d := .int (s.1 : Nat)) rfl) (ev_var (d := .int (head : Nat)) rfl) dr2_and))) ⟨fun h => ?_, fun h => ?_⟩)⟩
      · rw [nz_nat] at h
        have h := of_decide_eq_true h
        exact ds_orI (a := t) (b := s.2) rfl (ev_var rfl) (fin (t ||| s.2) _ _ (by rw [nx, if_pos h]))
      · rw [nz_nat] at h
        have h := of_decide_eq_false h
        exact ds_next (fin t _ _ (by rw [nx, if_neg h]))
  · subst e
    have lt : (sidD told).length = told.length := List.length_map ..
    rw [lt, List.take_length]
    refine ds_ret (Ev.dl (EvN.ev (evn_lc (xs := List.range n) (c := fun k : Nat => D.int k) (p := fun k => decide (takenM head told &&& 2 ^ k = 0)) (f := fun k : Nat => D.int k) (ei_range (n := n) (eva_cons (ev_var rfl) eva_nil) (by omega)) (by rw [List.length_range]; omega) fun k hk => ⟨[6], _, dg_name, fun i hi => hi, ?t, fun _ => ev_var rfl⟩)) rfl)
    have hk := List.mem_range.mp hk
    rw [← nz_nat]
    exact evt_not (evt_tru_int (ev_op (ev_var (d := .int (takenM head told : Nat)) rfl) (ev_op ev_int (ev_var rfl) (dr2_shl1 (by omega))) dr2_and))
end K09

namespace K09
open PySem PySem.Spec PyProof.Rows L2 Dw
variable [Tabs0]
theorem d_steps {P : Program} {w : World} {K : PySem.W.Frag} {mg : Str → Option Value} {base : Heap} (T : Txt K w mg) : FnOk P w K mg base CX0 3 T.f_steps T.e_steps ["rows", "many"] (toSp (spSteps)) := by
  refine fn_ok T.F_steps sc_steps (fun _ => rfl) fun cdv A outer s' H E hr => ?_
  refine ⟨_, (pss_cons (ps_set (i := 2) sc_steps.nd rfl (Or.inr rfl) (pe_lc (own := [("row", 3)]) rfl sc_steps.nd (piR K (pv 0)) (blkOk_by (own := [("row", 3)]) (N := N_steps) (sc := (defScope s_steps)) (by decide +kernel)) (fun _ _ _ _ _ => pg_name (i := 3) sc_steps.nd rfl (Or.inl rfl)) (fun _ _ _ _ _ => pts_nil) (fun _ _ _ _ _ => (pe_call (d_sides T) (hr.mono (by decide)) (by rfl) T.m_sides T.F_sides.kp T.b_sides .nil pass0 (pa_cons (pv 3) pa_nil))))) (pss_one (ps_ret (pe_lc (own := [("head", 4)]) rfl sc_steps.nd (pi_range1 (by rfl) T.n_range (pa_cons (pe_op op_shl pe_int (pv 1)) pa_nil)) (blkOk_by (own := [("head", 4)]) (N := N_steps) (sc := (defScope s_steps)) (by decide +kernel)) (fun _ _ _ _ _ => pg_name (i := 4) sc_steps.nd rfl (Or.inl rfl)) (fun _ _ _ _ _ => pts_nil) (fun _ _ _ _ _ => (pe_call (d_rules_behind T) (hr.mono (by decide)) (by rfl) T.m_rules_behind T.F_rules_behind.kp T.b_rules_behind .nil pass0 (pa_cons (pv 4) (pa_cons (pv 2) (pa_cons (pv 1) pa_nil))))))))), fun x hx => ?_⟩
  obtain ⟨rs, n, b⟩ := x
  obtain ⟨hr', h8, hz⟩ := hx
  have hr' : ∀ r ∈ rs, RowOk r n := hr'
  have h8 : n ≤ 8 := h8
  have hz : rs.length ≤ 1000 := hz
  have p8 := pow8 h8
  refine ds_seq (ds_asg (Ev.dl (ev_cast (d' := .lst (sidD (rs.map sidesM))) ?c1 (EvN.ev (evn_lc1 (xs := rs) (c := fun r => .str (tx r)) (f := fun r => D.tup [.int (sideM 43 r : Nat), .int (sideM 45 r : Nat)]) (ei_rows (b := b) (ev_var (d := rowsD b rs) rfl)) (by omega) fun r hr => ⟨[3], _, dg_name, fun i hi => hi, evt_yes, ev_call (s := spSides) (x := r) (eva_cons (ev_var rfl) eva_nil) rfl ⟨n, hr' r hr, h8⟩ fun d h => h⟩))) ?_))
  case c1 => unfold sidD; rw [List.map_map]; rfl
  refine ds_ret (Ev.dl (ev_cast (d' := .lst (lolD (stepsM rs n))) ?c2 (EvN.ev (evn_lc1 (xs := List.range (2 ^ n)) (c := fun k : Nat => D.int k) (f := fun head => D.lst (ordD (behindM head (rs.map sidesM) n))) (ei_range (n := 2 ^ n) (eva_cons (ev_op ev_int (ev_var rfl) (dr2_shl1 (by omega))) eva_nil) (by omega)) (by rw [List.length_range]; omega) fun head hh => ⟨[4], _, dg_name, fun i hi => hi, evt_yes, ev_call (s := spBehind) (x := (head, rs.map sidesM, n)) (eva_cons (ev_var rfl) (eva_cons (ev_var rfl) (eva_cons (ev_var rfl) eva_nil))) (np_sd (r := [_]) rfl) ⟨h8, by show (rs.map sidesM).length ≤ 1000; rw [List.length_map]; exact hz⟩ fun d h => h⟩))) rfl)
  unfold lolD stepsM
  rw [List.map_map]; rfl
end K09

namespace K09
open PySem PySem.Spec PyProof.Rows L2 Dw
variable [Tabs0]
theorem d_endings {P : Program} {w : World} {K : PySem.W.Frag} {mg : Str → Option Value} {base : Heap} (T : Txt K w mg) : FnOk P w K mg base CX0 1 T.f_endings T.e_endings ["behind"] (toSp (spEnd)) := by
  refine fn_ok T.F_endings sc_endings (fun _ => rfl) fun cdv A outer s' H E hr => ?_
  refine ⟨_, (pss_cons (ps_set (i := 1) sc_endings.nd rfl (Or.inr rfl) (pe_op opTimes (pe_lst (pa_cons pe_int pa_nil)) (pe_callB (lenA K) (by rfl) T.n_len (by decide +kernel) (pa_cons (pv 0) pa_nil)))) (pss_cons (ps_for PassesOwn.never rfl (pi_revR (by rfl) T.n_reversed (prg_1 (by rfl) T.n_range (pe_op op_sub (pe_callB (lenA K) (by rfl) T.n_len (by decide +kernel) (pa_cons (pv 0) pa_nil)) pe_int))) (pg_name (i := 2) sc_endings.nd rfl (Or.inr rfl)) (pss_one (ps_asg (pe_callB (sumA K) (by rfl) T.n_sum (by decide +kernel) (pa_cons (pe_lc (own := [("rule", 3)]) rfl sc_endings.nd (piR K (pe_ix (ixA K) (pv 0) (pv 2) (fun _ _ => rfl))) (blkOk_by (own := [("rule", 3)]) (N := N_endings) (sc := (defScope s_endings)) (by decide +kernel)) (fun _ _ _ _ _ => pg_name (i := 3) sc_endings.nd rfl (Or.inl rfl)) (fun _ _ _ _ _ => pts_nil) (fun _ _ _ _ _ => (pe_ix (ixA K) (pv 1) (pe_op op_or (pv 2) (pe_op op_shl pe_int (pv 3))) (fun _ _ => rfl)))) pa_nil)) (pg_sub (pv 1) (pv 2) set_list)))) (pss_one (ps_ret (pv 1))))), fun x hx => ?_⟩
  obtain ⟨b, rfl⟩ : ∃ l : List (List Nat), l = x := ⟨x, rfl⟩
  have hb : EndOk b := hx
  have hi := hb.hi
  have lb : (lolD b).length = b.length := List.length_map ..
  refine ds_seq (ds_asg_own (ds := ordD (List.replicate b.length 1)) ?e1 ?_)
  case e1 =>
    rw [← rep_one]
    exact evn_rep (ds := [.int (1 : Nat)]) (n := b.length) (EvN.b (evn_lst (eva_cons ev_int eva_nil) (small (show 1 ≤ 100000 by decide)))) (ev_cast (congrArg (fun n : Nat => D.int n) lb) (ev_len (ds := lolD b) (ev_var rfl).b)) (by show 1 * b.length ≤ _; exact small (by omega)) (by omega)
  refine ds_seq (ds_for (fun xs i Γ' => xs = (rng (b.length - 1)).reverse ∧ ∃ s2 : Sl, Γ' = [.val (.lst (lolD b)), .own (ordD (endTo b i)), s2, .unset])
    (di_rev (n := b.length - 1) (ev_cast (congrArg D.int (by have := hb.lo; rw [lb]; omega)) (ev_op (ev_len (ds := lolD b) (ev_var rfl).b) ev_int (dr2_sub (i := ((lolD b).length : Nat)) (j := 1)))) (by omega) ⟨⟨rfl, _, rfl⟩, fun i x Γ' hx' ⟨exs, s2, e⟩ => ?_, fun Γ' ⟨exs, s2, e⟩ => ?_⟩))
  · subst e
    have hil : i < b.length - 1 := by
      have := (List.getElem?_eq_some_iff.mp hx').1
      rw [List.length_reverse, rng_length] at this
      exact this
    have hx2 : x = .int ((b.length - 1 - 1 - i : Nat) : Int) := by
      rw [List.getElem?_reverse (by rw [rng_length]; exact hil), rng_length] at hx'
      exact (rng_get hx').2
    subst hx2
    obtain ⟨head, hh⟩ : ∃ head, head = b.length - 1 - 1 - i := ⟨_, rfl⟩
    rw [← hh]
    have hl : head < b.length := by omega
    have wl := endTo_len b i
    refine ⟨[2], _, dg_name, ds_sub ⟨_, rfl⟩ (Ev.dl (ev_cast (d' := .int ((((b.getD head []).map fun k => (endTo b i).getD (head ||| 2 ^ k) 0).sum : Nat) : Int)) ?c (ev_sum (ns := (b.getD head []).map fun k => (((endTo b i).getD (head ||| 2 ^ k) 0 : Nat) : Int)) (EvN.b ?e))) ⟨ordD (endTo b i), head, rfl, ev_var rfl, by rw [ordD_len, wl]; exact hl, exs, .val (.int (head : Nat)), ?n⟩)⟩
    case c => rw [← sum_cast, List.map_map]; rfl
    case e =>
      rw [List.map_map]
      refine evn_lc1 (xs := b.getD head []) (c := fun k : Nat => D.int k) (f := fun k => D.int (((endTo b i).getD (head ||| 2 ^ k) 0 : Nat) : Int)) (ej_list (Ev.b (ds := ordD (b.getD head [])) (ev_ix (ds := lolD b) (ev_var rfl).b (ev_var rfl) (lolD_at hl)))) (by have := hb.few head; omega) fun k hk => ⟨[3], _, dg_name, fun i hi => hi, evt_yes, ?_⟩
      obtain ⟨k1, k2⟩ := hb.in_ head hl k hk
      exact ev_ix (evb_own (ds := ordD (endTo b i)) rfl) (ev_op (ev_var (d := .int (head : Nat)) rfl) (ev_op ev_int (ev_var rfl) (dr2_shl1 (by omega))) dr2_or) (ordD_at (by rw [wl]; exact k1))
    case n =>
      show [Sl.val (.lst (lolD b)), .own ((ordD (endTo b i)).set head (.int (_ : Nat))), .val (.int (head : Nat)), .unset] = _
      rw [ordD_set, endTo_succ hil, ← hh]; rfl
  · subst e
    rw [List.length_reverse, rng_length]
    exact ds_ret_own rfl rfl
end K09

namespace K09
open PySem PySem.Spec PyProof.Rows L2 Dw
variable [Tabs0]
/-! any text, read as a book -/
def splitL : List Nat → List (List Nat)
  | [] => [[]]
  | c :: l => if c = 32 then [] :: splitL l else match splitL l with | [] => [[c]] | p :: r => (c :: p) :: r
theorem splitL_ne : ∀ l : List Nat, splitL l ≠ []
  | [] => fun h => nomatch h
  | c :: l => by
    unfold splitL
    by_cases h : c = 32
    · rw [if_pos h]; exact fun h => nomatch h
    · rw [if_neg h]
      cases splitL l <;> exact fun h => nomatch h
theorem splitL_cons {c : Nat} {l : List Nat} (h : c ≠ 32) {p : List Nat} {r : List (List Nat)} (e : splitL l = p :: r) : splitL (c :: l) = (c :: p) :: r := by
  show (if c = 32 then [] :: splitL l else match splitL l with | [] => [[c]] | p :: r => (c :: p) :: r) = _
  rw [if_neg h, e]
theorem splitL_sp (l : List Nat) : splitL (32 :: l) = [] :: splitL l := if_pos rfl
theorem splitL_ind {P : List Nat → List (List Nat) → Prop} (h0 : P [] [[]]) (h1 : ∀ l ps, ps ≠ [] → P l ps → P (32 :: l) ([] :: ps)) (h2 : ∀ c l p r, c ≠ 32 → P l (p :: r) → P (c :: l) ((c :: p) :: r)) : ∀ l, P l (splitL l)
  | [] => h0
  | c :: l => by
    have ih := splitL_ind h0 h1 h2 l
    by_cases h : c = 32
    · subst h
      rw [splitL_sp]
      exact h1 l _ (splitL_ne l) ih
    · cases e : splitL l with
      | nil => exact absurd e (splitL_ne l)
      | cons p r =>
        rw [splitL_cons h e]
        rw [e] at ih
        exact h2 c l p r h ih
theorem joinX_cons (p : List Nat) {r : List (List Nat)} (h : r ≠ []) : TL.joinL [32] (p :: r) = p ++ ([32] ++ TL.joinL [32] r) := by
  cases r with
  | nil => exact absurd rfl h
  | cons q r => simp [TL.joinL]
theorem joinL_one (p : List Nat) : TL.joinL [32] [p] = p := by simp [TL.joinL]
theorem joinL_head (c : Nat) (p : List Nat) (r : List (List Nat)) : TL.joinL [32] ((c :: p) :: r) = c :: TL.joinL [32] (p :: r) := by
  cases r with
  | nil => rw [joinL_one, joinL_one]
  | cons q r => rw [joinX_cons (c :: p) (r := q :: r) (by simp), joinX_cons p (r := q :: r) (by simp)]; rfl
theorem splitL_join (l : List Nat) : TL.joinL [32] (splitL l) = l := splitL_ind (P := fun l ps => TL.joinL [32] ps = l) rfl (fun l ps hn h => by rw [joinX_cons _ hn, h]; rfl) (fun c l p r _ h => by rw [joinL_head, h]) l
theorem splitL_no (l : List Nat) : ∀ p ∈ splitL l, 32 ∉ p := splitL_ind (P := fun _ ps => ∀ p ∈ ps, 32 ∉ p) (fun p h => by rw [List.mem_singleton.mp h]; simp) (fun l ps _ h p hp => by
  rcases List.mem_cons.mp hp with rfl | hp
  · simp
  · exact h p hp) (fun c l p r hc h q hq => by
  rcases List.mem_cons.mp hq with rfl | hq
  · have := h p List.mem_cons_self
    intro hm
    rcases List.mem_cons.mp hm with e | hm
    · exact hc e.symm
    · exact this hm
  · exact h q (List.mem_cons_of_mem _ hq)) l
theorem splitL_len (l : List Nat) : (splitL l).length ≤ l.length + 1 := splitL_ind (P := fun l ps => ps.length ≤ l.length + 1) (Nat.le_refl _) (fun l ps _ h => by simp; omega) (fun c l p r _ h => by simp at h ⊢; omega) l
theorem splitL_sub (l : List Nat) : ∀ p ∈ splitL l, p.length ≤ l.length ∧ ∀ c ∈ p, c ∈ l := splitL_ind (P := fun l ps => ∀ p ∈ ps, p.length ≤ l.length ∧ ∀ c ∈ p, c ∈ l) (fun p h => by rw [List.mem_singleton.mp h]; simp) (fun l ps _ h p hp => by
  rcases List.mem_cons.mp hp with rfl | hp
  · simp
  · obtain ⟨a, b⟩ := h p hp
    exact ⟨by simp; omega, fun c hc => List.mem_cons_of_mem _ (b c hc)⟩) (fun c l p r _ h q hq => by
  rcases List.mem_cons.mp hq with rfl | hq
  · obtain ⟨a, b⟩ := h p List.mem_cons_self
    refine ⟨by simp; omega, fun d hd => ?_⟩
    rcases List.mem_cons.mp hd with rfl | hd
    · exact List.mem_cons_self
    · exact List.mem_cons_of_mem _ (b d hd)
  · obtain ⟨a, b⟩ := h q (List.mem_cons_of_mem _ hq)
    exact ⟨by simp; omega, fun d hd => List.mem_cons_of_mem _ (b d hd)⟩) l
theorem splitL_app {p l : List Nat} (h : 32 ∉ p) : ∀ {q : List Nat} {r : List (List Nat)}, splitL l = q :: r → splitL (p ++ l) = (p ++ q) :: r := by
  induction p with
  | nil => intro q r e; exact e
  | cons c p ih =>
    intro q r e
    have hc : c ≠ 32 := fun z => h (by rw [z]; exact List.mem_cons_self)
    exact splitL_cons hc (ih (fun z => h (List.mem_cons_of_mem _ z)) e)
theorem splitL_of : ∀ {ps : List (List Nat)}, ps ≠ [] → (∀ p ∈ ps, 32 ∉ p) → splitL (TL.joinL [32] ps) = ps
  | [], h, _ => absurd rfl h
  | [p], _, h => by
    have := splitL_app (l := []) (h p List.mem_cons_self) (q := []) (r := []) rfl
    rw [List.append_nil] at this
    rw [joinL_one, this]
  | p :: q :: r, _, h => by
    rw [joinX_cons _ (by simp)]
    have ih := splitL_of (ps := q :: r) (by simp) fun x hx => h x (List.mem_cons_of_mem _ hx)
    have := splitL_app (l := [32] ++ TL.joinL [32] (q :: r)) (h p List.mem_cons_self) (q := []) (r := q :: r) (by rw [show [32] ++ TL.joinL [32] (q :: r) = 32 :: TL.joinL [32] (q :: r) from rfl, splitL_sp, ih])
    rw [List.append_nil] at this
    exact this
theorem splitS (l : List Nat) : Txt.split (tx l) (Str.ofString " ") = (splitL l).map tx := by
  have := split_sp (splitL_ne l) (splitL_no l)
  rw [splitL_join] at this
  exact this
def cutAt : List Nat → Option (List Nat × List Nat)
  | [] => none
  | c :: l => if c = 58 then some ([], l) else (cutAt l).map fun x => (c :: x.1, x.2)
theorem cutAt_some : ∀ {l p q : List Nat}, cutAt l = some (p, q) → l = p ++ ([58] ++ q) ∧ 58 ∉ p
  | [], p, q, h => nomatch h
  | c :: l, p, q, h => by
    unfold cutAt at h
    by_cases hc : c = 58
    · rw [if_pos hc] at h
      cases h
      exact ⟨by rw [hc]; rfl, by simp⟩
    · rw [if_neg hc] at h
      cases e : cutAt l with
      | none => rw [e] at h; cases h
      | some x =>
        obtain ⟨a, b⟩ := x
        rw [e] at h; cases h
        obtain ⟨h1, h2⟩ := cutAt_some e
        refine ⟨by rw [h1]; rfl, fun hm => ?_⟩
        rcases List.mem_cons.mp hm with z | hm
        · exact hc z.symm
        · exact h2 hm
theorem cutAt_none : ∀ {l : List Nat}, cutAt l = none ↔ 58 ∉ l
  | [] => by simp [cutAt]
  | c :: l => by
    unfold cutAt
    by_cases hc : c = 58
    · rw [if_pos hc]
      simp [hc]
    · rw [if_neg hc, Option.map_eq_none_iff, cutAt_none (l := l), List.mem_cons, not_or]
      exact ⟨fun h => ⟨fun z => hc z.symm, h⟩, fun h => h.2⟩
theorem cutAt_of : ∀ {p q : List Nat}, 58 ∉ p → cutAt (p ++ ([58] ++ q)) = some (p, q)
  | [], q, _ => if_pos rfl
  | c :: p, q, h => by
    show (if c = 58 then some ([], p ++ ([58] ++ q)) else (cutAt (p ++ ([58] ++ q))).map fun x => (c :: x.1, x.2)) = _
    rw [if_neg (fun z => h (by rw [z]; exact List.mem_cons_self)), cutAt_of fun z => h (List.mem_cons_of_mem _ z)]; rfl
/-- the tests of a text's head and tail -/
def headB (ns : List (List Nat)) (f : List Nat) : Bool := decide (f = []) && decide (ns.length ≤ 8) && namesB (nameD ns)
def tailB (rows : List (List Nat)) (n : Nat) : Bool := decide (rows.length ≤ 20) && rows.all fun r => rowB (.str (tx r)) n
def bookP (ns : List (List Nat)) : List (List Nat) → Option Bk
  | [] => none
  | f :: rows => if (headB ns f && tailB rows ns.length) = true then some (ns, rows) else none
def bookQ (l : List Nat) : Option Bk := (cutAt l).bind fun x => bookP (splitL x.1) (splitL x.2)
theorem bookQ_tx {ls rs : List (List Nat)} (h : BookOk ls rs) : bookQ (bookTx ls rs) = some (ls, rs) := by
  unfold bookQ
  rw [bookTx_eq, cutAt_of h.h58]
  show bookP (splitL (TL.joinL [32] ls)) (splitL (TL.joinL [32] ([] :: rs))) = _
  rw [splitL_of (fun e => by have := h.names.lo; rw [e] at this; cases this) h.h32, splitL_of (by simp) h.r32]
  refine if_pos ?_
  unfold headB tailB
  rw [decide_eq_true rfl, decide_eq_true h.names.hi, names_ok h.names, decide_eq_true h.few, List.all_eq_true.mpr fun r hr => row_ok (h.rows r hr) h.names.lo h.names.hi]; rfl
theorem okS_codes {l : List Nat} (h : okS (tx l)) : ∀ c ∈ l, c < 1114112 := fun c hc => by
  have h : (tx l).cps.all (fun c => decide (c < 1114112)) = true := h
  rw [← Array.all_toList, List.all_eq_true, tx_cps] at h
  exact of_decide_eq_true (h c hc)
def pairD (b : Bk) : D := .tup [.tup (nameD b.1), .tup (nameD b.2)]
def bookOf : D → Option Bk
  | .str x => bookQ x.cps.toList
  | _ => none
def optD : Option Bk → D
  | some b => pairD b
  | none => .non
/-- a text that is not long beyond sense -/
def shT : D → Bool
  | .str x => decide (x.length ≤ 15000)
  | _ => true
def spReadG : Spc where
  ty := D
  args := fun d => [d]
  ok := fun d => Pv d ∧ shT d = true
  rel := fun d e => e = optD (bookOf d)
theorem bookOf_tx {ls rs : List (List Nat)} (h : BookOk ls rs) : bookOf (.str (tx (bookTx ls rs))) = some (ls, rs) := by
  show bookQ (tx (bookTx ls rs)).cps.toList = _
  rw [tx_cps]; exact bookQ_tx h
theorem not_str {d : D} (h : isStrB d = false) : bookOf d = none := by cases d <;> first | rfl | exact nomatch h
theorem bk_none {l : List Nat} (h : bookQ l = none) : D.non = optD (bookOf (.str (tx l))) := by
  show _ = optD (bookQ (tx l).cps.toList)
  rw [tx_cps, h]; rfl
end K09

namespace K09
open PySem PySem.Spec PyProof.Rows L2 Dw
variable [Tabs0]
theorem d_read_book {P : Program} {w : World} {K : PySem.W.Frag} {mg : Str → Option Value} {base : Heap} (T : Txt K w mg) : FnOk P w K mg base CX0 3 T.f_read_book T.e_read_book ["text"] (toSp (spReadG)) := by
  refine fn_ok T.F_read_book sc_read_book (fun _ => rfl) fun cdv A outer s' H E hr => ?_
  refine ⟨_, (pss_cons (ps_if (PW.pt (pw_or (pt_not (truA K (pe_callB (isiA K) (by rfl) T.n_isinstance (by decide +kernel) (pa_cons (pv 0) (pa_cons (pe_bltn (v := .ty "str") (by rfl) T.n_str (by decide +kernel) rfl) pa_nil))))) (pw_or1 (pt_cmpR (ninA K) pe_str (pv 0) (by rfl))))) (pss_one (ps_ret pe_non)) pss_nil) (pss_cons (ps_asg (pe_partition (pv 0) pe_str) (tupA K 3 rfl (pgs_cons (pg_name (i := 1) sc_read_book.nd rfl (Or.inl rfl)) (pgs_cons (pg_name (i := 2) sc_read_book.nd rfl (Or.inl rfl)) (pgs_cons (pg_name (i := 3) sc_read_book.nd rfl (Or.inl rfl)) pgs_nil))))) (pss_cons (ps_set (i := 4) sc_read_book.nd rfl (Or.inr rfl) (pe_callTy (tupleA K) (by rfl) T.n_tuple (by decide +kernel) (pa_cons (pe_split (pv 1) pe_str) pa_nil))) (pss_cons (ps_asg (pe_split (pv 3) pe_str) (star1XA K rfl (pg_name (i := 5) sc_read_book.nd rfl (Or.inl rfl)) (pg_name (i := 6) sc_read_book.nd rfl (Or.inl rfl)))) (pss_cons (ps_if (PW.pt (pw_or (pt_cmpR (neA K hr.units) (pv 5) pe_str (nomark _)) (pw_or (pt_cmpR opGt (pe_callB (lenA K) (by rfl) T.n_len (by decide +kernel) (pa_cons (pv 4) pa_nil)) (pe_glob (v := .int 8) (by rfl) T.c_MOST_RULES ⟨_, rfl⟩) (nomark _)) (pw_or1 (pt_not (truA K (pe_call (d_are_names T) (hr.mono (by decide)) (by rfl) T.m_are_names T.F_are_names.kp T.b_are_names .nil pass0 (pa_cons (pv 4) pa_nil)))))))) (pss_one (ps_ret pe_non)) pss_nil) (pss_cons (ps_if (PW.pt (pw_or (pt_cmpR opGt (pe_callB (lenA K) (by rfl) T.n_len (by decide +kernel) (pa_cons (pv 6) pa_nil)) (pe_glob (v := .int 20) (by rfl) T.c_MOST_ROWS ⟨_, rfl⟩) (nomark _)) (pw_or1 (pt_not (truA K (pe_callB (allA K) (by rfl) T.n_all (by decide +kernel) (pa_cons (pe_lc (own := [("row", 7)]) rfl sc_read_book.nd (piR K (pv 6)) (blkOk_by (own := [("row", 7)]) (N := N_read_book) (sc := (defScope s_read_book)) (by decide +kernel)) (fun _ _ _ _ _ => pg_name (i := 7) sc_read_book.nd rfl (Or.inl rfl)) (fun _ _ _ _ _ => pts_nil) (fun _ _ _ _ _ => (pe_call (d_is_row T) (hr.mono (by decide)) (by rfl) T.m_is_row T.F_is_row.kp T.b_is_row .nil pass0 (pa_cons (pv 7) (pa_cons (pe_callB (lenA K) (by rfl) T.n_len (by decide +kernel) (pa_cons (pv 4) pa_nil)) pa_nil))))) pa_nil))))))) (pss_one (ps_ret pe_non)) pss_nil) (pss_one (ps_ret (pe_tup (pa_cons (pv 4) (pa_cons (pe_callTy (tupleA K) (by rfl) T.n_tuple (by decide +kernel) (pa_cons (pv 6) pa_nil)) pa_nil))))))))))), fun x hx => ?_⟩
  obtain ⟨d, rfl⟩ : ∃ l : D, l = x := ⟨x, rfl⟩
  obtain ⟨hd, hsh⟩ := hx
  have hd : Pv d := hd
  by_cases hs : isStrB d = true
  · obtain ⟨s, rfl⟩ := str_of hs
    obtain ⟨l, rfl⟩ : ∃ l, s = tx l := ⟨_, of_tx s⟩
    have hc := hd.str.1
    have hl : l.length ≤ 15000 := by
      have : decide ((tx l).length ≤ 15000) = true := hsh
      rw [tx_len] at this
      exact of_decide_eq_true this
    have hz : (tx l).length ≤ sizeLine := small (by rw [tx_len]; omega)
    have e58 := nin_code (K := K) (l := l) (c := 58)
    rw [show ch 58 = Str.ofString ":" by decide +kernel] at e58
    refine ds_seq (ds_if (EvT.dl (b := false || !decide (58 ∈ l)) (evt_or (a := false) (b := !decide (58 ∈ l)) (evt_not (a := true) (evt_tru_bl (ev_isi (ev_var rfl) ev_raw (.inl rfl) (.ty "str") rfl))) fun _ => evt_test (ev_op ev_str (ev_var rfl) e58)) ⟨fun h => ds_ret (Ev.dl ev_non (bk_none ?no)), fun h => ds_next ?_⟩))
    case no =>
      have : 58 ∉ l := by simpa using h
      unfold bookQ
      rw [cutAt_none.mpr this]; rfl
    obtain ⟨p, q, e⟩ : ∃ p q, cutAt l = some (p, q) := by
      cases e : cutAt l with
      | none => exact absurd (cutAt_none.mp e) (by simpa using h)
      | some x => exact ⟨x.1, x.2, rfl⟩
    obtain ⟨el, h58⟩ := cutAt_some e
    have eb : bookQ l = bookP (splitL p) (splitL q) := by
      unfold bookQ
      rw [e]; rfl
    have lpq : p.length + q.length ≤ l.length := by rw [el]; simp
    have hp : Txt.partition (tx l) (Str.ofString ":") = (tx p, tx [58], tx q) := by rw [el]; exact part_sp h58
    refine ds_seq (ds_asg_g (Ev.dl (ev_cast (d' := .tup [.str (tx p), .str (tx [58]), .str (tx q)]) (by rw [hp]) (ev_partition (ev_var rfl) ev_str (by decide +kernel) hz)) ⟨[1] ++ ([2] ++ [3]), _, dg_tup3 dg_name dg_name dg_name, ?_⟩))
    refine ds_seq (ds_asg (Ev.dl (ev_cast (d' := .tup (nameD (splitL p))) ?e1 (ev_tuple (EvN.b (evn_split (a := tx p) (ev_var rfl) ev_str (by decide +kernel) ?z1)))) ?_))
    case e1 => rw [splitS, nameD_map]
    case z1 => rw [tx_len]; exact small (by omega)
    have lq := splitL_len q
    cases eq : splitL q with
    | nil => exact absurd eq (splitL_ne q)
    | cons f rows =>
      rw [eq, List.length_cons] at lq
      have eb : bookQ l = if (headB (splitL p) f && tailB rows (splitL p).length) = true then some (splitL p, rows) else none := by rw [eb, eq]; rfl
      refine ds_seq (ds_starL (Ev.dl (EvN.ev (evn_split (a := tx q) (ev_var rfl) ev_str (by decide +kernel) ?z2)) ⟨.str (tx f), nameD rows, .inl ?e2, ?z3, ?_⟩))
      case e2 => rw [splitS, eq]; show D.lst ((tx f :: rows.map tx).map D.str) = _; rw [List.map_cons, nameD_map]
      case z2 => rw [tx_len]; exact small (by omega)
      case z3 => unfold nameD; rw [List.length_map]; omega
      have l1 : (nameD (splitL p)).length = (splitL p).length := List.length_map ..
      have l2 : (nameD rows).length = rows.length := List.length_map ..
      have sub := splitL_sub p
      have subq := splitL_sub q
      have codes : ∀ c ∈ l, c < 1114112 := fun c hc' => okS_codes hc c hc'
      have pcodes : ∀ c ∈ p, c ∈ l := fun c hc' => by rw [el]; exact List.mem_append_left _ hc'
      have qcodes : ∀ c ∈ q, c ∈ l := fun c hc' => by rw [el]; simp [hc']
      have t1 : (!decide (f = [])) = (!decide (tx f = Str.ofString "")) := by
        congr 1
        rw [show Str.ofString "" = tx [] by decide +kernel]
        exact decide_eq_decide.mpr tx_eq.symm
      refine ds_seq (ds_if (EvT.dl (b := !headB (splitL p) f) ?hd ⟨fun h2 => ds_ret (Ev.dl ev_non (bk_none ?no2)), fun h2 => ds_next ?_⟩))
      case hd =>
        have e3 : (!headB (splitL p) f) = (!decide (f = []) || (!decide ((splitL p).length ≤ 8) || !namesB (nameD (splitL p)))) := by
          unfold headB
          cases decide (f = []) <;> cases decide ((splitL p).length ≤ 8) <;> cases namesB (nameD (splitL p)) <;> rfl
        rw [e3]
        refine evt_or (evt_test (ev_op (ev_var rfl) ev_str (ne_sb t1.symm))) fun _ => evt_or (evt_test (ev_op (ev_lenT (ds := nameD (splitL p)) (ev_var rfl)) ev_int (gt_b ?g))) fun h9 => evt_not (evt_tru_bl (ev_call (s := spNamesG) (x := nameD (splitL p)) (eva_cons (ev_var rfl) eva_nil) (np_tup (np_name _)) ?pv fun d h => h))
        case g =>
          rw [l1]
          have : decide ((8 : Int) < ((splitL p).length : Int)) = !decide ((splitL p).length ≤ 8) := by
            rw [← decide_not]
            exact decide_eq_decide.mpr (by omega)
          exact this
        case pv =>
          have h9 : (splitL p).length ≤ 8 := by simpa using h9
          show (decide ((nameD (splitL p)).length ≤ 60) && plBs 11 (nameD (splitL p))) = true
          rw [l1, decide_eq_true (by omega), Bool.true_and, plBs_iff]
          intro d hd'
          obtain ⟨w, hw, rfl⟩ := List.mem_map.mp hd'
          obtain ⟨s1, s2⟩ := sub w hw
          exact pv_strs (fun c hc' => codes c (pcodes c (s2 c hc'))) (by omega)
      case no2 =>
        rw [eb, if_neg]
        rw [Bool.not_eq_true'] at h2
        rw [h2]; simp
      rw [Bool.not_eq_false'] at h2
      have h2' := h2
      unfold headB at h2'
      rw [Bool.and_eq_true, Bool.and_eq_true, decide_eq_true_eq, decide_eq_true_eq] at h2'
      refine ds_seq (ds_if (EvT.dl (b := !tailB rows (splitL p).length) ?tl ⟨fun h3 => ds_ret (Ev.dl ev_non (bk_none ?no3)), fun h3 => ds_next ?_⟩))
      case tl =>
        have e3 : (!tailB rows (splitL p).length) = (!decide (rows.length ≤ 20) || !rows.all fun r => rowB (.str (tx r)) (splitL p).length) := by
          unfold tailB
          cases decide (rows.length ≤ 20) <;> rfl
        rw [e3]
        refine evt_or (evt_test (ev_op (ev_len (ds := nameD rows) (ev_var rfl).b) ev_int (gt_b ?g2))) fun h9 => evt_not (evt_tru_bl (ev_all_lc (K := K) (xs := rows) (c := fun l => .str (tx l)) (b := fun r => rowB (.str (tx r)) (splitL p).length) (ej_list (ev_var (d := .lst (nameD rows)) rfl).b) ?z4 fun r hr' => ⟨[7], _, dg_name, fun i hi => hi, evt_yes, ev_call (s := spRowG) (x := (.str (tx r), (splitL p).length)) (eva_cons (ev_var rfl) (eva_cons (ev_cast (congrArg (fun n : Nat => D.int n) l1) (ev_lenT (ds := nameD (splitL p)) (ev_var rfl))) eva_nil)) rfl ?pr fun d h => h⟩))
        case g2 =>
          rw [l2]
          have : decide ((20 : Int) < (rows.length : Int)) = !decide (rows.length ≤ 20) := by
            rw [← decide_not]
            exact decide_eq_decide.mpr (by omega)
          exact this
        case z4 => omega
        case pr =>
          obtain ⟨s1, s2⟩ := subq r (by rw [eq]; exact List.mem_cons_of_mem _ hr')
          exact pv_strs (fun c hc' => codes c (qcodes c (s2 c hc'))) (by omega)
      case no3 =>
        rw [eb, if_neg]
        rw [Bool.not_eq_true'] at h3
        rw [h3]; simp
      rw [Bool.not_eq_false'] at h3
      refine ds_ret (Ev.dl (ev_tup (eva_cons (ev_var rfl) (eva_cons (ev_tuple (ev_var (d := .lst (nameD rows)) rfl).b) eva_nil)) (small (show 2 ≤ 100000 by decide))) ?_)
      show _ = optD (bookQ (tx l).cps.toList)
      rw [tx_cps, eb, h2, h3]; rfl
  · have hs : isStrB d = false := by simpa using hs
    refine ds_seq (ds_if (EvT.dl (b := true) (evt_or (a := true) (b := false) (evt_not (a := false) (evt_tru_bl (ev_isi (ev_var rfl) ev_raw (.inl hd.ty) (.ty "str") (by rw [kit_str hd.ty, hs])))) fun h => (nomatch h)) ⟨fun _ => ds_ret (Ev.dl ev_non ?_), fun h => (nomatch h)⟩))
    show D.non = optD (bookOf d)
    rw [not_str hs]; rfl

end K09

namespace K09
open PySem PySem.Spec PyProof.Rows L2 Dw
variable [Tabs0]
/-! books made of texts, by any reading -/
theorem sh_book {ls rs : List (List Nat)} (h : BookOk ls rs) : shT (.str (tx (bookTx ls rs))) = true := decide_eq_true (Nat.le_trans h.len (by decide))
theorem joinX_all {p : Nat → Prop} (h32 : p 32) : ∀ ls : List (List Nat), (∀ l ∈ ls, ∀ c ∈ l, p c) → ∀ c ∈ TL.joinL [32] ls, p c
  | [], _, c, hc => absurd hc (by simp [TL.joinL])
  | [l], h, c, hc => h l List.mem_cons_self c (by simpa [TL.joinL] using hc)
  | l :: m :: r, h, c, hc => by
    rw [joinX_cons l (r := m :: r) (by simp), List.mem_append, List.mem_append] at hc
    rcases hc with hc | hc | hc
    · exact h l List.mem_cons_self c hc
    · rw [List.mem_singleton.mp hc]; exact h32
    · exact joinX_all h32 (m :: r) (fun l' hl => h l' (List.mem_cons_of_mem _ hl)) c hc
theorem bookX_codes {ls rs : List (List Nat)} (h : BookOk ls rs) : ∀ c ∈ bookTx ls rs, c < 1114112 := by
  unfold bookTx
  refine joinX_all (p := fun c => c < 1114112) (by decide) _ fun l hl c hc => ?_
  rcases List.mem_cons.mp hl with rfl | hl
  · rcases List.mem_append.mp hc with hc | hc
    · refine joinX_all (p := fun c => c < 1114112) (by decide) _ (fun l hl c hc => ?_) c hc
      have := ((h.names.all l hl).all c hc).2
      omega
    · rw [List.mem_singleton.mp hc]; decide
  · exact ((h.rows l hl).all c hc).lt
theorem pv_book {ls rs : List (List Nat)} (h : BookOk ls rs) : Pv (.str (tx (bookTx ls rs))) := pv_strs (bookX_codes h) (by have := h.len; rw [tx_len] at this; omega)
theorem opt_book {ls rs : List (List Nat)} (h : BookOk ls rs) : optD (bookOf (.str (tx (bookTx ls rs)))) = .tup [.tup (nameD ls), .tup (nameD rs)] := by
  rw [bookOf_tx h]; rfl
end K09

namespace K09
open PySem PySem.Spec PyProof.Rows L2 Dw
variable [Tabs0]
theorem d_Book___init__ {P : Program} {w : World} {K : PySem.W.Frag} {mg : Str → Option Value} {base : Heap} (T : Txt K w mg) : FnOk P w K mg base CX0 4 T.f_Book___init__ T.e_Book___init__ ["self", "text"] (toIn T.C_Book ["_text", "_names", "_rows"] spInit) := by
  refine in_ok T.F_Book___init__ sc_Book___init__ (fun _ => rfl) fun cdv A outer s' H E hr => ?_
  refine ⟨_, (pss_cons (ps_set (i := 2) sc_Book___init__.nd rfl (Or.inl rfl) (pe_call (d_read_book T) (hr.mono (by decide)) (by rfl) T.m_read_book T.F_read_book.kp T.b_read_book .nil pass0 (pa_cons (pv 1) pa_nil))) (pss_cons (ps_if (pt_cmpR op_isN (pv 2) pe_non (nomark _)) (pss_one ps_never) pss_nil) (pss_cons (ps_fld (pv 0) (pv 1) rfl) (pss_one (ps_asg (pv 2) (tupA K 2 rfl (pgs_cons (pg_fld (pv 0)) (pgs_cons (pg_fld (pv 0)) pgs_nil)))))))), fun x hx a => ?_⟩
  obtain ⟨ls, rs⟩ := x
  have hb : BookOk ls rs := hx
  refine di_seq (di_of (ds_asg (Ev.dl (ev_call (s := spReadG) (d := .tup [.tup (nameD ls), .tup (nameD rs)]) (x := .str (tx (bookTx ls rs))) (eva_cons (ev_var rfl) eva_nil) rfl ⟨pv_book hb, sh_book hb⟩ fun d h => by rw [h]; exact opt_book hb) ?_)))
  refine di_seq (di_of (ds_if (EvT.dl (b := false) (evt_test (ev_op (ev_var rfl) ev_non (dr2_isN fun W v h => ?_))) ⟨fun h => (nomatch h), fun _ => ds_next ?_⟩)))
  · obtain ⟨p, vs, e, _⟩ := h
    rw [e]; exact decide_eq_false fun h => nomatch h
  refine di_seq (di_fld T.cl_Book T.no_text (by simp) (by decide) (ev_var rfl) (ev_var rfl) ?_)
  exact di_fld2 T.cl_Book T.no_names T.no_rows (by decide +kernel) (by decide +kernel) (by decide) (ev_var rfl) (ev_var rfl) ⟨rfl, rfl⟩


end K09

namespace K09
open PySem PySem.Spec PyProof.Rows L2 Dw
variable [Tabs0]
end K09

namespace K09
open PySem PySem.Spec PyProof.Rows L2 Dw
variable [Tabs0]
/-! the numbers are those of the rankings that fit -/
theorem nodup_ext {α : Type} [DecidableEq α] : ∀ {l m : List α}, l.Nodup → m.Nodup → (∀ a, a ∈ l ↔ a ∈ m) → l.Perm m
  | [], m, _, _, h => by
    cases m with
    | nil => exact .refl _
    | cons x m => exact absurd ((h x).mpr List.mem_cons_self) (by simp)
  | x :: l, m, nl, nm, h => by
    have hx : x ∈ m := (h x).mp List.mem_cons_self
    have p := List.perm_cons_erase hx
    obtain ⟨n1, n2⟩ := List.nodup_cons.mp nl
    refine ((nodup_ext (m := m.erase x) n2 (nm.erase x) fun k => ?_).cons x).trans p.symm
    constructor
    · intro hk
      have hne : k ≠ x := fun e => n1 (by rw [← e]; exact hk)
      exact (List.mem_erase_of_ne hne).mpr ((h k).mp (List.mem_cons_of_mem _ hk))
    · intro hk
      have hk2 := List.mem_of_mem_erase hk
      have hne : k ≠ x := fun e => by
        subst e
        exact nm.not_mem_erase hk
      rcases List.mem_cons.mp ((h k).mpr hk2) with e | e
      · exact absurd e hne
      · exact e
theorem allM_nodup (n : Nat) : ∀ i, (allM n i).Nodup
  | 0 => by show [[]].Nodup; simp
  | i + 1 => by
    show (List.flatMap _ _).Nodup
    have ih := allM_nodup n i
    generalize allM n i = l at ih
    induction l with
    | nil => exact List.nodup_nil
    | cons o l ihl =>
      obtain ⟨n1, n2⟩ := List.nodup_cons.mp ih
      rw [List.flatMap_cons, List.nodup_append]
      refine ⟨?_, ihl n2, fun a ha b hb e => ?_⟩
      · rw [List.nodup_iff_pairwise_ne]
        refine List.pairwise_map.mpr (((List.nodup_iff_pairwise_ne.mp List.nodup_range).sublist List.filter_sublist).imp fun {a b} h e => h ?_)
        exact (List.cons.inj (List.append_cancel_left e)).1
      · obtain ⟨k, _, rfl⟩ := List.mem_map.mp ha
        obtain ⟨p, hp, hq⟩ := List.mem_flatMap.mp hb
        obtain ⟨j, _, rfl⟩ := List.mem_map.mp hq
        have : o = p := by
          have e2 := congrArg List.dropLast e
          simpa using e2
        subst this
        exact n1 hp
theorem fitM_nodup (rs : List (List Nat)) (n : Nat) : (fitM rs n).Nodup := (allM_nodup n n).sublist List.filter_sublist
def pathsF (rs : List (List Nat)) (n : Nat) : Nat → Nat → List (List Nat)
  | 0, _ => [[]]
  | m + 1, head => if head = 2 ^ n - 1 then [[]] else ((List.range n).filter (openBit rs head)).flatMap fun k => (pathsF rs n m (head ||| 2 ^ k)).map fun o => k :: o
theorem paths_len {rs : List (List Nat)} {n : Nat} : ∀ (m head : Nat), head < 2 ^ n → 2 ^ n - 1 - head ≤ m → (endM (stepsM rs n)).getD head 0 = (pathsF rs n m head).length
  | 0, head, h, hm => by
    have e : head = 2 ^ n - 1 := by omega
    have := end_last (behind := stepsM rs n) (by rw [steps_len]; omega)
    rw [steps_len] at this
    rw [e, this]; rfl
  | m + 1, head, h, hm => by
    by_cases hl : head = 2 ^ n - 1
    · have := end_last (behind := stepsM rs n) (by rw [steps_len]; omega)
      rw [steps_len] at this
      rw [hl, this]
      unfold pathsF
      rw [if_pos rfl]; rfl
    · have hlt : head < (stepsM rs n).length - 1 := by rw [steps_len]; omega
      have up : ∀ k ∈ (stepsM rs n).getD head [], head < head ||| 2 ^ k := fun k hk => by
        rw [steps_at h] at hk
        exact or_up (open_bit (List.mem_filter.mp hk).2)
      rw [end_at hlt up, steps_at h]
      unfold pathsF
      rw [if_neg hl, List.length_flatMap]
      congr 1
      refine List.map_congr_left fun k hk => ?_
      obtain ⟨hk1, hk2⟩ := List.mem_filter.mp hk
      have kn := List.mem_range.mp hk1
      have lt := or_up (open_bit hk2)
      rw [List.length_map]
      exact paths_len m _ (Nat.or_lt_two_pow h (Nat.pow_lt_pow_right (by decide) kn)) (by omega)
theorem paths_nodup {rs : List (List Nat)} {n : Nat} : ∀ (m head : Nat), (pathsF rs n m head).Nodup
  | 0, head => by show [[]].Nodup; simp
  | m + 1, head => by
    unfold pathsF
    split
    · simp
    · have nd : ((List.range n).filter (openBit rs head)).Nodup := List.nodup_range.sublist List.filter_sublist
      generalize (List.range n).filter (openBit rs head) = l at nd
      induction l with
      | nil => exact List.nodup_nil
      | cons k l ih =>
        obtain ⟨n1, n2⟩ := List.nodup_cons.mp nd
        rw [List.flatMap_cons, List.nodup_append]
        refine ⟨?_, ih n2, fun a ha b hb e => ?_⟩
        · rw [List.nodup_iff_pairwise_ne]
          exact List.pairwise_map.mpr ((List.nodup_iff_pairwise_ne.mp (paths_nodup m _)).imp fun {a b} h e => h (List.cons.inj e).2)
        · obtain ⟨o, _, rfl⟩ := List.mem_map.mp ha
          obtain ⟨j, hj, hq⟩ := List.mem_flatMap.mp hb
          obtain ⟨p, _, rfl⟩ := List.mem_map.mp hq
          have : k = j := (List.cons.inj e).1
          subst this
          exact n1 hj
/-- a way through the heads from head on -/
inductive Way (rs : List (List Nat)) (n : Nat) : Nat → List Nat → Prop
  | done : Way rs n (2 ^ n - 1) []
  | step (head k : Nat) (o : List Nat) (h : head ≠ 2 ^ n - 1) (hk : k < n) (ho : openBit rs head k = true) (w : Way rs n (head ||| 2 ^ k) o) : Way rs n head (k :: o)
theorem paths_way {rs : List (List Nat)} {n : Nat} : ∀ (m head : Nat) (o : List Nat), head < 2 ^ n → 2 ^ n - 1 - head ≤ m → (o ∈ pathsF rs n m head ↔ Way rs n head o)
  | 0, head, o, h, hm => by
    have e : head = 2 ^ n - 1 := by omega
    subst e
    show o ∈ [[]] ↔ _
    constructor
    · intro ho; rw [List.mem_singleton.mp ho]; exact .done
    · intro w
      cases w with
      | done => exact List.mem_singleton.mpr rfl
      | step _ k o h => exact absurd rfl h
  | m + 1, head, o, h, hm => by
    unfold pathsF
    by_cases hl : head = 2 ^ n - 1
    · subst hl
      rw [if_pos rfl]
      constructor
      · intro ho; rw [List.mem_singleton.mp ho]; exact .done
      · intro w
        cases w with
        | done => exact List.mem_singleton.mpr rfl
        | step _ k o h => exact absurd rfl h
    · rw [if_neg hl, List.mem_flatMap]
      constructor
      · rintro ⟨k, hk, ho⟩
        obtain ⟨hk1, hk2⟩ := List.mem_filter.mp hk
        obtain ⟨p, hp, rfl⟩ := List.mem_map.mp ho
        have kn := List.mem_range.mp hk1
        have lt := or_up (open_bit hk2)
        exact .step head k p hl kn hk2 ((paths_way m _ p (Nat.or_lt_two_pow h (Nat.pow_lt_pow_right (by decide) kn)) (by omega)).mp hp)
      · intro w
        cases w with
        | done => exact absurd rfl hl
        | step _ k p _ kn ho w =>
          have lt := or_up (open_bit ho)
          exact ⟨k, List.mem_filter.mpr ⟨List.mem_range.mpr kn, ho⟩, List.mem_map.mpr ⟨p, (paths_way m _ p (Nat.or_lt_two_pow h (Nat.pow_lt_pow_right (by decide) kn)) (by omega)).mpr w, rfl⟩⟩
theorem or_bit (head k j : Nat) : (head ||| 2 ^ k).testBit j = (head.testBit j || decide (k = j)) := by rw [Nat.testBit_or, Nat.testBit_two_pow]
theorem full_bit {n head : Nat} (h : head < 2 ^ n) (hb : ∀ k < n, head.testBit k = true) : head = 2 ^ n - 1 := by
  apply Nat.eq_of_testBit_eq
  intro k
  rw [Nat.testBit_two_pow_sub_one]
  by_cases hk : k < n
  · rw [hb k hk]; simp [hk]
  · rw [Nat.testBit_lt_two_pow (Nat.lt_of_lt_of_le h (Nat.pow_le_pow_right (by decide) (by omega)))]; simp [hk]
/-- ways are orders of the other rules -/
theorem way_mem {rs : List (List Nat)} {n : Nat} {head : Nat} {o : List Nat} (w : Way rs n head o) : o.Nodup ∧ ∀ k, k ∈ o ↔ k < n ∧ head.testBit k = false := by
  induction w with
  | done => exact ⟨List.nodup_nil, fun k => ⟨fun h => absurd h (by simp), fun ⟨h1, h2⟩ => by rw [Nat.testBit_two_pow_sub_one] at h2; simp [h1] at h2⟩⟩
  | step head k o h hk ho w ih =>
    obtain ⟨nd, mem⟩ := ih
    have kb := open_bit ho
    have kno : k ∉ o := fun z => by
      have := ((mem k).mp z).2
      rw [or_bit] at this; simp at this
    refine ⟨List.nodup_cons.mpr ⟨kno, nd⟩, fun j => ?_⟩
    rw [List.mem_cons, mem j, or_bit]
    constructor
    · rintro (rfl | ⟨a, b⟩)
      · exact ⟨hk, kb⟩
      · rw [Bool.or_eq_false_iff] at b
        exact ⟨a, b.1⟩
    · rintro ⟨a, b⟩
      by_cases e : j = k
      · exact .inl e
      · exact .inr ⟨a, by rw [b]; simpa using fun z => e z.symm⟩
theorem holds_cons {r : List Nat} (k : Nat) (o : List Nat) : holdsB r (k :: o) = if sgn r k = 46 then holdsB r o else decide (sgn r k = 43) := by
  by_cases z : sgn r k = 46
  · rw [if_pos z]
    have : holdsB r ([k] ++ o) = holdsB r o := holds_pre fun j hj => by rw [List.mem_singleton.mp hj]; exact z
    exact this
  · rw [if_neg z]
    unfold holdsB told
    rw [List.map_cons, List.filter_cons_of_pos (by simp [z])]
/-- rows that no plus settles yet hold along the rest of a way, and only then is it a way -/
theorem way_iff {rs : List (List Nat)} {n : Nat} (hs : ∀ r ∈ rs, ∀ c, sgn r c = 43 ∨ sgn r c = 45 ∨ sgn r c = 46) : ∀ (o : List Nat) (head : Nat), head < 2 ^ n → o.Nodup → (∀ k, k ∈ o ↔ k < n ∧ head.testBit k = false) → (Way rs n head o ↔ ∀ r ∈ rs, sideM 43 r &&& head = 0 → holdsB r o = true)
  | [], head, h, nd, mem => by
    have e : head = 2 ^ n - 1 := full_bit h fun k hk => by
      cases q : head.testBit k with
      | true => rfl
      | false => exact absurd ((mem k).mpr ⟨hk, q⟩) (by simp)
    subst e
    exact ⟨fun _ r hr _ => rfl, fun _ => .done⟩
  | k :: o, head, h, nd, mem => by
    obtain ⟨n1, n2⟩ := List.nodup_cons.mp nd
    obtain ⟨kn, kb⟩ := (mem k).mp List.mem_cons_self
    have hne : head ≠ 2 ^ n - 1 := fun e => by
      rw [e, Nat.testBit_two_pow_sub_one] at kb
      simp [kn] at kb
    have h2 : head ||| 2 ^ k < 2 ^ n := Nat.or_lt_two_pow h (Nat.pow_lt_pow_right (by decide) kn)
    have mem2 : ∀ j, j ∈ o ↔ j < n ∧ (head ||| 2 ^ k).testBit j = false := fun j => by
      rw [or_bit]
      constructor
      · intro hj
        obtain ⟨a, b⟩ := (mem j).mp (List.mem_cons_of_mem _ hj)
        have : k ≠ j := fun e => n1 (e ▸ hj)
        exact ⟨a, by rw [b]; simp [this]⟩
      · rintro ⟨a, b⟩
        rw [Bool.or_eq_false_iff] at b
        have hj := (mem j).mpr ⟨a, b.1⟩
        exact (List.mem_cons.mp hj).resolve_left fun e => by
          subst e; simp at b
    have ih := way_iff hs o (head ||| 2 ^ k) h2 n2 mem2
    have plus : ∀ r, sideM 43 r &&& (head ||| 2 ^ k) = 0 ↔ sideM 43 r &&& head = 0 ∧ sgn r k ≠ 43 := fun r => by
      rw [and_zero, and_zero]
      constructor
      · intro hx
        refine ⟨fun j ⟨a, b⟩ => hx j ⟨a, by rw [or_bit, b]; rfl⟩, fun z => hx k ⟨?_, by rw [or_bit]; simp⟩⟩
        rw [side_bit (by decide)]; exact decide_eq_true z
      · rintro ⟨hx, hz⟩ j ⟨a, b⟩
        rw [or_bit, Bool.or_eq_true] at b
        rcases b with b | b
        · exact hx j ⟨a, b⟩
        · have e : k = j := of_decide_eq_true b
          subst e
          rw [side_bit (by decide)] at a
          exact hz (of_decide_eq_true a)
    have ob : openBit rs head k = true ↔ ∀ r ∈ rs, sideM 43 r &&& head = 0 → sgn r k ≠ 45 := by
      unfold openBit
      rw [kb, Bool.not_false, Bool.true_and, List.all_eq_true]
      constructor
      · intro hx r hr hz z
        have := hx r hr
        rw [decide_eq_true hz, decide_eq_true z] at this; cases this
      · intro hx r hr
        by_cases hz : sideM 43 r &&& head = 0
        · rw [decide_eq_false (hx r hr hz)]; simp
        · rw [decide_eq_false hz]; rfl
    constructor
    · intro w
      cases w with
      | step _ _ _ _ _ ho w =>
        intro r hr hz
        rw [holds_cons]
        have h45 := ob.mp ho r hr hz
        rcases hs r hr k with z | z | z
        · rw [if_neg (by rw [z]; decide), z]; rfl
        · exact absurd z h45
        · rw [if_pos z]
          exact ih.mp w r hr ((plus r).mpr ⟨hz, by rw [z]; decide⟩)
    · intro hx
      refine .step head k o hne kn (ob.mpr fun r hr hz z => ?_) (ih.mpr fun r hr hz => ?_)
      · have := hx r hr hz
        rw [holds_cons, if_neg (by rw [z]; decide), z] at this
        exact absurd this (by decide)
      · obtain ⟨a, b⟩ := (plus r).mp hz
        have := hx r hr a
        rw [holds_cons] at this
        rcases hs r hr k with z | z | z
        · exact absurd z b
        · rw [if_neg (by rw [z]; decide), z] at this
          exact absurd this (by decide)
        · rw [if_pos z] at this; exact this
end K09

namespace K09
open PySem PySem.Spec PyProof.Rows L2 Dw
variable [Tabs0]
/-! numbers of rankings: flows over the heads; a row and its opposite; all of them -/
/-! all of them -/
def fac : Nat → Nat
  | 0 => 1
  | n + 1 => fac n * (n + 1)
theorem flat_const {f : List Nat → List (List Nat)} {m : Nat} : ∀ {l : List (List Nat)}, (∀ o ∈ l, (f o).length = m) → (l.flatMap f).length = l.length * m
  | [], _ => by simp
  | o :: l, h => by
    rw [List.flatMap_cons, List.length_append, List.length_cons, Nat.add_mul, Nat.one_mul, h o List.mem_cons_self, flat_const fun x hx => h x (List.mem_cons_of_mem _ hx), Nat.add_comm]
theorem ext_len {n i : Nat} {o : List Nat} (h : o ∈ allM n i) : (extM n o).length = n - i := by
  obtain ⟨hl, nd, lt⟩ := (allM_mem n i o).mp h
  unfold extM
  rw [List.length_map]
  have p : ((List.range n).filter fun k => decide (k ∈ o)).Perm o := nodup_ext (List.nodup_range.sublist List.filter_sublist) nd fun k => by
    rw [List.mem_filter, List.mem_range, decide_eq_true_eq]
    exact ⟨fun h => h.2, fun h => ⟨lt k h, h⟩⟩
  have e : ∀ (l : List Nat) (p : Nat → Bool), (l.filter p).length + (l.filter fun k => !p k).length = l.length := fun l p => by
    induction l with
    | nil => rfl
    | cons a r ih =>
      cases q : p a with
      | true => rw [List.filter_cons_of_pos q, List.filter_cons_of_neg (by rw [q]; decide), List.length_cons, List.length_cons]; omega
      | false => rw [List.filter_cons_of_neg (by rw [q]; decide), List.filter_cons_of_pos (by rw [q]; rfl), List.length_cons, List.length_cons]; omega
  have := e (List.range n) fun k => decide (k ∈ o)
  rw [p.length_eq, hl, List.length_range] at this
  omega
theorem all_fac {n : Nat} : ∀ {i : Nat}, i ≤ n → (allM n i).length * fac (n - i) = fac n
  | 0, _ => by
    show 1 * fac (n - 0) = fac n
    rw [Nat.one_mul, Nat.sub_zero]
  | i + 1, h => by
    have ih := all_fac (n := n) (i := i) (by omega)
    rw [allM_succ, flat_const fun o ho => ext_len ho]
    have e : n - i = (n - (i + 1)) + 1 := by omega
    rw [e] at ih
    rw [e, ← ih]
    show _ = _ * (fac (n - (i + 1)) * ((n - (i + 1)) + 1))
    rw [Nat.mul_assoc, Nat.mul_comm (n - (i + 1) + 1)]
theorem all_len {n : Nat} : (allM n n).length = fac n := by
  have := all_fac (n := n) (i := n) (Nat.le_refl _)
  rw [Nat.sub_self, show fac 0 = 1 from rfl, Nat.mul_one] at this
  exact this
theorem fit_none {n : Nat} : (fitM [] n).length = fac n := by
  have e : fitM [] n = allM n n := List.filter_eq_self.mpr fun _ _ => rfl
  rw [e, all_len]
/-! the ways to come to a head -/
def opIn (head : Nat) (ways : List Nat) (k : Nat) : List Nat := ways.set (head ||| 2 ^ k) (ways.getD (head ||| 2 ^ k) 0 + ways.getD head 0)
structure StepB (B : List (List Nat)) : Prop where
  lo : 1 ≤ B.length
  up : ∀ g, g < B.length → ∀ k ∈ B.getD g [], g < g ||| 2 ^ k ∧ g ||| 2 ^ k < B.length
/-! sums -/
/-! how many a head holds -/
/-! lots and heads -/
theorem rows_sgn {rs : List (List Nat)} {n : Nat} (hr : ∀ r ∈ rs, RowOk r n) : ∀ r ∈ rs, ∀ c, sgn r c = 43 ∨ sgn r c = 45 ∨ sgn r c = 46 := fun r h c => sgn_is (hr r h) c
/-! what the program's defs promise here -/
end K09

namespace K09
open PySem PySem.Spec PyProof.Rows L2 Dw
variable [Tabs0]
/-! rankings by their number -/
theorem lex_app {a b : Nat} : ∀ {o p : List Nat} {x y : List Nat}, o.length = p.length → o < p → o ++ x < p ++ y
  | [], [], _, _, _, h => absurd h (List.lt_irrefl _)
  | [], _ :: _, _, _, e, _ => by cases e
  | _ :: _, [], _, _, e, _ => by cases e
  | u :: o, v :: p, x, y, e, h => by
    rw [List.cons_append, List.cons_append]
    rcases List.cons_lt_cons_iff.mp h with h | ⟨h, h2⟩
    · exact List.cons_lt_cons_iff.mpr (.inl h)
    · exact List.cons_lt_cons_iff.mpr (.inr ⟨h, lex_app (a := a) (b := b) (by simpa using e) h2⟩)
theorem lex_same : ∀ (o : List Nat) {x y : List Nat}, x < y → o ++ x < o ++ y
  | [], _, _, h => h
  | u :: o, x, y, h => List.cons_lt_cons_iff.mpr (.inr ⟨rfl, lex_same o h⟩)
theorem pw_flat {α β : Type} {R : β → β → Prop} {f : α → List β} : ∀ {l : List α}, (∀ a ∈ l, (f a).Pairwise R) → l.Pairwise (fun a b => ∀ x ∈ f a, ∀ y ∈ f b, R x y) → (l.flatMap f).Pairwise R
  | [], _, _ => by simp
  | a :: l, h1, h2 => by
    rw [List.flatMap_cons, List.pairwise_append]
    obtain ⟨p, q⟩ := List.pairwise_cons.mp h2
    refine ⟨h1 a List.mem_cons_self, pw_flat (fun b hb => h1 b (List.mem_cons_of_mem _ hb)) q, fun x hx y hy => ?_⟩
    obtain ⟨b, hb, hy⟩ := List.mem_flatMap.mp hy
    exact p b hb x hx y hy
theorem range_lt (n : Nat) : (List.range n).Pairwise (· < ·) := List.pairwise_lt_range
theorem allM_lex (n : Nat) : ∀ i, (allM n i).Pairwise (· < ·)
  | 0 => by show List.Pairwise _ [[]]; simp
  | i + 1 => by
    show List.Pairwise _ ((allM n i).flatMap (extM n))
    refine pw_flat (fun o _ => ?_) ((allM_lex n i).imp_of_mem fun {o p} ho hp h x hx y hy => ?_)
    · unfold extM
      refine List.pairwise_map.mpr (((range_lt n).filter _).imp fun {a b} h => lex_same o ?_)
      exact List.cons_lt_cons_iff.mpr (.inl h)
    · unfold extM at hx hy
      obtain ⟨u, _, rfl⟩ := List.mem_map.mp hx
      obtain ⟨v, _, rfl⟩ := List.mem_map.mp hy
      exact lex_app (a := 0) (b := 0) (by have h1 := ((allM_mem n i o).mp ho).1; have h2 := ((allM_mem n i p).mp hp).1; omega) h
theorem fitM_lex (rs : List (List Nat)) (n : Nat) : (fitM rs n).Pairwise (· < ·) := (allM_lex n n).filter _
theorem paths_lex {rs : List (List Nat)} {n : Nat} : ∀ m head, (pathsF rs n m head).Pairwise (· < ·)
  | 0, _ => by show List.Pairwise _ [[]]; simp
  | m + 1, head => by
    unfold pathsF
    split
    · simp
    · refine pw_flat (fun k _ => List.pairwise_map.mpr ((paths_lex m _).imp fun {a b} h => List.cons_lt_cons_iff.mpr (.inr ⟨rfl, h⟩))) (((range_lt n).filter _).imp fun {a b} h x hx y hy => ?_)
      obtain ⟨u, _, rfl⟩ := List.mem_map.mp hx
      obtain ⟨v, _, rfl⟩ := List.mem_map.mp hy
      exact List.cons_lt_cons_iff.mpr (.inl h)
/-- the ways from a head on, in order -/
def ways (rs : List (List Nat)) (n head : Nat) : List (List Nat) := pathsF rs n (2 ^ n - 1 - head) head
def nextR (rs : List (List Nat)) (n head : Nat) : List Nat := (List.range n).filter (openBit rs head)
def wayN (rs : List (List Nat)) (n head : Nat) : Nat := (endM (stepsM rs n)).getD head 0
theorem ways_len {rs : List (List Nat)} {n head : Nat} (h : head < 2 ^ n) : wayN rs n head = (ways rs n head).length := paths_len _ _ h (Nat.le_refl _)
theorem next_up {rs : List (List Nat)} {n head k : Nat} (h : head < 2 ^ n) (hk : k ∈ nextR rs n head) : k < n ∧ head < head ||| 2 ^ k ∧ head ||| 2 ^ k < 2 ^ n := by
  obtain ⟨h1, h2⟩ := List.mem_filter.mp hk
  have h1 := List.mem_range.mp h1
  exact ⟨h1, or_up (open_bit h2), Nat.or_lt_two_pow h (Nat.pow_lt_pow_right (by decide) h1)⟩
theorem flat_congr {f g : Nat → List (List Nat)} : ∀ {l : List Nat}, (∀ k ∈ l, f k = g k) → l.flatMap f = l.flatMap g
  | [], _ => rfl
  | a :: l, h => by rw [List.flatMap_cons, List.flatMap_cons, h a List.mem_cons_self, flat_congr fun k hk => h k (List.mem_cons_of_mem _ hk)]
theorem paths_fuel {rs : List (List Nat)} {n : Nat} : ∀ (m m' head : Nat), head < 2 ^ n → 2 ^ n - 1 - head ≤ m → 2 ^ n - 1 - head ≤ m' → pathsF rs n m head = pathsF rs n m' head
  | 0, 0, _, _, _, _ => rfl
  | 0, m' + 1, head, h, h1, _ => by
    show [[]] = if head = 2 ^ n - 1 then _ else _
    rw [if_pos (by omega)]
  | m + 1, 0, head, h, _, h1 => by
    show (if head = 2 ^ n - 1 then _ else _) = [[]]
    rw [if_pos (by omega)]
  | m + 1, m' + 1, head, h, h1, h2 => by
    show (if head = 2 ^ n - 1 then _ else _) = (if head = 2 ^ n - 1 then _ else _)
    split
    · rfl
    · refine flat_congr fun k hk => ?_
      obtain ⟨a, b, c⟩ := next_up h hk
      rw [paths_fuel m m' _ c (by omega) (by omega)]
theorem ways_step {rs : List (List Nat)} {n head : Nat} (h : head < 2 ^ n - 1) : ways rs n head = (nextR rs n head).flatMap fun k => (ways rs n (head ||| 2 ^ k)).map fun o => k :: o := by
  unfold ways
  obtain ⟨m, hm⟩ : ∃ m, 2 ^ n - 1 - head = m + 1 := ⟨2 ^ n - 1 - head - 1, by omega⟩
  rw [hm]
  show (if head = 2 ^ n - 1 then _ else _) = _
  rw [if_neg (by omega)]
  refine flat_congr fun k hk => ?_
  obtain ⟨a, b, c⟩ := next_up (by omega) hk
  rw [paths_fuel m (2 ^ n - 1 - (head ||| 2 ^ k)) _ c (by omega) (Nat.le_refl _)]
theorem ways_full {rs : List (List Nat)} {n : Nat} : ways rs n (2 ^ n - 1) = [[]] := by
  unfold ways
  rw [Nat.sub_self]; rfl
theorem next_full {rs : List (List Nat)} {n : Nat} : nextR rs n (2 ^ n - 1) = [] := by
  refine List.filter_eq_nil_iff.mpr fun k hk => ?_
  have hk := List.mem_range.mp hk
  unfold openBit
  rw [Nat.testBit_two_pow_sub_one, decide_eq_true hk]
  simp
theorem ways_fit {rs : List (List Nat)} {n : Nat} (hs : ∀ r ∈ rs, ∀ c, sgn r c = 43 ∨ sgn r c = 45 ∨ sgn r c = 46) : ways rs n 0 = fitM rs n := by
  have p2 : 0 < 2 ^ n := Nat.two_pow_pos n
  have sub : ∀ a, a ∈ ways rs n 0 ↔ a ∈ fitM rs n := fun o => by
    unfold ways
    rw [paths_way _ _ _ p2 (by omega), fitM_mem]
    constructor
    · intro w
      obtain ⟨nd, mem⟩ := way_mem w
      refine ⟨?_, fun r hr => (way_iff hs o 0 p2 nd mem).mp w r hr (Nat.and_zero _)⟩
      exact nodup_ext nd List.nodup_range fun k => by rw [mem k, List.mem_range, Nat.zero_testBit]; simp
    · rintro ⟨p, hh⟩
      have nd : o.Nodup := p.nodup_iff.mpr List.nodup_range
      have mem : ∀ k, k ∈ o ↔ k < n ∧ Nat.testBit 0 k = false := fun k => by rw [p.mem_iff, List.mem_range, Nat.zero_testBit]; simp
      exact (way_iff hs o 0 p2 nd mem).mpr fun r hr _ => hh r hr
  have pm : (ways rs n 0).Perm (fitM rs n) := nodup_ext (paths_nodup _ _) (fitM_nodup rs n) sub
  exact pm.eq_of_pairwise (le := (· < ·)) (fun a b _ _ h1 h2 => absurd (List.lt_trans h1 h2) (List.lt_irrefl _)) (paths_lex _ _) (fitM_lex rs n)
/-- what is left of a head's ways behind its first j steps -/
def restW (rs : List (List Nat)) (n head j : Nat) : List (List Nat) := ((nextR rs n head).drop j).flatMap fun k => (ways rs n (head ||| 2 ^ k)).map fun o => k :: o
theorem rest_0 {rs : List (List Nat)} {n head : Nat} (h : head < 2 ^ n - 1) : restW rs n head 0 = ways rs n head := (ways_step h).symm
theorem rest_at {rs : List (List Nat)} {n head j k : Nat} (e : (nextR rs n head)[j]? = some k) : restW rs n head j = ((ways rs n (head ||| 2 ^ k)).map fun o => k :: o) ++ restW rs n head (j + 1) := by
  unfold restW
  rw [← List.flatMap_cons (f := fun k => (ways rs n (head ||| 2 ^ k)).map fun o => k :: o)]
  congr 1
  obtain ⟨h, e⟩ := List.getElem?_eq_some_iff.mp e
  rw [List.drop_eq_getElem_cons h, e]
theorem rest_in {rs : List (List Nat)} {n head j m : Nat} {q : List Nat} (e : (restW rs n head j)[m]? = some q) : ∃ k, (nextR rs n head)[j]? = some k := by
  cases z : (nextR rs n head)[j]? with
  | some k => exact ⟨k, rfl⟩
  | none =>
    have : (nextR rs n head).drop j = [] := List.drop_eq_nil_of_le (List.getElem?_eq_none_iff.mp z)
    unfold restW at e
    rw [this] at e
    simp at e
theorem rest_next {rs : List (List Nat)} {n head j m k : Nat} {q : List Nat} (h : head < 2 ^ n) (ej : (nextR rs n head)[j]? = some k) (e : (restW rs n head j)[m]? = some q) (hm : wayN rs n (head ||| 2 ^ k) ≤ m) : (restW rs n head (j + 1))[m - wayN rs n (head ||| 2 ^ k)]? = some q := by
  rw [rest_at ej, List.getElem?_append_right (by rw [List.length_map, ← ways_len (next_up h (List.mem_of_getElem? ej)).2.2]; exact hm), List.length_map, ← ways_len (next_up h (List.mem_of_getElem? ej)).2.2] at e
  exact e
theorem rest_take {rs : List (List Nat)} {n head j m k : Nat} {q : List Nat} (h : head < 2 ^ n) (ej : (nextR rs n head)[j]? = some k) (e : (restW rs n head j)[m]? = some q) (hm : m < wayN rs n (head ||| 2 ^ k)) : ∃ r, q = k :: r ∧ (ways rs n (head ||| 2 ^ k))[m]? = some r := by
  rw [rest_at ej, List.getElem?_append_left (by rw [List.length_map, ← ways_len (next_up h (List.mem_of_getElem? ej)).2.2]; exact hm), List.getElem?_map] at e
  cases z : (ways rs n (head ||| 2 ^ k))[m]? with
  | none => rw [z] at e; cases e
  | some r => rw [z] at e; exact ⟨r, (Option.some.inj e).symm, rfl⟩
theorem not_full {rs : List (List Nat)} {n head : Nat} (h : head < 2 ^ n) (e : nextR rs n head ≠ []) : head < 2 ^ n - 1 :=
  Nat.lt_of_le_of_ne (by omega) fun z => e (by rw [z, next_full])
theorem way_end {rs : List (List Nat)} {n head m : Nat} {q : List Nat} (h : head < 2 ^ n) (e : nextR rs n head = []) (eq : (ways rs n head)[m]? = some q) : q = [] ∧ m = 0 := by
  by_cases z : head = 2 ^ n - 1
  · rw [z, ways_full] at eq
    cases m with
    | zero => simp at eq; exact ⟨eq, rfl⟩
    | succ m => simp at eq
  · rw [ways_step (by omega), e] at eq
    simp at eq
def spRankAt (C : Addr) : Spc where
  ty := Bk × Nat
  args := fun x => [bookD C x.1.1 x.1.2, .int x.2]
  ok := fun x => BookOk x.1.1 x.1.2 ∧ x.2 < (fitM x.1.2 x.1.1.length).length
  rel := fun x d => d = .tup (ordD ((fitM x.1.2 x.1.1.length).getD x.2 []))
theorem next_at {rs : List (List Nat)} {n head : Nat} (h : head < 2 ^ n) : atI (lolD (stepsM rs n)) (head : Int) = some (.lst (ordD (nextR rs n head))) := by
  rw [lolD_at (by rw [steps_len]; exact h), steps_at h]; rfl
theorem way_at {rs : List (List Nat)} {n head : Nat} (h : head < 2 ^ n) : atI (ordD (endM (stepsM rs n))) (head : Int) = some (.int (wayN rs n head : Nat)) := by
  rw [ordD_at (by unfold endM; rw [endTo_len, steps_len]; exact h)]; rfl
theorem step_at {rs : List (List Nat)} {n head j k : Nat} (h : (nextR rs n head)[j]? = some k) : atI (ordD (nextR rs n head)) (j : Int) = some (.int (k : Nat)) := by
  obtain ⟨h1, e⟩ := List.getElem?_eq_some_iff.mp h
  rw [ordD_at h1, List.getD_eq_getElem?_getD, h]; rfl
theorem last_at (p : List Nat) (k : Nat) : atI (ordD (p ++ [k])) (-1) = some (.int (k : Nat)) := by
  unfold ordD
  rw [List.map_append]
  unfold atI
  have e : ixN (p.length + 1) (-1) = some p.length := by
    unfold ixN
    rw [if_neg (by decide)]
    split
    · exact congrArg some (by omega)
    · omega
  rw [List.length_append, List.length_map]
  show (ixN (p.length + 1) (-1)).bind _ = _
  rw [e]
  simp
theorem ev_neg1 {Γ : Gam} : Ev (tUn (rU fun i => .int (-i)) (tC (.int 1))) Γ (.int (-1)) := ev_neg ev_int
end K09

namespace K09
open PySem PySem.Spec PyProof.Rows L2 Dw
variable [Tabs0]
/-! told's suite: the word of an error's class, its attribute -/
theorem kit_len {K : PySem.W.Frag} {D0 : Addr} : ∀ {cs : List Addr} {bs : List Bool}, KitRow K D0 cs bs → bs.length = cs.length
  | [], [], _ => rfl
  | c :: cs, b :: bs, h => congrArg (· + 1) (kit_len h.2)
  | [], _ :: _, h => h.elim
  | _ :: _, [], h => h.elim
theorem kit_get {K : PySem.W.Frag} {D0 : Addr} : ∀ {cs : List Addr} {bs : List Bool} {k : Nat} {c : Addr}, KitRow K D0 cs bs → cs[k]? = some c → PySem.W.kitOne K (.ref D0) (.ref c) = some (bs.getD k false)
  | c :: cs, b :: bs, 0, c', h, e => by
    have e : c = c' := by simpa using e
    rw [← e]; exact h.1
  | c :: cs, b :: bs, k + 1, c', h, e => by
    have := kit_get (k := k) (c := c') h.2 (by simpa using e)
    simpa using this
  | [], _, _, _, _, e => by simp at e
  | _ :: _, [], _, _, h, _ => h.elim
def flB (bs : List Bool) (a n : Nat) : List Bool := (List.range n).map fun k => bs.getD (a + k) false
theorem flB_eq {bs : List Bool} {a n : Nat} (h : a + n ≤ bs.length) : (bs.drop a).take n = flB bs a n := by
  refine List.ext_getElem (by simp [flB]; omega) fun i h1 h2 => ?_
  have hi : i < n := by simpa [flB] using h2
  simp [flB, List.getD_eq_getElem?_getD, List.getElem?_eq_getElem (show a + i < bs.length by omega)]
def spSort (K : PySem.W.Frag) (cs : List Addr) : SpcS where
  ty := Exn × List Bool
  args := fun _ => []
  ok := fun x => ExcC K x.1.C ∧ KitRow K x.1.C cs x.2
  ex := fun x => x.1
  out := fun x => .str (sortW x.2)
theorem ev_ifI {Γ : Gam} {c : TT} {ta tb : TE} {b : Bool} {i j : Int} (h : EvT c Γ b) (h1 : Ev ta Γ (.int i)) (h2 : Ev tb Γ (.int j)) : Ev (tIf c ta tb) Γ (.int (if b = true then i else j)) := by
  have := ev_if h (fun _ => h1) fun _ => h2
  cases b <;> exact this
end K09

namespace K09
open PySem PySem.Spec PyProof.Rows L2 Dw
variable [Tabs0]
abbrev sortCs {K : PySem.W.Frag} {w : World} {mg : Str → Option Value} (T : Txt K w mg) : List Addr := [T.C_InvalidText, T.C_InvalidNumber, T.C_InvalidName, T.C_InvalidIndex, T.C_InvalidClaim, T.C_InvalidRow, T.C_InvalidRanking, T.C_InvalidRule, T.C_UnknownName, T.C_NotABook, T.C_NotACase, T.C_NotACourt, T.C_InvalidLot, T.C_InvalidOffers, T.C_InvalidCases, T.C_NoRanking, T.C_TooMany, T.C_Broken, T.C_InUse, T.C_NothingToUndo, T.C_WrongValue, T.C_NoAnswer]
theorem d__law_sort {P : Program} {w : World} {K : PySem.W.Frag} {mg : Str → Option Value} {base : Heap} (T : Txt K w mg) : FnS P w K mg base 1 T.f__law_sort T.e__law_sort ["_law_e"] (toSpS (spSort K (sortCs T))) := by
  refine fnS_ok T.F__law_sort sc__law_sort (fun _ => rfl) fun cdv A outer s' H E p x hr hG hx hz hf hd => ?_
  obtain ⟨⟨C, fs⟩, bs⟩ := x
  obtain ⟨hxc, hk⟩ := hx
  have hxc : ExcC K C := hxc
  have hz : Zc (.ref C) p.2.dict p.2 := hz
  refine ⟨_, (pss_cons (ps_set (i := 1) sc__law_sort.nd rfl (Or.inl rfl) (pe_lst (pa_cons pe_str (pa_cons pe_str (pa_cons pe_str (pa_cons pe_str (pa_cons pe_str (pa_cons pe_str pa_nil)))))))) (pss_cons (ps_set (i := 1) sc__law_sort.nd rfl (Or.inl rfl) (pe_op (plusE K) (pv 1) (pe_lst (pa_cons pe_str (pa_cons pe_str (pa_cons pe_str (pa_cons pe_str (pa_cons pe_str (pa_cons pe_str pa_nil))))))))) (pss_cons (ps_set (i := 1) sc__law_sort.nd rfl (Or.inl rfl) (pe_op (plusE K) (pv 1) (pe_lst (pa_cons pe_str (pa_cons pe_str (pa_cons pe_str pa_nil)))))) (pss_cons (ps_set (i := 1) sc__law_sort.nd rfl (Or.inl rfl) (pe_op (plusE K) (pv 1) (pe_lst (pa_cons pe_str (pa_cons pe_str (pa_cons pe_str (pa_cons pe_str (pa_cons pe_str pa_nil)))))))) (pss_cons (ps_set (i := 2) sc__law_sort.nd rfl (Or.inl rfl) (pe_lst (pa_cons (pe_callB (call_isX (a := p.1) (oe := p.2) (ed := p.2.dict) List.mem_cons_self hxc hz hf) (by rfl) T.n_isinstance (by decide +kernel) (pa_cons (pv 0) (pa_cons (pe_glob (v := .ref T.C_InvalidText) (by rfl) T.m_InvalidText rfl) pa_nil))) (pa_cons (pe_callB (call_isX (a := p.1) (oe := p.2) (ed := p.2.dict) List.mem_cons_self hxc hz hf) (by rfl) T.n_isinstance (by decide +kernel) (pa_cons (pv 0) (pa_cons (pe_glob (v := .ref T.C_InvalidNumber) (by rfl) T.m_InvalidNumber rfl) pa_nil))) (pa_cons (pe_callB (call_isX (a := p.1) (oe := p.2) (ed := p.2.dict) List.mem_cons_self hxc hz hf) (by rfl) T.n_isinstance (by decide +kernel) (pa_cons (pv 0) (pa_cons (pe_glob (v := .ref T.C_InvalidName) (by rfl) T.m_InvalidName rfl) pa_nil))) pa_nil))))) (pss_cons (ps_set (i := 2) sc__law_sort.nd rfl (Or.inl rfl) (pe_op (plusE K) (pv 2) (pe_lst (pa_cons (pe_callB (call_isX (a := p.1) (oe := p.2) (ed := p.2.dict) List.mem_cons_self hxc hz hf) (by rfl) T.n_isinstance (by decide +kernel) (pa_cons (pv 0) (pa_cons (pe_glob (v := .ref T.C_InvalidIndex) (by rfl) T.m_InvalidIndex rfl) pa_nil))) (pa_cons (pe_callB (call_isX (a := p.1) (oe := p.2) (ed := p.2.dict) List.mem_cons_self hxc hz hf) (by rfl) T.n_isinstance (by decide +kernel) (pa_cons (pv 0) (pa_cons (pe_glob (v := .ref T.C_InvalidClaim) (by rfl) T.m_InvalidClaim rfl) pa_nil))) (pa_cons (pe_callB (call_isX (a := p.1) (oe := p.2) (ed := p.2.dict) List.mem_cons_self hxc hz hf) (by rfl) T.n_isinstance (by decide +kernel) (pa_cons (pv 0) (pa_cons (pe_glob (v := .ref T.C_InvalidRow) (by rfl) T.m_InvalidRow rfl) pa_nil))) pa_nil)))))) (pss_cons (ps_set (i := 2) sc__law_sort.nd rfl (Or.inl rfl) (pe_op (plusE K) (pv 2) (pe_lst (pa_cons (pe_callB (call_isX (a := p.1) (oe := p.2) (ed := p.2.dict) List.mem_cons_self hxc hz hf) (by rfl) T.n_isinstance (by decide +kernel) (pa_cons (pv 0) (pa_cons (pe_glob (v := .ref T.C_InvalidRanking) (by rfl) T.m_InvalidRanking rfl) pa_nil))) (pa_cons (pe_callB (call_isX (a := p.1) (oe := p.2) (ed := p.2.dict) List.mem_cons_self hxc hz hf) (by rfl) T.n_isinstance (by decide +kernel) (pa_cons (pv 0) (pa_cons (pe_glob (v := .ref T.C_InvalidRule) (by rfl) T.m_InvalidRule rfl) pa_nil))) (pa_cons (pe_callB (call_isX (a := p.1) (oe := p.2) (ed := p.2.dict) List.mem_cons_self hxc hz hf) (by rfl) T.n_isinstance (by decide +kernel) (pa_cons (pv 0) (pa_cons (pe_glob (v := .ref T.C_UnknownName) (by rfl) T.m_UnknownName rfl) pa_nil))) pa_nil)))))) (pss_cons (ps_set (i := 2) sc__law_sort.nd rfl (Or.inl rfl) (pe_op (plusE K) (pv 2) (pe_lst (pa_cons (pe_callB (call_isX (a := p.1) (oe := p.2) (ed := p.2.dict) List.mem_cons_self hxc hz hf) (by rfl) T.n_isinstance (by decide +kernel) (pa_cons (pv 0) (pa_cons (pe_glob (v := .ref T.C_NotABook) (by rfl) T.m_NotABook rfl) pa_nil))) (pa_cons (pe_callB (call_isX (a := p.1) (oe := p.2) (ed := p.2.dict) List.mem_cons_self hxc hz hf) (by rfl) T.n_isinstance (by decide +kernel) (pa_cons (pv 0) (pa_cons (pe_glob (v := .ref T.C_NotACase) (by rfl) T.m_NotACase rfl) pa_nil))) (pa_cons (pe_callB (call_isX (a := p.1) (oe := p.2) (ed := p.2.dict) List.mem_cons_self hxc hz hf) (by rfl) T.n_isinstance (by decide +kernel) (pa_cons (pv 0) (pa_cons (pe_glob (v := .ref T.C_NotACourt) (by rfl) T.m_NotACourt rfl) pa_nil))) pa_nil)))))) (pss_cons (ps_set (i := 2) sc__law_sort.nd rfl (Or.inl rfl) (pe_op (plusE K) (pv 2) (pe_lst (pa_cons (pe_callB (call_isX (a := p.1) (oe := p.2) (ed := p.2.dict) List.mem_cons_self hxc hz hf) (by rfl) T.n_isinstance (by decide +kernel) (pa_cons (pv 0) (pa_cons (pe_glob (v := .ref T.C_InvalidLot) (by rfl) T.m_InvalidLot rfl) pa_nil))) (pa_cons (pe_callB (call_isX (a := p.1) (oe := p.2) (ed := p.2.dict) List.mem_cons_self hxc hz hf) (by rfl) T.n_isinstance (by decide +kernel) (pa_cons (pv 0) (pa_cons (pe_glob (v := .ref T.C_InvalidOffers) (by rfl) T.m_InvalidOffers rfl) pa_nil))) (pa_cons (pe_callB (call_isX (a := p.1) (oe := p.2) (ed := p.2.dict) List.mem_cons_self hxc hz hf) (by rfl) T.n_isinstance (by decide +kernel) (pa_cons (pv 0) (pa_cons (pe_glob (v := .ref T.C_InvalidCases) (by rfl) T.m_InvalidCases rfl) pa_nil))) pa_nil)))))) (pss_cons (ps_set (i := 2) sc__law_sort.nd rfl (Or.inl rfl) (pe_op (plusE K) (pv 2) (pe_lst (pa_cons (pe_callB (call_isX (a := p.1) (oe := p.2) (ed := p.2.dict) List.mem_cons_self hxc hz hf) (by rfl) T.n_isinstance (by decide +kernel) (pa_cons (pv 0) (pa_cons (pe_glob (v := .ref T.C_NoRanking) (by rfl) T.m_NoRanking rfl) pa_nil))) (pa_cons (pe_callB (call_isX (a := p.1) (oe := p.2) (ed := p.2.dict) List.mem_cons_self hxc hz hf) (by rfl) T.n_isinstance (by decide +kernel) (pa_cons (pv 0) (pa_cons (pe_glob (v := .ref T.C_TooMany) (by rfl) T.m_TooMany rfl) pa_nil))) (pa_cons (pe_callB (call_isX (a := p.1) (oe := p.2) (ed := p.2.dict) List.mem_cons_self hxc hz hf) (by rfl) T.n_isinstance (by decide +kernel) (pa_cons (pv 0) (pa_cons (pe_glob (v := .ref T.C_Broken) (by rfl) T.m_Broken rfl) pa_nil))) pa_nil)))))) (pss_cons (ps_set (i := 2) sc__law_sort.nd rfl (Or.inl rfl) (pe_op (plusE K) (pv 2) (pe_lst (pa_cons (pe_callB (call_isX (a := p.1) (oe := p.2) (ed := p.2.dict) List.mem_cons_self hxc hz hf) (by rfl) T.n_isinstance (by decide +kernel) (pa_cons (pv 0) (pa_cons (pe_glob (v := .ref T.C_InUse) (by rfl) T.m_InUse rfl) pa_nil))) (pa_cons (pe_callB (call_isX (a := p.1) (oe := p.2) (ed := p.2.dict) List.mem_cons_self hxc hz hf) (by rfl) T.n_isinstance (by decide +kernel) (pa_cons (pv 0) (pa_cons (pe_glob (v := .ref T.C_NothingToUndo) (by rfl) T.m_NothingToUndo rfl) pa_nil))) pa_nil))))) (pss_cons (ps_set (i := 3) sc__law_sort.nd rfl (Or.inl rfl) (pe_lst (pa_cons (pe_callB (call_isX (a := p.1) (oe := p.2) (ed := p.2.dict) List.mem_cons_self hxc hz hf) (by rfl) T.n_isinstance (by decide +kernel) (pa_cons (pv 0) (pa_cons (pe_glob (v := .ref T.C_WrongValue) (by rfl) T.m_WrongValue rfl) pa_nil))) (pa_cons (pe_callB (call_isX (a := p.1) (oe := p.2) (ed := p.2.dict) List.mem_cons_self hxc hz hf) (by rfl) T.n_isinstance (by decide +kernel) (pa_cons (pv 0) (pa_cons (pe_glob (v := .ref T.C_NoAnswer) (by rfl) T.m_NoAnswer rfl) pa_nil))) pa_nil)))) (pss_cons (ps_if (PW.pt (pw_or (pt_cmpR (neA K hr.units) (bmA K PySem.F.plainAttrs_list PySem.F.slot_list_count PySem.F.type_list_count (countA K) (pv 2) (pa_cons pe_bl pa_nil)) pe_int (nomark _)) (pw_or1 (pt_cmpR (neA K hr.units) (bmA K PySem.F.plainAttrs_list PySem.F.slot_list_count PySem.F.type_list_count (countA K) (pv 3) (pa_cons pe_bl pa_nil)) pe_int (nomark _))))) (pss_one (ps_ret pe_str)) pss_nil) (pss_cons (ps_set (i := 4) sc__law_sort.nd rfl (Or.inl rfl) (bmA K PySem.F.plainAttrs_list PySem.F.slot_list_index PySem.F.type_list_index (indexA K) (pv 2) (pa_cons pe_bl pa_nil))) (pss_one (ps_ret (pe_ifExp (pt_cmpR (eqA K hr.units) (bmA K PySem.F.plainAttrs_list PySem.F.slot_list_index PySem.F.type_list_index (indexA K) (pv 3) (pa_cons pe_bl pa_nil)) (pe_ifExp (pt_cmpR opLt (pv 4) pe_int (nomark _)) pe_int pe_int) (nomark _)) (pe_ix (ixA K) (pv 1) (pv 4) (fun _ _ => rfl)) pe_str))))))))))))))))), ?_⟩
  have hl : bs.length = 22 := kit_len hk
  have cl : ∀ {c : Addr} (u : Value), RelV (.ref c) u → u = .ref c := fun u h => h
  refine rts_seq (pus_asg (EvN.ev (evn_lst (eva_cons ev_str (eva_cons ev_str (eva_cons ev_str (eva_cons ev_str (eva_cons ev_str (eva_cons ev_str eva_nil)))))) (by decide)))) ?_
  refine rts_seq (pus_asg (EvN.ev (pl_evn (Ev.b (ev_var rfl)) (EvN.b (evn_lst (eva_cons ev_str (eva_cons ev_str (eva_cons ev_str (eva_cons ev_str (eva_cons ev_str (eva_cons ev_str eva_nil)))))) (by decide))) (by decide)))) ?_
  refine rts_seq (pus_asg (EvN.ev (pl_evn (Ev.b (ev_var rfl)) (EvN.b (evn_lst (eva_cons ev_str (eva_cons ev_str (eva_cons ev_str eva_nil))) (by decide))) (by decide)))) ?_
  refine rts_seq (pus_asg (EvN.ev (pl_evn (Ev.b (ev_var rfl)) (EvN.b (evn_lst (eva_cons ev_str (eva_cons ev_str (eva_cons ev_str (eva_cons ev_str (eva_cons ev_str eva_nil))))) (by decide))) (by decide)))) ?_
  refine rts_asg (evh_lst (evha_cons (evh_isX (ev_var rfl) ev_raw cl (kit_get (k := 0) hk rfl)) (evha_cons (evh_isX (ev_var rfl) ev_raw cl (kit_get (k := 1) hk rfl)) (evha_cons (evh_isX (ev_var rfl) ev_raw cl (kit_get (k := 2) hk rfl)) evha_nil))) (small (by simp))) ?_
  refine rts_asg (evh_op (Ev.held (ev_var rfl)) (evh_lst (evha_cons (evh_isX (ev_var rfl) ev_raw cl (kit_get (k := 3) hk rfl)) (evha_cons (evh_isX (ev_var rfl) ev_raw cl (kit_get (k := 4) hk rfl)) (evha_cons (evh_isX (ev_var rfl) ev_raw cl (kit_get (k := 5) hk rfl)) evha_nil))) (small (by simp))) (pl_lst (small (by simp)))) ?_
  refine rts_asg (evh_op (Ev.held (ev_var rfl)) (evh_lst (evha_cons (evh_isX (ev_var rfl) ev_raw cl (kit_get (k := 6) hk rfl)) (evha_cons (evh_isX (ev_var rfl) ev_raw cl (kit_get (k := 7) hk rfl)) (evha_cons (evh_isX (ev_var rfl) ev_raw cl (kit_get (k := 8) hk rfl)) evha_nil))) (small (by simp))) (pl_lst (small (by simp)))) ?_
  refine rts_asg (evh_op (Ev.held (ev_var rfl)) (evh_lst (evha_cons (evh_isX (ev_var rfl) ev_raw cl (kit_get (k := 9) hk rfl)) (evha_cons (evh_isX (ev_var rfl) ev_raw cl (kit_get (k := 10) hk rfl)) (evha_cons (evh_isX (ev_var rfl) ev_raw cl (kit_get (k := 11) hk rfl)) evha_nil))) (small (by simp))) (pl_lst (small (by simp)))) ?_
  refine rts_asg (evh_op (Ev.held (ev_var rfl)) (evh_lst (evha_cons (evh_isX (ev_var rfl) ev_raw cl (kit_get (k := 12) hk rfl)) (evha_cons (evh_isX (ev_var rfl) ev_raw cl (kit_get (k := 13) hk rfl)) (evha_cons (evh_isX (ev_var rfl) ev_raw cl (kit_get (k := 14) hk rfl)) evha_nil))) (small (by simp))) (pl_lst (small (by simp)))) ?_
  refine rts_asg (evh_op (Ev.held (ev_var rfl)) (evh_lst (evha_cons (evh_isX (ev_var rfl) ev_raw cl (kit_get (k := 15) hk rfl)) (evha_cons (evh_isX (ev_var rfl) ev_raw cl (kit_get (k := 16) hk rfl)) (evha_cons (evh_isX (ev_var rfl) ev_raw cl (kit_get (k := 17) hk rfl)) evha_nil))) (small (by simp))) (pl_lst (small (by simp)))) ?_
  refine rts_asg (evh_op (Ev.held (ev_var rfl)) (evh_lst (evha_cons (evh_isX (ev_var rfl) ev_raw cl (kit_get (k := 18) hk rfl)) (evha_cons (evh_isX (ev_var rfl) ev_raw cl (kit_get (k := 19) hk rfl)) evha_nil)) (small (by simp))) (pl_lst (small (by simp)))) ?_
  refine rts_asg (evh_lst (evha_cons (evh_isX (ev_var rfl) ev_raw cl (kit_get (k := 20) hk rfl)) (evha_cons (evh_isX (ev_var rfl) ev_raw cl (kit_get (k := 21) hk rfl)) evha_nil)) (small (by simp))) ?_
  obtain ⟨f, ef⟩ : ∃ f, f = flB bs 0 20 := ⟨_, rfl⟩
  obtain ⟨g, eg⟩ : ∃ g, g = flB bs 20 2 := ⟨_, rfl⟩
  show RtS _ [.val (.raw (.ref p.1)), .val (.lst (sortWords.map D.str)), .val (.lst ((flB bs 0 20).map D.bl)), .val (.lst ((flB bs 20 2).map D.bl)), .unset] ⟨C, fs⟩ p.2.dict (.str (sortW bs))
  have es : sortW bs = if f.countP id = 1 ∧ g.countP id = 1 ∧ g.idxOf true = (if f.idxOf true < 15 then 0 else 1) then sortWords.getD (f.idxOf true) "other" else "other" := by
    have e1 : bs.take 20 = f := by rw [ef, ← flB_eq (by omega), List.drop_zero]
    have e2 : bs.drop 20 = g := by
      rw [eg, ← flB_eq (by omega), List.take_of_length_le (by rw [List.length_drop]; omega)]
    unfold sortW
    rw [e1, e2]
  rw [es, ← ef, ← eg]
  have hF : EvT _ _ (!decide (((f.countP id : Nat) : Int) = 1) || !decide (((g.countP id : Nat) : Int) = 1)) := evt_or (Γ := [.val (.raw (.ref p.1)), .val (.lst (sortWords.map D.str)), .val (.lst (f.map D.bl)), .val (.lst (g.map D.bl)), .unset]) (evt_test (ev_op (ev_countB (K := K) (Ev.b (ev_var (i := 2) rfl)) ev_bl) ev_int (ne_int' (K := K)))) fun _ => evt_test (ev_op (ev_countB (K := K) (Ev.b (ev_var (i := 3) rfl)) ev_bl) ev_int (ne_int' (K := K)))
  by_cases hc : f.countP id = 1 ∧ g.countP id = 1
  · obtain ⟨c1, c2⟩ := hc
    rw [c1, c2] at hF
    have m1 : true ∈ f := by
      obtain ⟨b, hb, e⟩ := List.countP_pos_iff.mp (show 0 < f.countP id by omega)
      cases b
      · cases e
      · exact hb
    have m2 : true ∈ g := by
      obtain ⟨b, hb, e⟩ := List.countP_pos_iff.mp (show 0 < g.countP id by omega)
      cases b
      · cases e
      · exact hb
    refine rts_seq (pus_ifF hF pus_next) (rts_seq (pus_asg (ev_idxB (Ev.b (ev_var rfl)) ev_bl m1)) (rts_ret ?_))
    have hi : f.idxOf true < 20 := by
      have := List.idxOf_lt_length_iff.mpr m1
      rw [ef] at this ⊢
      simpa [flB] using this
    have hT := evt_test (ev_op (Γ := [.val (.raw (.ref p.1)), .val (.lst (sortWords.map D.str)), .val (.lst (f.map D.bl)), .val (.lst (g.map D.bl)), .val (.int (f.idxOf true : Nat))]) (ev_idxB (K := K) (Ev.b (ev_var (i := 3) rfl)) ev_bl m2) (ev_ifI (i := 0) (j := 1) (evt_test (ev_op (ev_var (i := 4) rfl) (ev_int (z := 15)) lt_int')) ev_int ev_int) (eq_int' (K := K)))
    by_cases hg : g.idxOf true = (if f.idxOf true < 15 then 0 else 1)
    · rw [if_pos ⟨c1, c2, hg⟩]
      refine evx_ifT ?_ (Ev.held (ev_ix (Ev.b (ev_var rfl)) (ev_var rfl) ?_))
      · have e : decide (((g.idxOf true : Nat) : Int) = if decide (((f.idxOf true : Nat) : Int) < 15) = true then 0 else 1) = true := by
          rw [hg]
          by_cases q : f.idxOf true < 15
          · rw [if_pos q, if_pos (decide_eq_true (show ((f.idxOf true : Nat) : Int) < 15 by omega))]; rfl
          · rw [if_neg q, if_neg (fun z => q (by have z' : ((f.idxOf true : Nat) : Int) < 15 := of_decide_eq_true z; omega))]; rfl
        rw [e] at hT
        exact hT
      · refine atI_nat ?_
        rw [List.getElem?_map, List.getD_eq_getElem?_getD, List.getElem?_eq_getElem (show f.idxOf true < sortWords.length from hi)]; rfl
    · rw [if_neg fun z => hg z.2.2]
      refine evx_ifF ?_ (Ev.held ev_str)
      have e : decide (((g.idxOf true : Nat) : Int) = if decide (((f.idxOf true : Nat) : Int) < 15) = true then 0 else 1) = false := by
        refine decide_eq_false fun z => hg ?_
        by_cases q : f.idxOf true < 15
        · rw [if_pos (decide_eq_true (show ((f.idxOf true : Nat) : Int) < 15 by omega))] at z; rw [if_pos q]; omega
        · rw [if_neg (fun z => q (by have z' : ((f.idxOf true : Nat) : Int) < 15 := of_decide_eq_true z; omega))] at z; rw [if_neg q]; omega
      rw [e] at hT
      exact hT
  · have e : ((!decide (((f.countP id : Nat) : Int) = 1)) || !decide (((g.countP id : Nat) : Int) = 1)) = true := by
      by_cases c1 : f.countP id = 1
      · have c2 : ¬ g.countP id = 1 := fun z => hc ⟨c1, z⟩
        rw [show decide (((g.countP id : Nat) : Int) = 1) = false from decide_eq_false (by omega), Bool.not_false, Bool.or_true]
      · rw [show decide (((f.countP id : Nat) : Int) = 1) = false from decide_eq_false (by omega)]; rfl
    rw [e] at hF
    rw [if_neg fun z => hc ⟨z.1, z.2.1⟩]
    exact rts_first (rts_ifT hF (rts_ret (Ev.held ev_str)))

end K09

namespace K09
open PySem PySem.Spec PyProof.Rows L2 Dw
variable [Tabs0]
def noneW : List Str := ["other", "NothingToUndo", "NoRanking"]
def givenW : List Str := ["InvalidText", "InvalidNumber", "InvalidName", "InvalidIndex", "InvalidClaim", "InvalidRow", "InvalidRanking", "InvalidRule", "UnknownName", "NotABook", "NotACase", "NotACourt"]
def indexW : List Str := ["InvalidLot", "InvalidOffers", "InvalidCases", "InUse"]
/-- what stands behind the word -/
def isDctB : D → Bool | .dct _ _ => true | _ => false
/-- repr of a book: as its class tells it -/
def reprB (n : Nat) : Str := Str.empty ++ Str.ofString "Book with " ++ Str.ofString (toString (n : Int)) ++ Str.ofString " rules"
def spBRepr (C : Addr) : Spc where
  ty := List (List Nat) × List (List Nat)
  args := fun x => [bookD C x.1 x.2]
  ok := fun x => x.1.length ≤ 8
  rel := fun x d => d = .str (reprB x.1.length)
/-- the text that repr gives of [book] and (book,) -/
def ownT : D → Option Str
  | .lst [.obj _ _ [_, .tup ns, _]] => some (listText [reprB ns.length])
  | .tup [.obj _ _ [_, .tup ns, _]] => some (tupleText [reprB ns.length])
  | _ => none
/-- the text that repr gives: of {} and of such too -/
def shZ (d : D) : Str := match ownT d with
  | some z => z
  | none => if isDctB d = true then "{}" else PyData.shown (py d)
def attrO (fs : List (Str × D)) (wd : Str) : Str := if wd ∈ noneW then "" else match fs with | [] => "" | f :: _ => shZ f.2
def shF (C : Addr) (d : D) : Prop := RpO C (spBRepr C) d (shZ d)
inductive AttrOk (C0 : Addr) (wd : Str) (fs : List (Str × D)) : Prop
  | none (h : wd ∈ noneW)
  | given (h : wd ∈ givenW) (d : D) (e : fs = [(("given" : Str), d)]) (s : shF C0 d)
  | index (h : wd ∈ indexW) (d : D) (e : fs = [(("index" : Str), d)]) (s : shF C0 d)
structure XAttr (K : PySem.W.Frag) (C : Addr) : Prop where
  xf : XfC K C
  no : ∀ n ∈ (["given", "index", "number", "told"] : List Str), PySem.W.findIn K (.ref C) n = some none
def spAttr (K : PySem.W.Frag) (C0 : Addr) : SpcS where
  ty := Exn × Str
  args := fun x => [.str x.2]
  ok := fun x => XAttr K x.1.C ∧ AttrOk C0 x.2 x.1.fs
  ex := fun x => x.1
  out := fun x => .str (attrO x.1.fs x.2)
theorem inV_strs (wd : Str) : ∀ ws : List Str, inV (scV (.str wd)) ((ws.map D.str).map scV) = decide (wd ∈ ws)
  | [] => rfl
  | w :: ws => by
    have ih := inV_strs wd ws
    unfold inV at ih ⊢
    rw [List.map_cons, List.map_cons, List.any_cons, ih, Bool.eq_iff_iff]
    show ((w == wd) || decide (wd ∈ ws)) = true ↔ _
    rw [Bool.or_eq_true, decide_eq_true_iff, decide_eq_true_iff, List.mem_cons, beq_iff_eq]
    exact ⟨fun h => h.imp Eq.symm id, fun h => h.imp Eq.symm id⟩
theorem scs : ∀ ws : List Str, (ws.map D.str).all isSc = true
  | [] => rfl
  | w :: ws => scs ws
theorem evt_inW {K : PySem.W.Frag} {Γ : Gam} {ta tb : TE} {wd : Str} {ws : List Str} {b : Bool} (h : Ev ta Γ (.str wd)) (hb : EvB tb Γ (ws.map D.str)) (e : decide (wd ∈ ws) = b) : EvT (tTest (tOp (rOr (rIn K false) rInS) ta tb)) Γ b := by
  have := evt_test (ev_in (K := K) (neg := false) (r' := rInS) h hb rfl (scs ws))
  rw [inV_strs] at this
  rw [← e]
  exact this
theorem word_apart : ∀ w ∈ givenW ++ indexW, w ∉ noneW ∧ w ≠ ("Broken" : Str) ∧ w ≠ ("TooMany" : Str) := by decide
theorem given_index : ∀ w ∈ givenW, w ∉ indexW := by decide
end K09

namespace K09
open PySem PySem.Spec PyProof.Rows L2 Dw
variable [Tabs0]
theorem repr_len : ∀ n : Nat, n < 9 → (Str.empty ++ Str.ofString "Book with ").length ≤ 100 ∧ (Str.empty ++ Str.ofString "Book with " ++ Str.ofString (toString (n : Int))).length ≤ 100 ∧ (reprB n).length ≤ 100 := by decide +kernel
end K09

namespace K09
open PySem PySem.Spec PyProof.Rows L2 Dw
variable [Tabs0]
theorem d_Book___repr__ {P : Program} {w : World} {K : PySem.W.Frag} {mg : Str → Option Value} {base : Heap} (T : Txt K w mg) : FnOk P w K mg base CX0 1 T.f_Book___repr__ T.e_Book___repr__ ["self"] (toSp (spBRepr T.C_Book)) := by
  refine fn_ok T.F_Book___repr__ sc_Book___repr__ (fun _ => rfl) fun cdv A outer s' H E hr => ?_
  refine ⟨_, (pss_one (ps_ret (pe_joined (.cons pe_str (.cons (pe_fmt (pe_callB (lenA K) (by rfl) T.n_len (by decide +kernel) (pa_cons (fldA K (pv 0)) pa_nil))) (.cons pe_str .nil)))))), fun x hx => ?_⟩
  obtain ⟨ls, rs⟩ := x
  have h8 : ls.length ≤ 8 := hx
  obtain ⟨z1, z2, z3⟩ := repr_len ls.length (by omega)
  have hz : ((ls.length : Nat) : Int).natAbs.log2 < 1920 := by
    rw [Int.natAbs_natCast]
    exact Nat.lt_of_le_of_lt (Nat.log2_le_self _) (by omega)
  exact ds_ret (Ev.dl (ev_fstrI (ev_cast (d' := .int (ls.length : Nat)) (congrArg (fun k : Nat => D.int k) (nameD_len ls)) (ev_lenT (ds := nameD ls) (ev_fld T.cl_Book T.no_names (ev_var rfl) (by rfl)))) hz (small (by omega)) (small (by omega)) (small (show (reprB ls.length).length ≤ 100000 by omega))) rfl)
theorem d_Book___repr___H {P : Program} {w : World} {K : PySem.W.Frag} {mg : Str → Option Value} {base : Heap} (T : Txt K w mg) : FnT P w K mg base 1 T.f_Book___repr__ T.e_Book___repr__ ["self"] (toSp (spBRepr T.C_Book)) := by
  refine fnT_ok T.F_Book___repr__ sc_Book___repr__ (fun _ => rfl) fun cdv A outer s' H E p hr => ?_
  refine ⟨_, (pss_one (ps_ret (pe_joined (.cons pe_str (.cons (pe_fmt (pe_callB (lenA K) (by rfl) T.n_len (by decide +kernel) (pa_cons (fldA K (pv 0)) pa_nil))) (.cons pe_str .nil)))))), fun x hx => ?_⟩
  obtain ⟨ls, rs⟩ := x
  have h8 : ls.length ≤ 8 := hx
  obtain ⟨z1, z2, z3⟩ := repr_len ls.length (by omega)
  have hz : ((ls.length : Nat) : Int).natAbs.log2 < 1920 := by
    rw [Int.natAbs_natCast]
    exact Nat.lt_of_le_of_lt (Nat.log2_le_self _) (by omega)
  exact ds_ret (Ev.dl (ev_fstrI (ev_cast (d' := .int (ls.length : Nat)) (congrArg (fun k : Nat => D.int k) (nameD_len ls)) (ev_lenT (ds := nameD ls) (ev_fld T.cl_Book T.no_names (ev_var rfl) (by rfl)))) hz (small (by omega)) (small (by omega)) (small (show (reprB ls.length).length ≤ 100000 by omega))) rfl)

end K09

namespace K09
open PySem PySem.Spec PyProof.Rows L2 Dw
variable [Tabs0]
theorem d__law_attribute {P : Program} {w : World} {K : PySem.W.Frag} {mg : Str → Option Value} {base : Heap} (T : Txt K w mg) : FnS P w K mg base 4 T.f__law_attribute T.e__law_attribute ["_law_e", "_law_word_here"] (toSpS (spAttr K T.C_Book)) := by
  refine fnS_ok T.F__law_attribute sc__law_attribute (fun _ => rfl) fun cdv A outer s' H E p x hr hG hx hz hf hd => ?_
  obtain ⟨⟨C, fs⟩, wd⟩ := x
  obtain ⟨⟨hxf, hno⟩, hw⟩ := hx
  have hxf : XfC K C := hxf
  have hno_given : PySem.W.findIn K (.ref C) "given" = some none := hno _ (by simp)
  have hno_index : PySem.W.findIn K (.ref C) "index" = some none := hno _ (by simp)
  have hno_number : PySem.W.findIn K (.ref C) "number" = some none := hno _ (by simp)
  have hno_told : PySem.W.findIn K (.ref C) "told" = some none := hno _ (by simp)
  have hw : AttrOk T.C_Book wd fs := hw
  refine ⟨_, (pss_cons (ps_if (pt_cmpR (inA K) (pv 1) (pe_lst (pa_cons pe_str (pa_cons pe_str (pa_cons pe_str pa_nil)))) (by rfl)) (pss_one (ps_ret pe_str)) pss_nil) (pss_cons (ps_if (pt_cmpR (eqA K hr.units) (pv 1) pe_str (nomark _)) (pss_one (ps_ret (pe_callB (cr_reprOH (p := p) (d_Book___repr___H T) (hr.mono (by decide)) hG List.mem_cons_self T.or_Book T.ir_Book T.b_Book___repr__) (by rfl) T.n_repr (by decide +kernel) (pa_cons (pe_tup (pa_cons (pe_xfP (a := p.1) (oe := p.2) (ed := p.2.dict) List.mem_cons_self hxf hno_index hz hf (pv 0)) (pa_cons (pe_xfP (a := p.1) (oe := p.2) (ed := p.2.dict) List.mem_cons_self hxf hno_told hz hf (pv 0)) pa_nil))) pa_nil)))) pss_nil) (pss_cons (ps_if (pt_cmpR (eqA K hr.units) (pv 1) pe_str (nomark _)) (pss_one (ps_ret (pe_callB (cr_reprOH (p := p) (d_Book___repr___H T) (hr.mono (by decide)) hG List.mem_cons_self T.or_Book T.ir_Book T.b_Book___repr__) (by rfl) T.n_repr (by decide +kernel) (pa_cons (pe_xfP (a := p.1) (oe := p.2) (ed := p.2.dict) List.mem_cons_self hxf hno_number hz hf (pv 0)) pa_nil)))) pss_nil) (pss_cons (ps_set (i := 2) sc__law_attribute.nd rfl (Or.inl rfl) (pe_lst (pa_cons pe_str (pa_cons pe_str (pa_cons pe_str (pa_cons pe_str pa_nil)))))) (pss_one (ps_ret (pe_ifExp (pt_cmpR (inA K) (pv 1) (pv 2) (by rfl)) (pe_callB (cr_reprOH (p := p) (d_Book___repr___H T) (hr.mono (by decide)) hG List.mem_cons_self T.or_Book T.ir_Book T.b_Book___repr__) (by rfl) T.n_repr (by decide +kernel) (pa_cons (pe_xfP (a := p.1) (oe := p.2) (ed := p.2.dict) List.mem_cons_self hxf hno_index hz hf (pv 0)) pa_nil)) (pe_callB (cr_reprOH (p := p) (d_Book___repr___H T) (hr.mono (by decide)) hG List.mem_cons_self T.or_Book T.ir_Book T.b_Book___repr__) (by rfl) T.n_repr (by decide +kernel) (pa_cons (pe_xfP (a := p.1) (oe := p.2) (ed := p.2.dict) List.mem_cons_self hxf hno_given hz hf (pv 0)) pa_nil))))))))), ?_⟩
  show RtS _ _ (⟨C, fs⟩ : Exn) _ (.str (attrO fs wd))
  have t1 : ∀ {b : Bool}, decide (wd ∈ noneW) = b → EvT _ (Gz0 3 [.raw (.ref p.1), .str wd]) b := fun {b} e => evt_inW (K := K) (ws := noneW) (ev_var (i := 1) rfl) (EvN.b (evn_lst (eva_cons (ev_str (z := "other")) (eva_cons (ev_str (z := "NothingToUndo")) (eva_cons (ev_str (z := "NoRanking")) eva_nil))) (by decide))) e
  have all : wd ∈ noneW ∨ ∃ d, wd ∈ givenW ++ indexW ∧ fs.lookup (if wd ∈ indexW then ("index" : Str) else ("given" : Str)) = some d ∧ shF T.C_Book d ∧ attrO fs wd = shZ d := by
    cases hw with
    | none h => exact .inl h
    | given h d e s =>
      subst e
      have hm : wd ∈ givenW ++ indexW := List.mem_append_left _ h
      refine .inr ⟨d, hm, ?_, s, ?_⟩
      · rw [if_neg (given_index wd h)]; rfl
      · unfold attrO
        rw [if_neg (word_apart wd hm).1]
    | index h d e s =>
      subst e
      have hm : wd ∈ givenW ++ indexW := List.mem_append_right _ h
      refine .inr ⟨d, hm, ?_, s, ?_⟩
      · rw [if_pos h]; rfl
      · unfold attrO
        rw [if_neg (word_apart wd hm).1]
  rcases all with h | ⟨d, hm, hd', hsF, ho⟩
  · unfold attrO
    rw [if_pos h]
    exact rts_first (rts_ifT (t1 (decide_eq_true h)) (rts_ret (Ev.held ev_str)))
  · obtain ⟨w1, w2, w3⟩ := word_apart wd hm
    rw [ho]
    refine rts_seq (pus_ifF (t1 (decide_eq_false w1)) pus_next) ?_
    refine rts_seq (pus_ifF (evt_test (ev_op (ev_var (i := 1) rfl) (ev_str (z := "Broken")) (eq_sb (K := K) (decide_eq_false w2)))) pus_next) ?_
    refine rts_seq (pus_ifF (evt_test (ev_op (ev_var (i := 1) rfl) (ev_str (z := "TooMany")) (eq_sb (K := K) (decide_eq_false w3)))) pus_next) ?_
    refine rts_seq (pus_asg (EvN.ev (evn_lst (eva_cons (ev_str (z := "InvalidLot")) (eva_cons (ev_str (z := "InvalidOffers")) (eva_cons (ev_str (z := "InvalidCases")) (eva_cons (ev_str (z := "InUse")) eva_nil)))) (by decide)))) ?_
    refine rts_ret ?_
    by_cases hi : wd ∈ indexW
    · rw [if_pos hi] at hd'
      exact evx_ifT (evt_inW (K := K) (ws := indexW) (ev_var (i := 1) rfl) (Ev.b (ev_var (i := 2) rfl)) (decide_eq_true hi)) (evh_reprO (evh_xf (x := ⟨C, fs⟩) (ev_var (i := 0) rfl) hd') hsF)
    · rw [if_neg hi] at hd'
      exact evx_ifF (evt_inW (K := K) (ws := indexW) (ev_var (i := 1) rfl) (Ev.b (ev_var (i := 2) rfl)) (decide_eq_false hi)) (evh_reprO (evh_xf (x := ⟨C, fs⟩) (ev_var (i := 0) rfl) hd') hsF)

end K09

namespace K09
open PySem PySem.Spec PyProof.Rows L2 Dw
variable [Tabs0]
/-- what is known of a class that the law's calls raise, and the word told of it -/
structure Rsd (K : PySem.W.Frag) (cs : List Addr) (C : Addr) (word : Str) : Prop where
  ex : ∃ bs, ExcC K C ∧ KitRow K C cs bs ∧ sortW bs = word
  at_ : XAttr K C
def tsTold (K : PySem.W.Frag) (C0 : Addr) (cs : List Addr) : Addr → Value → Option Addr → TS := fun a cls ed => tSeq (tAsg (fun σ H Q => (tCons (tVar 2) tNil) σ H fun vs H1 => toSpH (spSort K cs) a cls ed vs H1 Q E0) (gName 3)) (tRet (tTup (tCons (tVar 3) (tCons (fun σ H Q => (tCons (tVar 2) (tCons (tVar 3) tNil)) σ H fun vs H1 => toSpH (spAttr K C0) a cls ed vs H1 Q E0) tNil))))
theorem told_gv {X : Cx} (T : Txt X.K X.w X.mg) (cdg : Value) {q : Str} (hr : Room 6 X.A) (hG : X.A.guards = some []) :
    LamX.GivesTo X N__law_told "_law_told" (defScope s__law_told) T.f__law_told cdg (defBody s__law_told) "_law_job" q (TTold3 X.K (.ref T.C_WrongValue) (.ref T.C_NoAnswer) 4 2 "returned" (tsTold X.K T.C_Book (sortCs T))) := by
  refine told_gives3 (pt := ⟨0, 0, 0, 0⟩) (Ng := N__law_told) (ig := 1) (ie := 2) sc__law_told.nd rfl rfl rfl rfl rfl rfl T.m_WrongValue T.m_NoAnswer rfl rfl (fun _ => rfl) (fun _ => rfl) (by decide) (by decide) (by decide) fun s H a oe cls d pn hz hf => ?_
  have hr0 := L2H.RoomH.deeper (L2H.roomH_of hr) (envOfC "_law_told" (defScope s__law_told) s.heap.objs.size T.f__law_told cdg)
  have hrH : L2H.RoomH (6 - 1) ((X.A.deeper (envOfC "_law_told" (defScope s__law_told) s.heap.objs.size T.f__law_told cdg)).mark (some (.ref a))) := ⟨hr0.dp, hr0.un⟩
  exact pss_cons (ps_set (i := 3) sc__law_told.nd rfl (Or.inl rfl) (pe_callH hz hf (d__law_sort T) (hrH.mono (by decide)) hG List.mem_cons_self rfl T.m__law_sort T.F__law_sort.kp T.b__law_sort (pa_cons (pv 2) pa_nil)))
    (pss_one (ps_ret (pe_tup (pa_cons (pv 3) (pa_cons (pe_callH hz hf (d__law_attribute T) (hrH.mono (by decide)) hG List.mem_cons_self rfl T.m__law_attribute T.F__law_attribute.kp T.b__law_attribute (pa_cons (pv 2) (pa_cons (pv 3) pa_nil))) pa_nil)))))
/-- an error: its word, and what it says -/
theorem suitF {K : PySem.W.Frag} {cs : List Addr} {C0 C : Addr} {word : Str} {fs : List (Str × D)} (R : Rsd K cs C word) (h : AttrOk C0 word fs) : SuitX (tsTold K C0 cs) 4 2 ⟨C, fs⟩ (.tup [.str word, .str (attrO fs word)]) := by
  intro F W σ a Dr ed ok hl na hx k
  obtain ⟨bs, hc, hk, hw⟩ := R.ex
  have g := (sr_unset ok σ).set (i := 2) (d := .raw (.ref a)) (v := .ref a) rfl
  rw [hl] at g
  refine rts_asg (evh_call (s := spSort K cs) (x := (⟨C, fs⟩, bs)) (eva_cons (ev_var rfl) eva_nil) ⟨hc, hk⟩) ?_ F _ W Dr g hx k
  refine rts_ret (evh_pair (Ev.held ?_) (evh_call (s := spAttr K C0) (x := (⟨C, fs⟩, word)) (eva_cons (ev_var rfl) (eva_cons ?_ eva_nil)) ⟨R.at_, h⟩))
  · rw [← hw]; exact ev_var rfl
  · rw [← hw]; exact ev_var rfl


end K09

namespace K09
open PySem PySem.Spec PyProof.Rows L2 Dw
variable [Tabs0]
/-! what is refused -/
theorem kit_tyB {K : PySem.W.Frag} {C : Addr} {d : D} (h : hasTy d = true) (hd : PySem.W.hasDictIn K C = true) (ht : PySem.W.typeIn K (.ref C) = some (.type "type")) : PySem.W.kitOne K (tyD d) (.ref C) = some false := by
  obtain ⟨cd, hc, _⟩ := PySem.W.any_some hd
  have main : ∀ n : String, PySem.W.subIn K (.type n) (.ref C) = some false → PySem.W.kitOne K (.type n) (.ref C) = some false := fun n e => by
    unfold PySem.W.kitOne
    rw [if_neg (by intro z; cases beq_iff_eq.mp z)]
    show (if ((PySem.W.clsIn K C).isSome && PySem.W.typeIn K (.ref C) == some (.type "type")) = true then PySem.W.subIn K (.type n) (.ref C) else none) = some false
    rw [if_pos (by rw [hc, ht]; rfl)]
    exact e
  cases d <;> first | exact main _ rfl | exact absurd h Bool.false_ne_true
def spNev (n : Nat) : Spc where
  ty := Unit
  args := fun _ => List.replicate n .non
  ok := fun _ => False
  rel := fun _ _ => False
def OdX (d : D) : Prop := hasTy d = true ∧ noP d = true
theorem OdX.np {d : D} {r : List D} (h : OdX d) (hr : noPs r = true) : noPs (d :: r) = true := by
  show (noP d && noPs r) = true
  rw [h.2, hr]; rfl
def spBkX (E : Addr) : SpcX where
  ty := D
  args := fun d => [d]
  ok := fun d => OdX d
  ex := fun d => ⟨E, [("given", d)]⟩
def spLot5 : Spc where
  ty := List Nat × Nat
  args := fun x => [.tup (ordD x.1), .int x.2]
  ok := fun x => LotOk x.1 x.2 ∧ x.2 ≤ 20
  rel := fun _ d => d = .non
def lotW (d : D) (m : Nat) : D := match d with | .tup ds => wrongD m ds | _ => .non
def LotX (d : D) (m : Nat) : Prop := (OdX d ∧ isTupB d = false) ∨ ∃ ds i, d = .tup ds ∧ Pv d ∧ wrongM m ds 0 0 = some i
def spLotX5 (E : Addr) : SpcX where
  ty := D × Nat
  args := fun x => [x.1, .int x.2]
  ok := fun x => LotX x.1 x.2
  ex := fun x => ⟨E, [("index", lotW x.1 x.2)]⟩
def spRowX (E : Addr) : SpcX where
  ty := D × Nat
  args := fun x => [x.1, .int x.2]
  ok := fun x => Pv x.1 ∧ rowB x.1 x.2 = false
  ex := fun x => ⟨E, [("given", x.1)]⟩
def spIdxX (E : Addr) : SpcX where
  ty := D × Nat
  args := fun x => [x.1, .int x.2]
  ok := fun x => Pv x.1 ∧ idxB x.1 x.2 = false
  ex := fun x => ⟨E, [("given", x.1)]⟩
theorem dr5_isnt0 : DR2 (fun x y H Q => y = V.non ∧ Q (.bl (!decide (x = V.non))) H) .non .non (.bl false) := dr2_flat fun W u v Q r1 r2 k => ⟨r2, by rw [show u = V.non from r1]; exact k _ rfl⟩
theorem dr5_isnt1 {i : Int} : DR2 (fun x y H Q => y = V.non ∧ Q (.bl (!decide (x = V.non))) H) (.int i) .non (.bl true) := dr2_flat fun W u v Q r1 r2 k => ⟨r2, by
  rw [show u = V.int i from r1, show (!decide (V.int i = V.non)) = true by rfl]; exact k _ rfl⟩
theorem pv_lot5 {o : List Nat} {m : Nat} (h : LotOk o m) (hm : m ≤ 20) : Pv (.tup (ordD o)) := by
  have hl := lot_len h
  show (decide ((ordD o).length ≤ 60) && plBs 11 (ordD o)) = true
  rw [show (ordD o).length = o.length from List.length_map .., decide_eq_true (by omega), Bool.true_and, plBs_iff]
  intro d hd
  obtain ⟨k, _, rfl⟩ := List.mem_map.mp hd
  rfl
theorem lot_wr {o : List Nat} {m : Nat} (h : LotOk o m) : wrongD m (ordD o) = .non := by
  unfold wrongD
  have : ∀ (o : List Nat) (k : Nat) (least : Int), (∀ j ∈ o, least ≤ (j : Int) ∧ j < m) → o.Pairwise (· < ·) → wrongM m (ordD o) k least = none := fun o => by
    induction o with
    | nil => intro k least _ _; rfl
    | cons a o ih =>
      intro k least hk hp
      obtain ⟨p1, p2⟩ := List.pairwise_cons.mp hp
      obtain ⟨h1, h2⟩ := hk a List.mem_cons_self
      show wrongM m (.int (a : Nat) :: ordD o) k least = none
      rw [wrong_int, if_pos (by
        rw [Bool.and_eq_true, Bool.and_eq_true, decide_eq_true_eq, decide_eq_true_eq, decide_eq_true_eq]
        exact ⟨⟨by omega, by omega⟩, h1⟩)]
      exact ih (k + 1) _ (fun j hj => ⟨by have := p1 j hj; omega, (hk j (List.mem_cons_of_mem _ hj)).2⟩) p2
  rw [this o 0 0 (fun j hj => ⟨by omega, h.lt j hj⟩) h.inc]
def spBText (C : Addr) : Spc where
  ty := Bk
  args := fun x => [bookD C x.1 x.2]
  ok := fun _ => True
  rel := fun x d => d = .str (tx (bookTx x.1 x.2))
end K09

namespace K09
open PySem PySem.Spec PyProof.Rows L2 Dw
variable [Tabs0]
theorem d_Book_text {P : Program} {w : World} {K : PySem.W.Frag} {mg : Str → Option Value} {base : Heap} (T : Txt K w mg) : FnOk P w K mg base CX0 1 T.f_Book_text T.e_Book_text ["self"] (toSp (spBText T.C_Book)) := by
  refine fn_ok T.F_Book_text sc_Book_text (fun _ => rfl) fun cdv A outer s' H E hr => ?_
  refine ⟨_, (pss_one (ps_ret (fldA K (pv 0)))), fun x hx => ?_⟩
  obtain ⟨ls, rs⟩ := x
  exact ds_ret (Ev.dl (ev_fld T.cl_Book T.no_text (ev_var rfl) (by rfl)) rfl)
end K09

namespace K09
open PySem PySem.Spec PyProof.Rows L2 Dw
variable [Tabs0]
theorem d_NotABook___init__ {P : Program} {w : World} {K : PySem.W.Frag} {mg : Str → Option Value} {base : Heap} (T : Txt K w mg) : FnOk P w K mg base CX0 1 T.f_NotABook___init__ T.e_NotABook___init__ ["self", "given"] (spXI T.C_NotABook "given") :=
  fn_xinit T.F_NotABook___init__ sc_NotABook___init__ rfl T.xo_NotABook T.xn_NotABook_given rfl fun cdv A outer s' H E => (pss_one (ps_ost (pv 0) (pv 1)))

end K09

namespace K09
open PySem PySem.Spec PyProof.Rows L2 Dw
variable [Tabs0]
theorem d_InvalidRow___init__ {P : Program} {w : World} {K : PySem.W.Frag} {mg : Str → Option Value} {base : Heap} (T : Txt K w mg) : FnOk P w K mg base CX0 1 T.f_InvalidRow___init__ T.e_InvalidRow___init__ ["self", "given"] (spXI T.C_InvalidRow "given") :=
  fn_xinit T.F_InvalidRow___init__ sc_InvalidRow___init__ rfl T.xo_InvalidRow T.xn_InvalidRow_given rfl fun cdv A outer s' H E => (pss_one (ps_ost (pv 0) (pv 1)))

end K09

namespace K09
open PySem PySem.Spec PyProof.Rows L2 Dw
variable [Tabs0]
theorem d_InvalidLot___init__ {P : Program} {w : World} {K : PySem.W.Frag} {mg : Str → Option Value} {base : Heap} (T : Txt K w mg) : FnOk P w K mg base CX0 1 T.f_InvalidLot___init__ T.e_InvalidLot___init__ ["self", "index"] (spXI T.C_InvalidLot "index") :=
  fn_xinit T.F_InvalidLot___init__ sc_InvalidLot___init__ rfl T.xo_InvalidLot T.xn_InvalidLot_index rfl fun cdv A outer s' H E => (pss_one (ps_ost (pv 0) (pv 1)))

end K09

namespace K09
open PySem PySem.Spec PyProof.Rows L2 Dw
variable [Tabs0]
theorem d_check_book {P : Program} {w : World} {K : PySem.W.Frag} {mg : Str → Option Value} {base : Heap} (T : Txt K w mg) : FnOk P w K mg base (L2.CX P w) 3 T.f_check_book T.e_check_book ["book"] (spRX (spCheck T.C_Book) (spBkX T.C_NotABook)) := by
  refine fn_okX T.F_check_book sc_check_book (fun _ => rfl) (fun _ => rfl) fun cdv A outer s' H E hr => ?_
  refine ⟨_, (pss_one (ps_if (pt_not (truA K (pe_callB (isiA K) (by rfl) T.n_isinstance (by decide +kernel) (pa_cons (pv 0) (pa_cons (pe_glob (v := .ref T.C_Book) (by rfl) T.m_Book rfl) pa_nil))))) (pss_one (ps_raise rfl (takes_of rfl rfl rfl rfl) (pmk_oex T.xo_NotABook T.xj_NotABook T.xy_NotABook (d_NotABook___init__ T) (hr.mono (by decide)) T.b_NotABook___init__ .nil pass0 (by rfl) T.m_NotABook (pa_cons (pv 0) pa_nil)))) pss_nil)), fun x hx => ?_, fun x hx => ?_⟩
  · obtain ⟨ls, rs⟩ := x
    exact ds_if (EvT.dl (b := false) (evt_not (a := true) (evt_tru_bl (ev_isi (ev_var rfl) ev_raw (.inr ⟨_, _, _, rfl, T.ins_Book⟩) (.own _) kit_self))) ⟨fun h => (nomatch h), fun _ => ds_next rfl⟩)
  · obtain ⟨d, rfl⟩ : ∃ l : D, l = x := ⟨x, rfl⟩
    have hx : OdX d := hx
    exact ers_ifT (evt_not (a := false) (evt_tru_bl (ev_isi (ev_var rfl) ev_raw (.inl hx.1) (.own _) (kit_tyB hx.1 T.cl_Book.hd T.ct_Book)))) (ers_raiseF rfl (eva_cons (ev_var rfl) eva_nil))
end K09

namespace K09
open PySem PySem.Spec PyProof.Rows L2 Dw
variable [Tabs0]
theorem d_check_lot {P : Program} {w : World} {K : PySem.W.Frag} {mg : Str → Option Value} {base : Heap} (T : Txt K w mg) : FnOk P w K mg base (L2.CX P w) 4 T.f_check_lot T.e_check_lot ["lot", "many"] (spRX (spLot5) (spLotX5 T.C_InvalidLot)) := by
  refine fn_okX T.F_check_lot sc_check_lot (fun _ => rfl) (fun _ => rfl) fun cdv A outer s' H E hr => ?_
  refine ⟨_, (pss_cons (ps_if (pt_not (truA K (pe_callB (isiA K) (by rfl) T.n_isinstance (by decide +kernel) (pa_cons (pv 0) (pa_cons (pe_bltn (v := .ty "tuple") (by rfl) T.n_tuple (by decide +kernel) rfl) pa_nil))))) (pss_one (ps_raise rfl (takes_of rfl rfl rfl rfl) (pmk_oex T.xo_InvalidLot T.xj_InvalidLot T.xy_InvalidLot (d_InvalidLot___init__ T) (hr.mono (by decide)) T.b_InvalidLot___init__ .nil pass0 (by rfl) T.m_InvalidLot (pa_cons pe_non pa_nil)))) pss_nil) (pss_cons (ps_set (i := 2) sc_check_lot.nd rfl (Or.inl rfl) (pe_call (d_wrong_in_lot T) (hr.mono (by decide)) (by rfl) T.m_wrong_in_lot T.F_wrong_in_lot.kp T.b_wrong_in_lot .nil pass0 (pa_cons (pv 0) (pa_cons (pv 1) pa_nil)))) (pss_one (ps_if (pt_cmpR op_notN (pv 2) pe_non (nomark _)) (pss_one (ps_raise rfl (takes_of rfl rfl rfl rfl) (pmk_oex T.xo_InvalidLot T.xj_InvalidLot T.xy_InvalidLot (d_InvalidLot___init__ T) (hr.mono (by decide)) T.b_InvalidLot___init__ .nil pass0 (by rfl) T.m_InvalidLot (pa_cons (pv 2) pa_nil)))) pss_nil)))), fun x hx => ?_, fun x hx => ?_⟩
  · obtain ⟨o, m⟩ := x
    obtain ⟨ho, h20⟩ := hx
    have ho : LotOk o m := ho
    have h20 : m ≤ 20 := h20
    refine ds_seq (ds_if (EvT.dl (b := false) (evt_not (a := true) (evt_tru_bl (ev_isi (ev_var rfl) ev_raw (.inl rfl) (.ty "tuple") rfl))) ⟨fun h => (nomatch h), fun _ => ds_next ?_⟩))
    refine ds_seq (ds_asg (Ev.dl (ev_call (s := spWrongG) (d := .non) (x := (ordD o, m)) (eva_cons (ev_var rfl) (eva_cons (ev_var rfl) eva_nil)) (np_to (r := [_]) rfl) (pv_lot5 ho h20) fun d h => by
      rw [h]
      exact lot_wr ho) ?_))
    exact ds_if (EvT.dl (b := false) (evt_test (ev_op (ev_var rfl) ev_non dr5_isnt0)) ⟨fun h => (nomatch h), fun _ => ds_next rfl⟩)
  · obtain ⟨d, m⟩ := x
    have hx : LotX d m := hx
    rcases hx with ⟨ho, ht⟩ | ⟨ds, i, rfl, hp, hw⟩
    · have e : lotW d m = .non := by cases d <;> first | rfl | exact nomatch ht
      exact ers_first (ers_ifT (evt_not (a := false) (evt_tru_bl (ev_isi (ev_var rfl) ev_raw (.inl ho.1) (.ty "tuple") (by rw [kit_tup ho.1, ht])))) (ers_raiseF (by show (⟨T.C_InvalidLot, [("index", lotW d m)]⟩ : Exn) = _; rw [e]) (eva_cons ev_non eva_nil)))
    · have e : wrongD m ds = .int (i : Nat) := by unfold wrongD; rw [hw]
      refine ers_seq (pus_ifF (evt_not (a := true) (evt_tru_bl (ev_isi (ev_var rfl) ev_raw (.inl rfl) (.ty "tuple") rfl))) pus_next) ?_
      refine ers_seq (pus_asg (ev_call (s := spWrongG) (d := .int (i : Nat)) (x := (ds, m)) (eva_cons (ev_var rfl) (eva_cons (ev_var rfl) eva_nil)) (np1 (r := [_]) hp rfl) hp fun d h => by rw [h]; exact e)) ?_
      exact ers_ifT (evt_test (ev_op (ev_var rfl) ev_non dr5_isnt1)) (ers_raiseF (by show (⟨T.C_InvalidLot, [("index", wrongD m ds)]⟩ : Exn) = _; rw [e]) (eva_cons (ev_var rfl) eva_nil))
end K09

namespace K09
open PySem PySem.Spec PyProof.Rows L2 Dw
variable [Tabs0]
/-! what the law says of the odd values -/
structure PgOk (l : List Nat) (m : Nat) : Prop where
  len : l.length ≤ m
  all : ∀ c ∈ l, c < 128
instance okSDec (x : Str) : Decidable (okS x) := inferInstanceAs (Decidable (PyData.strOk x = true))
theorem okS_app {x y : Str} (hx : okS x) (hy : okS y) : okS (x ++ y) := by
  rw [of_tx x, of_tx y, tx_append]
  rw [of_tx x] at hx
  rw [of_tx y] at hy
  refine okS_tx fun c hc => ?_
  rcases List.mem_append.mp hc with h | h
  · exact okS_codes hx c h
  · exact okS_codes hy c h
theorem rc_lt : ∀ q ∈ [34, 39], ∀ c < 128, ∀ d ∈ Builtin.Str.reprChar q c, d < 1114112 := by decide +kernel
theorem rf_lt {q : Nat} (hq : q ∈ [34, 39]) : ∀ (l : List Nat) (acc : Array Nat), (∀ d ∈ acc.toList, d < 1114112) → (∀ c ∈ l, c < 128) → ∀ d ∈ (l.foldl (fun out c => out ++ (Builtin.Str.reprChar q c).toArray) acc).toList, d < 1114112
  | [], acc, h, _ => h
  | c :: l, acc, h, hl => by
    refine rf_lt hq l _ (fun d hd => ?_) fun c' hc' => hl c' (List.mem_cons_of_mem _ hc')
    rw [Array.toList_append] at hd
    rcases List.mem_append.mp hd with hd | hd
    · exact h d hd
    · exact rc_lt q hq c (hl c List.mem_cons_self) d hd
theorem okS_rt {l : List Nat} (h : ∀ c ∈ l, c < 128) : okS (reprText (tx l)) := by
  have hq : reprQuote (tx l) ∈ [34, 39] := by
    unfold reprQuote
    split <;> simp
  rw [of_tx (reprText (tx l))]
  refine okS_tx fun c hc => ?_
  unfold reprText at hc
  have hc : c ∈ (((tx l).cps.foldl (fun out c => out ++ (Builtin.Str.reprChar (reprQuote (tx l)) c).toArray) #[reprQuote (tx l)]).push (reprQuote (tx l))).toList := hc
  rw [Array.toList_push, ← Array.foldl_toList, tx_cps] at hc
  have q1 : reprQuote (tx l) < 1114112 := by
    simp only [List.mem_cons, List.not_mem_nil, or_false] at hq
    omega
  rcases List.mem_append.mp hc with hc | hc
  · refine rf_lt hq l _ (fun d hd => ?_) h c hc
    rw [List.mem_singleton.mp hd]; exact q1
  · rw [List.mem_singleton.mp hc]; exact q1
structure SaidX (C : Addr) (d : D) : Prop where
  od : OdX d
  sh : shF C d
  ok : okS (shZ d)
theorem said_py {C : Addr} {d : D} (od : OdX d) (h1 : dOk 2 d = true) (h2 : shOk d = true) (h3 : shB d ≤ 100000) (hd : isDctB d = false) (ho : ownT d = none) (hs : okS (PyData.shown (py d))) : SaidX C d := by
  have e : shZ d = PyData.shown (py d) := by unfold shZ; rw [ho, hd]; rfl
  exact ⟨od, .inl (.inl ⟨2, by decide, h1, h2, Nat.le_trans h3 (by decide), e⟩), by rw [e]; exact hs⟩
theorem said_str {C : Addr} {l : List Nat} {m : Nat} (h : PgOk l m) (hm : m ≤ 5000) : SaidX C (.str (tx l)) := by
  have hl := h.len
  refine said_py ⟨rfl, rfl⟩ (okS_tx fun c hc => by have := h.all c hc; omega) rfl ?_ rfl rfl ?_
  · show 10 * (tx l).length + 2 ≤ 100000
    rw [tx_len]; omega
  · show okS (PyData.shown (.str (tx l)))
    rw [PyData.shown_str]
    exact okS_rt h.all
theorem okS_from : ∀ (ts : List Str) (k : Nat) (acc : Str), okS acc → (∀ t ∈ ts, okS t) → okS (textFrom k acc ts)
  | [], _, _, h, _ => h
  | t :: ts, k, acc, h, ht => by
    refine okS_from ts (k + 1) _ (okS_app (okS_app h ?_) (ht t List.mem_cons_self)) fun u hu => ht u (List.mem_cons_of_mem _ hu)
    by_cases hk : k > 0
    · rw [if_pos hk]; decide +kernel
    · rw [if_neg hk]; decide +kernel
theorem okS_list {ts : List Str} (h : ∀ t ∈ ts, okS t) : okS (listText ts) := okS_app (okS_from ts 0 "[" (by decide +kernel) h) (by decide +kernel)
theorem noPs_nm : ∀ ws : List (List Nat), noPs (nameD ws) = true := fun ws => np_name ws
theorem said_lst {C : Addr} {ws : List (List Nat)} (h : ∀ w ∈ ws, PgOk w 20) (hl : ws.length ≤ 40) : SaidX C (.lst (nameD ws)) := by
  have a : ∀ ws : List (List Nat), (∀ w ∈ ws, PgOk w 20) → dOks 1 (nameD ws) = true ∧ shOks (nameD ws) = true ∧ shBs (nameD ws) ≤ 210 * ws.length ∧ ∀ t ∈ PyData.shownAll (pys (nameD ws)), okS t := fun ws => by
    induction ws with
    | nil => exact fun _ => ⟨rfl, rfl, Nat.zero_le _, fun t ht => by cases ht⟩
    | cons w r ih =>
      intro h
      obtain ⟨i1, i2, i3, i4⟩ := ih fun v hv => h v (List.mem_cons_of_mem _ hv)
      have hw := h w List.mem_cons_self
      have ow : okS (tx w) := okS_tx fun c hc => by have := hw.all c hc; omega
      refine ⟨?_, ?_, ?_, fun t ht => ?_⟩
      · show (dOk 1 (.str (tx w)) && dOks 1 (nameD r)) = true
        rw [i1, show dOk 1 (.str (tx w)) = true from ow]; rfl
      · show (true && shOks (nameD r)) = true
        rw [i2]; rfl
      · show 10 * (tx w).length + 2 + 2 + shBs (nameD r) ≤ 210 * (r.length + 1)
        rw [tx_len]
        have := hw.len
        omega
      · rcases List.mem_cons.mp ht with rfl | ht
        · show okS (PyData.shown (.str (tx w)))
          rw [PyData.shown_str]
          exact okS_rt hw.all
        · exact i4 t ht
  obtain ⟨i1, i2, i3, i4⟩ := a ws h
  have ho : ownT (.lst (nameD ws)) = none := by
    cases ws with
    | nil => rfl
    | cons w r => cases r <;> rfl
  refine said_py ⟨rfl, noPs_nm ws⟩ i1 i2 ?_ rfl ho (okS_list i4)
  show shBs (nameD ws) + 4 ≤ 100000
  omega
theorem said_tup1 {C : Addr} {l : List Nat} (h : PgOk l 100) : SaidX C (.tup [.str (tx l)]) := by
  have hl := h.len
  have o0 : dOk 1 (.str (tx l)) = true := okS_tx fun c hc => by have := h.all c hc; omega
  have rt : okS (PyData.shown (.str (tx l))) := by rw [PyData.shown_str]; exact okS_rt h.all
  refine said_py ⟨rfl, rfl⟩ (by show (dOk 1 (.str (tx l)) && true) = true; rw [o0]; rfl) rfl ?_ rfl rfl ?_
  · show 10 * (tx l).length + 2 + 2 + 0 + 4 ≤ 100000
    rw [tx_len]; omega
  · show okS ((("(" : Str) ++ PyData.shown (.str (tx l))) ++ (",)" : Str))
    exact okS_app (okS_app (by decide +kernel) rt) (by decide +kernel)
theorem said_dct {C : Addr} : SaidX C (.dct [] []) := ⟨⟨rfl, rfl⟩, .inl (.inr ⟨rfl, rfl⟩), by decide +kernel⟩
theorem reprB_ok : ∀ n < 9, (reprB n).length ≤ 1000 ∧ okS (listText [reprB n]) ∧ okS (tupleText [reprB n]) := by decide +kernel
theorem said_book {C : Addr} {L R : List (List Nat)} (h8 : L.length ≤ 8) : SaidX C (.lst [bookD C L R]) ∧ SaidX C (.tup [bookD C L R]) := by
  obtain ⟨h1, h2, h3⟩ := reprB_ok L.length (by omega)
  have np := np_book C L R
  have e1 : shZ (.lst [bookD C L R]) = listText [reprB L.length] := by
    show listText [reprB (nameD L).length] = _
    rw [nameD_len]
  have e2 : shZ (.tup [bookD C L R]) = tupleText [reprB L.length] := by
    show tupleText [reprB (nameD L).length] = _
    rw [nameD_len]
  refine ⟨⟨⟨rfl, np⟩, .inr ⟨(L, R), _, _, _, rfl, np, h8, fun d h => h, h1, .inl ⟨rfl, e1⟩⟩, by rw [e1]; exact h2⟩, ⟨⟨rfl, np⟩, .inr ⟨(L, R), _, _, _, rfl, np, h8, fun d h => h, h1, .inr ⟨rfl, e2⟩⟩, by rw [e2]; exact h3⟩⟩
theorem said_nat {C : Addr} {n : Nat} (h : n < 30) : SaidX C (.int (n : Nat)) := by
  have a : ∀ n < 30, shOk (.int (n : Nat)) = true ∧ shB (.int (n : Nat)) ≤ 100 ∧ okS (PyData.shown (py (.int (n : Nat)))) := by decide +kernel
  obtain ⟨h1, h2, h3⟩ := a n h
  exact said_py ⟨rfl, rfl⟩ rfl h1 (by omega) rfl rfl h3
theorem said_non {C : Addr} : SaidX C .non := said_py ⟨rfl, rfl⟩ rfl rfl (by decide) rfl rfl (by decide +kernel)
theorem said_bl {C : Addr} (b : Bool) : SaidX C (.bl b) := by cases b <;> exact said_py ⟨rfl, rfl⟩ rfl rfl (by decide) rfl rfl (by decide +kernel)
theorem said_c {C : Addr} {s : Str} (h1 : s.cps.toList.length ≤ 100) (h2 : ∀ c ∈ s.cps.toList, c < 128) : SaidX C (.str s) := by
  rw [of_tx s]
  exact said_str (m := 100) ⟨h1, h2⟩ (by decide)
end K09

namespace K09
open PySem PySem.Spec PyProof.Rows L2 Dw
variable [Tabs0]
/-! the odd values of the law -/
def tot (ws : List (List Nat)) : Nat := (ws.map fun w => w.length + 1).sum
theorem join_tot {sep : List Nat} (hs : sep.length ≤ 2) : ∀ ws : List (List Nat), (TL.joinL sep ws).length ≤ 2 * tot ws
  | [] => Nat.zero_le _
  | [p] => by
    show p.length ≤ 2 * (p.length + 1 + 0)
    omega
  | p :: q :: r => by
    have ih := join_tot hs (q :: r)
    show (p ++ (sep ++ TL.joinL sep (q :: r))).length ≤ 2 * (p.length + 1 + tot (q :: r))
    rw [List.length_append, List.length_append]
    omega
theorem join_mem {sep : List Nat} {c : Nat} : ∀ ws : List (List Nat), c ∈ TL.joinL sep ws → c ∈ sep ∨ ∃ w ∈ ws, c ∈ w
  | [], h => absurd h (by simp [TL.joinL])
  | [p], h => .inr ⟨p, List.mem_cons_self, h⟩
  | p :: q :: r, h => by
    have h : c ∈ p ++ (sep ++ TL.joinL sep (q :: r)) := h
    rcases List.mem_append.mp h with h | h
    · exact .inr ⟨p, List.mem_cons_self, h⟩
    · rcases List.mem_append.mp h with h | h
      · exact .inl h
      · rcases join_mem (q :: r) h with h | ⟨w, hw, h⟩
        · exact .inl h
        · exact .inr ⟨w, List.mem_cons_of_mem _ hw, h⟩
theorem tot_le {ws : List (List Nat)} {m : Nat} (h : ∀ w ∈ ws, w.length ≤ m) : tot ws ≤ ws.length * (m + 1) := by
  induction ws with
  | nil => exact Nat.zero_le _
  | cons a r ih =>
    have h1 := h a List.mem_cons_self
    have h2 := ih fun w hw => h w (List.mem_cons_of_mem _ hw)
    show a.length + 1 + tot r ≤ (r.length + 1) * (m + 1)
    rw [Nat.succ_mul]; omega
theorem book_pg {ls rs : List (List Nat)} (hb : BookOk ls rs) : PgOk (bookTx ls rs) 600 := by
  have n8 := hb.names.hi
  have t1 : tot ls ≤ 8 * 9 := Nat.le_trans (tot_le (m := 8) fun w hw => (hb.names.all w hw).hi) (Nat.mul_le_mul_right _ n8)
  have t2 : tot rs ≤ 20 * 9 := Nat.le_trans (tot_le (m := 8) fun w hw => by rw [(hb.rows w hw).len]; exact n8) (Nat.mul_le_mul_right _ hb.few)
  have j1 := join_tot (sep := [32]) (by decide) ls
  have j2 := join_tot (sep := [32]) (by decide) ([] :: rs)
  have t3 : tot ([] :: rs) = 1 + tot rs := by show 0 + 1 + tot rs = _; omega
  refine ⟨?_, fun c hc => ?_⟩
  · rw [bookTx_eq, List.length_append, List.length_append]
    show _ + (1 + _) ≤ 600
    omega
  · rw [bookTx_eq] at hc
    have h32 : ∀ z ∈ ([32] : List Nat), z < 128 := by decide
    rcases List.mem_append.mp hc with hc | hc
    · rcases join_mem _ hc with hc | ⟨w, hw, hc⟩
      · exact h32 c hc
      · have := (hb.names.all w hw).all c hc; omega
    · rcases List.mem_append.mp hc with hc | hc
      · rw [List.mem_singleton.mp hc]; decide
      · rcases join_mem _ hc with hc | ⟨w, hw, hc⟩
        · exact h32 c hc
        · rcases List.mem_cons.mp hw with rfl | hw
          · cases hc
          · have := (hb.rows w hw).all c hc
            unfold isSign at this
            omega
instance pvDec (d : D) : Decidable (Pv d) := by unfold Pv; infer_instance
def numO (m : Nat) : List D := [.non, .int (-1), .int (m : Nat), .bl true, .str "0", .int ((10 : Int) ^ (30 : Int).toNat), .tup [], .lst [], .dct [] [], .bl false]
theorem numO_ok {C : Addr} {m : Nat} (hm : m < 30) : ∀ d ∈ numO m, SaidX C d ∧ Pv d ∧ idxB d m = false := by
  intro d hd
  unfold numO at hd
  simp only [List.mem_cons, List.not_mem_nil, or_false] at hd
  rcases hd with rfl | rfl | rfl | rfl | rfl | rfl | rfl | rfl | rfl | rfl
  · exact ⟨said_non, by decide +kernel, rfl⟩
  · exact ⟨said_py ⟨rfl, rfl⟩ rfl (by decide +kernel) (by decide +kernel) rfl rfl (by decide +kernel), by decide +kernel, rfl⟩
  · refine ⟨said_nat hm, rfl, ?_⟩
    show (decide ((0 : Int) ≤ (m : Nat)) && decide (((m : Nat) : Int) < (m : Nat))) = false
    rw [decide_eq_false (Int.lt_irrefl _), Bool.and_false]
  · exact ⟨said_bl true, by decide +kernel, rfl⟩
  · exact ⟨said_c (by decide +kernel) (by decide +kernel), by decide +kernel, rfl⟩
  · refine ⟨said_py ⟨rfl, rfl⟩ rfl (by decide +kernel) (by decide +kernel) rfl rfl (by decide +kernel), by decide +kernel, ?_⟩
    show (decide ((0 : Int) ≤ (10 : Int) ^ (30 : Int).toNat) && decide ((10 : Int) ^ (30 : Int).toNat < (m : Nat))) = false
    have h30 : (30 : Int) ≤ (10 : Int) ^ (30 : Int).toNat := by decide
    rw [decide_eq_false (p := (10 : Int) ^ (30 : Int).toNat < (m : Nat)) (fun q => absurd (Int.lt_of_le_of_lt h30 q) (by omega)), Bool.and_false]
  · exact ⟨said_py ⟨rfl, rfl⟩ rfl rfl (by decide) rfl rfl (by decide +kernel), by decide +kernel, rfl⟩
  · exact ⟨said_py ⟨rfl, rfl⟩ rfl rfl (by decide) rfl rfl (by decide +kernel), by decide +kernel, rfl⟩
  · exact ⟨said_dct, by decide +kernel, rfl⟩
  · exact ⟨said_bl false, by decide +kernel, rfl⟩
def badO (G : List Nat) : List D := [.str (tx (G ++ [46])), .str (tx (G.drop 1 ++ [42])), .str (tx (G.drop 1 ++ [48])), .non, .int 0, .lst (nameD (G.map fun c => [c])), .tup [.str (tx G)], .str (tx (G.drop 1)), .bl true, .str (tx ([32] ++ G.drop 1))]
theorem row_no {l : List Nat} {n : Nat} (h : l.length ≠ n ∨ ∃ c ∈ l, ¬ isSign c) : rowB (.str (tx l)) n = false := by
  cases q : rowB (.str (tx l)) n with
  | false => rfl
  | true =>
    obtain ⟨m, e, hr, _, _⟩ := rowB_iff.mp q
    injection e with e
    have e := tx_eq.mp e
    subst e
    rcases h with h | ⟨c, hc, hs⟩
    · exact absurd hr.len h
    · exact absurd (hr.all c hc) hs
theorem badO_ok {C : Addr} {n : Nat} (h1 : 1 ≤ n) (h8 : n ≤ 8) : ∀ d ∈ badO (List.replicate n 43), SaidX C d ∧ Pv d ∧ rowB d n = false := by
  have gl : (List.replicate n 43).length = n := List.length_replicate
  have ga : ∀ c ∈ List.replicate n 43, c = 43 := fun c hc => (List.mem_replicate.mp hc).2
  have gd : ∀ c ∈ (List.replicate n 43).drop 1, c = 43 := fun c hc => ga c (List.mem_of_mem_drop hc)
  have dl : ((List.replicate n 43).drop 1).length = n - 1 := by rw [List.length_drop, gl]
  have pt : ∀ l : List Nat, l.length ≤ 20 → (∀ c ∈ l, c < 128) → SaidX C (.str (tx l)) ∧ Pv (.str (tx l)) := fun l hl ha => ⟨said_str (m := 20) ⟨hl, ha⟩ (by decide), pv_strs (fun c hc => by have := ha c hc; omega) (by omega)⟩
  intro d hd
  unfold badO at hd
  simp only [List.mem_cons, List.not_mem_nil, or_false] at hd
  rcases hd with rfl | rfl | rfl | rfl | rfl | rfl | rfl | rfl | rfl | rfl
  · obtain ⟨a, b⟩ := pt (List.replicate n 43 ++ [46]) (by rw [List.length_append, gl, List.length_singleton]; omega) fun c hc => by
      rcases List.mem_append.mp hc with hc | hc
      · have := ga c hc; omega
      · rw [List.mem_singleton.mp hc]; decide
    exact ⟨a, b, row_no (.inl (by rw [List.length_append, gl, List.length_singleton]; omega))⟩
  · obtain ⟨a, b⟩ := pt ((List.replicate n 43).drop 1 ++ [42]) (by rw [List.length_append, dl, List.length_singleton]; omega) fun c hc => by
      rcases List.mem_append.mp hc with hc | hc
      · have := gd c hc; omega
      · rw [List.mem_singleton.mp hc]; decide
    exact ⟨a, b, row_no (.inr ⟨42, by simp, by unfold isSign; decide⟩)⟩
  · obtain ⟨a, b⟩ := pt ((List.replicate n 43).drop 1 ++ [48]) (by rw [List.length_append, dl, List.length_singleton]; omega) fun c hc => by
      rcases List.mem_append.mp hc with hc | hc
      · have := gd c hc; omega
      · rw [List.mem_singleton.mp hc]; decide
    exact ⟨a, b, row_no (.inr ⟨48, by simp, by unfold isSign; decide⟩)⟩
  · exact ⟨said_non, by decide +kernel, rfl⟩
  · exact ⟨said_nat (n := 0) (by decide), by decide +kernel, rfl⟩
  · refine ⟨said_lst (fun w hw => ?_) (by rw [List.length_map, gl]; omega), ?_, rfl⟩
    · obtain ⟨c, hc, rfl⟩ := List.mem_map.mp hw
      have e := ga c hc
      subst e
      exact ⟨by decide, by decide⟩
    · show (decide ((nameD ((List.replicate n 43).map fun c => [c])).length ≤ 60) && plBs 11 (nameD ((List.replicate n 43).map fun c => [c]))) = true
      rw [nameD_len, List.length_map, gl, decide_eq_true (by omega), Bool.true_and, plBs_iff]
      intro d hd
      obtain ⟨w, hw, rfl⟩ := List.mem_map.mp hd
      obtain ⟨c, hc, rfl⟩ := List.mem_map.mp hw
      have e := ga c hc
      subst e
      exact pv_strs (by decide) (by decide)
  · refine ⟨said_tup1 ⟨by rw [gl]; omega, fun c hc => by have := ga c hc; omega⟩, ?_, rfl⟩
    show (decide (1 ≤ 60) && plBs 11 [.str (tx (List.replicate n 43))]) = true
    rw [decide_eq_true (by decide), Bool.true_and, plBs_iff]
    intro d hd
    rw [List.mem_singleton.mp hd]
    exact pv_strs (fun c hc => by have := ga c hc; omega) (by rw [gl]; omega)
  · obtain ⟨a, b⟩ := pt ((List.replicate n 43).drop 1) (by rw [dl]; omega) fun c hc => by have := gd c hc; omega
    exact ⟨a, b, row_no (.inl (by rw [dl]; omega))⟩
  · exact ⟨said_bl true, by decide +kernel, rfl⟩
  · obtain ⟨a, b⟩ := pt ([32] ++ (List.replicate n 43).drop 1) (by rw [List.length_append, dl, List.length_singleton]; omega) fun c hc => by
      rcases List.mem_append.mp hc with hc | hc
      · rw [List.mem_singleton.mp hc]; decide
      · have := gd c hc; omega
    exact ⟨a, b, row_no (.inr ⟨32, by simp, by unfold isSign; decide⟩)⟩
def xsO (C : Addr) (L R R' : List (List Nat)) : List D := [.non, .int 0, .str (tx (bookTx L R')), .lst (nameD R), .lst [bookD C L R'], .dct [] [], .bl true, .tup [bookD C L R']]
theorem row_pg {r : List Nat} {n : Nat} (h : RowOk r n) (h8 : n ≤ 8) : PgOk r 20 := ⟨by rw [h.len]; omega, fun c hc => by
  have := h.all c hc
  unfold isSign at this
  omega⟩
theorem xsO_ok {C : Addr} {L R R' : List (List Nat)} (hb : BookOk L R) (hb' : BookOk L R') : ∀ d ∈ xsO C L R R', SaidX C d := by
  have h8 := hb.names.hi
  intro d hd
  unfold xsO at hd
  simp only [List.mem_cons, List.not_mem_nil, or_false] at hd
  rcases hd with rfl | rfl | rfl | rfl | rfl | rfl | rfl | rfl
  · exact said_non
  · exact said_nat (n := 0) (by decide)
  · exact said_str (book_pg hb') (by decide)
  · exact said_lst (fun w hw => row_pg (hb.rows w hw) h8) (by have := hb.few; omega)
  · exact (said_book h8).1
  · exact said_dct
  · exact said_bl true
  · exact (said_book h8).2
/-! lots -/
theorem wr_pre {m : Nat} : ∀ (k s p : Nat) (rest : List D), s + k ≤ m → wrongM m (ordD (List.range' s k) ++ rest) p (s : Nat) = wrongM m rest (p + k) ((s + k : Nat) : Int)
  | 0, s, p, rest, _ => rfl
  | k + 1, s, p, rest, h => by
    have ih := wr_pre (m := m) k (s + 1) (p + 1) rest (by omega)
    show wrongM m (.int (s : Nat) :: (ordD (List.range' (s + 1) k) ++ rest)) p (s : Nat) = _
    rw [wrong_int, if_pos (by
      rw [Bool.and_eq_true, Bool.and_eq_true, decide_eq_true_eq, decide_eq_true_eq, decide_eq_true_eq]
      exact ⟨⟨by omega, by omega⟩, Int.le_refl _⟩)]
    have e : ((s : Nat) : Int) + 1 = ((s + 1 : Nat) : Int) := by omega
    rw [e, ih]
    rw [show p + 1 + k = p + (k + 1) by omega, show s + 1 + k = s + (k + 1) by omega]
theorem wr_at {m k : Nat} {d : D} {rest : List D} (hk : k ≤ m) (h : idxB d m = false ∨ ∃ z : Nat, d = .int (z : Nat) ∧ z < k) : wrongM m (ordD (List.range k) ++ d :: rest) 0 0 = some k := by
  rw [List.range_eq_range']
  have := wr_pre (m := m) k 0 0 (d :: rest) (by omega)
  rw [Nat.zero_add] at this
  refine (show wrongM m (ordD (List.range' 0 k) ++ d :: rest) 0 0 = wrongM m (ordD (List.range' 0 k) ++ d :: rest) 0 ((0 : Nat) : Int) from rfl).trans (this.trans ?_)
  rcases h with h | ⟨z, rfl, hz⟩
  · exact wrong_not h
  · rw [wrong_int, if_neg]
    rw [Bool.and_eq_true, decide_eq_true_eq]
    exact fun q => by have := q.2; omega
theorem pv_tups {ds : List D} (hl : ds.length ≤ 60) (h : ∀ d ∈ ds, plB 11 d = true) : Pv (.tup ds) := by
  show (decide (ds.length ≤ 60) && plBs 11 ds) = true
  rw [decide_eq_true hl, Bool.true_and, plBs_iff]
  exact h
end K09

namespace K09
open PySem PySem.Spec PyProof.Rows L2 Dw
variable [Tabs0]
/-! what is refused of rankings, rules, numbers -/
abbrev Two : Type := D × D ⊕ Bk × D
def tA (C : Addr) : Two → D | .inl p => p.1 | .inr y => bookD C y.1.1 y.1.2
def tB : Two → D | .inl p => p.2 | .inr y => y.2
def spTwo (C E E2 : Addr) (f2 : Str) (bad : Bk → D → Prop) (wr : Bk → D → D) : SpcX where
  ty := Two
  args := fun x => [tA C x, tB x]
  ok := fun x => match x with | .inl p => OdX p.1 | .inr y => bad y.1 y.2
  ex := fun x => match x with | .inl p => ⟨E, [("given", p.1)]⟩ | .inr y => ⟨E2, [(f2, wr y.1 y.2)]⟩
abbrev Thr : Type := D × D × D ⊕ (Bk × D × D ⊕ Bk × List Nat × D)
def hA (C : Addr) : Thr → D | .inl p => p.1 | .inr (.inl y) => bookD C y.1.1 y.1.2 | .inr (.inr y) => bookD C y.1.1 y.1.2
def hB : Thr → D | .inl p => p.2.1 | .inr (.inl y) => y.2.1 | .inr (.inr y) => .str (tx y.2.1)
def hC : Thr → D | .inl p => p.2.2 | .inr (.inl y) => y.2.2 | .inr (.inr y) => y.2.2
def spThr (C E E2 E3 : Addr) (bad : Bk → D → Prop) : SpcX where
  ty := Thr
  args := fun x => [hA C x, hB x, hC x]
  ok := fun x => match x with | .inl p => OdX p.1 | .inr (.inl y) => Pv y.2.1 ∧ rowB y.2.1 y.1.1.length = false | .inr (.inr y) => RowOk y.2.1 y.1.1.length ∧ 1 ≤ y.1.1.length ∧ y.1.1.length ≤ 8 ∧ bad y.1 y.2.2
  ex := fun x => match x with | .inl p => ⟨E, [("given", p.1)]⟩ | .inr (.inl y) => ⟨E2, [("given", y.2.1)]⟩ | .inr (.inr y) => ⟨E3, [("given", y.2.2)]⟩
def BadRk (b : Bk) (d : D) : Prop := Pv d ∧ b.1.length ≤ 8 ∧ rkB d b.1.length = false
def BadRow (b : Bk) (d : D) : Prop := Pv d ∧ rowB d b.1.length = false
def BadRule (b : Bk) (d : D) : Prop := Pv d ∧ idxB d b.1.length = false
def BadLot (b : Bk) (d : D) : Prop := LotX d b.1.length
def BadNum (_ : Bk) (d : D) : Prop := Pv d ∧ idxB d 21 = false
def BadAt (b : Bk) (d : D) : Prop := BookOk b.1 b.2 ∧ ∃ n : Nat, d = .int (n : Nat) ∧ (fitM b.2 b.1.length).length ≤ n
def own2 (_ : Bk) (d : D) : D := d
def lot2 (b : Bk) (d : D) : D := lotW d b.1.length
def spRkX (E : Addr) : SpcX where
  ty := D × Nat
  args := fun x => [x.1, .int x.2]
  ok := fun x => Pv x.1 ∧ x.2 ≤ 8 ∧ rkB x.1 x.2 = false
  ex := fun x => ⟨E, [("given", x.1)]⟩
def spMostX (E : Addr) : SpcX where
  ty := D
  args := fun d => [d]
  ok := fun d => Pv d ∧ idxB d 21 = false
  ex := fun d => ⟨E, [("given", d)]⟩
def spCk9 : Spc where
  ty := List Nat × Nat
  args := fun x => [.str (tx x.1), .int x.2]
  ok := fun x => RowOk x.1 x.2 ∧ 1 ≤ x.2 ∧ x.2 ≤ 8
  rel := fun _ d => d = .non
def spHold9 (C : Addr) : Spc where
  ty := Bk × List Nat × List Nat
  args := fun x => [bookD C x.1.1 x.1.2, .str (tx x.2.1), .tup (ordD x.2.2)]
  ok := fun x => BookOk x.1.1 x.1.2 ∧ RowOk x.2.1 x.1.1.length ∧ x.2.2.Perm (List.range x.1.1.length)
  rel := fun x d => d = .bl (holdsB x.2.1 x.2.2)
theorem pv_ord8 {o : List Nat} {n : Nat} (h : o.Perm (List.range n)) (h8 : n ≤ 8) : Pv (.tup (ordD o)) := by
  have hl : o.length = n := by rw [h.length_eq, List.length_range]
  show (decide ((ordD o).length ≤ 60) && plBs 11 (ordD o)) = true
  rw [show (ordD o).length = o.length from List.length_map .., decide_eq_true (by omega), Bool.true_and, plBs_iff]
  intro d hd
  obtain ⟨k, _, rfl⟩ := List.mem_map.mp hd
  rfl
end K09

namespace K09
open PySem PySem.Spec PyProof.Rows L2 Dw
variable [Tabs0]
theorem d_InvalidRanking___init__ {P : Program} {w : World} {K : PySem.W.Frag} {mg : Str → Option Value} {base : Heap} (T : Txt K w mg) : FnOk P w K mg base CX0 1 T.f_InvalidRanking___init__ T.e_InvalidRanking___init__ ["self", "given"] (spXI T.C_InvalidRanking "given") :=
  fn_xinit T.F_InvalidRanking___init__ sc_InvalidRanking___init__ rfl T.xo_InvalidRanking T.xn_InvalidRanking_given rfl fun cdv A outer s' H E => (pss_one (ps_ost (pv 0) (pv 1)))

end K09

namespace K09
open PySem PySem.Spec PyProof.Rows L2 Dw
variable [Tabs0]
theorem d_InvalidRule___init__ {P : Program} {w : World} {K : PySem.W.Frag} {mg : Str → Option Value} {base : Heap} (T : Txt K w mg) : FnOk P w K mg base CX0 1 T.f_InvalidRule___init__ T.e_InvalidRule___init__ ["self", "given"] (spXI T.C_InvalidRule "given") :=
  fn_xinit T.F_InvalidRule___init__ sc_InvalidRule___init__ rfl T.xo_InvalidRule T.xn_InvalidRule_given rfl fun cdv A outer s' H E => (pss_one (ps_ost (pv 0) (pv 1)))

end K09

namespace K09
open PySem PySem.Spec PyProof.Rows L2 Dw
variable [Tabs0]
theorem d_InvalidNumber___init__ {P : Program} {w : World} {K : PySem.W.Frag} {mg : Str → Option Value} {base : Heap} (T : Txt K w mg) : FnOk P w K mg base CX0 1 T.f_InvalidNumber___init__ T.e_InvalidNumber___init__ ["self", "given"] (spXI T.C_InvalidNumber "given") :=
  fn_xinit T.F_InvalidNumber___init__ sc_InvalidNumber___init__ rfl T.xo_InvalidNumber T.xn_InvalidNumber_given rfl fun cdv A outer s' H E => (pss_one (ps_ost (pv 0) (pv 1)))

end K09

namespace K09
open PySem PySem.Spec PyProof.Rows L2 Dw
variable [Tabs0]
theorem d_check_row {P : Program} {w : World} {K : PySem.W.Frag} {mg : Str → Option Value} {base : Heap} (T : Txt K w mg) : FnOk P w K mg base (L2.CX P w) 3 T.f_check_row T.e_check_row ["row", "many"] (spRX (spCk9) (spRowX T.C_InvalidRow)) := by
  refine fn_okX T.F_check_row sc_check_row (fun _ => rfl) (fun _ => rfl) fun cdv A outer s' H E hr => ?_
  refine ⟨_, (pss_one (ps_if (pt_not (truA K (pe_call (d_is_row T) (hr.mono (by decide)) (by rfl) T.m_is_row T.F_is_row.kp T.b_is_row .nil pass0 (pa_cons (pv 0) (pa_cons (pv 1) pa_nil))))) (pss_one (ps_raise rfl (takes_of rfl rfl rfl rfl) (pmk_oex T.xo_InvalidRow T.xj_InvalidRow T.xy_InvalidRow (d_InvalidRow___init__ T) (hr.mono (by decide)) T.b_InvalidRow___init__ .nil pass0 (by rfl) T.m_InvalidRow (pa_cons (pv 0) pa_nil)))) pss_nil)), fun x hx => ?_, fun x hx => ?_⟩
  · obtain ⟨l, n⟩ := x
    obtain ⟨hr', h1, h8⟩ := hx
    have hr' : RowOk l n := hr'
    exact ds_if (EvT.dl (b := false) (evt_not (a := true) (evt_tru_bl (ev_call (s := spRowG) (x := (.str (tx l), n)) (eva_cons (ev_var rfl) (eva_cons (ev_var rfl) eva_nil)) rfl (pv_row hr' h8) fun d h => by rw [h, row_ok hr' h1 h8]))) ⟨fun h => (nomatch h), fun _ => ds_next rfl⟩)
  · obtain ⟨d, n⟩ := x
    obtain ⟨hp, hr'⟩ := hx
    have hp : Pv d := hp
    exact ers_ifT (evt_not (a := false) (evt_tru_bl (ev_call (s := spRowG) (d := .bl false) (x := (d, n)) (eva_cons (ev_var rfl) (eva_cons (ev_var rfl) eva_nil)) (np1 (r := [_]) hp rfl) hp fun e h => by rw [h]; exact congrArg D.bl hr'))) (ers_raiseF rfl (eva_cons (ev_var rfl) eva_nil))
end K09

namespace K09
open PySem PySem.Spec PyProof.Rows L2 Dw
variable [Tabs0]
theorem d_check_ranking {P : Program} {w : World} {K : PySem.W.Frag} {mg : Str → Option Value} {base : Heap} (T : Txt K w mg) : FnOk P w K mg base (L2.CX P w) 3 T.f_check_ranking T.e_check_ranking ["ranking", "many"] (spRX (spCkRk) (spRkX T.C_InvalidRanking)) := by
  refine fn_okX T.F_check_ranking sc_check_ranking (fun _ => rfl) (fun _ => rfl) fun cdv A outer s' H E hr => ?_
  refine ⟨_, (pss_one (ps_if (pt_not (truA K (pe_call (d_is_ranking T) (hr.mono (by decide)) (by rfl) T.m_is_ranking T.F_is_ranking.kp T.b_is_ranking .nil pass0 (pa_cons (pv 0) (pa_cons (pv 1) pa_nil))))) (pss_one (ps_raise rfl (takes_of rfl rfl rfl rfl) (pmk_oex T.xo_InvalidRanking T.xj_InvalidRanking T.xy_InvalidRanking (d_InvalidRanking___init__ T) (hr.mono (by decide)) T.b_InvalidRanking___init__ .nil pass0 (by rfl) T.m_InvalidRanking (pa_cons (pv 0) pa_nil)))) pss_nil)), fun x hx => ?_, fun x hx => ?_⟩
  · obtain ⟨o, n⟩ := x
    obtain ⟨ho, h8⟩ := hx
    have ho : o.Perm (List.range n) := ho
    have h8 : n ≤ 8 := h8
    exact ds_if (EvT.dl (b := false) (evt_not (a := true) (evt_tru_bl (ev_call (s := spIsRkG) (x := (.tup (ordD o), n)) (eva_cons (ev_var rfl) (eva_cons (ev_var rfl) eva_nil)) (np_to (r := [_]) rfl) ⟨pv_ord8 ho h8, h8⟩ fun d h => by rw [h]; exact congrArg D.bl (rkB_iff.mpr ⟨o, rfl, ho⟩)))) ⟨fun h => (nomatch h), fun _ => ds_next rfl⟩)
  · obtain ⟨d, n⟩ := x
    obtain ⟨hp, h8, hr'⟩ := hx
    have hp : Pv d := hp
    exact ers_ifT (evt_not (a := false) (evt_tru_bl (ev_call (s := spIsRkG) (d := .bl false) (x := (d, n)) (eva_cons (ev_var rfl) (eva_cons (ev_var rfl) eva_nil)) (np1 (r := [_]) hp rfl) ⟨hp, h8⟩ fun e h => by rw [h]; exact congrArg D.bl hr'))) (ers_raiseF rfl (eva_cons (ev_var rfl) eva_nil))
end K09

namespace K09
open PySem PySem.Spec PyProof.Rows L2 Dw
variable [Tabs0]
theorem d_check_rule {P : Program} {w : World} {K : PySem.W.Frag} {mg : Str → Option Value} {base : Heap} (T : Txt K w mg) : FnOk P w K mg base (L2.CX P w) 3 T.f_check_rule T.e_check_rule ["rule", "many"] (spRX (spNev 2) (spIdxX T.C_InvalidRule)) := by
  refine fn_okX T.F_check_rule sc_check_rule (fun _ => rfl) (fun _ => rfl) fun cdv A outer s' H E hr => ?_
  refine ⟨_, (pss_one (ps_if (pt_not (truA K (pe_call (d_is_index T) (hr.mono (by decide)) (by rfl) T.m_is_index T.F_is_index.kp T.b_is_index .nil pass0 (pa_cons (pv 0) (pa_cons (pv 1) pa_nil))))) (pss_one (ps_raise rfl (takes_of rfl rfl rfl rfl) (pmk_oex T.xo_InvalidRule T.xj_InvalidRule T.xy_InvalidRule (d_InvalidRule___init__ T) (hr.mono (by decide)) T.b_InvalidRule___init__ .nil pass0 (by rfl) T.m_InvalidRule (pa_cons (pv 0) pa_nil)))) pss_nil)), fun x hx => ?_, fun x hx => ?_⟩
  · exact (show False from hx).elim
  · obtain ⟨d, n⟩ := x
    obtain ⟨hp, hr'⟩ := hx
    have hp : Pv d := hp
    exact ers_ifT (evt_not (a := false) (evt_tru_bl (ev_call (s := spIndexG) (d := .bl false) (x := (d, n)) (eva_cons (ev_var rfl) (eva_cons (ev_var rfl) eva_nil)) (np1 (r := [_]) hp rfl) hp fun e h => by rw [h]; exact congrArg D.bl hr'))) (ers_raiseF rfl (eva_cons (ev_var rfl) eva_nil))
end K09

namespace K09
open PySem PySem.Spec PyProof.Rows L2 Dw
variable [Tabs0]
theorem d_check_most {P : Program} {w : World} {K : PySem.W.Frag} {mg : Str → Option Value} {base : Heap} (T : Txt K w mg) : FnOk P w K mg base (L2.CX P w) 3 T.f_check_most T.e_check_most ["most"] (spRX (spNev 1) (spMostX T.C_InvalidNumber)) := by
  refine fn_okX T.F_check_most sc_check_most (fun _ => rfl) (fun _ => rfl) fun cdv A outer s' H E hr => ?_
  refine ⟨_, (pss_one (ps_if (pt_not (truA K (pe_call (d_is_index T) (hr.mono (by decide)) (by rfl) T.m_is_index T.F_is_index.kp T.b_is_index .nil pass0 (pa_cons (pv 0) (pa_cons (pe_op (plusE K) (pe_glob (v := .int 20) (by rfl) T.c_MOST_ROWS ⟨_, rfl⟩) pe_int) pa_nil))))) (pss_one (ps_raise rfl (takes_of rfl rfl rfl rfl) (pmk_oex T.xo_InvalidNumber T.xj_InvalidNumber T.xy_InvalidNumber (d_InvalidNumber___init__ T) (hr.mono (by decide)) T.b_InvalidNumber___init__ .nil pass0 (by rfl) T.m_InvalidNumber (pa_cons (pv 0) pa_nil)))) pss_nil)), fun x hx => ?_, fun x hx => ?_⟩
  · exact (show False from hx).elim
  · obtain ⟨d, rfl⟩ : ∃ l : D, l = x := ⟨x, rfl⟩
    obtain ⟨hp, hr'⟩ := hx
    have hp : Pv d := hp
    exact ers_ifT (evt_not (a := false) (evt_tru_bl (ev_call (s := spIndexG) (d := .bl false) (x := (d, 21)) (eva_cons (ev_var rfl) (eva_cons (ev_cast (d' := .int ((21 : Nat) : Int)) rfl (ev_op ev_int ev_int pl_int)) eva_nil)) (np1 (r := [_]) hp rfl) hp fun e h => by rw [h]; exact congrArg D.bl hr'))) (ers_raiseF rfl (eva_cons (ev_var rfl) eva_nil))
end K09

namespace K09
open PySem PySem.Spec PyProof.Rows L2 Dw
variable [Tabs0]
theorem d_fits {P : Program} {w : World} {K : PySem.W.Frag} {mg : Str → Option Value} {base : Heap} (T : Txt K w mg) : FnOk P w K mg base (L2.CX P w) 4 T.f_fits T.e_fits ["book", "ranking"] (spRX (spFits T.C_Book) (spTwo T.C_Book T.C_NotABook T.C_InvalidRanking "given" BadRk own2)) := by
  refine fn_okX T.F_fits sc_fits (fun _ => rfl) (fun _ => rfl) fun cdv A outer s' H E hr => ?_
  refine ⟨_, (pss_cons (ps_expr (pe_call (E := E) (d_check_book T) (hr.mono (by decide)) (by rfl) T.m_check_book T.F_check_book.kp T.b_check_book .nil (passes_call (takes_of rfl rfl rfl rfl) fun _ _ _ _ h => h) (pa_cons (pv 0) pa_nil))) (pss_cons (ps_expr (pe_call (E := E) (d_check_ranking T) (hr.mono (by decide)) (by rfl) T.m_check_ranking T.F_check_ranking.kp T.b_check_ranking .nil (passes_call (takes_of rfl rfl rfl rfl) fun _ _ _ _ h => h) (pa_cons (pv 1) (pa_cons (pe_callB (lenA K) (by rfl) T.n_len (by decide +kernel) (pa_cons (pe_prop (pv 0) T.cl_Book T.p_Book_names (d_Book_names T) (hr.mono (by decide)) T.b_Book_names .nil pass0 rfl) pa_nil)) pa_nil)))) (pss_one (ps_ret (pe_call (d_all_hold T) (hr.mono (by decide)) (by rfl) T.m_all_hold T.F_all_hold.kp T.b_all_hold .nil pass0 (pa_cons (pe_prop (pv 0) T.cl_Book T.p_Book_rows (d_Book_rows T) (hr.mono (by decide)) T.b_Book_rows .nil pass0 rfl) (pa_cons (pv 1) pa_nil))))))), fun x hx => ?_, fun x hx => ?_⟩
  · obtain ⟨⟨ls, rs⟩, o⟩ := x
    obtain ⟨hb, ho⟩ := hx
    have hb : BookOk ls rs := hb
    have ho : o.Perm (List.range ls.length) := ho
    refine ds_seq (ds_drop (Ev.dl (ev_call_or (s := spCheck T.C_Book) (x := (ls, rs)) (eva_cons (ev_var rfl) eva_nil) (np_book _ ls rs) trivial fun d h => h) ?_))
    refine ds_seq (ds_drop (Ev.dl (ev_call_or (s := spCkRk) (x := (o, ls.length)) (eva_cons (ev_var rfl) (eva_cons (ev_cast (congrArg (fun n : Nat => D.int n) (nameD_len ls)) (ev_lenT (ds := nameD ls) (ev_prop (s := spBNames T.C_Book) (x := (ls, rs)) (ev_var rfl) rfl (np_book _ ls rs) trivial fun d h => h))) eva_nil)) (np_to (r := [_]) rfl) ⟨ho, hb.n8⟩ fun d h => h) ?_))
    exact ds_ret (Ev.dl (ev_call (s := spAllHold) (x := (rs, o)) (eva_cons (ev_prop (s := spBRows T.C_Book) (x := (ls, rs)) (ev_var rfl) rfl (np_book _ ls rs) trivial fun d h => h) (eva_cons (ev_var rfl) eva_nil)) (np_tn (np_to (r := []) rfl)) ⟨ls.length, hb.rows, hb.n8, Nat.le_trans hb.few (by decide), fun k hk => List.mem_range.mp (ho.mem_iff.mp hk)⟩ fun d h => h) rfl)
  · cases x with
    | inl p =>
      obtain ⟨d, e⟩ := p
      exact ers_first (ers_drop (ert_call (sx := spBkX T.C_NotABook) (x := d) (eva_cons (ev_var rfl) eva_nil) hx fun ed H' h => h))
    | inr y =>
      obtain ⟨⟨ls, rs⟩, d⟩ := y
      exact ers_seq (pus_drop (ev_call_or (s := spCheck T.C_Book) (x := (ls, rs)) (eva_cons (ev_var rfl) eva_nil) (np_book _ ls rs) trivial fun d h => h)) (ers_first (ers_drop (ert_call (sx := spRkX T.C_InvalidRanking) (x := (d, ls.length)) (eva_cons (ev_var rfl) (eva_cons (ev_cast (congrArg (fun n : Nat => D.int n) (nameD_len ls)) (ev_lenT (ds := nameD ls) (ev_prop (s := spBNames T.C_Book) (x := (ls, rs)) (ev_var rfl) rfl (np_book _ ls rs) trivial fun d h => h))) eva_nil)) hx fun ed H' h => h)))
end K09

namespace K09
open PySem PySem.Spec PyProof.Rows L2 Dw
variable [Tabs0]
theorem d_number_of {P : Program} {w : World} {K : PySem.W.Frag} {mg : Str → Option Value} {base : Heap} (T : Txt K w mg) : FnOk P w K mg base (L2.CX P w) 4 T.f_number_of T.e_number_of ["book", "ranking"] (spRX (spNev 2) (spTwo T.C_Book T.C_NotABook T.C_InvalidRanking "given" BadRk own2)) := by
  refine fn_okX T.F_number_of sc_number_of (fun _ => rfl) (fun _ => rfl) fun cdv A outer s' H E hr => ?_
  refine ⟨_, (pss_cons (ps_expr (pe_call (E := E) (d_check_book T) (hr.mono (by decide)) (by rfl) T.m_check_book T.F_check_book.kp T.b_check_book .nil (passes_call (takes_of rfl rfl rfl rfl) fun _ _ _ _ h => h) (pa_cons (pv 0) pa_nil))) (pss_cons (ps_expr (pe_call (E := E) (d_check_ranking T) (hr.mono (by decide)) (by rfl) T.m_check_ranking T.F_check_ranking.kp T.b_check_ranking .nil (passes_call (takes_of rfl rfl rfl rfl) fun _ _ _ _ h => h) (pa_cons (pv 1) (pa_cons (pe_callB (lenA K) (by rfl) T.n_len (by decide +kernel) (pa_cons (pe_prop (pv 0) T.cl_Book T.p_Book_names (d_Book_names T) (hr.mono (by decide)) T.b_Book_names .nil pass0 rfl) pa_nil)) pa_nil)))) pss_dead)), fun x hx => ?_, fun x hx => ?_⟩
  · exact (show False from hx).elim
  · cases x with
    | inl p =>
      obtain ⟨d, e⟩ := p
      exact ers_first (ers_drop (ert_call (sx := spBkX T.C_NotABook) (x := d) (eva_cons (ev_var rfl) eva_nil) hx fun ed H' h => h))
    | inr y =>
      obtain ⟨⟨ls, rs⟩, d⟩ := y
      exact ers_seq (pus_drop (ev_call_or (s := spCheck T.C_Book) (x := (ls, rs)) (eva_cons (ev_var rfl) eva_nil) (np_book _ ls rs) trivial fun d h => h)) (ers_first (ers_drop (ert_call (sx := spRkX T.C_InvalidRanking) (x := (d, ls.length)) (eva_cons (ev_var rfl) (eva_cons (ev_cast (congrArg (fun n : Nat => D.int n) (nameD_len ls)) (ev_lenT (ds := nameD ls) (ev_prop (s := spBNames T.C_Book) (x := (ls, rs)) (ev_var rfl) rfl (np_book _ ls rs) trivial fun d h => h))) eva_nil)) hx fun ed H' h => h)))
end K09

namespace K09
open PySem PySem.Spec PyProof.Rows L2 Dw
variable [Tabs0]
theorem d_judge {P : Program} {w : World} {K : PySem.W.Frag} {mg : Str → Option Value} {base : Heap} (T : Txt K w mg) : FnOk P w K mg base (L2.CX P w) 4 T.f_judge T.e_judge ["book", "row"] (spRX (spNev 2) (spTwo T.C_Book T.C_NotABook T.C_InvalidRow "given" BadRow own2)) := by
  refine fn_okX T.F_judge sc_judge (fun _ => rfl) (fun _ => rfl) fun cdv A outer s' H E hr => ?_
  refine ⟨_, (pss_cons (ps_expr (pe_call (E := E) (d_check_book T) (hr.mono (by decide)) (by rfl) T.m_check_book T.F_check_book.kp T.b_check_book .nil (passes_call (takes_of rfl rfl rfl rfl) fun _ _ _ _ h => h) (pa_cons (pv 0) pa_nil))) (pss_cons (ps_set (i := 2) sc_judge.nd rfl (Or.inl rfl) (pe_callB (lenA K) (by rfl) T.n_len (by decide +kernel) (pa_cons (pe_prop (pv 0) T.cl_Book T.p_Book_names (d_Book_names T) (hr.mono (by decide)) T.b_Book_names .nil pass0 rfl) pa_nil))) (pss_cons (ps_expr (pe_call (E := E) (d_check_row T) (hr.mono (by decide)) (by rfl) T.m_check_row T.F_check_row.kp T.b_check_row .nil (passes_call (takes_of rfl rfl rfl rfl) fun _ _ _ _ h => h) (pa_cons (pv 1) (pa_cons (pv 2) pa_nil)))) pss_dead))), fun x hx => ?_, fun x hx => ?_⟩
  · exact (show False from hx).elim
  · cases x with
    | inl p =>
      obtain ⟨d, e⟩ := p
      exact ers_first (ers_drop (ert_call (sx := spBkX T.C_NotABook) (x := d) (eva_cons (ev_var rfl) eva_nil) hx fun ed H' h => h))
    | inr y =>
      obtain ⟨⟨ls, rs⟩, d⟩ := y
      exact ers_seq (pus_drop (ev_call_or (s := spCheck T.C_Book) (x := (ls, rs)) (eva_cons (ev_var rfl) eva_nil) (np_book _ ls rs) trivial fun d h => h)) (ers_seq (pus_asg (ev_cast (congrArg (fun n : Nat => D.int n) (nameD_len ls)) (ev_lenT (ds := nameD ls) (ev_prop (s := spBNames T.C_Book) (x := (ls, rs)) (ev_var rfl) rfl (np_book _ ls rs) trivial fun d h => h)))) (ers_first (ers_drop (ert_call (sx := spRowX T.C_InvalidRow) (x := (d, ls.length)) (eva_cons (ev_var rfl) (eva_cons (ev_var rfl) eva_nil)) hx fun ed H' h => h))))
end K09

namespace K09
open PySem PySem.Spec PyProof.Rows L2 Dw
variable [Tabs0]
theorem d_reasons {P : Program} {w : World} {K : PySem.W.Frag} {mg : Str → Option Value} {base : Heap} (T : Txt K w mg) : FnOk P w K mg base (L2.CX P w) 4 T.f_reasons T.e_reasons ["book", "rule"] (spRX (spNev 2) (spTwo T.C_Book T.C_NotABook T.C_InvalidRule "given" BadRule own2)) := by
  refine fn_okX T.F_reasons sc_reasons (fun _ => rfl) (fun _ => rfl) fun cdv A outer s' H E hr => ?_
  refine ⟨_, (pss_cons (ps_expr (pe_call (E := E) (d_check_book T) (hr.mono (by decide)) (by rfl) T.m_check_book T.F_check_book.kp T.b_check_book .nil (passes_call (takes_of rfl rfl rfl rfl) fun _ _ _ _ h => h) (pa_cons (pv 0) pa_nil))) (pss_cons (ps_set (i := 2) sc_reasons.nd rfl (Or.inl rfl) (pe_callB (lenA K) (by rfl) T.n_len (by decide +kernel) (pa_cons (pe_prop (pv 0) T.cl_Book T.p_Book_names (d_Book_names T) (hr.mono (by decide)) T.b_Book_names .nil pass0 rfl) pa_nil))) (pss_cons (ps_expr (pe_call (E := E) (d_check_rule T) (hr.mono (by decide)) (by rfl) T.m_check_rule T.F_check_rule.kp T.b_check_rule .nil (passes_call (takes_of rfl rfl rfl rfl) fun _ _ _ _ h => h) (pa_cons (pv 1) (pa_cons (pv 2) pa_nil)))) pss_dead))), fun x hx => ?_, fun x hx => ?_⟩
  · exact (show False from hx).elim
  · cases x with
    | inl p =>
      obtain ⟨d, e⟩ := p
      exact ers_first (ers_drop (ert_call (sx := spBkX T.C_NotABook) (x := d) (eva_cons (ev_var rfl) eva_nil) hx fun ed H' h => h))
    | inr y =>
      obtain ⟨⟨ls, rs⟩, d⟩ := y
      exact ers_seq (pus_drop (ev_call_or (s := spCheck T.C_Book) (x := (ls, rs)) (eva_cons (ev_var rfl) eva_nil) (np_book _ ls rs) trivial fun d h => h)) (ers_seq (pus_asg (ev_cast (congrArg (fun n : Nat => D.int n) (nameD_len ls)) (ev_lenT (ds := nameD ls) (ev_prop (s := spBNames T.C_Book) (x := (ls, rs)) (ev_var rfl) rfl (np_book _ ls rs) trivial fun d h => h)))) (ers_first (ers_drop (ert_call (sx := spIdxX T.C_InvalidRule) (x := (d, ls.length)) (eva_cons (ev_var rfl) (eva_cons (ev_var rfl) eva_nil)) hx fun ed H' h => h))))
end K09

namespace K09
open PySem PySem.Spec PyProof.Rows L2 Dw
variable [Tabs0]
theorem d_places {P : Program} {w : World} {K : PySem.W.Frag} {mg : Str → Option Value} {base : Heap} (T : Txt K w mg) : FnOk P w K mg base (L2.CX P w) 4 T.f_places T.e_places ["book", "rule"] (spRX (spNev 2) (spTwo T.C_Book T.C_NotABook T.C_InvalidRule "given" BadRule own2)) := by
  refine fn_okX T.F_places sc_places (fun _ => rfl) (fun _ => rfl) fun cdv A outer s' H E hr => ?_
  refine ⟨_, (pss_cons (ps_expr (pe_call (E := E) (d_check_book T) (hr.mono (by decide)) (by rfl) T.m_check_book T.F_check_book.kp T.b_check_book .nil (passes_call (takes_of rfl rfl rfl rfl) fun _ _ _ _ h => h) (pa_cons (pv 0) pa_nil))) (pss_cons (ps_set (i := 2) sc_places.nd rfl (Or.inr rfl) (pe_callB (lenA K) (by rfl) T.n_len (by decide +kernel) (pa_cons (pe_prop (pv 0) T.cl_Book T.p_Book_names (d_Book_names T) (hr.mono (by decide)) T.b_Book_names .nil pass0 rfl) pa_nil))) (pss_cons (ps_expr (pe_call (E := E) (d_check_rule T) (hr.mono (by decide)) (by rfl) T.m_check_rule T.F_check_rule.kp T.b_check_rule .nil (passes_call (takes_of rfl rfl rfl rfl) fun _ _ _ _ h => h) (pa_cons (pv 1) (pa_cons (pv 2) pa_nil)))) pss_dead))), fun x hx => ?_, fun x hx => ?_⟩
  · exact (show False from hx).elim
  · cases x with
    | inl p =>
      obtain ⟨d, e⟩ := p
      exact ers_first (ers_drop (ert_call (sx := spBkX T.C_NotABook) (x := d) (eva_cons (ev_var rfl) eva_nil) hx fun ed H' h => h))
    | inr y =>
      obtain ⟨⟨ls, rs⟩, d⟩ := y
      exact ers_seq (pus_drop (ev_call_or (s := spCheck T.C_Book) (x := (ls, rs)) (eva_cons (ev_var rfl) eva_nil) (np_book _ ls rs) trivial fun d h => h)) (ers_seq (pus_asg (ev_cast (congrArg (fun n : Nat => D.int n) (nameD_len ls)) (ev_lenT (ds := nameD ls) (ev_prop (s := spBNames T.C_Book) (x := (ls, rs)) (ev_var rfl) rfl (np_book _ ls rs) trivial fun d h => h)))) (ers_first (ers_drop (ert_call (sx := spIdxX T.C_InvalidRule) (x := (d, ls.length)) (eva_cons (ev_var rfl) (eva_cons (ev_var rfl) eva_nil)) hx fun ed H' h => h))))
end K09

namespace K09
open PySem PySem.Spec PyProof.Rows L2 Dw
variable [Tabs0]
theorem d_beginnings {P : Program} {w : World} {K : PySem.W.Frag} {mg : Str → Option Value} {base : Heap} (T : Txt K w mg) : FnOk P w K mg base (L2.CX P w) 5 T.f_beginnings T.e_beginnings ["book", "lot"] (spRX (spNev 2) (spTwo T.C_Book T.C_NotABook T.C_InvalidLot "index" BadLot lot2)) := by
  refine fn_okX T.F_beginnings sc_beginnings (fun _ => rfl) (fun _ => rfl) fun cdv A outer s' H E hr => ?_
  refine ⟨_, (pss_cons (ps_expr (pe_call (E := E) (d_check_book T) (hr.mono (by decide)) (by rfl) T.m_check_book T.F_check_book.kp T.b_check_book .nil (passes_call (takes_of rfl rfl rfl rfl) fun _ _ _ _ h => h) (pa_cons (pv 0) pa_nil))) (pss_cons (ps_expr (pe_call (E := E) (d_check_lot T) (hr.mono (by decide)) (by rfl) T.m_check_lot T.F_check_lot.kp T.b_check_lot .nil (passes_call (takes_of rfl rfl rfl rfl) fun _ _ _ _ h => h) (pa_cons (pv 1) (pa_cons (pe_callB (lenA K) (by rfl) T.n_len (by decide +kernel) (pa_cons (pe_prop (pv 0) T.cl_Book T.p_Book_names (d_Book_names T) (hr.mono (by decide)) T.b_Book_names .nil pass0 rfl) pa_nil)) pa_nil)))) pss_dead)), fun x hx => ?_, fun x hx => ?_⟩
  · exact (show False from hx).elim
  · cases x with
    | inl p =>
      obtain ⟨d, e⟩ := p
      exact ers_first (ers_drop (ert_call (sx := spBkX T.C_NotABook) (x := d) (eva_cons (ev_var rfl) eva_nil) hx fun ed H' h => h))
    | inr y =>
      obtain ⟨⟨ls, rs⟩, d⟩ := y
      exact ers_seq (pus_drop (ev_call_or (s := spCheck T.C_Book) (x := (ls, rs)) (eva_cons (ev_var rfl) eva_nil) (np_book _ ls rs) trivial fun d h => h)) (ers_first (ers_drop (ert_call (sx := spLotX5 T.C_InvalidLot) (x := (d, ls.length)) (eva_cons (ev_var rfl) (eva_cons (ev_cast (congrArg (fun n : Nat => D.int n) (nameD_len ls)) (ev_lenT (ds := nameD ls) (ev_prop (s := spBNames T.C_Book) (x := (ls, rs)) (ev_var rfl) rfl (np_book _ ls rs) trivial fun d h => h))) eva_nil)) hx fun ed H' h => h)))
end K09

namespace K09
open PySem PySem.Spec PyProof.Rows L2 Dw
variable [Tabs0]
theorem d_surely_wrong {P : Program} {w : World} {K : PySem.W.Frag} {mg : Str → Option Value} {base : Heap} (T : Txt K w mg) : FnOk P w K mg base (L2.CX P w) 4 T.f_surely_wrong T.e_surely_wrong ["book", "most"] (spRX (spNev 2) (spTwo T.C_Book T.C_NotABook T.C_InvalidNumber "given" BadNum own2)) := by
  refine fn_okX T.F_surely_wrong sc_surely_wrong (fun _ => rfl) (fun _ => rfl) fun cdv A outer s' H E hr => ?_
  refine ⟨_, (pss_cons (ps_expr (pe_call (E := E) (d_check_book T) (hr.mono (by decide)) (by rfl) T.m_check_book T.F_check_book.kp T.b_check_book .nil (passes_call (takes_of rfl rfl rfl rfl) fun _ _ _ _ h => h) (pa_cons (pv 0) pa_nil))) (pss_cons (ps_expr (pe_call (E := E) (d_check_most T) (hr.mono (by decide)) (by rfl) T.m_check_most T.F_check_most.kp T.b_check_most .nil (passes_call (takes_of rfl rfl rfl rfl) fun _ _ _ _ h => h) (pa_cons (pv 1) pa_nil))) pss_dead)), fun x hx => ?_, fun x hx => ?_⟩
  · exact (show False from hx).elim
  · cases x with
    | inl p =>
      obtain ⟨d, e⟩ := p
      exact ers_first (ers_drop (ert_call (sx := spBkX T.C_NotABook) (x := d) (eva_cons (ev_var rfl) eva_nil) hx fun ed H' h => h))
    | inr y =>
      obtain ⟨⟨ls, rs⟩, d⟩ := y
      exact ers_seq (pus_drop (ev_call_or (s := spCheck T.C_Book) (x := (ls, rs)) (eva_cons (ev_var rfl) eva_nil) (np_book _ ls rs) trivial fun d h => h)) (ers_first (ers_drop (ert_call (sx := spMostX T.C_InvalidNumber) (x := d) (eva_cons (ev_var rfl) eva_nil) hx fun ed H' h => h)))
end K09

namespace K09
open PySem PySem.Spec PyProof.Rows L2 Dw
variable [Tabs0]
theorem d_holds {P : Program} {w : World} {K : PySem.W.Frag} {mg : Str → Option Value} {base : Heap} (T : Txt K w mg) : FnOk P w K mg base (L2.CX P w) 4 T.f_holds T.e_holds ["book", "row", "ranking"] (spRX (spHold9 T.C_Book) (spThr T.C_Book T.C_NotABook T.C_InvalidRow T.C_InvalidRanking BadRk)) := by
  refine fn_okX T.F_holds sc_holds (fun _ => rfl) (fun _ => rfl) fun cdv A outer s' H E hr => ?_
  refine ⟨_, (pss_cons (ps_expr (pe_call (E := E) (d_check_book T) (hr.mono (by decide)) (by rfl) T.m_check_book T.F_check_book.kp T.b_check_book .nil (passes_call (takes_of rfl rfl rfl rfl) fun _ _ _ _ h => h) (pa_cons (pv 0) pa_nil))) (pss_cons (ps_expr (pe_call (E := E) (d_check_row T) (hr.mono (by decide)) (by rfl) T.m_check_row T.F_check_row.kp T.b_check_row .nil (passes_call (takes_of rfl rfl rfl rfl) fun _ _ _ _ h => h) (pa_cons (pv 1) (pa_cons (pe_callB (lenA K) (by rfl) T.n_len (by decide +kernel) (pa_cons (pe_prop (pv 0) T.cl_Book T.p_Book_names (d_Book_names T) (hr.mono (by decide)) T.b_Book_names .nil pass0 rfl) pa_nil)) pa_nil)))) (pss_cons (ps_expr (pe_call (E := E) (d_check_ranking T) (hr.mono (by decide)) (by rfl) T.m_check_ranking T.F_check_ranking.kp T.b_check_ranking .nil (passes_call (takes_of rfl rfl rfl rfl) fun _ _ _ _ h => h) (pa_cons (pv 2) (pa_cons (pe_callB (lenA K) (by rfl) T.n_len (by decide +kernel) (pa_cons (pe_prop (pv 0) T.cl_Book T.p_Book_names (d_Book_names T) (hr.mono (by decide)) T.b_Book_names .nil pass0 rfl) pa_nil)) pa_nil)))) (pss_one (ps_ret (pe_call (d_row_holds T) (hr.mono (by decide)) (by rfl) T.m_row_holds T.F_row_holds.kp T.b_row_holds .nil pass0 (pa_cons (pv 1) (pa_cons (pv 2) pa_nil)))))))), fun x hx => ?_, fun x hx => ?_⟩
  · obtain ⟨⟨ls, rs⟩, l, o⟩ := x
    obtain ⟨hb, hl, ho⟩ := hx
    have hb : BookOk ls rs := hb
    have hl : RowOk l ls.length := hl
    have ho : o.Perm (List.range ls.length) := ho
    refine ds_seq (ds_drop (Ev.dl (ev_call_or (s := spCheck T.C_Book) (x := (ls, rs)) (eva_cons (ev_var rfl) eva_nil) (np_book _ ls rs) trivial fun d h => h) ?_))
    refine ds_seq (ds_drop (Ev.dl (ev_call_or (s := spCk9) (x := (l, ls.length)) (eva_cons (ev_var rfl) (eva_cons (ev_cast (congrArg (fun n : Nat => D.int n) (nameD_len ls)) (ev_lenT (ds := nameD ls) (ev_prop (s := spBNames T.C_Book) (x := (ls, rs)) (ev_var rfl) rfl (np_book _ ls rs) trivial fun d h => h))) eva_nil)) rfl ⟨hl, hb.names.lo, hb.n8⟩ fun d h => h) ?_))
    refine ds_seq (ds_drop (Ev.dl (ev_call_or (s := spCkRk) (x := (o, ls.length)) (eva_cons (ev_var rfl) (eva_cons (ev_cast (congrArg (fun n : Nat => D.int n) (nameD_len ls)) (ev_lenT (ds := nameD ls) (ev_prop (s := spBNames T.C_Book) (x := (ls, rs)) (ev_var rfl) rfl (np_book _ ls rs) trivial fun d h => h))) eva_nil)) (np_to (r := [_]) rfl) ⟨ho, hb.n8⟩ fun d h => h) ?_))
    exact ds_ret (Ev.dl (ev_call (s := spRowHolds) (x := (l, o)) (eva_cons (ev_var rfl) (eva_cons (ev_var rfl) eva_nil)) (np_to (r := []) rfl) ⟨ls.length, hl, hb.n8, fun k hk => List.mem_range.mp (ho.mem_iff.mp hk)⟩ fun d h => h) rfl)
  · cases x with
    | inl p =>
      obtain ⟨d, e, g⟩ := p
      exact ers_first (ers_drop (ert_call (sx := spBkX T.C_NotABook) (x := d) (eva_cons (ev_var rfl) eva_nil) hx fun ed H' h => h))
    | inr y => cases y with
      | inl y =>
        obtain ⟨⟨ls, rs⟩, d, e⟩ := y
        exact ers_seq (pus_drop (ev_call_or (s := spCheck T.C_Book) (x := (ls, rs)) (eva_cons (ev_var rfl) eva_nil) (np_book _ ls rs) trivial fun d h => h)) (ers_first (ers_drop (ert_call (sx := spRowX T.C_InvalidRow) (x := (d, ls.length)) (eva_cons (ev_var rfl) (eva_cons (ev_cast (congrArg (fun n : Nat => D.int n) (nameD_len ls)) (ev_lenT (ds := nameD ls) (ev_prop (s := spBNames T.C_Book) (x := (ls, rs)) (ev_var rfl) rfl (np_book _ ls rs) trivial fun d h => h))) eva_nil)) hx fun ed H' h => h)))
      | inr y =>
        obtain ⟨⟨ls, rs⟩, l, d⟩ := y
        obtain ⟨hl, h1, h8, hx⟩ := hx
        have hl : RowOk l ls.length := hl
        exact ers_seq (pus_drop (ev_call_or (s := spCheck T.C_Book) (x := (ls, rs)) (eva_cons (ev_var rfl) eva_nil) (np_book _ ls rs) trivial fun d h => h)) (ers_seq (pus_drop (ev_call_or (s := spCk9) (x := (l, ls.length)) (eva_cons (ev_var rfl) (eva_cons (ev_cast (congrArg (fun n : Nat => D.int n) (nameD_len ls)) (ev_lenT (ds := nameD ls) (ev_prop (s := spBNames T.C_Book) (x := (ls, rs)) (ev_var rfl) rfl (np_book _ ls rs) trivial fun d h => h))) eva_nil)) rfl ⟨hl, h1, h8⟩ fun d h => h)) (ers_first (ers_drop (ert_call (sx := spRkX T.C_InvalidRanking) (x := (d, ls.length)) (eva_cons (ev_var rfl) (eva_cons (ev_cast (congrArg (fun n : Nat => D.int n) (nameD_len ls)) (ev_lenT (ds := nameD ls) (ev_prop (s := spBNames T.C_Book) (x := (ls, rs)) (ev_var rfl) rfl (np_book _ ls rs) trivial fun d h => h))) eva_nil)) hx fun ed H' h => h))))
end K09

namespace K09
open PySem PySem.Spec PyProof.Rows L2 Dw
variable [Tabs0]
theorem d_follows_with {P : Program} {w : World} {K : PySem.W.Frag} {mg : Str → Option Value} {base : Heap} (T : Txt K w mg) : FnOk P w K mg base (L2.CX P w) 4 T.f_follows_with T.e_follows_with ["book", "row", "most"] (spRX (spNev 3) (spThr T.C_Book T.C_NotABook T.C_InvalidRow T.C_InvalidNumber BadNum)) := by
  refine fn_okX T.F_follows_with sc_follows_with (fun _ => rfl) (fun _ => rfl) fun cdv A outer s' H E hr => ?_
  refine ⟨_, (pss_cons (ps_expr (pe_call (E := E) (d_check_book T) (hr.mono (by decide)) (by rfl) T.m_check_book T.F_check_book.kp T.b_check_book .nil (passes_call (takes_of rfl rfl rfl rfl) fun _ _ _ _ h => h) (pa_cons (pv 0) pa_nil))) (pss_cons (ps_expr (pe_call (E := E) (d_check_row T) (hr.mono (by decide)) (by rfl) T.m_check_row T.F_check_row.kp T.b_check_row .nil (passes_call (takes_of rfl rfl rfl rfl) fun _ _ _ _ h => h) (pa_cons (pv 1) (pa_cons (pe_callB (lenA K) (by rfl) T.n_len (by decide +kernel) (pa_cons (pe_prop (pv 0) T.cl_Book T.p_Book_names (d_Book_names T) (hr.mono (by decide)) T.b_Book_names .nil pass0 rfl) pa_nil)) pa_nil)))) (pss_cons (ps_expr (pe_call (E := E) (d_check_most T) (hr.mono (by decide)) (by rfl) T.m_check_most T.F_check_most.kp T.b_check_most .nil (passes_call (takes_of rfl rfl rfl rfl) fun _ _ _ _ h => h) (pa_cons (pv 2) pa_nil))) pss_dead))), fun x hx => ?_, fun x hx => ?_⟩
  · exact (show False from hx).elim
  · cases x with
    | inl p =>
      obtain ⟨d, e, g⟩ := p
      exact ers_first (ers_drop (ert_call (sx := spBkX T.C_NotABook) (x := d) (eva_cons (ev_var rfl) eva_nil) hx fun ed H' h => h))
    | inr y => cases y with
      | inl y =>
        obtain ⟨⟨ls, rs⟩, d, e⟩ := y
        exact ers_seq (pus_drop (ev_call_or (s := spCheck T.C_Book) (x := (ls, rs)) (eva_cons (ev_var rfl) eva_nil) (np_book _ ls rs) trivial fun d h => h)) (ers_first (ers_drop (ert_call (sx := spRowX T.C_InvalidRow) (x := (d, ls.length)) (eva_cons (ev_var rfl) (eva_cons (ev_cast (congrArg (fun n : Nat => D.int n) (nameD_len ls)) (ev_lenT (ds := nameD ls) (ev_prop (s := spBNames T.C_Book) (x := (ls, rs)) (ev_var rfl) rfl (np_book _ ls rs) trivial fun d h => h))) eva_nil)) hx fun ed H' h => h)))
      | inr y =>
        obtain ⟨⟨ls, rs⟩, l, d⟩ := y
        obtain ⟨hl, h1, h8, hx⟩ := hx
        have hl : RowOk l ls.length := hl
        exact ers_seq (pus_drop (ev_call_or (s := spCheck T.C_Book) (x := (ls, rs)) (eva_cons (ev_var rfl) eva_nil) (np_book _ ls rs) trivial fun d h => h)) (ers_seq (pus_drop (ev_call_or (s := spCk9) (x := (l, ls.length)) (eva_cons (ev_var rfl) (eva_cons (ev_cast (congrArg (fun n : Nat => D.int n) (nameD_len ls)) (ev_lenT (ds := nameD ls) (ev_prop (s := spBNames T.C_Book) (x := (ls, rs)) (ev_var rfl) rfl (np_book _ ls rs) trivial fun d h => h))) eva_nil)) rfl ⟨hl, h1, h8⟩ fun d h => h)) (ers_first (ers_drop (ert_call (sx := spMostX T.C_InvalidNumber) (x := d) (eva_cons (ev_var rfl) eva_nil) hx fun ed H' h => h))))
end K09

namespace K09
open PySem PySem.Spec PyProof.Rows L2 Dw
variable [Tabs0]
theorem d_ranking_at {P : Program} {w : World} {K : PySem.W.Frag} {mg : Str → Option Value} {base : Heap} (T : Txt K w mg) : FnOk P w K mg base (L2.CX P w) 4 T.f_ranking_at T.e_ranking_at ["book", "number"] (spRX (spRankAt T.C_Book) (spTwo T.C_Book T.C_NotABook T.C_InvalidNumber "given" BadAt own2)) := by
  refine fn_okX T.F_ranking_at sc_ranking_at (fun _ => rfl) (fun _ => rfl) fun cdv A outer s' H E hr => ?_
  refine ⟨_, (pss_cons (ps_expr (pe_call (E := E) (d_check_book T) (hr.mono (by decide)) (by rfl) T.m_check_book T.F_check_book.kp T.b_check_book .nil (passes_call (takes_of rfl rfl rfl rfl) fun _ _ _ _ h => h) (pa_cons (pv 0) pa_nil))) (pss_cons (ps_set (i := 2) sc_ranking_at.nd rfl (Or.inl rfl) (pe_call (d_steps T) (hr.mono (by decide)) (by rfl) T.m_steps T.F_steps.kp T.b_steps .nil pass0 (pa_cons (pe_prop (pv 0) T.cl_Book T.p_Book_rows (d_Book_rows T) (hr.mono (by decide)) T.b_Book_rows .nil pass0 rfl) (pa_cons (pe_callB (lenA K) (by rfl) T.n_len (by decide +kernel) (pa_cons (pe_prop (pv 0) T.cl_Book T.p_Book_names (d_Book_names T) (hr.mono (by decide)) T.b_Book_names .nil pass0 rfl) pa_nil)) pa_nil)))) (pss_cons (ps_set (i := 3) sc_ranking_at.nd rfl (Or.inl rfl) (pe_call (d_endings T) (hr.mono (by decide)) (by rfl) T.m_endings T.F_endings.kp T.b_endings .nil pass0 (pa_cons (pv 2) pa_nil))) (pss_cons (ps_if (pt_not (truA K (pe_call (d_is_index T) (hr.mono (by decide)) (by rfl) T.m_is_index T.F_is_index.kp T.b_is_index .nil pass0 (pa_cons (pv 1) (pa_cons (pe_ix (ixA K) (pv 3) pe_int (fun _ _ => rfl)) pa_nil))))) (pss_one (ps_raise rfl (takes_of rfl rfl rfl rfl) (pmk_oex T.xo_InvalidNumber T.xj_InvalidNumber T.xy_InvalidNumber (d_InvalidNumber___init__ T) (hr.mono (by decide)) T.b_InvalidNumber___init__ .nil pass0 (by rfl) T.m_InvalidNumber (pa_cons (pv 1) pa_nil)))) pss_nil) (pss_cons (ps_par3 (i := 4) (j := 5) (l := 6) (by rfl) sc_ranking_at.nd rfl rfl rfl (by decide) (by decide) (by decide) rfl rfl rfl (pa_cons (pe_lst pa_nil) (pa_cons pe_int (pa_cons (pv 1) pa_nil))) (by rfl)) (pss_cons (ps_while (passes_of rfl) (truA K (pe_ix (ixA K) (pv 2) (pv 5) (fun _ _ => rfl))) (pss_cons (ps_set (i := 7) sc_ranking_at.nd rfl (Or.inl rfl) pe_int) (pss_cons (ps_while (passes_of rfl) (pt_cmpR opGe (pv 6) (pe_ix (ixA K) (pv 3) (pe_op op_or (pv 5) (pe_op op_shl pe_int (pe_ix (ixA K) (pe_ix (ixA K) (pv 2) (pv 5) (fun _ _ => rfl)) (pv 7) (fun _ _ => rfl)))) (fun _ _ => rfl)) (nomark _)) (pss_cons (ps_aug (i := 6) sc_ranking_at.nd rfl (Or.inl rfl) (pe_ix (ixA K) (pv 3) (pe_op op_or (pv 5) (pe_op op_shl pe_int (pe_ix (ixA K) (pe_ix (ixA K) (pv 2) (pv 5) (fun _ _ => rfl)) (pv 7) (fun _ _ => rfl)))) (fun _ _ => rfl)) iop_sub) (pss_one (ps_aug (i := 7) sc_ranking_at.nd rfl (Or.inl rfl) pe_int ipX)))) (pss_cons (ps_expr (bmA K PySem.F.plainAttrs_list PySem.F.slot_list_append PySem.F.type_list_append mt_append (pv 4) (pa_cons (pe_ix (ixA K) (pe_ix (ixA K) (pv 2) (pv 5) (fun _ _ => rfl)) (pv 7) (fun _ _ => rfl)) pa_nil))) (pss_one (ps_aug (i := 5) sc_ranking_at.nd rfl (Or.inl rfl) (pe_op op_shl pe_int (pe_ix (ixA K) (pv 4) (pe_un un_neg pe_int) (fun _ _ => rfl))) iop_or)))))) (pss_one (ps_ret (pe_callTy (tupleA K) (by rfl) T.n_tuple (by decide +kernel) (pa_cons (pv 4) pa_nil)))))))))), fun x hx => ?_, fun x hx => ?_⟩
  · obtain ⟨⟨ls, rs⟩, num⟩ := x
    obtain ⟨hb, hk⟩ := hx
    have hb : BookOk ls rs := hb
    have hk : num < (fitM rs ls.length).length := hk
    have h8 := hb.n8
    have so := steps_ok (rs := rs) h8
    have p2 : 0 < 2 ^ ls.length := Nat.two_pow_pos _
    have hw : ways rs ls.length 0 = fitM rs ls.length := ways_fit (rows_sgn hb.rows)
    have hw0 : wayN rs ls.length 0 = (fitM rs ls.length).length := by rw [ways_len p2, hw]
    obtain ⟨t, ht⟩ : ∃ t, (fitM rs ls.length)[num]? = some t := ⟨_, List.getElem?_eq_getElem hk⟩
    have hout : (fitM rs ls.length).getD num [] = t := by rw [List.getD_eq_getElem?_getD, ht]; rfl
    refine ds_seq (ds_drop (Ev.dl (ev_call_or (s := spCheck T.C_Book) (x := (ls, rs)) (eva_cons (ev_var rfl) eva_nil) (np_book _ ls rs) trivial fun d h => h) ?_))
    refine ds_seq (ds_asg (Ev.dl (ev_call (s := spSteps) (d := .lst (lolD (stepsM rs ls.length))) (x := (rs, ls.length, false)) (eva_cons (ev_prop (s := spBRows T.C_Book) (x := (ls, rs)) (ev_var rfl) rfl (np_book _ ls rs) trivial fun d h => h) (eva_cons (ev_names (C := T.C_Book) (rs := rs) (ev_prop (s := spBNames T.C_Book) (x := (ls, rs)) (ev_var rfl) rfl (np_book _ ls rs) trivial fun d h => h)) eva_nil)) (np_rd (b := false) (r := [_]) rfl) ⟨hb.rows, h8, Nat.le_trans hb.few (by decide)⟩ fun d h => h) ?_))
    refine ds_seq (ds_asg (Ev.dl (ev_call (s := spEnd) (d := .lst (ordD (endM (stepsM rs ls.length)))) (x := stepsM rs ls.length) (eva_cons (ev_var rfl) eva_nil) (np_ll (r := []) rfl) so fun d h => h) ?_))
    have e : idxB (.int (num : Int)) (wayN rs ls.length 0 : Int) = true := by
      show (decide ((0 : Int) ≤ num) && decide ((num : Int) < _)) = true
      rw [decide_eq_true (by omega), decide_eq_true (by omega)]; rfl
    refine ds_seq (ds_if (EvT.dl (b := false) (evt_not (a := true) (evt_tru_bl (ev_call (s := spIndexG) (d := .bl true) (x := (.int num, wayN rs ls.length 0)) (eva_cons (ev_var rfl) (eva_cons (ev_ix (ds := ordD (endM (stepsM rs ls.length))) (Ev.b (ev_var rfl)) ev_int (way_at p2)) eva_nil)) rfl rfl fun d h => by rw [h]; exact congrArg D.bl e))) ⟨fun h => (nomatch h), fun _ => ds_next ?_⟩))
    refine ds_seq (ds_par3_o (ds := []) (evn_lst eva_nil (Nat.zero_le _)) (dla_cons (Ev.dl (d := .int (0 : Nat)) ev_int (dla_cons (Ev.dl (d := .int (num : Nat)) (ev_var rfl) (dla_nil ⟨_, _, rfl, ?_⟩))))))
    refine ds_seq (ds_while (fun m Γ' => ∃ (p q : List Nat) (head left : Nat) (s7 : Sl), Γ' = [.val (bookD T.C_Book ls rs), .val (.int (num : Nat)), .val (.lst (lolD (stepsM rs ls.length))), .val (.lst (ordD (endM (stepsM rs ls.length)))), .own (ordD p), .val (.int (head : Nat)), .val (.int (left : Nat)), s7] ∧ head < 2 ^ ls.length ∧ t = p ++ q ∧ (ways rs ls.length head)[left]? = some q ∧ p.length ≤ head ∧ 2 ^ ls.length - head = m)
      (2 ^ ls.length) ⟨[], t, 0, num, _, rfl, p2, rfl, by rw [hw]; exact ht, Nat.le_refl _, by omega⟩ fun m Γ' ⟨p, q, head, left, s7, e1, hh, et, eq, hpl, hm⟩ => ?_)
    · subst e1
      refine EvT.dl (evt_tru_lst (ds := ordD (nextR rs ls.length head)) (Ev.b (ev_ix (ds := lolD (stepsM rs ls.length)) (Ev.b (ev_var rfl)) (ev_var (d := .int (head : Nat)) rfl) (next_at hh)))) ⟨fun h => ?_, fun h => ?_⟩
      · have hne : nextR rs ls.length head ≠ [] := fun z => by rw [z] at h; cases h
        have hlt := not_full hh hne
        refine ds_seq (ds_asg (Ev.dl (d := .int (0 : Nat)) ev_int ?_))
        refine ds_seq (ds_while (fun m2 Γ' => ∃ (j left2 : Nat), Γ' = [.val (bookD T.C_Book ls rs), .val (.int (num : Nat)), .val (.lst (lolD (stepsM rs ls.length))), .val (.lst (ordD (endM (stepsM rs ls.length)))), .own (ordD p), .val (.int (head : Nat)), .val (.int (left2 : Nat)), .val (.int (j : Nat))] ∧ (restW rs ls.length head j)[left2]? = some q ∧ j + m2 = ls.length)
          ls.length ⟨0, left, rfl, by rw [rest_0 hlt]; exact eq, by omega⟩ fun m2 Γ' ⟨j, left2, e2, er, hj⟩ => ?_)
        subst e2
        obtain ⟨k, ek⟩ := rest_in er
        have hkm := List.mem_of_getElem? ek
        obtain ⟨kn, kup, klt⟩ := next_up hh hkm
        have evk : ∀ {Γ : Gam}, Γ[2]? = some (.val (.lst (lolD (stepsM rs ls.length)))) → Γ[5]? = some (.val (.int (head : Nat))) → Γ[7]? = some (.val (.int (j : Nat))) → Ev _ Γ (.int (k : Nat)) := fun {Γ} g2 g5 g7 => ev_ix (K := K) (ds := ordD (nextR rs ls.length head)) (Ev.b (ev_ix (K := K) (ds := lolD (stepsM rs ls.length)) (Ev.b (ev_var (i := 2) g2)) (ev_var (i := 5) (d := .int (head : Nat)) g5) (next_at hh))) (ev_var (i := 7) g7) (step_at ek)
        have evw : ∀ {Γ : Gam}, Γ[2]? = some (.val (.lst (lolD (stepsM rs ls.length)))) → Γ[3]? = some (.val (.lst (ordD (endM (stepsM rs ls.length))))) → Γ[5]? = some (.val (.int (head : Nat))) → Γ[7]? = some (.val (.int (j : Nat))) → Ev _ Γ (.int (wayN rs ls.length (head ||| 2 ^ k) : Nat)) := fun {Γ} g2 g3 g5 g7 => ev_ix (K := K) (ds := ordD (endM (stepsM rs ls.length))) (Ev.b (ev_var (i := 3) g3)) (ev_op (ev_var (i := 5) (d := .int (head : Nat)) g5) (ev_op ev_int (evk g2 g5 g7) (dr2_shl1 (by omega))) dr2_or) (way_at klt)
        refine EvT.dl (evt_test (ev_op (ev_var (d := .int (left2 : Nat)) rfl) (evw rfl rfl rfl rfl) dr2_ge)) ⟨fun h2 => ?_, fun h2 => ?_⟩
        · have h2 : wayN rs ls.length (head ||| 2 ^ k) ≤ left2 := by have z : ((wayN rs ls.length (head ||| 2 ^ k) : Nat) : Int) ≤ (left2 : Int) := of_decide_eq_true h2; omega
          have jl : j < (nextR rs ls.length head).length := (List.getElem?_eq_some_iff.mp ek).1
          have jn : (nextR rs ls.length head).length ≤ ls.length := Nat.le_trans (List.length_filter_le _ _) (by rw [List.length_range]; exact Nat.le_refl _)
          refine ds_seq (ds_subI rfl (evw rfl rfl rfl rfl) ?_)
          have es : ((left2 : Nat) : Int) - ((wayN rs ls.length (head ||| 2 ^ k) : Nat) : Int) = ((left2 - wayN rs ls.length (head ||| 2 ^ k) : Nat) : Int) := by omega
          rw [es]
          exact ds_addI rfl ev_int ⟨m2 - 1, by omega, j + 1, left2 - wayN rs ls.length (head ||| 2 ^ k), rfl, rest_next hh ek er h2, by omega⟩
        · have h2 : left2 < wayN rs ls.length (head ||| 2 ^ k) := by have z : ¬ ((wayN rs ls.length (head ||| 2 ^ k) : Nat) : Int) ≤ (left2 : Int) := of_decide_eq_false h2; omega
          obtain ⟨r, eqr, ew⟩ := rest_take hh ek er h2
          refine ds_seq (ds_drop (dl_append ⟨_, rfl⟩ (dla_cons (Ev.dl (evk rfl rfl rfl) (dla_nil ⟨_, ordD p, rfl, rfl, ?_, ?_⟩)))))
          · rw [ordD_len]
            have := pow8 h8
            exact Nat.lt_of_le_of_lt (by omega : p.length ≤ 256) (by decide)
          · rw [show ordD p ++ [D.int (k : Nat)] = ordD (p ++ [k]) from ordD_snoc p k]
            exact ds_orI rfl (ev_op ev_int (ev_ix (ds := ordD (p ++ [k])) (evb_own rfl) ev_neg1 (last_at p k)) (dr2_shl1 (by omega))) ⟨2 ^ ls.length - (head ||| 2 ^ k), by omega, p ++ [k], r, head ||| 2 ^ k, left2, _, rfl, klt, by rw [et, eqr]; simp, ew, by rw [List.length_append]; show p.length + 1 ≤ _; omega, rfl⟩
      · have hne : nextR rs ls.length head = [] := by rw [isEmpty_ord] at h; simpa using h
        obtain ⟨e2, _⟩ := way_end hh hne eq
        refine ds_freeze 4 rfl (ds_ret (Ev.dl (ev_tuple (Ev.b (ev_var (d := .lst (ordD p)) rfl))) ?_))
        show D.tup (ordD p) = D.tup (ordD ((fitM rs ls.length).getD num []))
        rw [hout, et, e2, List.append_nil]
  · cases x with
    | inl p =>
      obtain ⟨d, e⟩ := p
      exact ers_first (ers_drop (ert_call (sx := spBkX T.C_NotABook) (x := d) (eva_cons (ev_var rfl) eva_nil) hx fun ed H' h => h))
    | inr y =>
      obtain ⟨⟨ls, rs⟩, d⟩ := y
      obtain ⟨hb, num, rfl, hk⟩ := hx
      have hb : BookOk ls rs := hb
      have hk : (fitM rs ls.length).length ≤ num := hk
      have h8 := hb.n8
      have so := steps_ok (rs := rs) h8
      have p2 : 0 < 2 ^ ls.length := Nat.two_pow_pos _
      have hw0 : wayN rs ls.length 0 = (fitM rs ls.length).length := by rw [ways_len p2, ways_fit (rows_sgn hb.rows)]
      refine ers_seq (pus_drop (ev_call_or (s := spCheck T.C_Book) (x := (ls, rs)) (eva_cons (ev_var rfl) eva_nil) (np_book _ ls rs) trivial fun d h => h)) ?_
      refine ers_seq (pus_asg (ev_call (s := spSteps) (d := .lst (lolD (stepsM rs ls.length))) (x := (rs, ls.length, false)) (eva_cons (ev_prop (s := spBRows T.C_Book) (x := (ls, rs)) (ev_var rfl) rfl (np_book _ ls rs) trivial fun d h => h) (eva_cons (ev_names (C := T.C_Book) (rs := rs) (ev_prop (s := spBNames T.C_Book) (x := (ls, rs)) (ev_var rfl) rfl (np_book _ ls rs) trivial fun d h => h)) eva_nil)) (np_rd (b := false) (r := [_]) rfl) ⟨hb.rows, h8, Nat.le_trans hb.few (by decide)⟩ fun d h => h)) ?_
      refine ers_seq (pus_asg (ev_call (s := spEnd) (d := .lst (ordD (endM (stepsM rs ls.length)))) (x := stepsM rs ls.length) (eva_cons (ev_var rfl) eva_nil) (np_ll (r := []) rfl) so fun d h => h)) ?_
      have e : idxB (.int (num : Int)) (wayN rs ls.length 0 : Int) = false := by
        show (decide ((0 : Int) ≤ num) && decide ((num : Int) < _)) = false
        rw [decide_eq_false (p := (num : Int) < _) (by omega), Bool.and_false]
      exact ers_first (ers_ifT (evt_not (a := false) (evt_tru_bl (ev_call (s := spIndexG) (d := .bl false) (x := (.int num, wayN rs ls.length 0)) (eva_cons (ev_var rfl) (eva_cons (ev_ix (ds := ordD (endM (stepsM rs ls.length))) (Ev.b (ev_var rfl)) ev_int (way_at p2)) eva_nil)) rfl rfl fun d h => by rw [h]; exact congrArg D.bl e))) (ers_raiseF rfl (eva_cons (ev_var rfl) eva_nil)))
end K09

namespace K09
open PySem PySem.Spec PyProof.Rows L2 Dw
variable [Tabs0]
/-! values that are no ranking -/
def noObj : D → Bool | .obj _ _ _ => false | _ => true
structure Elt (d : D) : Prop where
  ok1 : dOk 1 d = true
  sh : shOk d = true
  few : shB d ≤ 100
  txt : okS (PyData.shown (py d))
  np : noP d = true
  no : noObj d = true
  pl : plB 11 d = true
theorem okS_join : ∀ ts : List Str, (∀ t ∈ ts, okS t) → okS (Str.join ", " ts)
  | [], _ => by decide +kernel
  | [x], h => h x List.mem_cons_self
  | x :: y :: r, h => okS_app (okS_app (h x List.mem_cons_self) (by decide +kernel)) (okS_join (y :: r) fun t ht => h t (List.mem_cons_of_mem _ ht))
theorem okS_tup {ts : List Str} (h : ∀ t ∈ ts, okS t) : okS (tupleText ts) := by
  unfold tupleText
  refine okS_app (okS_app (by decide +kernel) (okS_join ts h)) ?_
  split <;> decide +kernel
theorem elts {ds : List D} (h : ∀ d ∈ ds, Elt d) : dOks 1 ds = true ∧ shOks ds = true ∧ shBs ds ≤ 102 * ds.length ∧ (∀ t ∈ PyData.shownAll (pys ds), okS t) ∧ noPs ds = true ∧ plBs 11 ds = true := by
  induction ds with
  | nil => exact ⟨rfl, rfl, Nat.zero_le _, (fun t ht => by cases ht), rfl, rfl⟩
  | cons d r ih =>
    obtain ⟨i1, i2, i3, i4, i5, i6⟩ := ih fun e he => h e (List.mem_cons_of_mem _ he)
    have hd := h d List.mem_cons_self
    refine ⟨?_, ?_, ?_, fun t ht => ?_, ?_, ?_⟩
    · show (dOk 1 d && dOks 1 r) = true
      rw [hd.ok1, i1]; rfl
    · show (shOk d && shOks r) = true
      rw [hd.sh, i2]; rfl
    · show shB d + 2 + shBs r ≤ 102 * (r.length + 1)
      have := hd.few
      omega
    · rcases List.mem_cons.mp ht with rfl | ht
      · exact hd.txt
      · exact i4 t ht
    · show (noP d && noPs r) = true
      rw [hd.np, i5]; rfl
    · show (plB 11 d && plBs 11 r) = true
      rw [hd.pl, i6]; rfl
theorem own_no {ds : List D} (h : ∀ d ∈ ds, Elt d) : ownT (.tup ds) = none ∧ ownT (.lst ds) = none := by
  cases ds with
  | nil => exact ⟨rfl, rfl⟩
  | cons d r =>
    cases r with
    | nil =>
      have := (h d List.mem_cons_self).no
      cases d <;> first | exact ⟨rfl, rfl⟩ | exact absurd this Bool.false_ne_true
    | cons e r =>
      have := (h d List.mem_cons_self).no
      cases d <;> first | exact ⟨rfl, rfl⟩ | exact absurd this Bool.false_ne_true
theorem said_tupE {C : Addr} {ds : List D} (h : ∀ d ∈ ds, Elt d) (hl : ds.length ≤ 20) : SaidX C (.tup ds) ∧ Pv (.tup ds) := by
  obtain ⟨i1, i2, i3, i4, i5, i6⟩ := elts h
  refine ⟨said_py ⟨rfl, i5⟩ i1 i2 ?_ rfl (own_no h).1 (okS_tup i4), ?_⟩
  · show shBs ds + 4 ≤ 100000
    omega
  · show (decide (ds.length ≤ 60) && plBs 11 ds) = true
    rw [decide_eq_true (by omega), i6]; rfl
theorem said_lstE {C : Addr} {ds : List D} (h : ∀ d ∈ ds, Elt d) (hl : ds.length ≤ 20) : SaidX C (.lst ds) ∧ Pv (.lst ds) := by
  obtain ⟨i1, i2, i3, i4, i5, i6⟩ := elts h
  refine ⟨said_py ⟨rfl, i5⟩ i1 i2 ?_ rfl (own_no h).2 (okS_list i4), ?_⟩
  · show shBs ds + 4 ≤ 100000
    omega
  · show (decide (ds.length ≤ 60) && plBs 11 ds) = true
    rw [decide_eq_true (by omega), i6]; rfl
theorem elt_nat {n : Nat} (h : n < 30) : Elt (.int (n : Nat)) := by
  have a : ∀ n < 30, shOk (.int (n : Nat)) = true ∧ shB (.int (n : Nat)) ≤ 100 ∧ okS (PyData.shown (py (.int (n : Nat)))) := by decide +kernel
  obtain ⟨h1, h2, h3⟩ := a n h
  exact ⟨rfl, h1, h2, h3, rfl, rfl, rfl⟩
def oddR (n : Nat) : List D := [.non, .int (n : Nat), .int (-1), .bl true, .str "0", .tup [], .lst [.int 0], .int ((10 : Int) ^ (30 : Int).toNat), .bl false]
theorem oddR_ok {n : Nat} (hn : n < 30) : ∀ d ∈ oddR n, Elt d ∧ idxB d n = false := by
  intro d hd
  unfold oddR at hd
  simp only [List.mem_cons, List.not_mem_nil, or_false] at hd
  rcases hd with rfl | rfl | rfl | rfl | rfl | rfl | rfl | rfl | rfl
  · exact ⟨⟨rfl, rfl, by decide, by decide +kernel, rfl, rfl, rfl⟩, rfl⟩
  · refine ⟨elt_nat hn, ?_⟩
    show (decide ((0 : Int) ≤ (n : Nat)) && decide (((n : Nat) : Int) < (n : Nat))) = false
    rw [decide_eq_false (Int.lt_irrefl _), Bool.and_false]
  · exact ⟨⟨rfl, by decide +kernel, by decide +kernel, by decide +kernel, rfl, rfl, rfl⟩, rfl⟩
  · exact ⟨⟨rfl, rfl, by decide, by decide +kernel, rfl, rfl, rfl⟩, rfl⟩
  · exact ⟨⟨by decide +kernel, by decide +kernel, by decide +kernel, by decide +kernel, rfl, rfl, by decide +kernel⟩, rfl⟩
  · exact ⟨⟨rfl, rfl, by decide, by decide +kernel, rfl, rfl, by decide +kernel⟩, rfl⟩
  · exact ⟨⟨rfl, by decide +kernel, by decide +kernel, by decide +kernel, rfl, rfl, by decide +kernel⟩, rfl⟩
  · refine ⟨⟨rfl, by decide +kernel, by decide +kernel, by decide +kernel, rfl, rfl, rfl⟩, ?_⟩
    have h30 : (30 : Int) ≤ (10 : Int) ^ (30 : Int).toNat := by decide
    show (decide ((0 : Int) ≤ (10 : Int) ^ (30 : Int).toNat) && decide ((10 : Int) ^ (30 : Int).toNat < (n : Nat))) = false
    rw [decide_eq_false (p := (10 : Int) ^ (30 : Int).toNat < (n : Nat)) (fun q => absurd (Int.lt_of_le_of_lt h30 q) (by omega)), Bool.and_false]
  · exact ⟨⟨rfl, rfl, by decide, by decide +kernel, rfl, rfl, rfl⟩, rfl⟩
theorem rk_no {ds : List D} {n : Nat} (h : ds.length ≠ n ∨ ∃ d ∈ ds, idxB d n = false) : rkB (.tup ds) n = false := by
  cases q : rkB (.tup ds) n with
  | false => rfl
  | true =>
    obtain ⟨o, e, hp⟩ := rkB_iff.mp q
    injection e with e
    subst e
    rcases h with h | ⟨d, hd, hi⟩
    · exact absurd (show (ordD o).length = n by unfold ordD; rw [List.length_map, hp.length_eq, List.length_range]) h
    · obtain ⟨j, hj, rfl⟩ := List.mem_map.mp hd
      have : j < n := List.mem_range.mp (hp.mem_iff.mp hj)
      have hi : (decide ((0 : Int) ≤ (j : Nat)) && decide (((j : Nat) : Int) < (n : Nat))) = false := hi
      rw [decide_eq_true (by omega), decide_eq_true (by omega)] at hi
      cases hi
/-- the ranking from the last to the first -/
def revD (n : Nat) : List D := (ordD (List.range n)).reverse
theorem revD_len (n : Nat) : (revD n).length = n := by unfold revD ordD; rw [List.length_reverse, List.length_map, List.length_range]
theorem revD_elt {n : Nat} (h : n ≤ 8) : ∀ d ∈ revD n, Elt d := fun d hd => by
  obtain ⟨j, hj, rfl⟩ := List.mem_map.mp (List.mem_reverse.mp hd)
  have := List.mem_range.mp hj
  exact elt_nat (by omega)
def wrongO (n k : Nat) (x : D) : List D := [.tup ((revD n).take k ++ [x] ++ (revD n).drop (k + 1)), .tup (revD n ++ [.int 0]), .tup ((revD n).drop 1), .lst (revD n), .non, .int 0, .str "", .dct [] [], .tup (revD n ++ (revD n).take 1)]
structure RkX (C : Addr) (n : Nat) (d : D) : Prop where
  said : SaidX C d
  pv : Pv d
  no : rkB d n = false
theorem wrongO_ok {C : Addr} {n k : Nat} {x : D} (h1 : 1 ≤ n) (h8 : n ≤ 8) (hx : Elt x) (hi : idxB x n = false) : ∀ d ∈ wrongO n k x, RkX C n d := by
  have el := revD_elt h8
  have ln := revD_len n
  have z0 : Elt (.int 0) := elt_nat (n := 0) (by decide)
  intro d hd
  unfold wrongO at hd
  simp only [List.mem_cons, List.not_mem_nil, or_false] at hd
  rcases hd with rfl | rfl | rfl | rfl | rfl | rfl | rfl | rfl | rfl
  · have a : ∀ d ∈ (revD n).take k ++ [x] ++ (revD n).drop (k + 1), Elt d := fun d hd => by
      rcases List.mem_append.mp hd with hd | hd
      · rcases List.mem_append.mp hd with hd | hd
        · exact el d (List.mem_of_mem_take hd)
        · rw [List.mem_singleton.mp hd]; exact hx
      · exact el d (List.mem_of_mem_drop hd)
    have hl : ((revD n).take k ++ [x] ++ (revD n).drop (k + 1)).length ≤ 20 := by
      rw [List.length_append, List.length_append, List.length_take, List.length_drop, List.length_singleton]
      omega
    obtain ⟨b, c⟩ := said_tupE (C := C) a hl
    exact ⟨b, c, rk_no (.inr ⟨x, by simp, hi⟩)⟩
  · have a : ∀ d ∈ revD n ++ [D.int 0], Elt d := fun d hd => by
      rcases List.mem_append.mp hd with hd | hd
      · exact el d hd
      · rw [List.mem_singleton.mp hd]; exact z0
    have hl : (revD n ++ [D.int 0]).length = n + 1 := by rw [List.length_append, ln]; rfl
    obtain ⟨b, c⟩ := said_tupE (C := C) a (by omega)
    exact ⟨b, c, rk_no (.inl (by omega))⟩
  · have hl : ((revD n).drop 1).length = n - 1 := by rw [List.length_drop, ln]
    obtain ⟨b, c⟩ := said_tupE (C := C) (ds := (revD n).drop 1) (fun d hd => el d (List.mem_of_mem_drop hd)) (by omega)
    exact ⟨b, c, rk_no (.inl (by omega))⟩
  · obtain ⟨b, c⟩ := said_lstE (C := C) el (by omega)
    exact ⟨b, c, rfl⟩
  · exact ⟨said_non, by decide +kernel, rfl⟩
  · exact ⟨said_nat (n := 0) (by decide), by decide +kernel, rfl⟩
  · exact ⟨said_c (by decide +kernel) (by decide +kernel), by decide +kernel, rfl⟩
  · exact ⟨said_dct, by decide +kernel, rfl⟩
  · have a : ∀ d ∈ revD n ++ (revD n).take 1, Elt d := fun d hd => by
      rcases List.mem_append.mp hd with hd | hd
      · exact el d hd
      · exact el d (List.mem_of_mem_take hd)
    have hl : (revD n ++ (revD n).take 1).length = n + 1 := by rw [List.length_append, List.length_take, ln]; omega
    obtain ⟨b, c⟩ := said_tupE (C := C) a (by omega)
    exact ⟨b, c, rk_no (.inl (by omega))⟩
def spWO (C : Addr) : Spc where
  ty := Nat
  args := fun n => [.purse, .int n]
  ok := fun n => 1 ≤ n ∧ n ≤ 8
  rel := fun n d => RkX C n d
def spFst (C : Addr) : Spc where
  ty := D × D × D
  args := fun x => [.tag x.1, x.2.1, x.2.2]
  ok := fun x => SaidX C x.1
  rel := fun x d => d = .lst (List.replicate 10 (.tup [.str "NotABook", .str (shZ x.1)]))
end K09

namespace K09
open PySem PySem.Spec PyProof.Rows L2 Dw
variable [Tabs0]
theorem d__law_wrong_order {P : Program} {w : World} {K : PySem.W.Frag} {mg : Str → Option Value} {base : Heap} (T : Txt K w mg) : FnOk P w K mg base CX0 2 T.f__law_wrong_order T.e__law_wrong_order ["_law_purse_here", "_law_many"] (toSp (spWO T.C_Book)) := by
  refine fn_ok T.F__law_wrong_order sc__law_wrong_order (fun _ => rfl) fun cdv A outer s' H E hr => ?_
  refine ⟨_, (pss_cons (ps_set (i := 2) sc__law_wrong_order.nd rfl (Or.inl rfl) (sliceRA K (pe_callTy (tupleA K) (by rfl) T.n_tuple (by decide +kernel) (pa_cons (pe_listRg rfl (by rfl) T.n_list (prg_1 (by rfl) T.n_range (pv 1))) pa_nil)) (pe_un un_neg pe_int))) (pss_cons (ps_set (i := 3) sc__law_wrong_order.nd rfl (Or.inl rfl) (pe_call (d__law_draw T) (hr.mono (by decide)) (by rfl) T.m__law_draw T.F__law_draw.kp T.b__law_draw .nil pass0 (pa_cons (pv 0) (pa_cons (pv 1) pa_nil)))) (pss_cons (ps_set (i := 4) sc__law_wrong_order.nd rfl (Or.inl rfl) (pe_ix (ixA K) (pe_lst (pa_cons pe_non (pa_cons (pv 1) (pa_cons (pe_un un_neg pe_int) (pa_cons pe_bl (pa_cons pe_str (pa_cons (pe_tup pa_nil) (pa_cons (pe_lst (pa_cons pe_int pa_nil)) (pa_cons (pe_op op_pow pe_int pe_int) (pa_cons pe_bl pa_nil)))))))))) (pe_call (d__law_draw T) (hr.mono (by decide)) (by rfl) T.m__law_draw T.F__law_draw.kp T.b__law_draw .nil pass0 (pa_cons (pv 0) (pa_cons pe_int pa_nil))) (fun _ _ => rfl))) (pss_cons (ps_set (i := 5) sc__law_wrong_order.nd rfl (Or.inl rfl) (pe_lst (pa_cons (pe_op (plusE K) (pe_op (plusE K) (pe_slice (slXA K) (pv 2) po_none (po_some (pv 3))) (pe_tup (pa_cons (pv 4) pa_nil))) (pe_slice (slXA K) (pv 2) (po_some (pe_op (plusE K) (pv 3) pe_int)) po_none)) (pa_cons (pe_op (plusE K) (pv 2) (pe_tup (pa_cons pe_int pa_nil))) (pa_cons (pe_slice (slXA K) (pv 2) (po_some pe_int) po_none) (pa_cons (pe_callTy (listSA K) (by rfl) T.n_list (by decide +kernel) (pa_cons (pv 2) pa_nil)) (pa_cons pe_non (pa_cons pe_int (pa_cons pe_str (pa_cons pe_dnewK (pa_cons (pe_op (plusE K) (pv 2) (pe_slice (slXA K) (pv 2) po_none (po_some pe_int))) pa_nil))))))))))) (pss_one (ps_ret (pe_ix (ixA K) (pv 5) (pe_call (d__law_draw T) (hr.mono (by decide)) (by rfl) T.m__law_draw T.F__law_draw.kp T.b__law_draw .nil pass0 (pa_cons (pv 0) (pa_cons pe_int pa_nil))) (fun _ _ => rfl)))))))), fun x hx => ?_⟩
  obtain ⟨n, rfl⟩ : ∃ l : Nat, l = x := ⟨x, rfl⟩
  obtain ⟨h1, h8⟩ := hx
  have h1 : 1 ≤ n := h1
  have h8 : n ≤ 8 := h8
  have ln := revD_len n
  refine ds_seq (ds_asg (Ev.dl (d := .tup (revD n)) (ev_revT (ev_tuple (EvN.b (evn_listRg (n := n) (ev_var rfl) (by omega)))) (ev_neg ev_int)) ?_))
  refine ds_seq (ds_asg (dl_call (s := spDraw) (dla_cons (Ev.dl (ev_var rfl) (dla_cons (Ev.dl (ev_var rfl) (dla_nil ⟨n, rfl, ⟨h1, by omega⟩, fun d hd => ?_⟩)))))))
  obtain ⟨k, hk, rfl⟩ := hd
  have hk : k < n := hk
  refine ds_seq (ds_asg (dl_op (Ev.dl (d := .lst (oddR n)) (EvN.ev (evn_lst (eva_cons ev_non (eva_cons (ev_var rfl) (eva_cons (ev_neg ev_int) (eva_cons ev_bl (eva_cons ev_str (eva_cons (ev_tup eva_nil (Nat.zero_le _)) (eva_cons (EvN.ev (evn_lst (eva_cons ev_int eva_nil) (small (show 1 ≤ 100000 by decide)))) (eva_cons (ev_op ev_int ev_int (dr2_pow ⟨by decide, by decide, by decide⟩)) (eva_cons ev_bl eva_nil))))))))) (small (show 9 ≤ 100000 by decide)))) (dl_call (s := spDraw) (dla_cons (Ev.dl (ev_var rfl) (dla_cons (Ev.dl ev_int (dla_nil ⟨(9 : Nat), rfl, ⟨by decide, by decide⟩, fun d hd => ?_⟩)))))))))
  obtain ⟨q, hq, rfl⟩ := hd
  have hq : q < (oddR n).length := hq
  refine ⟨(oddR n)[q], dr2_ixL (atI_nat (List.getElem?_eq_getElem hq)), ?_⟩
  obtain ⟨x1, x2⟩ := oddR_ok (n := n) (by omega) _ (List.getElem_mem hq)
  generalize (oddR n)[q] = y at x1 x2 ⊢
  have v1 : (Dw.cutD (revD n) none (some (k : Int)) ++ [y]) ++ Dw.cutD (revD n) (some ((k + 1 : Nat) : Int)) none = (revD n).take k ++ [y] ++ (revD n).drop (k + 1) := by rw [cut_take, cut_drop]
  have v3 : Dw.cutD (revD n) (some ((1 : Nat) : Int)) none = (revD n).drop 1 := cut_drop _ 1
  have v9 : revD n ++ Dw.cutD (revD n) none (some ((1 : Nat) : Int)) = revD n ++ (revD n).take 1 := by rw [cut_take]
  refine ds_seq (ds_asg (Ev.dl (d := .lst (wrongO n k y)) (EvN.ev (evn_lst (eva_cons (ev_cast (congrArg D.tup v1) (ev_op (ev_op (ev_sliceTY (K := K) (ds := revD n) (ev_var rfl) eo_none (eo_some (ev_var rfl))) (ev_tup (eva_cons (ev_var rfl) eva_nil) (small (show 1 ≤ 100000 by decide))) (pl_tup ?z1)) (ev_sliceTY (K := K) (ds := revD n) (ev_var rfl) (eo_some (ev_cast (d' := .int ((k + 1 : Nat) : Int)) rfl (ev_op (ev_var rfl) ev_int pl_int))) eo_none) (pl_tup ?z2))) (eva_cons (ev_op (ev_var rfl) (ev_tup (eva_cons ev_int eva_nil) (small (show 1 ≤ 100000 by decide))) (pl_tup ?z3)) (eva_cons (ev_cast (congrArg D.tup v3) (ev_sliceTY (K := K) (ds := revD n) (ev_var rfl) (eo_some ev_int) eo_none)) (eva_cons (EvN.ev (evn_listAT (ds := revD n) (ev_var rfl))) (eva_cons ev_non (eva_cons ev_int (eva_cons ev_str (eva_cons ev_dnew (eva_cons (ev_cast (congrArg D.tup v9) (ev_op (ev_var rfl) (ev_sliceTY (K := K) (ds := revD n) (ev_var rfl) eo_none (eo_some ev_int)) (pl_tup ?z4))) eva_nil))))))))) (small (show 9 ≤ 100000 by decide)))) ?_))
  case z1 => rw [cut_take, List.length_take, ln]; exact small (show min k n + 1 ≤ 100000 by omega)
  case z2 => rw [cut_take, cut_drop, List.length_append, List.length_take, List.length_drop, ln]; exact small (show min k n + 1 + (n - (k + 1)) ≤ 100000 by omega)
  case z3 => rw [ln]; exact small (show n + 1 ≤ 100000 by omega)
  case z4 => rw [show (some (1 : Int)) = some ((1 : Nat) : Int) from rfl, cut_take, List.length_take, ln]; exact small (show n + min 1 n ≤ 100000 by omega)
  refine ds_ret (dl_op (Ev.dl (ev_var (d := .lst (wrongO n k y)) rfl) (dl_call (s := spDraw) (dla_cons (Ev.dl (ev_var rfl) (dla_cons (Ev.dl ev_int (dla_nil ⟨(9 : Nat), rfl, ⟨by decide, by decide⟩, fun d hd => ?_⟩))))))))
  obtain ⟨q2, hq2, rfl⟩ := hd
  have hq2 : q2 < (wrongO n k y).length := hq2
  exact ⟨(wrongO n k y)[q2], dr2_ixL (atI_nat (List.getElem?_eq_getElem hq2)), wrongO_ok h1 h8 x1 x2 _ (List.getElem_mem hq2)⟩
end K09

namespace K09
open PySem PySem.Spec PyProof.Rows L2 Dw
variable [Tabs0]
theorem d__law_firsts {P : Program} {w : World} {K : PySem.W.Frag} {mg : Str → Option Value} {base : Heap} (T : Txt K w mg) (TB__law_firsts : LamX.TabB base mg T.lc__law_firsts T.lt__law_firsts) : FnG P w K mg base 8 T.f__law_firsts T.e__law_firsts ["_law_x", "_law_row_here", "_law_order_here"] (spFst T.C_Book) := by
  obtain ⟨oc, od, kV, doc, pm, an, cdvT, ct, osl, eT, lkT, cdT⟩ := T.F__law_told.ex
  have bT := T.b__law_told
  rw [eT] at lkT bT
  refine fnGC_ok T.FC__law_firsts sc__law_firsts (fun _ => rfl) fun A outer s' H E hr hG => ?_
  refine ⟨_, (pss_cons (ps_set (i := 3) sc__law_firsts.nd rfl (Or.inl rfl) (pe_lst (pa_cons (pe_lamcall3 (T := T.tts) (c := T.lc__law_firsts) (P := T.lt__law_firsts) (k := 4) (by rfl) T.m__law_told T.F__law_told.kp lkT cdT bT sc__law_told rfl (Or.inl rfl) (told_gv (X := (cxOf CX0 P w K mg base N__law_firsts "_law_firsts" (defScope s__law_firsts) T.f__law_firsts (.ref T.lc__law_firsts) A outer s' H E).nox) T cdvT (hr.mono (by decide)) hG) TB__law_firsts rfl T.hm__law_firsts (T.tabs.uniq T.hm__law_firsts) (hr.mono (by decide)) (show LamX.LamS (defScope s__law_firsts) _ from LamX.lamS_by (by decide +kernel)) rfl (fun _ _ _ _ _ => rfl) (fun A1 outer1 s1 H1 E f1 c1 hr => (pe_call (E := E) (d_holds T) (hr.mono (by decide)) (by rfl) T.m_holds T.F_holds.kp T.b_holds .nil (passes_call (takes_of rfl rfl rfl rfl) fun _ _ _ _ h => h) (pa_cons (pv 0) (pa_cons (pv 1) (pa_cons (pv 2) pa_nil)))))) pa_nil))) (pss_cons (ps_expr (bmA K PySem.F.plainAttrs_list PySem.F.slot_list_append PySem.F.type_list_append mt_append (pv 3) (pa_cons (pe_lamcall3 (T := T.tts) (c := T.lc__law_firsts) (P := T.lt__law_firsts) (k := 4) (by rfl) T.m__law_told T.F__law_told.kp lkT cdT bT sc__law_told rfl (Or.inl rfl) (told_gv (X := (cxOf CX0 P w K mg base N__law_firsts "_law_firsts" (defScope s__law_firsts) T.f__law_firsts (.ref T.lc__law_firsts) A outer s' H E).nox) T cdvT (hr.mono (by decide)) hG) TB__law_firsts rfl T.hm__law_firsts (T.tabs.uniq T.hm__law_firsts) (hr.mono (by decide)) (show LamX.LamS (defScope s__law_firsts) _ from LamX.lamS_by (by decide +kernel)) rfl (fun _ _ _ _ _ => rfl) (fun A1 outer1 s1 H1 E f1 c1 hr => (pe_call (E := E) (d_fits T) (hr.mono (by decide)) (by rfl) T.m_fits T.F_fits.kp T.b_fits .nil (passes_call (takes_of rfl rfl rfl rfl) fun _ _ _ _ h => h) (pa_cons (pv 0) (pa_cons (pv 2) pa_nil))))) pa_nil))) (pss_cons (ps_expr (bmA K PySem.F.plainAttrs_list PySem.F.slot_list_append PySem.F.type_list_append mt_append (pv 3) (pa_cons (pe_lamcall3 (T := T.tts) (c := T.lc__law_firsts) (P := T.lt__law_firsts) (k := 4) (by rfl) T.m__law_told T.F__law_told.kp lkT cdT bT sc__law_told rfl (Or.inl rfl) (told_gv (X := (cxOf CX0 P w K mg base N__law_firsts "_law_firsts" (defScope s__law_firsts) T.f__law_firsts (.ref T.lc__law_firsts) A outer s' H E).nox) T cdvT (hr.mono (by decide)) hG) TB__law_firsts rfl T.hm__law_firsts (T.tabs.uniq T.hm__law_firsts) (hr.mono (by decide)) (show LamX.LamS (defScope s__law_firsts) _ from LamX.lamS_by (by decide +kernel)) rfl (fun _ _ _ _ _ => rfl) (fun A1 outer1 s1 H1 E f1 c1 hr => (pe_call (E := E) (d_number_of T) (hr.mono (by decide)) (by rfl) T.m_number_of T.F_number_of.kp T.b_number_of .nil (passes_call (takes_of rfl rfl rfl rfl) fun _ _ _ _ h => h) (pa_cons (pv 0) (pa_cons (pv 2) pa_nil))))) pa_nil))) (pss_cons (ps_expr (bmA K PySem.F.plainAttrs_list PySem.F.slot_list_append PySem.F.type_list_append mt_append (pv 3) (pa_cons (pe_lamcall3 (T := T.tts) (c := T.lc__law_firsts) (P := T.lt__law_firsts) (k := 4) (by rfl) T.m__law_told T.F__law_told.kp lkT cdT bT sc__law_told rfl (Or.inl rfl) (told_gv (X := (cxOf CX0 P w K mg base N__law_firsts "_law_firsts" (defScope s__law_firsts) T.f__law_firsts (.ref T.lc__law_firsts) A outer s' H E).nox) T cdvT (hr.mono (by decide)) hG) TB__law_firsts rfl T.hm__law_firsts (T.tabs.uniq T.hm__law_firsts) (hr.mono (by decide)) (show LamX.LamS (defScope s__law_firsts) _ from LamX.lamS_by (by decide +kernel)) rfl (fun _ _ _ _ _ => rfl) (fun A1 outer1 s1 H1 E f1 c1 hr => (pe_call (E := E) (d_judge T) (hr.mono (by decide)) (by rfl) T.m_judge T.F_judge.kp T.b_judge .nil (passes_call (takes_of rfl rfl rfl rfl) fun _ _ _ _ h => h) (pa_cons (pv 0) (pa_cons (pv 1) pa_nil))))) pa_nil))) (pss_cons (ps_expr (bmA K PySem.F.plainAttrs_list PySem.F.slot_list_append PySem.F.type_list_append mt_append (pv 3) (pa_cons (pe_lamcall3 (T := T.tts) (c := T.lc__law_firsts) (P := T.lt__law_firsts) (k := 4) (by rfl) T.m__law_told T.F__law_told.kp lkT cdT bT sc__law_told rfl (Or.inl rfl) (told_gv (X := (cxOf CX0 P w K mg base N__law_firsts "_law_firsts" (defScope s__law_firsts) T.f__law_firsts (.ref T.lc__law_firsts) A outer s' H E).nox) T cdvT (hr.mono (by decide)) hG) TB__law_firsts rfl T.hm__law_firsts (T.tabs.uniq T.hm__law_firsts) (hr.mono (by decide)) (show LamX.LamS (defScope s__law_firsts) _ from LamX.lamS_by (by decide +kernel)) rfl (fun _ _ _ _ _ => rfl) (fun A1 outer1 s1 H1 E f1 c1 hr => (pe_call (E := E) (d_reasons T) (hr.mono (by decide)) (by rfl) T.m_reasons T.F_reasons.kp T.b_reasons .nil (passes_call (takes_of rfl rfl rfl rfl) fun _ _ _ _ h => h) (pa_cons (pv 0) (pa_cons pe_non pa_nil))))) pa_nil))) (pss_cons (ps_expr (bmA K PySem.F.plainAttrs_list PySem.F.slot_list_append PySem.F.type_list_append mt_append (pv 3) (pa_cons (pe_lamcall3 (T := T.tts) (c := T.lc__law_firsts) (P := T.lt__law_firsts) (k := 4) (by rfl) T.m__law_told T.F__law_told.kp lkT cdT bT sc__law_told rfl (Or.inl rfl) (told_gv (X := (cxOf CX0 P w K mg base N__law_firsts "_law_firsts" (defScope s__law_firsts) T.f__law_firsts (.ref T.lc__law_firsts) A outer s' H E).nox) T cdvT (hr.mono (by decide)) hG) TB__law_firsts rfl T.hm__law_firsts (T.tabs.uniq T.hm__law_firsts) (hr.mono (by decide)) (show LamX.LamS (defScope s__law_firsts) _ from LamX.lamS_by (by decide +kernel)) rfl (fun _ _ _ _ _ => rfl) (fun A1 outer1 s1 H1 E f1 c1 hr => (pe_call (E := E) (d_places T) (hr.mono (by decide)) (by rfl) T.m_places T.F_places.kp T.b_places .nil (passes_call (takes_of rfl rfl rfl rfl) fun _ _ _ _ h => h) (pa_cons (pv 0) (pa_cons pe_non pa_nil))))) pa_nil))) (pss_cons (ps_expr (bmA K PySem.F.plainAttrs_list PySem.F.slot_list_append PySem.F.type_list_append mt_append (pv 3) (pa_cons (pe_lamcall3 (T := T.tts) (c := T.lc__law_firsts) (P := T.lt__law_firsts) (k := 5) (by rfl) T.m__law_told T.F__law_told.kp lkT cdT bT sc__law_told rfl (Or.inl rfl) (told_gv (X := (cxOf CX0 P w K mg base N__law_firsts "_law_firsts" (defScope s__law_firsts) T.f__law_firsts (.ref T.lc__law_firsts) A outer s' H E).nox) T cdvT (hr.mono (by decide)) hG) TB__law_firsts rfl T.hm__law_firsts (T.tabs.uniq T.hm__law_firsts) (hr.mono (by decide)) (show LamX.LamS (defScope s__law_firsts) _ from LamX.lamS_by (by decide +kernel)) rfl (fun _ _ _ _ _ => rfl) (fun A1 outer1 s1 H1 E f1 c1 hr => (pe_call (E := E) (d_beginnings T) (hr.mono (by decide)) (by rfl) T.m_beginnings T.F_beginnings.kp T.b_beginnings .nil (passes_call (takes_of rfl rfl rfl rfl) fun _ _ _ _ h => h) (pa_cons (pv 0) (pa_cons pe_non pa_nil))))) pa_nil))) (pss_cons (ps_expr (bmA K PySem.F.plainAttrs_list PySem.F.slot_list_append PySem.F.type_list_append mt_append (pv 3) (pa_cons (pe_lamcall3 (T := T.tts) (c := T.lc__law_firsts) (P := T.lt__law_firsts) (k := 4) (by rfl) T.m__law_told T.F__law_told.kp lkT cdT bT sc__law_told rfl (Or.inl rfl) (told_gv (X := (cxOf CX0 P w K mg base N__law_firsts "_law_firsts" (defScope s__law_firsts) T.f__law_firsts (.ref T.lc__law_firsts) A outer s' H E).nox) T cdvT (hr.mono (by decide)) hG) TB__law_firsts rfl T.hm__law_firsts (T.tabs.uniq T.hm__law_firsts) (hr.mono (by decide)) (show LamX.LamS (defScope s__law_firsts) _ from LamX.lamS_by (by decide +kernel)) rfl (fun _ _ _ _ _ => rfl) (fun A1 outer1 s1 H1 E f1 c1 hr => (pe_call (E := E) (d_ranking_at T) (hr.mono (by decide)) (by rfl) T.m_ranking_at T.F_ranking_at.kp T.b_ranking_at .nil (passes_call (takes_of rfl rfl rfl rfl) fun _ _ _ _ h => h) (pa_cons (pv 0) (pa_cons pe_non pa_nil))))) pa_nil))) (pss_cons (ps_expr (bmA K PySem.F.plainAttrs_list PySem.F.slot_list_append PySem.F.type_list_append mt_append (pv 3) (pa_cons (pe_lamcall3 (T := T.tts) (c := T.lc__law_firsts) (P := T.lt__law_firsts) (k := 4) (by rfl) T.m__law_told T.F__law_told.kp lkT cdT bT sc__law_told rfl (Or.inl rfl) (told_gv (X := (cxOf CX0 P w K mg base N__law_firsts "_law_firsts" (defScope s__law_firsts) T.f__law_firsts (.ref T.lc__law_firsts) A outer s' H E).nox) T cdvT (hr.mono (by decide)) hG) TB__law_firsts rfl T.hm__law_firsts (T.tabs.uniq T.hm__law_firsts) (hr.mono (by decide)) (show LamX.LamS (defScope s__law_firsts) _ from LamX.lamS_by (by decide +kernel)) rfl (fun _ _ _ _ _ => rfl) (fun A1 outer1 s1 H1 E f1 c1 hr => (pe_call (E := E) (d_follows_with T) (hr.mono (by decide)) (by rfl) T.m_follows_with T.F_follows_with.kp T.b_follows_with .nil (passes_call (takes_of rfl rfl rfl rfl) fun _ _ _ _ h => h) (pa_cons (pv 0) (pa_cons (pv 1) (pa_cons pe_non pa_nil)))))) pa_nil))) (pss_cons (ps_expr (bmA K PySem.F.plainAttrs_list PySem.F.slot_list_append PySem.F.type_list_append mt_append (pv 3) (pa_cons (pe_lamcall3 (T := T.tts) (c := T.lc__law_firsts) (P := T.lt__law_firsts) (k := 4) (by rfl) T.m__law_told T.F__law_told.kp lkT cdT bT sc__law_told rfl (Or.inl rfl) (told_gv (X := (cxOf CX0 P w K mg base N__law_firsts "_law_firsts" (defScope s__law_firsts) T.f__law_firsts (.ref T.lc__law_firsts) A outer s' H E).nox) T cdvT (hr.mono (by decide)) hG) TB__law_firsts rfl T.hm__law_firsts (T.tabs.uniq T.hm__law_firsts) (hr.mono (by decide)) (show LamX.LamS (defScope s__law_firsts) _ from LamX.lamS_by (by decide +kernel)) rfl (fun _ _ _ _ _ => rfl) (fun A1 outer1 s1 H1 E f1 c1 hr => (pe_call (E := E) (d_surely_wrong T) (hr.mono (by decide)) (by rfl) T.m_surely_wrong T.F_surely_wrong.kp T.b_surely_wrong .nil (passes_call (takes_of rfl rfl rfl rfl) fun _ _ _ _ h => h) (pa_cons (pv 0) (pa_cons pe_non pa_nil))))) pa_nil))) (pss_one (ps_ret (pv 3))))))))))))), fun x hx => ?_⟩
  obtain ⟨d, r, o⟩ := x
  have hx : SaidX T.C_Book d := hx
  have hF := hx.sh
  have rsd : Rsd K (sortCs T) T.C_NotABook "NotABook" := ⟨⟨_, T.xk_NotABook, T.kt_NotABook, by decide +kernel⟩, ⟨T.xf_NotABook, fun n hn => by
    simp only [List.mem_cons, List.not_mem_nil, or_false] at hn
    rcases hn with rfl | rfl | rfl | rfl
    · exact T.xn_NotABook_given
    · exact T.xn_NotABook_index
    · exact T.xn_NotABook_number
    · exact T.xn_NotABook_told⟩⟩
  have ao : attrO [(("given" : Str), d)] "NotABook" = shZ d := by unfold attrO; rw [if_neg (by decide)]
  refine ds_seq (ds_asg_ownL (dla_cons (dl_told_excG (i := 0) (x := ⟨T.C_NotABook, [("given", d)]⟩) T.tabs T.hm__law_firsts rfl TgS.tag (fun E => ert_call (sx := spThr T.C_Book T.C_NotABook T.C_InvalidRow T.C_InvalidRanking BadRk) (x := .inl (d, r, o)) (eva_cons (ev_untag (ev_var rfl)) (eva_cons (ev_var rfl) (eva_cons (ev_var rfl) eva_nil))) hx.od fun ed H' h => h) T.xm_NotABook (suitF (C0 := T.C_Book) rsd (.given (by decide) d rfl hF)) ?_)))
  rw [ao]
  refine dla_nil ⟨small (show 1 ≤ 100000 by decide), ?_⟩
  refine ds_seq (ds_drop (dl_append ⟨_, rfl⟩ (dla_cons (dl_told_excG (i := 0) (x := ⟨T.C_NotABook, [("given", d)]⟩) T.tabs T.hm__law_firsts rfl TgS.tag (fun E => ert_call (sx := spTwo T.C_Book T.C_NotABook T.C_InvalidRanking "given" BadRk own2) (x := .inl (d, o)) (eva_cons (ev_untag (ev_var rfl)) (eva_cons (ev_var rfl) eva_nil)) hx.od fun ed H' h => h) T.xm_NotABook (suitF (C0 := T.C_Book) rsd (.given (by decide) d rfl hF)) ?_))))
  rw [ao]
  refine dla_nil ⟨_, _, rfl, rfl, Nat.lt_of_lt_of_le (show 1 < 100000 by decide) (by decide), ?_⟩
  refine ds_seq (ds_drop (dl_append ⟨_, rfl⟩ (dla_cons (dl_told_excG (i := 0) (x := ⟨T.C_NotABook, [("given", d)]⟩) T.tabs T.hm__law_firsts rfl TgS.tag (fun E => ert_call (sx := spTwo T.C_Book T.C_NotABook T.C_InvalidRanking "given" BadRk own2) (x := .inl (d, o)) (eva_cons (ev_untag (ev_var rfl)) (eva_cons (ev_var rfl) eva_nil)) hx.od fun ed H' h => h) T.xm_NotABook (suitF (C0 := T.C_Book) rsd (.given (by decide) d rfl hF)) ?_))))
  rw [ao]
  refine dla_nil ⟨_, _, rfl, rfl, Nat.lt_of_lt_of_le (show 2 < 100000 by decide) (by decide), ?_⟩
  refine ds_seq (ds_drop (dl_append ⟨_, rfl⟩ (dla_cons (dl_told_excG (i := 0) (x := ⟨T.C_NotABook, [("given", d)]⟩) T.tabs T.hm__law_firsts rfl TgS.tag (fun E => ert_call (sx := spTwo T.C_Book T.C_NotABook T.C_InvalidRow "given" BadRow own2) (x := .inl (d, r)) (eva_cons (ev_untag (ev_var rfl)) (eva_cons (ev_var rfl) eva_nil)) hx.od fun ed H' h => h) T.xm_NotABook (suitF (C0 := T.C_Book) rsd (.given (by decide) d rfl hF)) ?_))))
  rw [ao]
  refine dla_nil ⟨_, _, rfl, rfl, Nat.lt_of_lt_of_le (show 3 < 100000 by decide) (by decide), ?_⟩
  refine ds_seq (ds_drop (dl_append ⟨_, rfl⟩ (dla_cons (dl_told_excG (i := 0) (x := ⟨T.C_NotABook, [("given", d)]⟩) T.tabs T.hm__law_firsts rfl TgS.tag (fun E => ert_call (sx := spTwo T.C_Book T.C_NotABook T.C_InvalidRule "given" BadRule own2) (x := .inl (d, .non)) (eva_cons (ev_untag (ev_var rfl)) (eva_cons ev_non eva_nil)) hx.od fun ed H' h => h) T.xm_NotABook (suitF (C0 := T.C_Book) rsd (.given (by decide) d rfl hF)) ?_))))
  rw [ao]
  refine dla_nil ⟨_, _, rfl, rfl, Nat.lt_of_lt_of_le (show 4 < 100000 by decide) (by decide), ?_⟩
  refine ds_seq (ds_drop (dl_append ⟨_, rfl⟩ (dla_cons (dl_told_excG (i := 0) (x := ⟨T.C_NotABook, [("given", d)]⟩) T.tabs T.hm__law_firsts rfl TgS.tag (fun E => ert_call (sx := spTwo T.C_Book T.C_NotABook T.C_InvalidRule "given" BadRule own2) (x := .inl (d, .non)) (eva_cons (ev_untag (ev_var rfl)) (eva_cons ev_non eva_nil)) hx.od fun ed H' h => h) T.xm_NotABook (suitF (C0 := T.C_Book) rsd (.given (by decide) d rfl hF)) ?_))))
  rw [ao]
  refine dla_nil ⟨_, _, rfl, rfl, Nat.lt_of_lt_of_le (show 5 < 100000 by decide) (by decide), ?_⟩
  refine ds_seq (ds_drop (dl_append ⟨_, rfl⟩ (dla_cons (dl_told_excG (i := 0) (x := ⟨T.C_NotABook, [("given", d)]⟩) T.tabs T.hm__law_firsts rfl TgS.tag (fun E => ert_call (sx := spTwo T.C_Book T.C_NotABook T.C_InvalidLot "index" BadLot lot2) (x := .inl (d, .non)) (eva_cons (ev_untag (ev_var rfl)) (eva_cons ev_non eva_nil)) hx.od fun ed H' h => h) T.xm_NotABook (suitF (C0 := T.C_Book) rsd (.given (by decide) d rfl hF)) ?_))))
  rw [ao]
  refine dla_nil ⟨_, _, rfl, rfl, Nat.lt_of_lt_of_le (show 6 < 100000 by decide) (by decide), ?_⟩
  refine ds_seq (ds_drop (dl_append ⟨_, rfl⟩ (dla_cons (dl_told_excG (i := 0) (x := ⟨T.C_NotABook, [("given", d)]⟩) T.tabs T.hm__law_firsts rfl TgS.tag (fun E => ert_call (sx := spTwo T.C_Book T.C_NotABook T.C_InvalidNumber "given" BadAt own2) (x := .inl (d, .non)) (eva_cons (ev_untag (ev_var rfl)) (eva_cons ev_non eva_nil)) hx.od fun ed H' h => h) T.xm_NotABook (suitF (C0 := T.C_Book) rsd (.given (by decide) d rfl hF)) ?_))))
  rw [ao]
  refine dla_nil ⟨_, _, rfl, rfl, Nat.lt_of_lt_of_le (show 7 < 100000 by decide) (by decide), ?_⟩
  refine ds_seq (ds_drop (dl_append ⟨_, rfl⟩ (dla_cons (dl_told_excG (i := 0) (x := ⟨T.C_NotABook, [("given", d)]⟩) T.tabs T.hm__law_firsts rfl TgS.tag (fun E => ert_call (sx := spThr T.C_Book T.C_NotABook T.C_InvalidRow T.C_InvalidNumber BadNum) (x := .inl (d, r, .non)) (eva_cons (ev_untag (ev_var rfl)) (eva_cons (ev_var rfl) (eva_cons ev_non eva_nil))) hx.od fun ed H' h => h) T.xm_NotABook (suitF (C0 := T.C_Book) rsd (.given (by decide) d rfl hF)) ?_))))
  rw [ao]
  refine dla_nil ⟨_, _, rfl, rfl, Nat.lt_of_lt_of_le (show 8 < 100000 by decide) (by decide), ?_⟩
  refine ds_seq (ds_drop (dl_append ⟨_, rfl⟩ (dla_cons (dl_told_excG (i := 0) (x := ⟨T.C_NotABook, [("given", d)]⟩) T.tabs T.hm__law_firsts rfl TgS.tag (fun E => ert_call (sx := spTwo T.C_Book T.C_NotABook T.C_InvalidNumber "given" BadNum own2) (x := .inl (d, .non)) (eva_cons (ev_untag (ev_var rfl)) (eva_cons ev_non eva_nil)) hx.od fun ed H' h => h) T.xm_NotABook (suitF (C0 := T.C_Book) rsd (.given (by decide) d rfl hF)) ?_))))
  rw [ao]
  refine dla_nil ⟨_, _, rfl, rfl, Nat.lt_of_lt_of_le (show 9 < 100000 by decide) (by decide), ?_⟩
  exact ds_freeze 3 rfl (ds_ret (Ev.dl (ev_var rfl) rfl))
end K09

namespace K09
open PySem PySem.Spec PyProof.Rows L2 Dw
variable [Tabs0]
def spRight : Spc where
  ty := Unit
  args := fun _ => [.purse]
  ok := fun _ => True
  rel := fun _ d => d = .bl true
theorem dOk_rep9 {W : D} {n k : Nat} (h : dOk k W = true) : dOk (k + 1) (.lst (List.replicate n W)) = true := by
  show dOks k (List.replicate n W) = true
  induction n with
  | zero => cases k <;> rfl
  | succ n ih =>
    rw [List.replicate_succ]
    have e : dOks k (W :: List.replicate n W) = (dOk k W && dOks k (List.replicate n W)) := by cases k <;> rfl
    rw [e, h, ih]; rfl
theorem dOk_pair9 {a b : Str} (ha : okS a) (hb : okS b) : dOk 1 (.tup [.str a, .str b]) = true := by
  show (dOk 0 (.str a) && (dOk 0 (.str b) && true)) = true
  rw [show dOk 0 (.str a) = true from ha, show dOk 0 (.str b) = true from hb]; rfl
def bad9 (G : List Nat) : List D := [.str (tx (G ++ [46])), .str (tx (G.drop 1 ++ [42])), .non, .int 0, .lst (nameD (G.map fun c => [c])), .tup [.str (tx G)], .str (tx (G.drop 1)), .bl true]
theorem bad9_in {G : List Nat} {d : D} (h : d ∈ bad9 G) : d ∈ badO G := by
  unfold bad9 at h
  unfold badO
  simp only [List.mem_cons, List.not_mem_nil, or_false] at h ⊢
  rcases h with rfl | rfl | rfl | rfl | rfl | rfl | rfl | rfl <;> simp
theorem numO_pl {m : Nat} : ∀ d ∈ numO m, plB 11 d = true := fun d hd => by
  unfold numO at hd
  simp only [List.mem_cons, List.not_mem_nil, or_false] at hd
  rcases hd with rfl | rfl | rfl | rfl | rfl | rfl | rfl | rfl | rfl | rfl <;> first | rfl | decide +kernel
theorem facs : ∀ n < 7, shOk (.int (fac n : Nat)) = true ∧ shB (.int (fac n : Nat)) ≤ 100 ∧ okS (PyData.shown (py (.int (fac n : Nat)))) ∧ 0 < fac n := by decide +kernel
theorem said_fac {C : Addr} {n : Nat} (h : n < 7) : SaidX C (.int (fac n : Nat)) := by
  obtain ⟨h1, h2, h3, _⟩ := facs n h
  exact said_py ⟨rfl, rfl⟩ rfl h1 (by omega) rfl rfl h3
theorem first9 : ∀ n < 7, (fitM [] n).getD 0 [] = List.range n := by decide +kernel
theorem hold9 {n : Nat} (h : 1 ≤ n) : holdsB (List.replicate n 43) (List.range n) = true := by
  obtain ⟨m, rfl⟩ : ∃ m, n = m + 1 := ⟨n - 1, by omega⟩
  rw [List.range_succ_eq_map, holds_cons]
  rfl
end K09

namespace K09
open PySem PySem.Spec PyProof.Rows L2 Dw
variable [Tabs0]
theorem d__law_right {P : Program} {w : World} {K : PySem.W.Frag} {mg : Str → Option Value} {base : Heap} (T : Txt K w mg) (TB__law_firsts : LamX.TabB base mg T.lc__law_firsts T.lt__law_firsts) (TB__law_right : LamX.TabB base mg T.lc__law_right T.lt__law_right) : FnG P w K mg base 9 T.f__law_right T.e__law_right ["_law_purse_here"] (spRight) := by
  obtain ⟨oc, od, kV, doc, pm, an, cdvT, ct, osl, eT, lkT, cdT⟩ := T.F__law_told.ex
  have bT := T.b__law_told
  rw [eT] at lkT bT
  refine fnGC_ok T.FC__law_right sc__law_right (fun _ => rfl) fun A outer s' H E hr hG => ?_
  refine ⟨_, (pss_cons (ps_asg (pe_call (d__law_book T) (hr.mono (by decide)) (by rfl) T.m__law_book T.F__law_book.kp T.b__law_book .nil pass0 (pa_cons (pv 0) (pa_cons pe_int (pa_cons pe_int (pa_cons pe_int pa_nil))))) (tupA K 2 rfl (pgs_cons (pg_name (i := 1) sc__law_right.nd rfl (Or.inl rfl)) (pgs_cons (pg_name (i := 2) sc__law_right.nd rfl (Or.inl rfl)) pgs_nil)))) (pss_cons (ps_asg (pe_tup (pa_cons (pe_callB (lenA K) (by rfl) T.n_len (by decide +kernel) (pa_cons (pv 1) pa_nil)) (pa_cons (pe_make T.mk_Book (d_Book___init__ T) (hr.mono (by decide)) (by rfl) T.m_Book T.b_Book___init__ .nil pass0 (pa_cons (pe_call (d__law_spelled T) (hr.mono (by decide)) (by rfl) T.m__law_spelled T.F__law_spelled.kp T.b__law_spelled .nil pass0 (pa_cons (pv 1) (pa_cons (pe_lst pa_nil) pa_nil))) pa_nil)) pa_nil))) (tupA K 2 rfl (pgs_cons (pg_name (i := 3) sc__law_right.nd rfl (Or.inl rfl)) (pgs_cons (pg_name (i := 11) sc__law_right.nd rfl (Or.inr rfl)) pgs_nil)))) (pss_cons (ps_asg (pe_tup (pa_cons (pe_callTy (tupleA K) (by rfl) T.n_tuple (by decide +kernel) (pa_cons (pe_listRg rfl (by rfl) T.n_list (prg_1 (by rfl) T.n_range (pv 3))) pa_nil)) (pa_cons (pe_op op_mulS pe_str (pv 3)) pa_nil))) (tupA K 2 rfl (pgs_cons (pg_name (i := 4) sc__law_right.nd rfl (Or.inl rfl)) (pgs_cons (pg_name (i := 10) sc__law_right.nd rfl (Or.inr rfl)) pgs_nil)))) (pss_cons (ps_for PassesOwn.never rfl (pi_range1 (by rfl) T.n_range (pa_cons pe_int pa_nil)) (pg_name (i := 5) sc__law_right.nd rfl (Or.inl rfl)) (pss_cons (ps_set (i := 6) sc__law_right.nd rfl (Or.inl rfl) (pe_ix (ixA K) (pe_lst (pa_cons pe_non (pa_cons pe_int (pa_cons (pe_prop (pv 11) T.cl_Book T.p_Book_text (d_Book_text T) (hr.mono (by decide)) T.b_Book_text .nil pass0 rfl) (pa_cons (pv 2) (pa_cons (pe_lst (pa_cons (pv 11) pa_nil)) (pa_cons pe_dnewK (pa_cons pe_bl (pa_cons (pe_tup (pa_cons (pv 11) pa_nil)) pa_nil))))))))) (pe_call (d__law_draw T) (hr.mono (by decide)) (by rfl) T.m__law_draw T.F__law_draw.kp T.b__law_draw .nil pass0 (pa_cons (pv 0) (pa_cons pe_int pa_nil))) (fun _ _ => rfl))) (pss_cons (ps_set (i := 7) sc__law_right.nd rfl (Or.inl rfl) (pe_lst (pa_cons (pe_op (plusE K) (pv 10) pe_str) (pa_cons (pe_op (plusE K) (pe_slice sl_str (pv 10) (po_some pe_int) po_none) pe_str) (pa_cons pe_non (pa_cons pe_int (pa_cons (pe_callTy (listSA K) (by rfl) T.n_list (by decide +kernel) (pa_cons (pv 10) pa_nil)) (pa_cons (pe_tup (pa_cons (pv 10) pa_nil)) (pa_cons (pe_slice sl_str (pv 10) (po_some pe_int) po_none) (pa_cons pe_bl pa_nil)))))))))) (pss_cons (ps_asg (pe_tup (pa_cons (pe_ix (ixA K) (pv 7) (pe_call (d__law_draw T) (hr.mono (by decide)) (by rfl) T.m__law_draw T.F__law_draw.kp T.b__law_draw .nil pass0 (pa_cons (pv 0) (pa_cons pe_int pa_nil))) (fun _ _ => rfl)) (pa_cons (pe_call (d__law_wrong_order T) (hr.mono (by decide)) (by rfl) T.m__law_wrong_order T.F__law_wrong_order.kp T.b__law_wrong_order .nil pass0 (pa_cons (pv 0) (pa_cons (pv 3) pa_nil))) pa_nil))) (tupA K 2 rfl (pgs_cons (pg_name (i := 14) sc__law_right.nd rfl (Or.inr rfl)) (pgs_cons (pg_name (i := 13) sc__law_right.nd rfl (Or.inr rfl)) pgs_nil)))) (pss_cons (ps_if (pt_cmpR (neA K hr.units) (pe_callG (E := E0) (d__law_firsts T TB__law_firsts) (hr.mono (by decide)) hG (by rfl) T.m__law_firsts T.F__law_firsts.kp T.b__law_firsts (pa_cons (pv 6) (pa_cons (pv 14) (pa_cons (pv 13) pa_nil)))) (pe_op opTimes (pe_lst (pa_cons (pe_tup (pa_cons pe_str (pa_cons (pe_callB (cr_reprO (d_Book___repr__ T) (hr.mono (by decide)) hG T.or_Book T.ir_Book T.b_Book___repr__) (by rfl) T.n_repr (by decide +kernel) (pa_cons (pv 6) pa_nil)) pa_nil))) pa_nil)) pe_int) (nomark _)) (pss_one (ps_ret pe_bl)) pss_nil) (pss_cons (ps_set (i := 8) sc__law_right.nd rfl (Or.inl rfl) (pe_lst (pa_cons (pe_lamcall3 (T := T.tts) (c := T.lc__law_right) (P := T.lt__law_right) (k := 4) (by rfl) T.m__law_told T.F__law_told.kp lkT cdT bT sc__law_told rfl (Or.inl rfl) (told_gv (X := (cxOf CX0 P w K mg base N__law_right "_law_right" (defScope s__law_right) T.f__law_right (.ref T.lc__law_right) A outer s' H E).nox) T cdvT (hr.mono (by decide)) hG) TB__law_right rfl T.hm__law_right (T.tabs.uniq T.hm__law_right) (hr.mono (by decide)) (show LamX.LamS (defScope s__law_right) _ from LamX.lamS_by (by decide +kernel)) rfl (fun _ _ _ _ _ => rfl) (fun A1 outer1 s1 H1 E f1 c1 hr => (pe_call (E := E) (d_holds T) (hr.mono (by decide)) (by rfl) T.m_holds T.F_holds.kp T.b_holds .nil (passes_call (takes_of rfl rfl rfl rfl) fun _ _ _ _ h => h) (pa_cons (pv 11) (pa_cons (pv 14) (pa_cons (pv 13) pa_nil)))))) pa_nil))) (pss_cons (ps_expr (bmA K PySem.F.plainAttrs_list PySem.F.slot_list_append PySem.F.type_list_append mt_append (pv 8) (pa_cons (pe_lamcall3 (T := T.tts) (c := T.lc__law_right) (P := T.lt__law_right) (k := 4) (by rfl) T.m__law_told T.F__law_told.kp lkT cdT bT sc__law_told rfl (Or.inl rfl) (told_gv (X := (cxOf CX0 P w K mg base N__law_right "_law_right" (defScope s__law_right) T.f__law_right (.ref T.lc__law_right) A outer s' H E).nox) T cdvT (hr.mono (by decide)) hG) TB__law_right rfl T.hm__law_right (T.tabs.uniq T.hm__law_right) (hr.mono (by decide)) (show LamX.LamS (defScope s__law_right) _ from LamX.lamS_by (by decide +kernel)) rfl (fun _ _ _ _ _ => rfl) (fun A1 outer1 s1 H1 E f1 c1 hr => (pe_call (E := E) (d_judge T) (hr.mono (by decide)) (by rfl) T.m_judge T.F_judge.kp T.b_judge .nil (passes_call (takes_of rfl rfl rfl rfl) fun _ _ _ _ h => h) (pa_cons (pv 11) (pa_cons (pv 14) pa_nil))))) pa_nil))) (pss_cons (ps_expr (bmA K PySem.F.plainAttrs_list PySem.F.slot_list_append PySem.F.type_list_append mt_append (pv 8) (pa_cons (pe_lamcall3 (T := T.tts) (c := T.lc__law_right) (P := T.lt__law_right) (k := 4) (by rfl) T.m__law_told T.F__law_told.kp lkT cdT bT sc__law_told rfl (Or.inl rfl) (told_gv (X := (cxOf CX0 P w K mg base N__law_right "_law_right" (defScope s__law_right) T.f__law_right (.ref T.lc__law_right) A outer s' H E).nox) T cdvT (hr.mono (by decide)) hG) TB__law_right rfl T.hm__law_right (T.tabs.uniq T.hm__law_right) (hr.mono (by decide)) (show LamX.LamS (defScope s__law_right) _ from LamX.lamS_by (by decide +kernel)) rfl (fun _ _ _ _ _ => rfl) (fun A1 outer1 s1 H1 E f1 c1 hr => (pe_call (E := E) (d_follows_with T) (hr.mono (by decide)) (by rfl) T.m_follows_with T.F_follows_with.kp T.b_follows_with .nil (passes_call (takes_of rfl rfl rfl rfl) fun _ _ _ _ h => h) (pa_cons (pv 11) (pa_cons (pv 14) (pa_cons pe_non pa_nil)))))) pa_nil))) (pss_cons (ps_if (pt_cmpR (neA K hr.units) (pv 8) (pe_op opTimes (pe_lst (pa_cons (pe_tup (pa_cons pe_str (pa_cons (pe_callB (cr_reprO (d_Book___repr__ T) (hr.mono (by decide)) hG T.or_Book T.ir_Book T.b_Book___repr__) (by rfl) T.n_repr (by decide +kernel) (pa_cons (pv 14) pa_nil)) pa_nil))) pa_nil)) pe_int) (nomark _)) (pss_one (ps_ret pe_bl)) pss_nil) (pss_cons (ps_set (i := 8) sc__law_right.nd rfl (Or.inl rfl) (pe_lst (pa_cons (pe_lamcall3 (T := T.tts) (c := T.lc__law_right) (P := T.lt__law_right) (k := 4) (by rfl) T.m__law_told T.F__law_told.kp lkT cdT bT sc__law_told rfl (Or.inl rfl) (told_gv (X := (cxOf CX0 P w K mg base N__law_right "_law_right" (defScope s__law_right) T.f__law_right (.ref T.lc__law_right) A outer s' H E).nox) T cdvT (hr.mono (by decide)) hG) TB__law_right rfl T.hm__law_right (T.tabs.uniq T.hm__law_right) (hr.mono (by decide)) (show LamX.LamS (defScope s__law_right) _ from LamX.lamS_by (by decide +kernel)) rfl (fun _ _ _ _ _ => rfl) (fun A1 outer1 s1 H1 E f1 c1 hr => (pe_call (E := E) (d_holds T) (hr.mono (by decide)) (by rfl) T.m_holds T.F_holds.kp T.b_holds .nil (passes_call (takes_of rfl rfl rfl rfl) fun _ _ _ _ h => h) (pa_cons (pv 11) (pa_cons (pv 10) (pa_cons (pv 13) pa_nil)))))) pa_nil))) (pss_cons (ps_expr (bmA K PySem.F.plainAttrs_list PySem.F.slot_list_append PySem.F.type_list_append mt_append (pv 8) (pa_cons (pe_lamcall3 (T := T.tts) (c := T.lc__law_right) (P := T.lt__law_right) (k := 4) (by rfl) T.m__law_told T.F__law_told.kp lkT cdT bT sc__law_told rfl (Or.inl rfl) (told_gv (X := (cxOf CX0 P w K mg base N__law_right "_law_right" (defScope s__law_right) T.f__law_right (.ref T.lc__law_right) A outer s' H E).nox) T cdvT (hr.mono (by decide)) hG) TB__law_right rfl T.hm__law_right (T.tabs.uniq T.hm__law_right) (hr.mono (by decide)) (show LamX.LamS (defScope s__law_right) _ from LamX.lamS_by (by decide +kernel)) rfl (fun _ _ _ _ _ => rfl) (fun A1 outer1 s1 H1 E f1 c1 hr => (pe_call (E := E) (d_fits T) (hr.mono (by decide)) (by rfl) T.m_fits T.F_fits.kp T.b_fits .nil (passes_call (takes_of rfl rfl rfl rfl) fun _ _ _ _ h => h) (pa_cons (pv 11) (pa_cons (pv 13) pa_nil))))) pa_nil))) (pss_cons (ps_expr (bmA K PySem.F.plainAttrs_list PySem.F.slot_list_append PySem.F.type_list_append mt_append (pv 8) (pa_cons (pe_lamcall3 (T := T.tts) (c := T.lc__law_right) (P := T.lt__law_right) (k := 4) (by rfl) T.m__law_told T.F__law_told.kp lkT cdT bT sc__law_told rfl (Or.inl rfl) (told_gv (X := (cxOf CX0 P w K mg base N__law_right "_law_right" (defScope s__law_right) T.f__law_right (.ref T.lc__law_right) A outer s' H E).nox) T cdvT (hr.mono (by decide)) hG) TB__law_right rfl T.hm__law_right (T.tabs.uniq T.hm__law_right) (hr.mono (by decide)) (show LamX.LamS (defScope s__law_right) _ from LamX.lamS_by (by decide +kernel)) rfl (fun _ _ _ _ _ => rfl) (fun A1 outer1 s1 H1 E f1 c1 hr => (pe_call (E := E) (d_number_of T) (hr.mono (by decide)) (by rfl) T.m_number_of T.F_number_of.kp T.b_number_of .nil (passes_call (takes_of rfl rfl rfl rfl) fun _ _ _ _ h => h) (pa_cons (pv 11) (pa_cons (pv 13) pa_nil))))) pa_nil))) (pss_cons (ps_if (pt_cmpR (neA K hr.units) (pv 8) (pe_op opTimes (pe_lst (pa_cons (pe_tup (pa_cons pe_str (pa_cons (pe_callB (cr_reprO (d_Book___repr__ T) (hr.mono (by decide)) hG T.or_Book T.ir_Book T.b_Book___repr__) (by rfl) T.n_repr (by decide +kernel) (pa_cons (pv 13) pa_nil)) pa_nil))) pa_nil)) pe_int) (nomark _)) (pss_one (ps_ret pe_bl)) pss_nil) (pss_cons (ps_set (i := 12) sc__law_right.nd rfl (Or.inr rfl) (pe_ix (ixA K) (pe_lst (pa_cons pe_non (pa_cons (pe_un un_neg pe_int) (pa_cons pe_int (pa_cons pe_bl (pa_cons pe_str (pa_cons (pe_op op_pow pe_int pe_int) (pa_cons (pe_tup pa_nil) (pa_cons (pe_lst pa_nil) (pa_cons pe_dnewK (pa_cons pe_bl pa_nil))))))))))) (pe_call (d__law_draw T) (hr.mono (by decide)) (by rfl) T.m__law_draw T.F__law_draw.kp T.b__law_draw .nil pass0 (pa_cons (pv 0) (pa_cons pe_int pa_nil))) (fun _ _ => rfl))) (pss_cons (ps_set (i := 8) sc__law_right.nd rfl (Or.inl rfl) (pe_lst (pa_cons (pe_lamcall3 (T := T.tts) (c := T.lc__law_right) (P := T.lt__law_right) (k := 4) (by rfl) T.m__law_told T.F__law_told.kp lkT cdT bT sc__law_told rfl (Or.inl rfl) (told_gv (X := (cxOf CX0 P w K mg base N__law_right "_law_right" (defScope s__law_right) T.f__law_right (.ref T.lc__law_right) A outer s' H E).nox) T cdvT (hr.mono (by decide)) hG) TB__law_right rfl T.hm__law_right (T.tabs.uniq T.hm__law_right) (hr.mono (by decide)) (show LamX.LamS (defScope s__law_right) _ from LamX.lamS_by (by decide +kernel)) rfl (fun _ _ _ _ _ => rfl) (fun A1 outer1 s1 H1 E f1 c1 hr => (pe_call (E := E) (d_surely_wrong T) (hr.mono (by decide)) (by rfl) T.m_surely_wrong T.F_surely_wrong.kp T.b_surely_wrong .nil (passes_call (takes_of rfl rfl rfl rfl) fun _ _ _ _ h => h) (pa_cons (pv 11) (pa_cons (pv 12) pa_nil))))) pa_nil))) (pss_cons (ps_expr (bmA K PySem.F.plainAttrs_list PySem.F.slot_list_append PySem.F.type_list_append mt_append (pv 8) (pa_cons (pe_lamcall3 (T := T.tts) (c := T.lc__law_right) (P := T.lt__law_right) (k := 4) (by rfl) T.m__law_told T.F__law_told.kp lkT cdT bT sc__law_told rfl (Or.inl rfl) (told_gv (X := (cxOf CX0 P w K mg base N__law_right "_law_right" (defScope s__law_right) T.f__law_right (.ref T.lc__law_right) A outer s' H E).nox) T cdvT (hr.mono (by decide)) hG) TB__law_right rfl T.hm__law_right (T.tabs.uniq T.hm__law_right) (hr.mono (by decide)) (show LamX.LamS (defScope s__law_right) _ from LamX.lamS_by (by decide +kernel)) rfl (fun _ _ _ _ _ => rfl) (fun A1 outer1 s1 H1 E f1 c1 hr => (pe_call (E := E) (d_follows_with T) (hr.mono (by decide)) (by rfl) T.m_follows_with T.F_follows_with.kp T.b_follows_with .nil (passes_call (takes_of rfl rfl rfl rfl) fun _ _ _ _ h => h) (pa_cons (pv 11) (pa_cons (pv 10) (pa_cons (pv 12) pa_nil)))))) pa_nil))) (pss_cons (ps_if (pt_cmpR (neA K hr.units) (pv 8) (pe_op opTimes (pe_lst (pa_cons (pe_tup (pa_cons pe_str (pa_cons (pe_callB (cr_reprO (d_Book___repr__ T) (hr.mono (by decide)) hG T.or_Book T.ir_Book T.b_Book___repr__) (by rfl) T.n_repr (by decide +kernel) (pa_cons (pv 12) pa_nil)) pa_nil))) pa_nil)) pe_int) (nomark _)) (pss_one (ps_ret pe_bl)) pss_nil) (pss_cons (ps_set (i := 15) sc__law_right.nd rfl (Or.inr rfl) (pe_ix (ixA K) (pe_lst (pa_cons pe_non (pa_cons (pe_un un_neg pe_int) (pa_cons (pv 3) (pa_cons pe_bl (pa_cons pe_str (pa_cons (pe_op op_pow pe_int pe_int) (pa_cons (pe_tup pa_nil) (pa_cons (pe_lst pa_nil) (pa_cons pe_dnewK (pa_cons pe_bl pa_nil))))))))))) (pe_call (d__law_draw T) (hr.mono (by decide)) (by rfl) T.m__law_draw T.F__law_draw.kp T.b__law_draw .nil pass0 (pa_cons (pv 0) (pa_cons pe_int pa_nil))) (fun _ _ => rfl))) (pss_cons (ps_set (i := 8) sc__law_right.nd rfl (Or.inl rfl) (pe_lst (pa_cons (pe_lamcall3 (T := T.tts) (c := T.lc__law_right) (P := T.lt__law_right) (k := 4) (by rfl) T.m__law_told T.F__law_told.kp lkT cdT bT sc__law_told rfl (Or.inl rfl) (told_gv (X := (cxOf CX0 P w K mg base N__law_right "_law_right" (defScope s__law_right) T.f__law_right (.ref T.lc__law_right) A outer s' H E).nox) T cdvT (hr.mono (by decide)) hG) TB__law_right rfl T.hm__law_right (T.tabs.uniq T.hm__law_right) (hr.mono (by decide)) (show LamX.LamS (defScope s__law_right) _ from LamX.lamS_by (by decide +kernel)) rfl (fun _ _ _ _ _ => rfl) (fun A1 outer1 s1 H1 E f1 c1 hr => (pe_call (E := E) (d_places T) (hr.mono (by decide)) (by rfl) T.m_places T.F_places.kp T.b_places .nil (passes_call (takes_of rfl rfl rfl rfl) fun _ _ _ _ h => h) (pa_cons (pv 11) (pa_cons (pv 15) pa_nil))))) pa_nil))) (pss_cons (ps_expr (bmA K PySem.F.plainAttrs_list PySem.F.slot_list_append PySem.F.type_list_append mt_append (pv 8) (pa_cons (pe_lamcall3 (T := T.tts) (c := T.lc__law_right) (P := T.lt__law_right) (k := 4) (by rfl) T.m__law_told T.F__law_told.kp lkT cdT bT sc__law_told rfl (Or.inl rfl) (told_gv (X := (cxOf CX0 P w K mg base N__law_right "_law_right" (defScope s__law_right) T.f__law_right (.ref T.lc__law_right) A outer s' H E).nox) T cdvT (hr.mono (by decide)) hG) TB__law_right rfl T.hm__law_right (T.tabs.uniq T.hm__law_right) (hr.mono (by decide)) (show LamX.LamS (defScope s__law_right) _ from LamX.lamS_by (by decide +kernel)) rfl (fun _ _ _ _ _ => rfl) (fun A1 outer1 s1 H1 E f1 c1 hr => (pe_call (E := E) (d_reasons T) (hr.mono (by decide)) (by rfl) T.m_reasons T.F_reasons.kp T.b_reasons .nil (passes_call (takes_of rfl rfl rfl rfl) fun _ _ _ _ h => h) (pa_cons (pv 11) (pa_cons (pv 15) pa_nil))))) pa_nil))) (pss_cons (ps_if (pt_cmpR (neA K hr.units) (pv 8) (pe_op opTimes (pe_lst (pa_cons (pe_tup (pa_cons pe_str (pa_cons (pe_callB (cr_reprO (d_Book___repr__ T) (hr.mono (by decide)) hG T.or_Book T.ir_Book T.b_Book___repr__) (by rfl) T.n_repr (by decide +kernel) (pa_cons (pv 15) pa_nil)) pa_nil))) pa_nil)) pe_int) (nomark _)) (pss_one (ps_ret pe_bl)) pss_nil) (pss_cons (ps_if (pt_cmpR (neA K hr.units) (pe_lamcall3 (T := T.tts) (c := T.lc__law_right) (P := T.lt__law_right) (k := 5) (by rfl) T.m__law_told T.F__law_told.kp lkT cdT bT sc__law_told rfl (Or.inl rfl) (told_gv (X := (cxOf CX0 P w K mg base N__law_right "_law_right" (defScope s__law_right) T.f__law_right (.ref T.lc__law_right) A outer s' H E).nox) T cdvT (hr.mono (by decide)) hG) TB__law_right rfl T.hm__law_right (T.tabs.uniq T.hm__law_right) (hr.mono (by decide)) (show LamX.LamS (defScope s__law_right) _ from LamX.lamS_by (by decide +kernel)) rfl (fun _ _ _ _ _ => rfl) (fun A1 outer1 s1 H1 E f1 c1 hr => (pe_call (E := E) (d_beginnings T) (hr.mono (by decide)) (by rfl) T.m_beginnings T.F_beginnings.kp T.b_beginnings .nil (passes_call (takes_of rfl rfl rfl rfl) fun _ _ _ _ h => h) (pa_cons (pv 11) (pa_cons (pe_tup (pa_cons (pv 15) pa_nil)) pa_nil))))) (pe_tup (pa_cons pe_str (pa_cons pe_str pa_nil))) (nomark _)) (pss_one (ps_ret pe_bl)) pss_nil) (pss_cons (ps_set (i := 9) sc__law_right.nd rfl (Or.inr rfl) (pe_ifExp (pt_cmpR opLt (pv 3) pe_int (nomark _)) (pe_callB (lenA K) (by rfl) T.n_len (by decide +kernel) (pa_cons (pe_call (d__law_all T) (hr.mono (by decide)) (by rfl) T.m__law_all T.F__law_all.kp T.b__law_all .nil pass0 (pa_cons (pe_callB (call_min2 rfl) (by rfl) T.n_min (by decide +kernel) (pa_cons (pv 3) (pa_cons pe_int pa_nil))) pa_nil)) pa_nil)) (pe_ix (ixA K) (pe_lst (pa_cons pe_int (pa_cons pe_int pa_nil))) (pe_op op_sub (pv 3) pe_int) (fun _ _ => rfl)))) (pss_one (ps_if (pt_cmpR (neA K hr.units) (pe_lamcall3 (T := T.tts) (c := T.lc__law_right) (P := T.lt__law_right) (k := 4) (by rfl) T.m__law_told T.F__law_told.kp lkT cdT bT sc__law_told rfl (Or.inl rfl) (told_gv (X := (cxOf CX0 P w K mg base N__law_right "_law_right" (defScope s__law_right) T.f__law_right (.ref T.lc__law_right) A outer s' H E).nox) T cdvT (hr.mono (by decide)) hG) TB__law_right rfl T.hm__law_right (T.tabs.uniq T.hm__law_right) (hr.mono (by decide)) (show LamX.LamS (defScope s__law_right) _ from LamX.lamS_by (by decide +kernel)) rfl (fun _ _ _ _ _ => rfl) (fun A1 outer1 s1 H1 E f1 c1 hr => (pe_call (E := E) (d_ranking_at T) (hr.mono (by decide)) (by rfl) T.m_ranking_at T.F_ranking_at.kp T.b_ranking_at .nil (passes_call (takes_of rfl rfl rfl rfl) fun _ _ _ _ h => h) (pa_cons (pv 11) (pa_cons (pv 9) pa_nil))))) (pe_tup (pa_cons pe_str (pa_cons (pe_callB (cr_reprO (d_Book___repr__ T) (hr.mono (by decide)) hG T.or_Book T.ir_Book T.b_Book___repr__) (by rfl) T.n_repr (by decide +kernel) (pa_cons (pv 9) pa_nil)) pa_nil))) (nomark _)) (pss_one (ps_ret pe_bl)) pss_nil))))))))))))))))))))))))) (pss_one (ps_ret (pe_and (pe_call (E := fun _ _ _ => False) (d_holds T) (hr.mono (by decide)) (by rfl) T.m_holds T.F_holds.kp T.b_holds .nil (passes_call LamX.takes0 fun _ _ _ _ h => h) (pa_cons (pv 11) (pa_cons (pv 10) (pa_cons (pv 4) pa_nil)))) (pe_and (pe_call (E := fun _ _ _ => False) (d_fits T) (hr.mono (by decide)) (by rfl) T.m_fits T.F_fits.kp T.b_fits .nil (passes_call LamX.takes0 fun _ _ _ _ h => h) (pa_cons (pv 11) (pa_cons (pv 4) pa_nil))) (pe_one (pe_cmpR (eqA K hr.units) (pe_call (E := fun _ _ _ => False) (d_ranking_at T) (hr.mono (by decide)) (by rfl) T.m_ranking_at T.F_ranking_at.kp T.b_ranking_at .nil (passes_call LamX.takes0 fun _ _ _ _ h => h) (pa_cons (pv 11) (pa_cons pe_int pa_nil))) (pv 4) (nomark _))))))))))), fun x hx => ?_⟩
  have rsRow : Rsd K (sortCs T) T.C_InvalidRow "InvalidRow" := ⟨⟨_, T.xk_InvalidRow, T.kt_InvalidRow, by decide +kernel⟩, ⟨T.xf_InvalidRow, fun n hn => by
    simp only [List.mem_cons, List.not_mem_nil, or_false] at hn
    rcases hn with rfl | rfl | rfl | rfl
    · exact T.xn_InvalidRow_given
    · exact T.xn_InvalidRow_index
    · exact T.xn_InvalidRow_number
    · exact T.xn_InvalidRow_told⟩⟩
  have rsRk : Rsd K (sortCs T) T.C_InvalidRanking "InvalidRanking" := ⟨⟨_, T.xk_InvalidRanking, T.kt_InvalidRanking, by decide +kernel⟩, ⟨T.xf_InvalidRanking, fun n hn => by
    simp only [List.mem_cons, List.not_mem_nil, or_false] at hn
    rcases hn with rfl | rfl | rfl | rfl
    · exact T.xn_InvalidRanking_given
    · exact T.xn_InvalidRanking_index
    · exact T.xn_InvalidRanking_number
    · exact T.xn_InvalidRanking_told⟩⟩
  have rsNum : Rsd K (sortCs T) T.C_InvalidNumber "InvalidNumber" := ⟨⟨_, T.xk_InvalidNumber, T.kt_InvalidNumber, by decide +kernel⟩, ⟨T.xf_InvalidNumber, fun n hn => by
    simp only [List.mem_cons, List.not_mem_nil, or_false] at hn
    rcases hn with rfl | rfl | rfl | rfl
    · exact T.xn_InvalidNumber_given
    · exact T.xn_InvalidNumber_index
    · exact T.xn_InvalidNumber_number
    · exact T.xn_InvalidNumber_told⟩⟩
  have rsRule : Rsd K (sortCs T) T.C_InvalidRule "InvalidRule" := ⟨⟨_, T.xk_InvalidRule, T.kt_InvalidRule, by decide +kernel⟩, ⟨T.xf_InvalidRule, fun n hn => by
    simp only [List.mem_cons, List.not_mem_nil, or_false] at hn
    rcases hn with rfl | rfl | rfl | rfl
    · exact T.xn_InvalidRule_given
    · exact T.xn_InvalidRule_index
    · exact T.xn_InvalidRule_number
    · exact T.xn_InvalidRule_told⟩⟩
  have rsLot : Rsd K (sortCs T) T.C_InvalidLot "InvalidLot" := ⟨⟨_, T.xk_InvalidLot, T.kt_InvalidLot, by decide +kernel⟩, ⟨T.xf_InvalidLot, fun n hn => by
    simp only [List.mem_cons, List.not_mem_nil, or_false] at hn
    rcases hn with rfl | rfl | rfl | rfl
    · exact T.xn_InvalidLot_given
    · exact T.xn_InvalidLot_index
    · exact T.xn_InvalidLot_number
    · exact T.xn_InvalidLot_told⟩⟩
  have s2 : 2 ≤ sizeLine := small (show 2 ≤ 100000 by decide)
  have s1 : 1 ≤ sizeLine := small (show 1 ≤ 100000 by decide)
  refine ds_seq (ds_asg_g (dl_call (s := spBook) (dla_cons (Ev.dl (ev_var rfl) (dla_cons (Ev.dl ev_int (dla_cons (Ev.dl ev_int (dla_cons (Ev.dl ev_int (dla_nil ⟨(1, 6, 3), rfl, ⟨by decide, by decide, by decide, by decide⟩, fun d hd => ?_⟩)))))))))))
  obtain ⟨L, R, rfl, hb, hlo, hhi, hm⟩ := hd
  have h1 : 1 ≤ L.length := hlo
  have h6 : L.length < 7 := hhi
  have h8 : L.length ≤ 8 := by omega
  refine ⟨[1] ++ [2], _, dg_tup2 dg_name dg_name, ?_⟩
  have hb' : BookOk L [] := ⟨hb.names, by decide, fun r hr => by cases hr⟩
  refine ds_seq (ds_asg_g (dl_tup (dla_cons (Ev.dl (ev_cast (congrArg (fun n : Nat => D.int n) (nameD_len L)) (ev_len (ds := nameD L) (ev_var rfl).b)) (dla_cons (dl_make (s := spInit) (dla_cons (Ev.dl (ev_call (s := spSpelled) (d := .str (tx (bookTx L []))) (x := (L, [])) (eva_cons (ev_var rfl) (eva_cons (evn_lst eva_nil (Nat.zero_le _)).ev eva_nil)) (np_ln (r := [_]) rfl) hb' fun d h => h) (dla_nil ⟨(L, []), rfl, hb', fun es hes => ?_⟩)))))))))
  cases hes
  refine dla_nil ⟨s2, ?_⟩
  refine ⟨[3] ++ [11], _, dg_tup2 dg_name dg_name, ?_⟩
  refine ds_seq (ds_asg_g (dl_tup (dla_cons (Ev.dl (d := .tup (ordD (List.range L.length))) (ev_tuple (EvN.b (evn_listRg (n := L.length) (ev_var rfl) (by omega)))) (dla_cons (Ev.dl (ev_op ev_str (ev_var rfl) (mul_sign (s := "+") (c := 43) (.inl ⟨rfl, rfl⟩) h8)) (dla_nil ⟨s2, ?_⟩)))))))
  refine ⟨[4] ++ [10], _, dg_tup2 dg_name dg_name, ?_⟩
  obtain ⟨G, eG⟩ : ∃ G, G = List.replicate L.length 43 := ⟨_, rfl⟩
  obtain ⟨g, eg⟩ : ∃ g, g = ordD (List.range L.length) := ⟨_, rfl⟩
  show Ds _ [.val .purse, .val (.lst (nameD L)), .val (.lst (nameD R)), .val (.int (L.length : Nat)), .val (.tup (ordD (List.range L.length))), .unset, .unset, .unset, .unset, .unset, .val (.str (tx (List.replicate L.length 43))), .val (bookD T.C_Book L []), .unset, .unset, .unset, .unset] _
  rw [← eG, ← eg]
  have gl : G.length = L.length := by rw [eG]; exact List.length_replicate
  have ga : ∀ c ∈ G, c = 43 := fun c hc => by rw [eG] at hc; exact (List.mem_replicate.mp hc).2
  have hG : RowOk G L.length := ⟨gl, fun c hc => by rw [ga c hc]; exact .inl rfl⟩
  have tG : (tx G).length = L.length := by rw [tx_len, gl]
  have n21 : ∀ d ∈ numO 21, SaidX T.C_Book d ∧ Pv d ∧ idxB d 21 = false := numO_ok (by decide)
  have nums : ∀ d ∈ numO L.length, SaidX T.C_Book d ∧ Pv d ∧ idxB d L.length = false := numO_ok (by omega)
  have bads : ∀ d ∈ badO G, SaidX T.C_Book d ∧ Pv d ∧ rowB d L.length = false := by rw [eG]; exact badO_ok h1 h8
  have fn : (fitM [] L.length).length = fac L.length := fit_none
  refine ds_seq (ds_for (fun xs i Γ' => xs = rng 5 ∧ ∃ s5 s6 s7 s8 s9 s12 s13 s14 s15 : Sl, Γ' = [.val .purse, .val (.lst (nameD L)), .val (.lst (nameD R)), .val (.int (L.length : Nat)), .val (.tup g), s5, s6, s7, s8, s9, .val (.str (tx G)), .val (bookD T.C_Book L []), s12, s13, s14, s15])
    (di_range (dla_cons (Ev.dl ev_int (dla_nil ⟨(5 : Nat), rfl, by decide, ⟨rfl, _, _, _, _, _, _, _, _, _, rfl⟩, fun t x Γ' hx' ⟨exs, s5, s6, s7, s8, s9, s12, s13, s14, s15, e⟩ => ?_, fun Γ' ⟨exs, s5, s6, s7, s8, s9, s12, s13, s14, s15, e⟩ => ?_⟩)))))
  · subst e
    -- the value in the place of a book
    refine ⟨[5], _, dg_name, ds_seq (ds_asg (dl_op (Ev.dl (d := .lst (xsO T.C_Book L R [])) (EvN.ev (evn_lst (eva_cons ev_non (eva_cons ev_int (eva_cons (ev_prop (s := spBText T.C_Book) (x := (L, [])) (ev_var rfl) rfl (np_book _ L []) trivial fun d h => h) (eva_cons (ev_var rfl) (eva_cons (EvN.ev (evn_lst (eva_cons (ev_var rfl) eva_nil) s1)) (eva_cons ev_dnew (eva_cons ev_bl (eva_cons (ev_tup (eva_cons (ev_var rfl) eva_nil) s1) eva_nil)))))))) (small (show 8 ≤ 100000 by decide)))) (dl_call (s := spDraw) (dla_cons (Ev.dl (ev_var rfl) (dla_cons (Ev.dl ev_int (dla_nil ⟨(8 : Nat), rfl, ⟨by decide, by decide⟩, fun d hd => ?_⟩)))))))))⟩
    obtain ⟨q, hq, rfl⟩ := hd
    have hq : q < (xsO T.C_Book L R []).length := hq
    refine ⟨(xsO T.C_Book L R [])[q], dr2_ixL (atI_nat (List.getElem?_eq_getElem hq)), ?_⟩
    have hX := xsO_ok hb hb' _ (List.getElem_mem hq)
    generalize (xsO T.C_Book L R [])[q] = x0 at hX ⊢
    -- rows
    have c1 : tx G ++ Str.ofString "." = tx (G ++ [46]) := by rw [show Str.ofString "." = tx [46] by decide +kernel, tx_append]
    have cd : cutS (tx G) (some ((1 : Nat) : Int)) none = tx (G.drop 1) := cutS_drop G 1
    have c2 : cutS (tx G) (some ((1 : Nat) : Int)) none ++ Str.ofString "*" = tx (G.drop 1 ++ [42]) := by rw [cd, show Str.ofString "*" = tx [42] by decide +kernel, tx_append]
    have dlen : (tx (G.drop 1)).length ≤ 8 := by rw [tx_len, List.length_drop, gl]; omega
    have cl : (cutS (tx G) (some ((1 : Nat) : Int)) none).length ≤ 8 := by rw [cd]; exact dlen
    have zG : (tx G).length ≤ sizeLine := small (by rw [tG]; omega)
    have sG : Dw.signs (tx G) = nameD (G.map fun c => [c]) := by
      unfold Dw.signs nameD
      rw [tx_cps, List.map_map]; rfl
    refine ds_seq (ds_asg (Ev.dl (d := .lst (bad9 G)) (EvN.ev (evn_lst (eva_cons (ev_cast (congrArg D.str c1) (ev_op (ev_var rfl) ev_str (pl_str (small (show (tx G).length + 1 ≤ 100000 by rw [tG]; omega))))) (eva_cons (ev_cast (congrArg D.str c2) (ev_op (ev_sliceS (ev_var rfl) zG (eo_some ev_int) eo_none) ev_str (pl_str (small (show (cutS (tx G) (some ((1 : Nat) : Int)) none).length + 1 ≤ 100000 by omega))))) (eva_cons ev_non (eva_cons ev_int (eva_cons (ev_cast (congrArg D.lst sG) (EvN.ev (evn_listAS (ev_var rfl) (by rw [tG]; omega)))) (eva_cons (ev_tup (eva_cons (ev_var rfl) eva_nil) s1) (eva_cons (ev_cast (congrArg D.str cd) (ev_sliceS (ev_var rfl) zG (eo_some ev_int) eo_none)) (eva_cons ev_bl eva_nil)))))))) (small (show 8 ≤ 100000 by decide)))) ?_))
    refine ds_seq (ds_asg_g (dl_tup (dla_cons (dl_op (Ev.dl (ev_var (d := .lst (bad9 G)) rfl) (dl_call (s := spDraw) (dla_cons (Ev.dl (ev_var rfl) (dla_cons (Ev.dl ev_int (dla_nil ⟨(8 : Nat), rfl, ⟨by decide, by decide⟩, fun d hd => ?_⟩)))))))))))
    obtain ⟨q2, hq2, rfl⟩ := hd
    have hq2 : q2 < (bad9 G).length := hq2
    refine ⟨(bad9 G)[q2], dr2_ixL (atI_nat (List.getElem?_eq_getElem hq2)), ?_⟩
    obtain ⟨b1, b2, b3⟩ := bads _ (bad9_in (List.getElem_mem hq2))
    generalize (bad9 G)[q2] = x1 at b1 b2 b3 ⊢
    refine dla_cons (dl_call (s := spWO T.C_Book) (dla_cons (Ev.dl (ev_var rfl) (dla_cons (Ev.dl (ev_var rfl) (dla_nil ⟨L.length, rfl, ⟨h1, h8⟩, fun d hd => ?_⟩))))))
    obtain ⟨o1, o2, o3⟩ := hd
    refine dla_nil ⟨s2, ?_⟩
    refine ⟨[14] ++ [13], _, dg_tup2 dg_name dg_name, ?_⟩
    -- what holds of any other value
    refine ds_seq (ds_if (dlt_test (dl_op (dl_call (s := spFst T.C_Book) (dla_cons (Ev.dl (ev_tag (i := 0) rfl TgS.purse (ev_var rfl)) (dla_cons (Ev.dl (ev_var rfl) (dla_cons (Ev.dl (ev_var rfl) (dla_nil ⟨(x0, x1, d), rfl, hX, fun d' hd' => ?_⟩)))))))))) )
    have hd' : d' = .lst (List.replicate 10 (.tup [.str "NotABook", .str (shZ x0)])) := hd'
    subst hd'
    refine Ev.dl (d := .lst (List.replicate 10 (.tup [.str "NotABook", .str (shZ x0)]))) (EvN.ev (evn_rep (ds := [.tup [.str "NotABook", .str (shZ x0)]]) (n := 10) (EvN.b (evn_lst (eva_cons (ev_tup (eva_cons ev_str (eva_cons (ev_reprO (ev_var rfl) hX.sh) eva_nil)) s2) eva_nil) s1)) ev_int (small (show 1 * 10 ≤ 100000 by decide)) (by decide))) ⟨.bl false, ne_self (k := 2) (dOk_rep9 (dOk_pair9 (by decide +kernel) hX.ok)) (by decide), false, rfl, fun h => (nomatch h), fun _ => ds_next ?_⟩
    show Ds _ [_, _, _, _, _, _, _, _, _, _, _, _, _, _, _, _] _
    have ao_InvalidRow : attrO [(("given" : Str), x1)] "InvalidRow" = shZ x1 := by unfold attrO; rw [if_neg (by decide)]
    refine ds_seq (ds_asg_ownL (dla_cons (dl_told_excX (i := 0) (x := ⟨T.C_InvalidRow, [("given", x1)]⟩) T.tabs T.hm__law_right rfl (fun E => ert_call (sx := spThr T.C_Book T.C_NotABook T.C_InvalidRow T.C_InvalidRanking BadRk) (x := .inr (.inl ((L, []), x1, d))) (eva_cons (ev_var rfl) (eva_cons (ev_var rfl) (eva_cons (ev_var rfl) eva_nil))) ⟨b2, b3⟩ fun ed H' h => h) T.xm_InvalidRow (suitF (C0 := T.C_Book) rsRow (.given (by decide) (x1) rfl b1.sh)) ?_)))
    rw [ao_InvalidRow]
    refine dla_nil ⟨s1, ?_⟩
    refine ds_seq (ds_drop (dl_append ⟨_, rfl⟩ (dla_cons (dl_told_excX (i := 0) (x := ⟨T.C_InvalidRow, [("given", x1)]⟩) T.tabs T.hm__law_right rfl (fun E => ert_call (sx := spTwo T.C_Book T.C_NotABook T.C_InvalidRow "given" BadRow own2) (x := .inr ((L, []), x1)) (eva_cons (ev_var rfl) (eva_cons (ev_var rfl) eva_nil)) ⟨b2, b3⟩ fun ed H' h => h) T.xm_InvalidRow (suitF (C0 := T.C_Book) rsRow (.given (by decide) (x1) rfl b1.sh)) ?_))))
    rw [ao_InvalidRow]
    refine dla_nil ⟨_, _, rfl, rfl, Nat.lt_of_lt_of_le (show 1 < 100000 by decide) (by decide), ?_⟩
    refine ds_seq (ds_drop (dl_append ⟨_, rfl⟩ (dla_cons (dl_told_excX (i := 0) (x := ⟨T.C_InvalidRow, [("given", x1)]⟩) T.tabs T.hm__law_right rfl (fun E => ert_call (sx := spThr T.C_Book T.C_NotABook T.C_InvalidRow T.C_InvalidNumber BadNum) (x := .inr (.inl ((L, []), x1, .non))) (eva_cons (ev_var rfl) (eva_cons (ev_var rfl) (eva_cons ev_non eva_nil))) ⟨b2, b3⟩ fun ed H' h => h) T.xm_InvalidRow (suitF (C0 := T.C_Book) rsRow (.given (by decide) (x1) rfl b1.sh)) ?_))))
    rw [ao_InvalidRow]
    refine dla_nil ⟨_, _, rfl, rfl, Nat.lt_of_lt_of_le (show 2 < 100000 by decide) (by decide), ?_⟩
    show Ds _ [_, _, _, _, _, _, _, _, _, _, _, _, _, _, _, _] _
    refine ds_freeze 8 rfl (ds_seq (ds_if (EvT.dl (b := false) (evt_test (ev_op (x := .lst (List.replicate 3 (.tup [.str "InvalidRow", .str (shZ x1)]))) (y := .lst (List.replicate 3 (.tup [.str "InvalidRow", .str (shZ x1)]))) (ev_var rfl) (EvN.ev (evn_rep (ds := [.tup [.str "InvalidRow", .str (shZ x1)]]) (n := 3) (EvN.b (evn_lst (eva_cons (ev_tup (eva_cons ev_str (eva_cons (ev_reprO (ev_var rfl) b1.sh) eva_nil)) s2) eva_nil) s1)) ev_int (small (show 1 * 3 ≤ 100000 by decide)) (by decide))) (ne_self (k := 2) (dOk_rep9 (dOk_pair9 (by decide +kernel) b1.ok)) (by decide)))) ⟨fun h => (nomatch h), fun _ => ds_next ?_⟩)))
    have ao_InvalidRanking : attrO [(("given" : Str), d)] "InvalidRanking" = shZ d := by unfold attrO; rw [if_neg (by decide)]
    refine ds_seq (ds_asg_ownL (dla_cons (dl_told_excX (i := 0) (x := ⟨T.C_InvalidRanking, [("given", d)]⟩) T.tabs T.hm__law_right rfl (fun E => ert_call (sx := spThr T.C_Book T.C_NotABook T.C_InvalidRow T.C_InvalidRanking BadRk) (x := .inr (.inr ((L, []), G, d))) (eva_cons (ev_var rfl) (eva_cons (ev_var rfl) (eva_cons (ev_var rfl) eva_nil))) ⟨hG, h1, h8, o2, h8, o3⟩ fun ed H' h => h) T.xm_InvalidRanking (suitF (C0 := T.C_Book) rsRk (.given (by decide) (d) rfl o1.sh)) ?_)))
    rw [ao_InvalidRanking]
    refine dla_nil ⟨s1, ?_⟩
    refine ds_seq (ds_drop (dl_append ⟨_, rfl⟩ (dla_cons (dl_told_excX (i := 0) (x := ⟨T.C_InvalidRanking, [("given", d)]⟩) T.tabs T.hm__law_right rfl (fun E => ert_call (sx := spTwo T.C_Book T.C_NotABook T.C_InvalidRanking "given" BadRk own2) (x := .inr ((L, []), d)) (eva_cons (ev_var rfl) (eva_cons (ev_var rfl) eva_nil)) ⟨o2, h8, o3⟩ fun ed H' h => h) T.xm_InvalidRanking (suitF (C0 := T.C_Book) rsRk (.given (by decide) (d) rfl o1.sh)) ?_))))
    rw [ao_InvalidRanking]
    refine dla_nil ⟨_, _, rfl, rfl, Nat.lt_of_lt_of_le (show 1 < 100000 by decide) (by decide), ?_⟩
    refine ds_seq (ds_drop (dl_append ⟨_, rfl⟩ (dla_cons (dl_told_excX (i := 0) (x := ⟨T.C_InvalidRanking, [("given", d)]⟩) T.tabs T.hm__law_right rfl (fun E => ert_call (sx := spTwo T.C_Book T.C_NotABook T.C_InvalidRanking "given" BadRk own2) (x := .inr ((L, []), d)) (eva_cons (ev_var rfl) (eva_cons (ev_var rfl) eva_nil)) ⟨o2, h8, o3⟩ fun ed H' h => h) T.xm_InvalidRanking (suitF (C0 := T.C_Book) rsRk (.given (by decide) (d) rfl o1.sh)) ?_))))
    rw [ao_InvalidRanking]
    refine dla_nil ⟨_, _, rfl, rfl, Nat.lt_of_lt_of_le (show 2 < 100000 by decide) (by decide), ?_⟩
    show Ds _ [_, _, _, _, _, _, _, _, _, _, _, _, _, _, _, _] _
    refine ds_freeze 8 rfl (ds_seq (ds_if (EvT.dl (b := false) (evt_test (ev_op (x := .lst (List.replicate 3 (.tup [.str "InvalidRanking", .str (shZ d)]))) (y := .lst (List.replicate 3 (.tup [.str "InvalidRanking", .str (shZ d)]))) (ev_var rfl) (EvN.ev (evn_rep (ds := [.tup [.str "InvalidRanking", .str (shZ d)]]) (n := 3) (EvN.b (evn_lst (eva_cons (ev_tup (eva_cons ev_str (eva_cons (ev_reprO (ev_var rfl) o1.sh) eva_nil)) s2) eva_nil) s1)) ev_int (small (show 1 * 3 ≤ 100000 by decide)) (by decide))) (ne_self (k := 2) (dOk_rep9 (dOk_pair9 (by decide +kernel) o1.ok)) (by decide)))) ⟨fun h => (nomatch h), fun _ => ds_next ?_⟩)))
    refine ds_seq (ds_asg (dl_op (Ev.dl (d := .lst (numO 21)) (EvN.ev (evn_lst (eva_cons ev_non (eva_cons (ev_neg ev_int) (eva_cons (ev_cast (d' := .int ((21 : Nat) : Int)) rfl ev_int) (eva_cons ev_bl (eva_cons ev_str (eva_cons (ev_op ev_int ev_int (dr2_pow ⟨by decide, by decide, by decide⟩)) (eva_cons (ev_tup eva_nil (Nat.zero_le _)) (eva_cons (evn_lst eva_nil (Nat.zero_le _)).ev (eva_cons ev_dnew (eva_cons ev_bl eva_nil)))))))))) (small (show 10 ≤ 100000 by decide)))) (dl_call (s := spDraw) (dla_cons (Ev.dl (ev_var rfl) (dla_cons (Ev.dl ev_int (dla_nil ⟨(10 : Nat), rfl, ⟨by decide, by decide⟩, fun d hd => ?_⟩)))))))))
    obtain ⟨qy, hqy, rfl⟩ := hd
    have hqy : qy < (numO (21)).length := hqy
    refine ⟨(numO (21))[qy], dr2_ixL (atI_nat (List.getElem?_eq_getElem hqy)), ?_⟩
    obtain ⟨y1, y2, y3⟩ := n21 _ (List.getElem_mem hqy)
    have y4 := numO_pl _ (List.getElem_mem hqy)
    generalize (numO (21))[qy] = y0 at y1 y2 y3 y4 ⊢
    show Ds _ [_, _, _, _, _, _, _, _, _, _, _, _, _, _, _, _] _
    have ao_InvalidNumber : attrO [(("given" : Str), y0)] "InvalidNumber" = shZ y0 := by unfold attrO; rw [if_neg (by decide)]
    refine ds_seq (ds_asg_ownL (dla_cons (dl_told_excX (i := 0) (x := ⟨T.C_InvalidNumber, [("given", y0)]⟩) T.tabs T.hm__law_right rfl (fun E => ert_call (sx := spTwo T.C_Book T.C_NotABook T.C_InvalidNumber "given" BadNum own2) (x := .inr ((L, []), y0)) (eva_cons (ev_var rfl) (eva_cons (ev_var rfl) eva_nil)) ⟨y2, y3⟩ fun ed H' h => h) T.xm_InvalidNumber (suitF (C0 := T.C_Book) rsNum (.given (by decide) (y0) rfl y1.sh)) ?_)))
    rw [ao_InvalidNumber]
    refine dla_nil ⟨s1, ?_⟩
    refine ds_seq (ds_drop (dl_append ⟨_, rfl⟩ (dla_cons (dl_told_excX (i := 0) (x := ⟨T.C_InvalidNumber, [("given", y0)]⟩) T.tabs T.hm__law_right rfl (fun E => ert_call (sx := spThr T.C_Book T.C_NotABook T.C_InvalidRow T.C_InvalidNumber BadNum) (x := .inr (.inr ((L, []), G, y0))) (eva_cons (ev_var rfl) (eva_cons (ev_var rfl) (eva_cons (ev_var rfl) eva_nil))) ⟨hG, h1, h8, y2, y3⟩ fun ed H' h => h) T.xm_InvalidNumber (suitF (C0 := T.C_Book) rsNum (.given (by decide) (y0) rfl y1.sh)) ?_))))
    rw [ao_InvalidNumber]
    refine dla_nil ⟨_, _, rfl, rfl, Nat.lt_of_lt_of_le (show 1 < 100000 by decide) (by decide), ?_⟩
    show Ds _ [_, _, _, _, _, _, _, _, _, _, _, _, _, _, _, _] _
    refine ds_freeze 8 rfl (ds_seq (ds_if (EvT.dl (b := false) (evt_test (ev_op (x := .lst (List.replicate 2 (.tup [.str "InvalidNumber", .str (shZ y0)]))) (y := .lst (List.replicate 2 (.tup [.str "InvalidNumber", .str (shZ y0)]))) (ev_var rfl) (EvN.ev (evn_rep (ds := [.tup [.str "InvalidNumber", .str (shZ y0)]]) (n := 2) (EvN.b (evn_lst (eva_cons (ev_tup (eva_cons ev_str (eva_cons (ev_reprO (ev_var rfl) y1.sh) eva_nil)) s2) eva_nil) s1)) ev_int (small (show 1 * 2 ≤ 100000 by decide)) (by decide))) (ne_self (k := 2) (dOk_rep9 (dOk_pair9 (by decide +kernel) y1.ok)) (by decide)))) ⟨fun h => (nomatch h), fun _ => ds_next ?_⟩)))
    refine ds_seq (ds_asg (dl_op (Ev.dl (d := .lst (numO L.length)) (EvN.ev (evn_lst (eva_cons ev_non (eva_cons (ev_neg ev_int) (eva_cons (ev_var rfl) (eva_cons ev_bl (eva_cons ev_str (eva_cons (ev_op ev_int ev_int (dr2_pow ⟨by decide, by decide, by decide⟩)) (eva_cons (ev_tup eva_nil (Nat.zero_le _)) (eva_cons (evn_lst eva_nil (Nat.zero_le _)).ev (eva_cons ev_dnew (eva_cons ev_bl eva_nil)))))))))) (small (show 10 ≤ 100000 by decide)))) (dl_call (s := spDraw) (dla_cons (Ev.dl (ev_var rfl) (dla_cons (Ev.dl ev_int (dla_nil ⟨(10 : Nat), rfl, ⟨by decide, by decide⟩, fun d hd => ?_⟩)))))))))
    obtain ⟨qz, hqz, rfl⟩ := hd
    have hqz : qz < (numO (L.length)).length := hqz
    refine ⟨(numO (L.length))[qz], dr2_ixL (atI_nat (List.getElem?_eq_getElem hqz)), ?_⟩
    obtain ⟨z1, z2, z3⟩ := nums _ (List.getElem_mem hqz)
    have z4 := numO_pl _ (List.getElem_mem hqz)
    generalize (numO (L.length))[qz] = z0 at z1 z2 z3 z4 ⊢
    show Ds _ [_, _, _, _, _, _, _, _, _, _, _, _, _, _, _, _] _
    have ao_InvalidRule : attrO [(("given" : Str), z0)] "InvalidRule" = shZ z0 := by unfold attrO; rw [if_neg (by decide)]
    refine ds_seq (ds_asg_ownL (dla_cons (dl_told_excX (i := 0) (x := ⟨T.C_InvalidRule, [("given", z0)]⟩) T.tabs T.hm__law_right rfl (fun E => ert_call (sx := spTwo T.C_Book T.C_NotABook T.C_InvalidRule "given" BadRule own2) (x := .inr ((L, []), z0)) (eva_cons (ev_var rfl) (eva_cons (ev_var rfl) eva_nil)) ⟨z2, z3⟩ fun ed H' h => h) T.xm_InvalidRule (suitF (C0 := T.C_Book) rsRule (.given (by decide) (z0) rfl z1.sh)) ?_)))
    rw [ao_InvalidRule]
    refine dla_nil ⟨s1, ?_⟩
    refine ds_seq (ds_drop (dl_append ⟨_, rfl⟩ (dla_cons (dl_told_excX (i := 0) (x := ⟨T.C_InvalidRule, [("given", z0)]⟩) T.tabs T.hm__law_right rfl (fun E => ert_call (sx := spTwo T.C_Book T.C_NotABook T.C_InvalidRule "given" BadRule own2) (x := .inr ((L, []), z0)) (eva_cons (ev_var rfl) (eva_cons (ev_var rfl) eva_nil)) ⟨z2, z3⟩ fun ed H' h => h) T.xm_InvalidRule (suitF (C0 := T.C_Book) rsRule (.given (by decide) (z0) rfl z1.sh)) ?_))))
    rw [ao_InvalidRule]
    refine dla_nil ⟨_, _, rfl, rfl, Nat.lt_of_lt_of_le (show 1 < 100000 by decide) (by decide), ?_⟩
    show Ds _ [_, _, _, _, _, _, _, _, _, _, _, _, _, _, _, _] _
    refine ds_freeze 8 rfl (ds_seq (ds_if (EvT.dl (b := false) (evt_test (ev_op (x := .lst (List.replicate 2 (.tup [.str "InvalidRule", .str (shZ z0)]))) (y := .lst (List.replicate 2 (.tup [.str "InvalidRule", .str (shZ z0)]))) (ev_var rfl) (EvN.ev (evn_rep (ds := [.tup [.str "InvalidRule", .str (shZ z0)]]) (n := 2) (EvN.b (evn_lst (eva_cons (ev_tup (eva_cons ev_str (eva_cons (ev_reprO (ev_var rfl) z1.sh) eva_nil)) s2) eva_nil) s1)) ev_int (small (show 1 * 2 ≤ 100000 by decide)) (by decide))) (ne_self (k := 2) (dOk_rep9 (dOk_pair9 (by decide +kernel) z1.ok)) (by decide)))) ⟨fun h => (nomatch h), fun _ => ds_next ?_⟩)))
    have pvz : Pv (.tup [z0]) := pv_tups (show 1 ≤ 60 by decide) fun e he => by rw [List.mem_singleton.mp he]; exact z4
    have eL : wrongM L.length [z0] 0 0 = some 0 := wr_at (k := 0) (rest := []) (Nat.zero_le _) (.inl z3)
    have eW : lotW (.tup [z0]) L.length = .int (0 : Nat) := by
      show wrongD L.length [z0] = _
      unfold wrongD
      rw [eL]
    have lz : shF T.C_Book (lotW (.tup [z0]) L.length) := by rw [eW]; exact (said_nat (n := 0) (by decide)).sh
    have aoL : attrO [(("index" : Str), lotW (.tup [z0]) L.length)] "InvalidLot" = "0" := by
      unfold attrO
      rw [if_neg (by decide)]
      show shZ (lotW (.tup [z0]) L.length) = _
      rw [eW]
      decide +kernel
    refine ds_seq (ds_if (dlt_test (dl_op (dl_told_excX (i := 0) (x := ⟨T.C_InvalidLot, [("index", lotW (.tup [z0]) L.length)]⟩) T.tabs T.hm__law_right rfl (fun E => ert_call (sx := spTwo T.C_Book T.C_NotABook T.C_InvalidLot "index" BadLot lot2) (x := .inr ((L, []), .tup [z0])) (eva_cons (ev_var rfl) (eva_cons (ev_tup (eva_cons (ev_var rfl) eva_nil) s1) eva_nil)) (.inr ⟨[z0], 0, rfl, pvz, eL⟩) fun ed H' h => h) T.xm_InvalidLot (suitF (C0 := T.C_Book) rsLot (.index (by decide) (lotW (.tup [z0]) L.length) rfl lz)) ?_))))
    rw [aoL]
    refine Ev.dl (ev_tup (eva_cons ev_str (eva_cons ev_str eva_nil)) s2) ⟨.bl false, ne_self (k := 1) (dOk_pair9 (by decide +kernel) (by decide +kernel)) (by decide), false, rfl, fun h => (nomatch h), fun _ => ds_next ?_⟩
    -- the number after the last
    obtain ⟨f, ef⟩ : ∃ f, f = fac L.length := ⟨_, rfl⟩
    refine ds_seq (ds_asg (Ev.dl (d := .int (f : Nat)) (ev_cast (d := if decide ((L.length : Int) < 5) = true then .int (f : Nat) else .int (f : Nat)) (by split <;> rfl) (ev_if (evt_test (ev_op (ev_var rfl) ev_int lt_int')) (fun h => ?f1) (fun h => ?f2))) ?_))
    case f1 =>
      have h5 : L.length < 5 := by have := of_decide_eq_true h; omega
      exact ev_cast (congrArg (fun n : Nat => D.int n) (show (ordT (allM L.length L.length)).length = f by rw [ef, ← all_len]; exact List.length_map ..)) (ev_len (ds := ordT (allM L.length L.length)) (Ev.b (ev_call (s := spAll) (d := .lst (ordT (allM L.length L.length))) (x := L.length) (eva_cons (ev_cast (d' := .int (L.length : Nat)) (by rw [if_neg (by omega)]) (ev_min2 (ev_var rfl) ev_int)) eva_nil) rfl (show L.length ≤ 5 by omega) fun d h => h)))
    case f2 =>
      have h5 : 5 ≤ L.length := by have := of_decide_eq_false h; omega
      exact ev_ix (ds := [.int 120, .int 720]) (EvN.b (evn_lst (eva_cons ev_int (eva_cons ev_int eva_nil)) s2)) (ev_op (ev_var rfl) ev_int dr2_sub) (by rw [ef]; rcases (show L.length = 5 ∨ L.length = 6 by omega) with e | e <;> rw [e] <;> rfl)
    have sf : SaidX T.C_Book (.int (f : Nat)) := by rw [ef]; exact said_fac h6
    have aoF : attrO [(("given" : Str), D.int (f : Nat))] "InvalidNumber" = shZ (.int (f : Nat)) := by unfold attrO; rw [if_neg (by decide)]
    refine (ds_if (dlt_test (dl_op (dl_told_excX (i := 0) (x := ⟨T.C_InvalidNumber, [("given", .int (f : Nat))]⟩) T.tabs T.hm__law_right rfl (fun E => ert_call (sx := spTwo T.C_Book T.C_NotABook T.C_InvalidNumber "given" BadAt own2) (x := .inr ((L, []), .int (f : Nat))) (eva_cons (ev_var rfl) (eva_cons (ev_var rfl) eva_nil)) ⟨hb', f, rfl, by show (fitM [] L.length).length ≤ f; rw [fn, ef]; exact Nat.le_refl _⟩ fun ed H' h => h) T.xm_InvalidNumber (suitF (C0 := T.C_Book) rsNum (.given (by decide) (.int (f : Nat)) rfl sf.sh)) ?_))))
    rw [aoF]
    exact Ev.dl (ev_tup (eva_cons ev_str (eva_cons (ev_reprO (ev_var rfl) sf.sh) eva_nil)) s2) ⟨.bl false, ne_self (k := 1) (dOk_pair9 (by decide +kernel) sf.ok) (by decide), false, rfl, fun h => (nomatch h), fun _ => ds_next ⟨exs, _, _, _, _, _, _, _, _, _, rfl⟩⟩
  · subst e
    subst eg
    have hh : holdsB G (List.range L.length) = true := by rw [eG]; exact hold9 h1
    have hp : (List.range L.length).Perm (List.range L.length) := List.Perm.refl _
    refine ds_ret (Ev.dl (ev_andV (a := true) (b := true) (ev_call_or (s := spHold9 T.C_Book) (d := .bl true) (x := ((L, []), G, List.range L.length)) (eva_cons (ev_var rfl) (eva_cons (ev_var rfl) (eva_cons (ev_var rfl) eva_nil))) ?np1 ⟨hb', hG, hp⟩ fun d h => by rw [h]; exact congrArg D.bl hh) fun _ => ev_andV (a := true) (b := true) (ev_call_or (s := spFits T.C_Book) (d := .bl true) (x := ((L, []), List.range L.length)) (eva_cons (ev_var rfl) (eva_cons (ev_var rfl) eva_nil)) (np_bk (np_to (r := []) rfl)) ⟨hb', hp⟩ fun d h => h) fun _ => ev_op (ev_call_or (s := spRankAt T.C_Book) (d := .tup (ordD (List.range L.length))) (x := ((L, []), 0)) (eva_cons (ev_var rfl) (eva_cons ev_int eva_nil)) (np_bk (r := [_]) rfl) ⟨hb', by show 0 < (fitM [] L.length).length; rw [fn]; exact (facs _ h6).2.2.2⟩ fun d h => by rw [h]; exact congrArg (fun o => D.tup (ordD o)) (first9 _ h6)) (ev_var rfl) (eq_self (k := 1) (dOks_map fun _ _ => rfl) (by decide))) rfl)
    case np1 => exact np_bk (r := [_, _]) (by show (true && (noPs (ordD (List.range L.length)) && true)) = true; rw [np_ord]; rfl)

end K09

namespace K09
open PySem PySem.Spec PyProof.Rows L2 Dw
variable [Tabs0]
def spLaw (K : PySem.W.Frag) : Spc where
  ty := List Int
  args := fun ns => [.scr K (ns.map V.int)]
  ok := fun ns => ns.length ≤ 63 ∧ ∀ z ∈ ns, Builtin.Int.intBits z ≤ 1048576
  rel := fun _ d => d = .bl true
end K09

namespace K09
open PySem PySem.Spec PyProof.Rows L2 Dw
variable [Tabs0]
theorem d_law {P : Program} {w : World} {K : PySem.W.Frag} {mg : Str → Option Value} {base : Heap} (T : Txt K w mg) (TB__law_firsts : LamX.TabB base mg T.lc__law_firsts T.lt__law_firsts) (TB__law_right : LamX.TabB base mg T.lc__law_right T.lt__law_right) : FnG P w K mg base 10 T.f_law T.e_law ["_law_script"] (spLaw K) := by
  refine fnG_ok T.F_law sc_law (fun _ => rfl) fun cdv A outer s' H E hr hG => ?_
  refine ⟨_, (pss_one (ps_ret (pe_callB (allA K) (by rfl) T.n_all (by decide +kernel) (pa_cons (pe_lc (own := [("_law_spot", 1)]) rfl sc_law.nd (pi_range1 (by rfl) T.n_range (pa_cons (pe_callB (call_max2 rfl) (by rfl) T.n_max (by decide +kernel) (pa_cons pe_int (pa_cons (pe_callB (call_min2 rfl) (by rfl) T.n_min (by decide +kernel) (pa_cons (pe_callB (lenA K) (by rfl) T.n_len (by decide +kernel) (pa_cons (pv 0) pa_nil)) (pa_cons pe_int pa_nil))) pa_nil))) pa_nil)) (blkOk_by (own := [("_law_spot", 1)]) (N := N_law) (sc := (defScope s_law)) (by decide +kernel)) (fun _ _ _ _ _ => pg_name (i := 1) sc_law.nd rfl (Or.inl rfl)) (fun _ _ _ _ _ => pts_nil) (fun _ _ _ _ _ => (pe_callG (E := E0) (d__law_right T TB__law_firsts TB__law_right) (hr.mono (by decide)) hG (by rfl) T.m__law_right T.F__law_right.kp T.b__law_right (pa_cons (pe_call (d__law_purse T) (hr.mono (by decide)) (by rfl) T.m__law_purse T.F__law_purse.kp T.b__law_purse .nil pass0 (pa_cons (pv 0) (pa_cons (pv 1) pa_nil))) pa_nil)))) pa_nil)))), fun x hx => ?_⟩
  obtain ⟨ns, rfl⟩ : ∃ l : List Int, l = x := ⟨x, rfl⟩
  obtain ⟨hn, hbit⟩ := hx
  have hn : ns.length ≤ 63 := hn
  have l0 : (ns.map V.int).length = ns.length := List.length_map ..
  have em : ∃ m : Nat, m ≤ 63 ∧ (if (if (4 : Int) < ((ns.map V.int).length : Int) then (4 : Int) else ((ns.map V.int).length : Int)) > 2 then (if (4 : Int) < ((ns.map V.int).length : Int) then (4 : Int) else ((ns.map V.int).length : Int)) else 2) = (m : Int) := by
    rw [l0]
    by_cases h : (4 : Int) < (ns.length : Int)
    · rw [if_pos h, if_pos (by decide)]; exact ⟨4, by decide, rfl⟩
    · rw [if_neg h]
      by_cases h2 : (ns.length : Int) > 2
      · rw [if_pos h2]; exact ⟨ns.length, by omega, rfl⟩
      · rw [if_neg h2]; exact ⟨2, by decide, rfl⟩
  obtain ⟨m, hm, em⟩ := em
  refine ds_ret (dl_all (dl_lc (di_range (dla_cons (Ev.dl (ev_max2 ev_int (ev_min2 (ev_lenX (ev_var rfl)) ev_int)) (dla_nil ⟨m, ?_, by omega, by rw [rng_length]; omega, fun i acc Γ' => Γ' = [.val (.scr K (ns.map V.int)), .unset] ∧ ∃ bs : List Bool, acc = bs.map D.bl ∧ bs.all id = true, ⟨rfl, [], rfl, rfl⟩, fun i x acc Γ' hx' ⟨e, bs, ea, hb⟩ => ?_, fun acc Γ' ⟨e, bs, ea, hb⟩ => ⟨bs, congrArg D.lst ea, congrArg D.bl hb⟩⟩))))))
  · rw [em]
  · subst e
    obtain ⟨hi, rfl⟩ := rng_get hx'
    refine ⟨[1], _, dg_name, fun i hi => hi, dlt_yes ⟨fun _ => dl_purse (s := spRight) (x := ()) rfl trivial (fun d h => h) (ev_var rfl) (ev_var rfl) hn (by omega) hbit ⟨rfl, bs ++ [true], ?_, ?_⟩, fun h => nomatch h⟩⟩
    · rw [ea, List.map_append]; rfl
    · rw [List.all_append, hb]; rfl

end K09

namespace Dw
open PySem PySem.Spec PyProof.Rows L2
/-! the answers of isinstance and of an except clause, from what the written part says -/
theorem kit_cls_of {K : PySem.W.Frag} {D0 C : Addr} {b : Bool} (hd : PySem.W.hasDictIn K C = true) (ht : PySem.W.typeIn K (.ref C) = some (.type "type")) (hs : PySem.W.subIn K (.ref D0) (.ref C) = some b) : PySem.W.kitCls K (.ref D0) (.ref C) = some b := by
  obtain ⟨cd, hc, _⟩ := PySem.W.any_some hd
  show (if ((PySem.W.clsIn K C).isSome && PySem.W.typeIn K (.ref C) == some (.type "type")) = true then PySem.W.subIn K (.ref D0) (.ref C) else none) = some b
  rw [if_pos (by rw [hc, ht]; rfl)]
  exact hs
theorem kit_yes {K : PySem.W.Frag} {D0 C : Addr} (hd : PySem.W.hasDictIn K C = true) (ht : PySem.W.typeIn K (.ref C) = some (.type "type")) (hs : PySem.W.subIn K (.ref D0) (.ref C) = some true) : PySem.W.kitOne K (.ref D0) (.ref C) = some true := by
  unfold PySem.W.kitOne
  split
  · rfl
  · exact kit_cls_of hd ht hs
theorem kit_no {K : PySem.W.Frag} {D0 C : Addr} (hd : PySem.W.hasDictIn K C = true) (ht : PySem.W.typeIn K (.ref C) = some (.type "type")) (hs : PySem.W.subIn K (.ref D0) (.ref C) = some false) (ne : (D0 == C) = false) : PySem.W.kitOne K (.ref D0) (.ref C) = some false := by
  unfold PySem.W.kitOne
  rw [if_neg]
  · exact kit_cls_of hd ht hs
  · intro z
    have e : D0 = C := Value.ref.inj (beq_iff_eq.mp z)
    rw [e, beq_self_eq_true] at ne
    cases ne
theorem exm_any2 {K : PySem.W.Frag} {D0 C1 C2 : Addr} {b1 b2 : Bool} (s1 : PySem.W.subIn K (.ref C1) (.type "BaseException") = some true) (s2 : PySem.W.subIn K (.ref C2) (.type "BaseException") = some true) (hd1 : PySem.W.hasDictIn K C1 = true) (hd2 : PySem.W.hasDictIn K C2 = true)
    (ht1 : PySem.W.typeIn K (.ref C1) = some (.type "type")) (ht2 : PySem.W.typeIn K (.ref C2) = some (.type "type")) (h1 : PySem.W.subIn K (.ref D0) (.ref C1) = some b1) (h2 : PySem.W.subIn K (.ref D0) (.ref C2) = some b2) (hb : (b1 || b2) = true) : PySem.W.exmAny K (.ref D0) [.ref C1, .ref C2] = some true := by
  have e1 : PySem.W.exmOne K (.ref D0) (.ref C1) = some b1 := by
    unfold PySem.W.exmOne
    rw [if_pos (by rw [s1]; rfl)]
    exact kit_cls_of hd1 ht1 h1
  have e2 : PySem.W.exmOne K (.ref D0) (.ref C2) = some b2 := by
    unfold PySem.W.exmOne
    rw [if_pos (by rw [s2]; rfl)]
    exact kit_cls_of hd2 ht2 h2
  show (match PySem.W.exmOne K (.ref D0) (.ref C1), (match PySem.W.exmOne K (.ref D0) (.ref C2), (some false : Option Bool) with
    | some b, some d => some (b || d)
    | _, _ => none) with
    | some b, some d => some (b || d)
    | _, _ => none) = some true
  rw [e1, e2]
  show some (b1 || (b2 || false)) = some true
  rw [Bool.or_false, hb]
end Dw

namespace K09
open PySem PySem.Spec PyProof.Rows L2 Dw
abbrev qn__law_firsts (f c : Addr) : Str := (envOfC "_law_firsts" (defScope s__law_firsts) 0 f (.ref c)).qual ++ "<lambda>"
abbrev qn__law_right (f c : Addr) : Str := (envOfC "_law_right" (defScope s__law_right) 0 f (.ref c)).qual ++ "<lambda>"
theorem all_mk {l : PySem.W.OpenLaw} {q : Program} {w : World} {K : PySem.W.Frag} {h : Heap} {mg : Str → Option Value} {fa : Addr} (X : K.In h) (G : h.Ns mainGlobals mg) (hfa : mg "law" = some (.ref fa)) (tb : ∀ (y : Str) (f : Addr), ((recsOf q).any fun e => e.name == y) = true → mg y = some (.ref f) → TabOf K f h)
    {C_Book : Addr}
    {C_Broken : Addr}
    {C_InUse : Addr}
    {C_InvalidCases : Addr}
    {C_InvalidClaim : Addr}
    {C_InvalidIndex : Addr}
    {C_InvalidLot : Addr}
    {C_InvalidName : Addr}
    {C_InvalidNumber : Addr}
    {C_InvalidOffers : Addr}
    {C_InvalidRanking : Addr}
    {C_InvalidRow : Addr}
    {C_InvalidRule : Addr}
    {C_InvalidText : Addr}
    {C_NoAnswer : Addr}
    {C_NoRanking : Addr}
    {C_NotABook : Addr}
    {C_NotACase : Addr}
    {C_NotACourt : Addr}
    {C_NothingToUndo : Addr}
    {C_TooMany : Addr}
    {C_UnknownName : Addr}
    {C_WrongValue : Addr}
    {xnm_InvalidLot : Str} {xq_InvalidLot : Str} {xN_InvalidLot : Addr} {xbs_InvalidLot xbm_InvalidLot : List Value} {xw0_InvalidLot : List Str} {xw1_InvalidLot : List Value} {xw2_InvalidLot : Bool} {xw3_InvalidLot : Option Bool} {xw4_InvalidLot : Option Addr} {xw5_InvalidLot xw6_InvalidLot xw7_InvalidLot xw8_InvalidLot xw9_InvalidLot : Option Value}
    {xnm_InvalidNumber : Str} {xq_InvalidNumber : Str} {xN_InvalidNumber : Addr} {xbs_InvalidNumber xbm_InvalidNumber : List Value} {xw0_InvalidNumber : List Str} {xw1_InvalidNumber : List Value} {xw2_InvalidNumber : Bool} {xw3_InvalidNumber : Option Bool} {xw4_InvalidNumber : Option Addr} {xw5_InvalidNumber xw6_InvalidNumber xw7_InvalidNumber xw8_InvalidNumber xw9_InvalidNumber : Option Value}
    {xnm_InvalidRanking : Str} {xq_InvalidRanking : Str} {xN_InvalidRanking : Addr} {xbs_InvalidRanking xbm_InvalidRanking : List Value} {xw0_InvalidRanking : List Str} {xw1_InvalidRanking : List Value} {xw2_InvalidRanking : Bool} {xw3_InvalidRanking : Option Bool} {xw4_InvalidRanking : Option Addr} {xw5_InvalidRanking xw6_InvalidRanking xw7_InvalidRanking xw8_InvalidRanking xw9_InvalidRanking : Option Value}
    {xnm_InvalidRow : Str} {xq_InvalidRow : Str} {xN_InvalidRow : Addr} {xbs_InvalidRow xbm_InvalidRow : List Value} {xw0_InvalidRow : List Str} {xw1_InvalidRow : List Value} {xw2_InvalidRow : Bool} {xw3_InvalidRow : Option Bool} {xw4_InvalidRow : Option Addr} {xw5_InvalidRow xw6_InvalidRow xw7_InvalidRow xw8_InvalidRow xw9_InvalidRow : Option Value}
    {xnm_InvalidRule : Str} {xq_InvalidRule : Str} {xN_InvalidRule : Addr} {xbs_InvalidRule xbm_InvalidRule : List Value} {xw0_InvalidRule : List Str} {xw1_InvalidRule : List Value} {xw2_InvalidRule : Bool} {xw3_InvalidRule : Option Bool} {xw4_InvalidRule : Option Addr} {xw5_InvalidRule xw6_InvalidRule xw7_InvalidRule xw8_InvalidRule xw9_InvalidRule : Option Value}
    {xnm_NotABook : Str} {xq_NotABook : Str} {xN_NotABook : Addr} {xbs_NotABook xbm_NotABook : List Value} {xw0_NotABook : List Str} {xw1_NotABook : List Value} {xw2_NotABook : Bool} {xw3_NotABook : Option Bool} {xw4_NotABook : Option Addr} {xw5_NotABook xw6_NotABook xw7_NotABook xw8_NotABook xw9_NotABook : Option Value}
    {f_is_name : Addr} {od_is_name an_is_name : Option Addr} {sl_is_name : Array (Option Value)} {oc_is_name kV_is_name dc_is_name pm_is_name cd_is_name ct_is_name : Value}
    {f_are_names : Addr} {od_are_names an_are_names : Option Addr} {sl_are_names : Array (Option Value)} {oc_are_names kV_are_names dc_are_names pm_are_names cd_are_names ct_are_names : Value}
    {f_is_any_row : Addr} {od_is_any_row an_is_any_row : Option Addr} {sl_is_any_row : Array (Option Value)} {oc_is_any_row kV_is_any_row dc_is_any_row pm_is_any_row cd_is_any_row ct_is_any_row : Value}
    {f_is_row : Addr} {od_is_row an_is_row : Option Addr} {sl_is_row : Array (Option Value)} {oc_is_row kV_is_row dc_is_row pm_is_row cd_is_row ct_is_row : Value}
    {f_is_whole : Addr} {od_is_whole an_is_whole : Option Addr} {sl_is_whole : Array (Option Value)} {oc_is_whole kV_is_whole dc_is_whole pm_is_whole cd_is_whole ct_is_whole : Value}
    {f_is_index : Addr} {od_is_index an_is_index : Option Addr} {sl_is_index : Array (Option Value)} {oc_is_index kV_is_index dc_is_index pm_is_index cd_is_index ct_is_index : Value}
    {f_wrong_in_lot : Addr} {od_wrong_in_lot an_wrong_in_lot : Option Addr} {sl_wrong_in_lot : Array (Option Value)} {oc_wrong_in_lot kV_wrong_in_lot dc_wrong_in_lot pm_wrong_in_lot cd_wrong_in_lot ct_wrong_in_lot : Value}
    {f_is_ranking : Addr} {od_is_ranking an_is_ranking : Option Addr} {sl_is_ranking : Array (Option Value)} {oc_is_ranking kV_is_ranking dc_is_ranking pm_is_ranking cd_is_ranking ct_is_ranking : Value}
    {f_InvalidRow___init__ : Addr} {od_InvalidRow___init__ an_InvalidRow___init__ : Option Addr} {sl_InvalidRow___init__ : Array (Option Value)} {oc_InvalidRow___init__ kV_InvalidRow___init__ dc_InvalidRow___init__ pm_InvalidRow___init__ cd_InvalidRow___init__ ct_InvalidRow___init__ : Value}
    {f_check_row : Addr} {od_check_row an_check_row : Option Addr} {sl_check_row : Array (Option Value)} {oc_check_row kV_check_row dc_check_row pm_check_row cd_check_row ct_check_row : Value}
    {f_InvalidRanking___init__ : Addr} {od_InvalidRanking___init__ an_InvalidRanking___init__ : Option Addr} {sl_InvalidRanking___init__ : Array (Option Value)} {oc_InvalidRanking___init__ kV_InvalidRanking___init__ dc_InvalidRanking___init__ pm_InvalidRanking___init__ cd_InvalidRanking___init__ ct_InvalidRanking___init__ : Value}
    {f_check_ranking : Addr} {od_check_ranking an_check_ranking : Option Addr} {sl_check_ranking : Array (Option Value)} {oc_check_ranking kV_check_ranking dc_check_ranking pm_check_ranking cd_check_ranking ct_check_ranking : Value}
    {f_InvalidRule___init__ : Addr} {od_InvalidRule___init__ an_InvalidRule___init__ : Option Addr} {sl_InvalidRule___init__ : Array (Option Value)} {oc_InvalidRule___init__ kV_InvalidRule___init__ dc_InvalidRule___init__ pm_InvalidRule___init__ cd_InvalidRule___init__ ct_InvalidRule___init__ : Value}
    {f_check_rule : Addr} {od_check_rule an_check_rule : Option Addr} {sl_check_rule : Array (Option Value)} {oc_check_rule kV_check_rule dc_check_rule pm_check_rule cd_check_rule ct_check_rule : Value}
    {f_InvalidLot___init__ : Addr} {od_InvalidLot___init__ an_InvalidLot___init__ : Option Addr} {sl_InvalidLot___init__ : Array (Option Value)} {oc_InvalidLot___init__ kV_InvalidLot___init__ dc_InvalidLot___init__ pm_InvalidLot___init__ cd_InvalidLot___init__ ct_InvalidLot___init__ : Value}
    {f_check_lot : Addr} {od_check_lot an_check_lot : Option Addr} {sl_check_lot : Array (Option Value)} {oc_check_lot kV_check_lot dc_check_lot pm_check_lot cd_check_lot ct_check_lot : Value}
    {f_read_book : Addr} {od_read_book an_read_book : Option Addr} {sl_read_book : Array (Option Value)} {oc_read_book kV_read_book dc_read_book pm_read_book cd_read_book ct_read_book : Value}
    {f_row_holds : Addr} {od_row_holds an_row_holds : Option Addr} {sl_row_holds : Array (Option Value)} {oc_row_holds kV_row_holds dc_row_holds pm_row_holds cd_row_holds ct_row_holds : Value}
    {f_all_hold : Addr} {od_all_hold an_all_hold : Option Addr} {sl_all_hold : Array (Option Value)} {oc_all_hold kV_all_hold dc_all_hold pm_all_hold cd_all_hold ct_all_hold : Value}
    {f_NotABook___init__ : Addr} {od_NotABook___init__ an_NotABook___init__ : Option Addr} {sl_NotABook___init__ : Array (Option Value)} {oc_NotABook___init__ kV_NotABook___init__ dc_NotABook___init__ pm_NotABook___init__ cd_NotABook___init__ ct_NotABook___init__ : Value}
    {f_check_book : Addr} {od_check_book an_check_book : Option Addr} {sl_check_book : Array (Option Value)} {oc_check_book kV_check_book dc_check_book pm_check_book cd_check_book ct_check_book : Value}
    {f_Book_rows : Addr} {od_Book_rows an_Book_rows : Option Addr} {sl_Book_rows : Array (Option Value)} {oc_Book_rows kV_Book_rows dc_Book_rows pm_Book_rows cd_Book_rows ct_Book_rows : Value}
    {q_Book_rows : Addr} {rest_Book_rows : List Value}
    {f_Book_names : Addr} {od_Book_names an_Book_names : Option Addr} {sl_Book_names : Array (Option Value)} {oc_Book_names kV_Book_names dc_Book_names pm_Book_names cd_Book_names ct_Book_names : Value}
    {q_Book_names : Addr} {rest_Book_names : List Value}
    {f_holds : Addr} {od_holds an_holds : Option Addr} {sl_holds : Array (Option Value)} {oc_holds kV_holds dc_holds pm_holds cd_holds ct_holds : Value}
    {f_fits : Addr} {od_fits an_fits : Option Addr} {sl_fits : Array (Option Value)} {oc_fits kV_fits dc_fits pm_fits cd_fits ct_fits : Value}
    {f_head_of : Addr} {od_head_of an_head_of : Option Addr} {sl_head_of : Array (Option Value)} {oc_head_of kV_head_of dc_head_of pm_head_of cd_head_of ct_head_of : Value}
    {f_sides : Addr} {od_sides an_sides : Option Addr} {sl_sides : Array (Option Value)} {oc_sides kV_sides dc_sides pm_sides cd_sides ct_sides : Value}
    {f_rules_behind : Addr} {od_rules_behind an_rules_behind : Option Addr} {sl_rules_behind : Array (Option Value)} {oc_rules_behind kV_rules_behind dc_rules_behind pm_rules_behind cd_rules_behind ct_rules_behind : Value}
    {f_steps : Addr} {od_steps an_steps : Option Addr} {sl_steps : Array (Option Value)} {oc_steps kV_steps dc_steps pm_steps cd_steps ct_steps : Value}
    {f_endings : Addr} {od_endings an_endings : Option Addr} {sl_endings : Array (Option Value)} {oc_endings kV_endings dc_endings pm_endings cd_endings ct_endings : Value}
    {f_InvalidNumber___init__ : Addr} {od_InvalidNumber___init__ an_InvalidNumber___init__ : Option Addr} {sl_InvalidNumber___init__ : Array (Option Value)} {oc_InvalidNumber___init__ kV_InvalidNumber___init__ dc_InvalidNumber___init__ pm_InvalidNumber___init__ cd_InvalidNumber___init__ ct_InvalidNumber___init__ : Value}
    {f_check_most : Addr} {od_check_most an_check_most : Option Addr} {sl_check_most : Array (Option Value)} {oc_check_most kV_check_most dc_check_most pm_check_most cd_check_most ct_check_most : Value}
    {f_surely_wrong : Addr} {od_surely_wrong an_surely_wrong : Option Addr} {sl_surely_wrong : Array (Option Value)} {oc_surely_wrong kV_surely_wrong dc_surely_wrong pm_surely_wrong cd_surely_wrong ct_surely_wrong : Value}
    {f_follows_with : Addr} {od_follows_with an_follows_with : Option Addr} {sl_follows_with : Array (Option Value)} {oc_follows_with kV_follows_with dc_follows_with pm_follows_with cd_follows_with ct_follows_with : Value}
    {f_judge : Addr} {od_judge an_judge : Option Addr} {sl_judge : Array (Option Value)} {oc_judge kV_judge dc_judge pm_judge cd_judge ct_judge : Value}
    {f_reasons : Addr} {od_reasons an_reasons : Option Addr} {sl_reasons : Array (Option Value)} {oc_reasons kV_reasons dc_reasons pm_reasons cd_reasons ct_reasons : Value}
    {f_ranking_at : Addr} {od_ranking_at an_ranking_at : Option Addr} {sl_ranking_at : Array (Option Value)} {oc_ranking_at kV_ranking_at dc_ranking_at pm_ranking_at cd_ranking_at ct_ranking_at : Value}
    {f_number_of : Addr} {od_number_of an_number_of : Option Addr} {sl_number_of : Array (Option Value)} {oc_number_of kV_number_of dc_number_of pm_number_of cd_number_of ct_number_of : Value}
    {f_places : Addr} {od_places an_places : Option Addr} {sl_places : Array (Option Value)} {oc_places kV_places dc_places pm_places cd_places ct_places : Value}
    {f_beginnings : Addr} {od_beginnings an_beginnings : Option Addr} {sl_beginnings : Array (Option Value)} {oc_beginnings kV_beginnings dc_beginnings pm_beginnings cd_beginnings ct_beginnings : Value}
    {f__law_purse : Addr} {od__law_purse an__law_purse : Option Addr} {sl__law_purse : Array (Option Value)} {oc__law_purse kV__law_purse dc__law_purse pm__law_purse cd__law_purse ct__law_purse : Value}
    {f__law_draw : Addr} {od__law_draw an__law_draw : Option Addr} {sl__law_draw : Array (Option Value)} {oc__law_draw kV__law_draw dc__law_draw pm__law_draw cd__law_draw ct__law_draw : Value}
    {f__law_sort : Addr} {od__law_sort an__law_sort : Option Addr} {sl__law_sort : Array (Option Value)} {oc__law_sort kV__law_sort dc__law_sort pm__law_sort cd__law_sort ct__law_sort : Value}
    {f_Book___repr__ : Addr} {od_Book___repr__ an_Book___repr__ : Option Addr} {sl_Book___repr__ : Array (Option Value)} {oc_Book___repr__ kV_Book___repr__ dc_Book___repr__ pm_Book___repr__ cd_Book___repr__ ct_Book___repr__ : Value}
    {f__law_attribute : Addr} {od__law_attribute an__law_attribute : Option Addr} {sl__law_attribute : Array (Option Value)} {oc__law_attribute kV__law_attribute dc__law_attribute pm__law_attribute cd__law_attribute ct__law_attribute : Value}
    {f__law_told : Addr} {od__law_told an__law_told : Option Addr} {sl__law_told : Array (Option Value)} {oc__law_told kV__law_told dc__law_told pm__law_told cd__law_told ct__law_told : Value}
    {f__law_labels : Addr} {od__law_labels an__law_labels : Option Addr} {sl__law_labels : Array (Option Value)} {oc__law_labels kV__law_labels dc__law_labels pm__law_labels cd__law_labels ct__law_labels : Value}
    {f__law_all : Addr} {od__law_all an__law_all : Option Addr} {sl__law_all : Array (Option Value)} {oc__law_all kV__law_all dc__law_all pm__law_all cd__law_all ct__law_all : Value}
    {f__law_holds : Addr} {od__law_holds an__law_holds : Option Addr} {sl__law_holds : Array (Option Value)} {oc__law_holds kV__law_holds dc__law_holds pm__law_holds cd__law_holds ct__law_holds : Value}
    {f__law_flipped : Addr} {od__law_flipped an__law_flipped : Option Addr} {sl__law_flipped : Array (Option Value)} {oc__law_flipped kV__law_flipped dc__law_flipped pm__law_flipped cd__law_flipped ct__law_flipped : Value}
    {f__law_signs : Addr} {od__law_signs an__law_signs : Option Addr} {sl__law_signs : Array (Option Value)} {oc__law_signs kV__law_signs dc__law_signs pm__law_signs cd__law_signs ct__law_signs : Value}
    {f__law_rows : Addr} {od__law_rows an__law_rows : Option Addr} {sl__law_rows : Array (Option Value)} {oc__law_rows kV__law_rows dc__law_rows pm__law_rows cd__law_rows ct__law_rows : Value}
    {f__law_spelled : Addr} {od__law_spelled an__law_spelled : Option Addr} {sl__law_spelled : Array (Option Value)} {oc__law_spelled kV__law_spelled dc__law_spelled pm__law_spelled cd__law_spelled ct__law_spelled : Value}
    {f__law_book : Addr} {od__law_book an__law_book : Option Addr} {sl__law_book : Array (Option Value)} {oc__law_book kV__law_book dc__law_book pm__law_book cd__law_book ct__law_book : Value}
    {f__law_wrong_order : Addr} {od__law_wrong_order an__law_wrong_order : Option Addr} {sl__law_wrong_order : Array (Option Value)} {oc__law_wrong_order kV__law_wrong_order dc__law_wrong_order pm__law_wrong_order cd__law_wrong_order ct__law_wrong_order : Value}
    {f__law_firsts : Addr} {od__law_firsts an__law_firsts : Option Addr} {sl__law_firsts : Array (Option Value)} {oc__law_firsts kV__law_firsts dc__law_firsts pm__law_firsts ct__law_firsts : Value}
    {lc__law_firsts lt__law_firsts : Addr} {lo__law_firsts : Value} {ld__law_firsts : Option Addr} {lv__law_firsts : Array Value} {ls__law_firsts : Array (Option Value)}
    {f_Book___init__ : Addr} {od_Book___init__ an_Book___init__ : Option Addr} {sl_Book___init__ : Array (Option Value)} {oc_Book___init__ kV_Book___init__ dc_Book___init__ pm_Book___init__ cd_Book___init__ ct_Book___init__ : Value}
    {f_Book_text : Addr} {od_Book_text an_Book_text : Option Addr} {sl_Book_text : Array (Option Value)} {oc_Book_text kV_Book_text dc_Book_text pm_Book_text cd_Book_text ct_Book_text : Value}
    {q_Book_text : Addr} {rest_Book_text : List Value}
    {f__law_right : Addr} {od__law_right an__law_right : Option Addr} {sl__law_right : Array (Option Value)} {oc__law_right kV__law_right dc__law_right pm__law_right ct__law_right : Value}
    {lc__law_right lt__law_right : Addr} {lo__law_right : Value} {ld__law_right : Option Addr} {lv__law_right : Array Value} {ls__law_right : Array (Option Value)}
    {f_law : Addr} {od_law an_law : Option Addr} {sl_law : Array (Option Value)} {oc_law kV_law dc_law pm_law cd_law ct_law : Value}
    {t_LETTERS : Tok}
    {t_MOST_LETTERS : Tok}
    {t_MOST_ROWS : Tok}
    {t_MOST_RULES : Tok}
    {t_SIGNS : Tok}
    (cm_Book : PySem.W.nsIn K mainGlobals "Book" = some (some (.ref C_Book)))
    (cpg_Book : PySem.W.plainGet K C_Book Str.empty = true)
    (chd_Book : PySem.W.hasDictIn K C_Book = true)
    (cpo_Book : PySem.W.plainOver K C_Book = true)
    (csa_Book : PySem.W.findIn K (.ref C_Book) "__setattr__" = some (some (.builtin "object.__setattr__")))
    (cmk_Book : PySem.W.makesIn K C_Book = true)
    (ckc_Book : PySem.W.keepIn K (.ref C_Book) = true)
    (cia_Book : PySem.W.findIn K (.ref C_Book) "__class__" = some (some (.builtin "object.__class__")))
    (cim_Book : PySem.W.mroIn K C_Book (.type "object") = some true)
    (cm_Broken : PySem.W.nsIn K mainGlobals "Broken" = some (some (.ref C_Broken)))
    (cm_InUse : PySem.W.nsIn K mainGlobals "InUse" = some (some (.ref C_InUse)))
    (cm_InvalidCases : PySem.W.nsIn K mainGlobals "InvalidCases" = some (some (.ref C_InvalidCases)))
    (cm_InvalidClaim : PySem.W.nsIn K mainGlobals "InvalidClaim" = some (some (.ref C_InvalidClaim)))
    (cm_InvalidIndex : PySem.W.nsIn K mainGlobals "InvalidIndex" = some (some (.ref C_InvalidIndex)))
    (cm_InvalidLot : PySem.W.nsIn K mainGlobals "InvalidLot" = some (some (.ref C_InvalidLot)))
    (cm_InvalidName : PySem.W.nsIn K mainGlobals "InvalidName" = some (some (.ref C_InvalidName)))
    (cm_InvalidNumber : PySem.W.nsIn K mainGlobals "InvalidNumber" = some (some (.ref C_InvalidNumber)))
    (cm_InvalidOffers : PySem.W.nsIn K mainGlobals "InvalidOffers" = some (some (.ref C_InvalidOffers)))
    (cm_InvalidRanking : PySem.W.nsIn K mainGlobals "InvalidRanking" = some (some (.ref C_InvalidRanking)))
    (cm_InvalidRow : PySem.W.nsIn K mainGlobals "InvalidRow" = some (some (.ref C_InvalidRow)))
    (cm_InvalidRule : PySem.W.nsIn K mainGlobals "InvalidRule" = some (some (.ref C_InvalidRule)))
    (cm_InvalidText : PySem.W.nsIn K mainGlobals "InvalidText" = some (some (.ref C_InvalidText)))
    (cm_NoAnswer : PySem.W.nsIn K mainGlobals "NoAnswer" = some (some (.ref C_NoAnswer)))
    (cm_NoRanking : PySem.W.nsIn K mainGlobals "NoRanking" = some (some (.ref C_NoRanking)))
    (cm_NotABook : PySem.W.nsIn K mainGlobals "NotABook" = some (some (.ref C_NotABook)))
    (cm_NotACase : PySem.W.nsIn K mainGlobals "NotACase" = some (some (.ref C_NotACase)))
    (cm_NotACourt : PySem.W.nsIn K mainGlobals "NotACourt" = some (some (.ref C_NotACourt)))
    (cm_NothingToUndo : PySem.W.nsIn K mainGlobals "NothingToUndo" = some (some (.ref C_NothingToUndo)))
    (cm_TooMany : PySem.W.nsIn K mainGlobals "TooMany" = some (some (.ref C_TooMany)))
    (cm_UnknownName : PySem.W.nsIn K mainGlobals "UnknownName" = some (some (.ref C_UnknownName)))
    (cm_WrongValue : PySem.W.nsIn K mainGlobals "WrongValue" = some (some (.ref C_WrongValue)))
    (xh_Broken : PySem.W.hasDictIn K C_Broken = true)
    (xt_Broken : PySem.W.typeIn K (.ref C_Broken) = some (.type "type"))
    (xh_InUse : PySem.W.hasDictIn K C_InUse = true)
    (xt_InUse : PySem.W.typeIn K (.ref C_InUse) = some (.type "type"))
    (xh_InvalidCases : PySem.W.hasDictIn K C_InvalidCases = true)
    (xt_InvalidCases : PySem.W.typeIn K (.ref C_InvalidCases) = some (.type "type"))
    (xh_InvalidClaim : PySem.W.hasDictIn K C_InvalidClaim = true)
    (xt_InvalidClaim : PySem.W.typeIn K (.ref C_InvalidClaim) = some (.type "type"))
    (xh_InvalidIndex : PySem.W.hasDictIn K C_InvalidIndex = true)
    (xt_InvalidIndex : PySem.W.typeIn K (.ref C_InvalidIndex) = some (.type "type"))
    (xh_InvalidLot : PySem.W.hasDictIn K C_InvalidLot = true)
    (xt_InvalidLot : PySem.W.typeIn K (.ref C_InvalidLot) = some (.type "type"))
    (xh_InvalidName : PySem.W.hasDictIn K C_InvalidName = true)
    (xt_InvalidName : PySem.W.typeIn K (.ref C_InvalidName) = some (.type "type"))
    (xh_InvalidNumber : PySem.W.hasDictIn K C_InvalidNumber = true)
    (xt_InvalidNumber : PySem.W.typeIn K (.ref C_InvalidNumber) = some (.type "type"))
    (xh_InvalidOffers : PySem.W.hasDictIn K C_InvalidOffers = true)
    (xt_InvalidOffers : PySem.W.typeIn K (.ref C_InvalidOffers) = some (.type "type"))
    (xh_InvalidRanking : PySem.W.hasDictIn K C_InvalidRanking = true)
    (xt_InvalidRanking : PySem.W.typeIn K (.ref C_InvalidRanking) = some (.type "type"))
    (xh_InvalidRow : PySem.W.hasDictIn K C_InvalidRow = true)
    (xt_InvalidRow : PySem.W.typeIn K (.ref C_InvalidRow) = some (.type "type"))
    (xh_InvalidRule : PySem.W.hasDictIn K C_InvalidRule = true)
    (xt_InvalidRule : PySem.W.typeIn K (.ref C_InvalidRule) = some (.type "type"))
    (xh_InvalidText : PySem.W.hasDictIn K C_InvalidText = true)
    (xt_InvalidText : PySem.W.typeIn K (.ref C_InvalidText) = some (.type "type"))
    (xh_NoAnswer : PySem.W.hasDictIn K C_NoAnswer = true)
    (xt_NoAnswer : PySem.W.typeIn K (.ref C_NoAnswer) = some (.type "type"))
    (xh_NoRanking : PySem.W.hasDictIn K C_NoRanking = true)
    (xt_NoRanking : PySem.W.typeIn K (.ref C_NoRanking) = some (.type "type"))
    (xh_NotABook : PySem.W.hasDictIn K C_NotABook = true)
    (xt_NotABook : PySem.W.typeIn K (.ref C_NotABook) = some (.type "type"))
    (xh_NotACase : PySem.W.hasDictIn K C_NotACase = true)
    (xt_NotACase : PySem.W.typeIn K (.ref C_NotACase) = some (.type "type"))
    (xh_NotACourt : PySem.W.hasDictIn K C_NotACourt = true)
    (xt_NotACourt : PySem.W.typeIn K (.ref C_NotACourt) = some (.type "type"))
    (xh_NothingToUndo : PySem.W.hasDictIn K C_NothingToUndo = true)
    (xt_NothingToUndo : PySem.W.typeIn K (.ref C_NothingToUndo) = some (.type "type"))
    (xh_TooMany : PySem.W.hasDictIn K C_TooMany = true)
    (xt_TooMany : PySem.W.typeIn K (.ref C_TooMany) = some (.type "type"))
    (xh_UnknownName : PySem.W.hasDictIn K C_UnknownName = true)
    (xt_UnknownName : PySem.W.typeIn K (.ref C_UnknownName) = some (.type "type"))
    (xh_WrongValue : PySem.W.hasDictIn K C_WrongValue = true)
    (xt_WrongValue : PySem.W.typeIn K (.ref C_WrongValue) = some (.type "type"))
    (xs_InvalidLot : PySem.W.subIn K (.ref C_InvalidLot) (.type "BaseException") = some true)
    (xs_InvalidNumber : PySem.W.subIn K (.ref C_InvalidNumber) (.type "BaseException") = some true)
    (xs_InvalidRanking : PySem.W.subIn K (.ref C_InvalidRanking) (.type "BaseException") = some true)
    (xs_InvalidRow : PySem.W.subIn K (.ref C_InvalidRow) (.type "BaseException") = some true)
    (xs_InvalidRule : PySem.W.subIn K (.ref C_InvalidRule) (.type "BaseException") = some true)
    (xs_NoAnswer : PySem.W.subIn K (.ref C_NoAnswer) (.type "BaseException") = some true)
    (xs_NotABook : PySem.W.subIn K (.ref C_NotABook) (.type "BaseException") = some true)
    (xs_WrongValue : PySem.W.subIn K (.ref C_WrongValue) (.type "BaseException") = some true)
    (xga_InvalidLot : PySem.W.findIn K (.ref C_InvalidLot) "__getattribute__" = some (some (.builtin "BaseException.__getattribute__")))
    (xgt_InvalidLot : PySem.W.findIn K (.ref C_InvalidLot) "__getattr__" = some (none))
    (xcl_InvalidLot : PySem.W.findIn K (.ref C_InvalidLot) "__class__" = some (some (.builtin "object.__class__")))
    (xo_InvalidLot : PySem.W.mroIn K C_InvalidLot (.type "object") = some true)
    (xp_InvalidLot : PySem.W.keepIn K (.ref C_InvalidLot) = true)
    (xu_InvalidLot_InvalidText : PySem.W.subIn K (.ref C_InvalidLot) (.ref C_InvalidText) = some false)
    (xn_InvalidLot_InvalidText : (C_InvalidLot == C_InvalidText) = false)
    (xu_InvalidLot_InvalidNumber : PySem.W.subIn K (.ref C_InvalidLot) (.ref C_InvalidNumber) = some false)
    (xn_InvalidLot_InvalidNumber : (C_InvalidLot == C_InvalidNumber) = false)
    (xu_InvalidLot_InvalidName : PySem.W.subIn K (.ref C_InvalidLot) (.ref C_InvalidName) = some false)
    (xn_InvalidLot_InvalidName : (C_InvalidLot == C_InvalidName) = false)
    (xu_InvalidLot_InvalidIndex : PySem.W.subIn K (.ref C_InvalidLot) (.ref C_InvalidIndex) = some false)
    (xn_InvalidLot_InvalidIndex : (C_InvalidLot == C_InvalidIndex) = false)
    (xu_InvalidLot_InvalidClaim : PySem.W.subIn K (.ref C_InvalidLot) (.ref C_InvalidClaim) = some false)
    (xn_InvalidLot_InvalidClaim : (C_InvalidLot == C_InvalidClaim) = false)
    (xu_InvalidLot_InvalidRow : PySem.W.subIn K (.ref C_InvalidLot) (.ref C_InvalidRow) = some false)
    (xn_InvalidLot_InvalidRow : (C_InvalidLot == C_InvalidRow) = false)
    (xu_InvalidLot_InvalidRanking : PySem.W.subIn K (.ref C_InvalidLot) (.ref C_InvalidRanking) = some false)
    (xn_InvalidLot_InvalidRanking : (C_InvalidLot == C_InvalidRanking) = false)
    (xu_InvalidLot_InvalidRule : PySem.W.subIn K (.ref C_InvalidLot) (.ref C_InvalidRule) = some false)
    (xn_InvalidLot_InvalidRule : (C_InvalidLot == C_InvalidRule) = false)
    (xu_InvalidLot_UnknownName : PySem.W.subIn K (.ref C_InvalidLot) (.ref C_UnknownName) = some false)
    (xn_InvalidLot_UnknownName : (C_InvalidLot == C_UnknownName) = false)
    (xu_InvalidLot_NotABook : PySem.W.subIn K (.ref C_InvalidLot) (.ref C_NotABook) = some false)
    (xn_InvalidLot_NotABook : (C_InvalidLot == C_NotABook) = false)
    (xu_InvalidLot_NotACase : PySem.W.subIn K (.ref C_InvalidLot) (.ref C_NotACase) = some false)
    (xn_InvalidLot_NotACase : (C_InvalidLot == C_NotACase) = false)
    (xu_InvalidLot_NotACourt : PySem.W.subIn K (.ref C_InvalidLot) (.ref C_NotACourt) = some false)
    (xn_InvalidLot_NotACourt : (C_InvalidLot == C_NotACourt) = false)
    (xu_InvalidLot_InvalidLot : PySem.W.subIn K (.ref C_InvalidLot) (.ref C_InvalidLot) = some true)
    (xu_InvalidLot_InvalidOffers : PySem.W.subIn K (.ref C_InvalidLot) (.ref C_InvalidOffers) = some false)
    (xn_InvalidLot_InvalidOffers : (C_InvalidLot == C_InvalidOffers) = false)
    (xu_InvalidLot_InvalidCases : PySem.W.subIn K (.ref C_InvalidLot) (.ref C_InvalidCases) = some false)
    (xn_InvalidLot_InvalidCases : (C_InvalidLot == C_InvalidCases) = false)
    (xu_InvalidLot_NoRanking : PySem.W.subIn K (.ref C_InvalidLot) (.ref C_NoRanking) = some false)
    (xn_InvalidLot_NoRanking : (C_InvalidLot == C_NoRanking) = false)
    (xu_InvalidLot_TooMany : PySem.W.subIn K (.ref C_InvalidLot) (.ref C_TooMany) = some false)
    (xn_InvalidLot_TooMany : (C_InvalidLot == C_TooMany) = false)
    (xu_InvalidLot_Broken : PySem.W.subIn K (.ref C_InvalidLot) (.ref C_Broken) = some false)
    (xn_InvalidLot_Broken : (C_InvalidLot == C_Broken) = false)
    (xu_InvalidLot_InUse : PySem.W.subIn K (.ref C_InvalidLot) (.ref C_InUse) = some false)
    (xn_InvalidLot_InUse : (C_InvalidLot == C_InUse) = false)
    (xu_InvalidLot_NothingToUndo : PySem.W.subIn K (.ref C_InvalidLot) (.ref C_NothingToUndo) = some false)
    (xn_InvalidLot_NothingToUndo : (C_InvalidLot == C_NothingToUndo) = false)
    (xu_InvalidLot_WrongValue : PySem.W.subIn K (.ref C_InvalidLot) (.ref C_WrongValue) = some true)
    (xu_InvalidLot_NoAnswer : PySem.W.subIn K (.ref C_InvalidLot) (.ref C_NoAnswer) = some false)
    (xn_InvalidLot_NoAnswer : (C_InvalidLot == C_NoAnswer) = false)
    (xL_InvalidLot : K.lookup C_InvalidLot = some (PySem.excClassObj xnm_InvalidLot xq_InvalidLot C_InvalidLot xN_InvalidLot xbs_InvalidLot xbm_InvalidLot true xw0_InvalidLot xw1_InvalidLot xw2_InvalidLot xw3_InvalidLot xw4_InvalidLot xw5_InvalidLot xw6_InvalidLot xw7_InvalidLot xw8_InvalidLot xw9_InvalidLot "ValueError.__new__"))
    (xR_InvalidLot : HandSPX.refsVE xbm_InvalidLot = true)
    (xa_InvalidLot : PySem.W.findIn K (.ref C_InvalidLot) "__setattr__" = some (some (.builtin "object.__setattr__")))
    (xn_InvalidLot_given : PySem.W.findIn K (.ref C_InvalidLot) "given" = some none)
    (xn_InvalidLot_index : PySem.W.findIn K (.ref C_InvalidLot) "index" = some none)
    (xn_InvalidLot_number : PySem.W.findIn K (.ref C_InvalidLot) "number" = some none)
    (xn_InvalidLot_told : PySem.W.findIn K (.ref C_InvalidLot) "told" = some none)
    (xga_InvalidNumber : PySem.W.findIn K (.ref C_InvalidNumber) "__getattribute__" = some (some (.builtin "BaseException.__getattribute__")))
    (xgt_InvalidNumber : PySem.W.findIn K (.ref C_InvalidNumber) "__getattr__" = some (none))
    (xcl_InvalidNumber : PySem.W.findIn K (.ref C_InvalidNumber) "__class__" = some (some (.builtin "object.__class__")))
    (xo_InvalidNumber : PySem.W.mroIn K C_InvalidNumber (.type "object") = some true)
    (xp_InvalidNumber : PySem.W.keepIn K (.ref C_InvalidNumber) = true)
    (xu_InvalidNumber_InvalidText : PySem.W.subIn K (.ref C_InvalidNumber) (.ref C_InvalidText) = some false)
    (xn_InvalidNumber_InvalidText : (C_InvalidNumber == C_InvalidText) = false)
    (xu_InvalidNumber_InvalidNumber : PySem.W.subIn K (.ref C_InvalidNumber) (.ref C_InvalidNumber) = some true)
    (xu_InvalidNumber_InvalidName : PySem.W.subIn K (.ref C_InvalidNumber) (.ref C_InvalidName) = some false)
    (xn_InvalidNumber_InvalidName : (C_InvalidNumber == C_InvalidName) = false)
    (xu_InvalidNumber_InvalidIndex : PySem.W.subIn K (.ref C_InvalidNumber) (.ref C_InvalidIndex) = some false)
    (xn_InvalidNumber_InvalidIndex : (C_InvalidNumber == C_InvalidIndex) = false)
    (xu_InvalidNumber_InvalidClaim : PySem.W.subIn K (.ref C_InvalidNumber) (.ref C_InvalidClaim) = some false)
    (xn_InvalidNumber_InvalidClaim : (C_InvalidNumber == C_InvalidClaim) = false)
    (xu_InvalidNumber_InvalidRow : PySem.W.subIn K (.ref C_InvalidNumber) (.ref C_InvalidRow) = some false)
    (xn_InvalidNumber_InvalidRow : (C_InvalidNumber == C_InvalidRow) = false)
    (xu_InvalidNumber_InvalidRanking : PySem.W.subIn K (.ref C_InvalidNumber) (.ref C_InvalidRanking) = some false)
    (xn_InvalidNumber_InvalidRanking : (C_InvalidNumber == C_InvalidRanking) = false)
    (xu_InvalidNumber_InvalidRule : PySem.W.subIn K (.ref C_InvalidNumber) (.ref C_InvalidRule) = some false)
    (xn_InvalidNumber_InvalidRule : (C_InvalidNumber == C_InvalidRule) = false)
    (xu_InvalidNumber_UnknownName : PySem.W.subIn K (.ref C_InvalidNumber) (.ref C_UnknownName) = some false)
    (xn_InvalidNumber_UnknownName : (C_InvalidNumber == C_UnknownName) = false)
    (xu_InvalidNumber_NotABook : PySem.W.subIn K (.ref C_InvalidNumber) (.ref C_NotABook) = some false)
    (xn_InvalidNumber_NotABook : (C_InvalidNumber == C_NotABook) = false)
    (xu_InvalidNumber_NotACase : PySem.W.subIn K (.ref C_InvalidNumber) (.ref C_NotACase) = some false)
    (xn_InvalidNumber_NotACase : (C_InvalidNumber == C_NotACase) = false)
    (xu_InvalidNumber_NotACourt : PySem.W.subIn K (.ref C_InvalidNumber) (.ref C_NotACourt) = some false)
    (xn_InvalidNumber_NotACourt : (C_InvalidNumber == C_NotACourt) = false)
    (xu_InvalidNumber_InvalidLot : PySem.W.subIn K (.ref C_InvalidNumber) (.ref C_InvalidLot) = some false)
    (xn_InvalidNumber_InvalidLot : (C_InvalidNumber == C_InvalidLot) = false)
    (xu_InvalidNumber_InvalidOffers : PySem.W.subIn K (.ref C_InvalidNumber) (.ref C_InvalidOffers) = some false)
    (xn_InvalidNumber_InvalidOffers : (C_InvalidNumber == C_InvalidOffers) = false)
    (xu_InvalidNumber_InvalidCases : PySem.W.subIn K (.ref C_InvalidNumber) (.ref C_InvalidCases) = some false)
    (xn_InvalidNumber_InvalidCases : (C_InvalidNumber == C_InvalidCases) = false)
    (xu_InvalidNumber_NoRanking : PySem.W.subIn K (.ref C_InvalidNumber) (.ref C_NoRanking) = some false)
    (xn_InvalidNumber_NoRanking : (C_InvalidNumber == C_NoRanking) = false)
    (xu_InvalidNumber_TooMany : PySem.W.subIn K (.ref C_InvalidNumber) (.ref C_TooMany) = some false)
    (xn_InvalidNumber_TooMany : (C_InvalidNumber == C_TooMany) = false)
    (xu_InvalidNumber_Broken : PySem.W.subIn K (.ref C_InvalidNumber) (.ref C_Broken) = some false)
    (xn_InvalidNumber_Broken : (C_InvalidNumber == C_Broken) = false)
    (xu_InvalidNumber_InUse : PySem.W.subIn K (.ref C_InvalidNumber) (.ref C_InUse) = some false)
    (xn_InvalidNumber_InUse : (C_InvalidNumber == C_InUse) = false)
    (xu_InvalidNumber_NothingToUndo : PySem.W.subIn K (.ref C_InvalidNumber) (.ref C_NothingToUndo) = some false)
    (xn_InvalidNumber_NothingToUndo : (C_InvalidNumber == C_NothingToUndo) = false)
    (xu_InvalidNumber_WrongValue : PySem.W.subIn K (.ref C_InvalidNumber) (.ref C_WrongValue) = some true)
    (xu_InvalidNumber_NoAnswer : PySem.W.subIn K (.ref C_InvalidNumber) (.ref C_NoAnswer) = some false)
    (xn_InvalidNumber_NoAnswer : (C_InvalidNumber == C_NoAnswer) = false)
    (xL_InvalidNumber : K.lookup C_InvalidNumber = some (PySem.excClassObj xnm_InvalidNumber xq_InvalidNumber C_InvalidNumber xN_InvalidNumber xbs_InvalidNumber xbm_InvalidNumber true xw0_InvalidNumber xw1_InvalidNumber xw2_InvalidNumber xw3_InvalidNumber xw4_InvalidNumber xw5_InvalidNumber xw6_InvalidNumber xw7_InvalidNumber xw8_InvalidNumber xw9_InvalidNumber "ValueError.__new__"))
    (xR_InvalidNumber : HandSPX.refsVE xbm_InvalidNumber = true)
    (xa_InvalidNumber : PySem.W.findIn K (.ref C_InvalidNumber) "__setattr__" = some (some (.builtin "object.__setattr__")))
    (xn_InvalidNumber_given : PySem.W.findIn K (.ref C_InvalidNumber) "given" = some none)
    (xn_InvalidNumber_index : PySem.W.findIn K (.ref C_InvalidNumber) "index" = some none)
    (xn_InvalidNumber_number : PySem.W.findIn K (.ref C_InvalidNumber) "number" = some none)
    (xn_InvalidNumber_told : PySem.W.findIn K (.ref C_InvalidNumber) "told" = some none)
    (xga_InvalidRanking : PySem.W.findIn K (.ref C_InvalidRanking) "__getattribute__" = some (some (.builtin "BaseException.__getattribute__")))
    (xgt_InvalidRanking : PySem.W.findIn K (.ref C_InvalidRanking) "__getattr__" = some (none))
    (xcl_InvalidRanking : PySem.W.findIn K (.ref C_InvalidRanking) "__class__" = some (some (.builtin "object.__class__")))
    (xo_InvalidRanking : PySem.W.mroIn K C_InvalidRanking (.type "object") = some true)
    (xp_InvalidRanking : PySem.W.keepIn K (.ref C_InvalidRanking) = true)
    (xu_InvalidRanking_InvalidText : PySem.W.subIn K (.ref C_InvalidRanking) (.ref C_InvalidText) = some false)
    (xn_InvalidRanking_InvalidText : (C_InvalidRanking == C_InvalidText) = false)
    (xu_InvalidRanking_InvalidNumber : PySem.W.subIn K (.ref C_InvalidRanking) (.ref C_InvalidNumber) = some false)
    (xn_InvalidRanking_InvalidNumber : (C_InvalidRanking == C_InvalidNumber) = false)
    (xu_InvalidRanking_InvalidName : PySem.W.subIn K (.ref C_InvalidRanking) (.ref C_InvalidName) = some false)
    (xn_InvalidRanking_InvalidName : (C_InvalidRanking == C_InvalidName) = false)
    (xu_InvalidRanking_InvalidIndex : PySem.W.subIn K (.ref C_InvalidRanking) (.ref C_InvalidIndex) = some false)
    (xn_InvalidRanking_InvalidIndex : (C_InvalidRanking == C_InvalidIndex) = false)
    (xu_InvalidRanking_InvalidClaim : PySem.W.subIn K (.ref C_InvalidRanking) (.ref C_InvalidClaim) = some false)
    (xn_InvalidRanking_InvalidClaim : (C_InvalidRanking == C_InvalidClaim) = false)
    (xu_InvalidRanking_InvalidRow : PySem.W.subIn K (.ref C_InvalidRanking) (.ref C_InvalidRow) = some false)
    (xn_InvalidRanking_InvalidRow : (C_InvalidRanking == C_InvalidRow) = false)
    (xu_InvalidRanking_InvalidRanking : PySem.W.subIn K (.ref C_InvalidRanking) (.ref C_InvalidRanking) = some true)
    (xu_InvalidRanking_InvalidRule : PySem.W.subIn K (.ref C_InvalidRanking) (.ref C_InvalidRule) = some false)
    (xn_InvalidRanking_InvalidRule : (C_InvalidRanking == C_InvalidRule) = false)
    (xu_InvalidRanking_UnknownName : PySem.W.subIn K (.ref C_InvalidRanking) (.ref C_UnknownName) = some false)
    (xn_InvalidRanking_UnknownName : (C_InvalidRanking == C_UnknownName) = false)
    (xu_InvalidRanking_NotABook : PySem.W.subIn K (.ref C_InvalidRanking) (.ref C_NotABook) = some false)
    (xn_InvalidRanking_NotABook : (C_InvalidRanking == C_NotABook) = false)
    (xu_InvalidRanking_NotACase : PySem.W.subIn K (.ref C_InvalidRanking) (.ref C_NotACase) = some false)
    (xn_InvalidRanking_NotACase : (C_InvalidRanking == C_NotACase) = false)
    (xu_InvalidRanking_NotACourt : PySem.W.subIn K (.ref C_InvalidRanking) (.ref C_NotACourt) = some false)
    (xn_InvalidRanking_NotACourt : (C_InvalidRanking == C_NotACourt) = false)
    (xu_InvalidRanking_InvalidLot : PySem.W.subIn K (.ref C_InvalidRanking) (.ref C_InvalidLot) = some false)
    (xn_InvalidRanking_InvalidLot : (C_InvalidRanking == C_InvalidLot) = false)
    (xu_InvalidRanking_InvalidOffers : PySem.W.subIn K (.ref C_InvalidRanking) (.ref C_InvalidOffers) = some false)
    (xn_InvalidRanking_InvalidOffers : (C_InvalidRanking == C_InvalidOffers) = false)
    (xu_InvalidRanking_InvalidCases : PySem.W.subIn K (.ref C_InvalidRanking) (.ref C_InvalidCases) = some false)
    (xn_InvalidRanking_InvalidCases : (C_InvalidRanking == C_InvalidCases) = false)
    (xu_InvalidRanking_NoRanking : PySem.W.subIn K (.ref C_InvalidRanking) (.ref C_NoRanking) = some false)
    (xn_InvalidRanking_NoRanking : (C_InvalidRanking == C_NoRanking) = false)
    (xu_InvalidRanking_TooMany : PySem.W.subIn K (.ref C_InvalidRanking) (.ref C_TooMany) = some false)
    (xn_InvalidRanking_TooMany : (C_InvalidRanking == C_TooMany) = false)
    (xu_InvalidRanking_Broken : PySem.W.subIn K (.ref C_InvalidRanking) (.ref C_Broken) = some false)
    (xn_InvalidRanking_Broken : (C_InvalidRanking == C_Broken) = false)
    (xu_InvalidRanking_InUse : PySem.W.subIn K (.ref C_InvalidRanking) (.ref C_InUse) = some false)
    (xn_InvalidRanking_InUse : (C_InvalidRanking == C_InUse) = false)
    (xu_InvalidRanking_NothingToUndo : PySem.W.subIn K (.ref C_InvalidRanking) (.ref C_NothingToUndo) = some false)
    (xn_InvalidRanking_NothingToUndo : (C_InvalidRanking == C_NothingToUndo) = false)
    (xu_InvalidRanking_WrongValue : PySem.W.subIn K (.ref C_InvalidRanking) (.ref C_WrongValue) = some true)
    (xu_InvalidRanking_NoAnswer : PySem.W.subIn K (.ref C_InvalidRanking) (.ref C_NoAnswer) = some false)
    (xn_InvalidRanking_NoAnswer : (C_InvalidRanking == C_NoAnswer) = false)
    (xL_InvalidRanking : K.lookup C_InvalidRanking = some (PySem.excClassObj xnm_InvalidRanking xq_InvalidRanking C_InvalidRanking xN_InvalidRanking xbs_InvalidRanking xbm_InvalidRanking true xw0_InvalidRanking xw1_InvalidRanking xw2_InvalidRanking xw3_InvalidRanking xw4_InvalidRanking xw5_InvalidRanking xw6_InvalidRanking xw7_InvalidRanking xw8_InvalidRanking xw9_InvalidRanking "ValueError.__new__"))
    (xR_InvalidRanking : HandSPX.refsVE xbm_InvalidRanking = true)
    (xa_InvalidRanking : PySem.W.findIn K (.ref C_InvalidRanking) "__setattr__" = some (some (.builtin "object.__setattr__")))
    (xn_InvalidRanking_given : PySem.W.findIn K (.ref C_InvalidRanking) "given" = some none)
    (xn_InvalidRanking_index : PySem.W.findIn K (.ref C_InvalidRanking) "index" = some none)
    (xn_InvalidRanking_number : PySem.W.findIn K (.ref C_InvalidRanking) "number" = some none)
    (xn_InvalidRanking_told : PySem.W.findIn K (.ref C_InvalidRanking) "told" = some none)
    (xga_InvalidRow : PySem.W.findIn K (.ref C_InvalidRow) "__getattribute__" = some (some (.builtin "BaseException.__getattribute__")))
    (xgt_InvalidRow : PySem.W.findIn K (.ref C_InvalidRow) "__getattr__" = some (none))
    (xcl_InvalidRow : PySem.W.findIn K (.ref C_InvalidRow) "__class__" = some (some (.builtin "object.__class__")))
    (xo_InvalidRow : PySem.W.mroIn K C_InvalidRow (.type "object") = some true)
    (xp_InvalidRow : PySem.W.keepIn K (.ref C_InvalidRow) = true)
    (xu_InvalidRow_InvalidText : PySem.W.subIn K (.ref C_InvalidRow) (.ref C_InvalidText) = some false)
    (xn_InvalidRow_InvalidText : (C_InvalidRow == C_InvalidText) = false)
    (xu_InvalidRow_InvalidNumber : PySem.W.subIn K (.ref C_InvalidRow) (.ref C_InvalidNumber) = some false)
    (xn_InvalidRow_InvalidNumber : (C_InvalidRow == C_InvalidNumber) = false)
    (xu_InvalidRow_InvalidName : PySem.W.subIn K (.ref C_InvalidRow) (.ref C_InvalidName) = some false)
    (xn_InvalidRow_InvalidName : (C_InvalidRow == C_InvalidName) = false)
    (xu_InvalidRow_InvalidIndex : PySem.W.subIn K (.ref C_InvalidRow) (.ref C_InvalidIndex) = some false)
    (xn_InvalidRow_InvalidIndex : (C_InvalidRow == C_InvalidIndex) = false)
    (xu_InvalidRow_InvalidClaim : PySem.W.subIn K (.ref C_InvalidRow) (.ref C_InvalidClaim) = some false)
    (xn_InvalidRow_InvalidClaim : (C_InvalidRow == C_InvalidClaim) = false)
    (xu_InvalidRow_InvalidRow : PySem.W.subIn K (.ref C_InvalidRow) (.ref C_InvalidRow) = some true)
    (xu_InvalidRow_InvalidRanking : PySem.W.subIn K (.ref C_InvalidRow) (.ref C_InvalidRanking) = some false)
    (xn_InvalidRow_InvalidRanking : (C_InvalidRow == C_InvalidRanking) = false)
    (xu_InvalidRow_InvalidRule : PySem.W.subIn K (.ref C_InvalidRow) (.ref C_InvalidRule) = some false)
    (xn_InvalidRow_InvalidRule : (C_InvalidRow == C_InvalidRule) = false)
    (xu_InvalidRow_UnknownName : PySem.W.subIn K (.ref C_InvalidRow) (.ref C_UnknownName) = some false)
    (xn_InvalidRow_UnknownName : (C_InvalidRow == C_UnknownName) = false)
    (xu_InvalidRow_NotABook : PySem.W.subIn K (.ref C_InvalidRow) (.ref C_NotABook) = some false)
    (xn_InvalidRow_NotABook : (C_InvalidRow == C_NotABook) = false)
    (xu_InvalidRow_NotACase : PySem.W.subIn K (.ref C_InvalidRow) (.ref C_NotACase) = some false)
    (xn_InvalidRow_NotACase : (C_InvalidRow == C_NotACase) = false)
    (xu_InvalidRow_NotACourt : PySem.W.subIn K (.ref C_InvalidRow) (.ref C_NotACourt) = some false)
    (xn_InvalidRow_NotACourt : (C_InvalidRow == C_NotACourt) = false)
    (xu_InvalidRow_InvalidLot : PySem.W.subIn K (.ref C_InvalidRow) (.ref C_InvalidLot) = some false)
    (xn_InvalidRow_InvalidLot : (C_InvalidRow == C_InvalidLot) = false)
    (xu_InvalidRow_InvalidOffers : PySem.W.subIn K (.ref C_InvalidRow) (.ref C_InvalidOffers) = some false)
    (xn_InvalidRow_InvalidOffers : (C_InvalidRow == C_InvalidOffers) = false)
    (xu_InvalidRow_InvalidCases : PySem.W.subIn K (.ref C_InvalidRow) (.ref C_InvalidCases) = some false)
    (xn_InvalidRow_InvalidCases : (C_InvalidRow == C_InvalidCases) = false)
    (xu_InvalidRow_NoRanking : PySem.W.subIn K (.ref C_InvalidRow) (.ref C_NoRanking) = some false)
    (xn_InvalidRow_NoRanking : (C_InvalidRow == C_NoRanking) = false)
    (xu_InvalidRow_TooMany : PySem.W.subIn K (.ref C_InvalidRow) (.ref C_TooMany) = some false)
    (xn_InvalidRow_TooMany : (C_InvalidRow == C_TooMany) = false)
    (xu_InvalidRow_Broken : PySem.W.subIn K (.ref C_InvalidRow) (.ref C_Broken) = some false)
    (xn_InvalidRow_Broken : (C_InvalidRow == C_Broken) = false)
    (xu_InvalidRow_InUse : PySem.W.subIn K (.ref C_InvalidRow) (.ref C_InUse) = some false)
    (xn_InvalidRow_InUse : (C_InvalidRow == C_InUse) = false)
    (xu_InvalidRow_NothingToUndo : PySem.W.subIn K (.ref C_InvalidRow) (.ref C_NothingToUndo) = some false)
    (xn_InvalidRow_NothingToUndo : (C_InvalidRow == C_NothingToUndo) = false)
    (xu_InvalidRow_WrongValue : PySem.W.subIn K (.ref C_InvalidRow) (.ref C_WrongValue) = some true)
    (xu_InvalidRow_NoAnswer : PySem.W.subIn K (.ref C_InvalidRow) (.ref C_NoAnswer) = some false)
    (xn_InvalidRow_NoAnswer : (C_InvalidRow == C_NoAnswer) = false)
    (xL_InvalidRow : K.lookup C_InvalidRow = some (PySem.excClassObj xnm_InvalidRow xq_InvalidRow C_InvalidRow xN_InvalidRow xbs_InvalidRow xbm_InvalidRow true xw0_InvalidRow xw1_InvalidRow xw2_InvalidRow xw3_InvalidRow xw4_InvalidRow xw5_InvalidRow xw6_InvalidRow xw7_InvalidRow xw8_InvalidRow xw9_InvalidRow "ValueError.__new__"))
    (xR_InvalidRow : HandSPX.refsVE xbm_InvalidRow = true)
    (xa_InvalidRow : PySem.W.findIn K (.ref C_InvalidRow) "__setattr__" = some (some (.builtin "object.__setattr__")))
    (xn_InvalidRow_given : PySem.W.findIn K (.ref C_InvalidRow) "given" = some none)
    (xn_InvalidRow_index : PySem.W.findIn K (.ref C_InvalidRow) "index" = some none)
    (xn_InvalidRow_number : PySem.W.findIn K (.ref C_InvalidRow) "number" = some none)
    (xn_InvalidRow_told : PySem.W.findIn K (.ref C_InvalidRow) "told" = some none)
    (xga_InvalidRule : PySem.W.findIn K (.ref C_InvalidRule) "__getattribute__" = some (some (.builtin "BaseException.__getattribute__")))
    (xgt_InvalidRule : PySem.W.findIn K (.ref C_InvalidRule) "__getattr__" = some (none))
    (xcl_InvalidRule : PySem.W.findIn K (.ref C_InvalidRule) "__class__" = some (some (.builtin "object.__class__")))
    (xo_InvalidRule : PySem.W.mroIn K C_InvalidRule (.type "object") = some true)
    (xp_InvalidRule : PySem.W.keepIn K (.ref C_InvalidRule) = true)
    (xu_InvalidRule_InvalidText : PySem.W.subIn K (.ref C_InvalidRule) (.ref C_InvalidText) = some false)
    (xn_InvalidRule_InvalidText : (C_InvalidRule == C_InvalidText) = false)
    (xu_InvalidRule_InvalidNumber : PySem.W.subIn K (.ref C_InvalidRule) (.ref C_InvalidNumber) = some false)
    (xn_InvalidRule_InvalidNumber : (C_InvalidRule == C_InvalidNumber) = false)
    (xu_InvalidRule_InvalidName : PySem.W.subIn K (.ref C_InvalidRule) (.ref C_InvalidName) = some false)
    (xn_InvalidRule_InvalidName : (C_InvalidRule == C_InvalidName) = false)
    (xu_InvalidRule_InvalidIndex : PySem.W.subIn K (.ref C_InvalidRule) (.ref C_InvalidIndex) = some false)
    (xn_InvalidRule_InvalidIndex : (C_InvalidRule == C_InvalidIndex) = false)
    (xu_InvalidRule_InvalidClaim : PySem.W.subIn K (.ref C_InvalidRule) (.ref C_InvalidClaim) = some false)
    (xn_InvalidRule_InvalidClaim : (C_InvalidRule == C_InvalidClaim) = false)
    (xu_InvalidRule_InvalidRow : PySem.W.subIn K (.ref C_InvalidRule) (.ref C_InvalidRow) = some false)
    (xn_InvalidRule_InvalidRow : (C_InvalidRule == C_InvalidRow) = false)
    (xu_InvalidRule_InvalidRanking : PySem.W.subIn K (.ref C_InvalidRule) (.ref C_InvalidRanking) = some false)
    (xn_InvalidRule_InvalidRanking : (C_InvalidRule == C_InvalidRanking) = false)
    (xu_InvalidRule_InvalidRule : PySem.W.subIn K (.ref C_InvalidRule) (.ref C_InvalidRule) = some true)
    (xu_InvalidRule_UnknownName : PySem.W.subIn K (.ref C_InvalidRule) (.ref C_UnknownName) = some false)
    (xn_InvalidRule_UnknownName : (C_InvalidRule == C_UnknownName) = false)
    (xu_InvalidRule_NotABook : PySem.W.subIn K (.ref C_InvalidRule) (.ref C_NotABook) = some false)
    (xn_InvalidRule_NotABook : (C_InvalidRule == C_NotABook) = false)
    (xu_InvalidRule_NotACase : PySem.W.subIn K (.ref C_InvalidRule) (.ref C_NotACase) = some false)
    (xn_InvalidRule_NotACase : (C_InvalidRule == C_NotACase) = false)
    (xu_InvalidRule_NotACourt : PySem.W.subIn K (.ref C_InvalidRule) (.ref C_NotACourt) = some false)
    (xn_InvalidRule_NotACourt : (C_InvalidRule == C_NotACourt) = false)
    (xu_InvalidRule_InvalidLot : PySem.W.subIn K (.ref C_InvalidRule) (.ref C_InvalidLot) = some false)
    (xn_InvalidRule_InvalidLot : (C_InvalidRule == C_InvalidLot) = false)
    (xu_InvalidRule_InvalidOffers : PySem.W.subIn K (.ref C_InvalidRule) (.ref C_InvalidOffers) = some false)
    (xn_InvalidRule_InvalidOffers : (C_InvalidRule == C_InvalidOffers) = false)
    (xu_InvalidRule_InvalidCases : PySem.W.subIn K (.ref C_InvalidRule) (.ref C_InvalidCases) = some false)
    (xn_InvalidRule_InvalidCases : (C_InvalidRule == C_InvalidCases) = false)
    (xu_InvalidRule_NoRanking : PySem.W.subIn K (.ref C_InvalidRule) (.ref C_NoRanking) = some false)
    (xn_InvalidRule_NoRanking : (C_InvalidRule == C_NoRanking) = false)
    (xu_InvalidRule_TooMany : PySem.W.subIn K (.ref C_InvalidRule) (.ref C_TooMany) = some false)
    (xn_InvalidRule_TooMany : (C_InvalidRule == C_TooMany) = false)
    (xu_InvalidRule_Broken : PySem.W.subIn K (.ref C_InvalidRule) (.ref C_Broken) = some false)
    (xn_InvalidRule_Broken : (C_InvalidRule == C_Broken) = false)
    (xu_InvalidRule_InUse : PySem.W.subIn K (.ref C_InvalidRule) (.ref C_InUse) = some false)
    (xn_InvalidRule_InUse : (C_InvalidRule == C_InUse) = false)
    (xu_InvalidRule_NothingToUndo : PySem.W.subIn K (.ref C_InvalidRule) (.ref C_NothingToUndo) = some false)
    (xn_InvalidRule_NothingToUndo : (C_InvalidRule == C_NothingToUndo) = false)
    (xu_InvalidRule_WrongValue : PySem.W.subIn K (.ref C_InvalidRule) (.ref C_WrongValue) = some true)
    (xu_InvalidRule_NoAnswer : PySem.W.subIn K (.ref C_InvalidRule) (.ref C_NoAnswer) = some false)
    (xn_InvalidRule_NoAnswer : (C_InvalidRule == C_NoAnswer) = false)
    (xL_InvalidRule : K.lookup C_InvalidRule = some (PySem.excClassObj xnm_InvalidRule xq_InvalidRule C_InvalidRule xN_InvalidRule xbs_InvalidRule xbm_InvalidRule true xw0_InvalidRule xw1_InvalidRule xw2_InvalidRule xw3_InvalidRule xw4_InvalidRule xw5_InvalidRule xw6_InvalidRule xw7_InvalidRule xw8_InvalidRule xw9_InvalidRule "ValueError.__new__"))
    (xR_InvalidRule : HandSPX.refsVE xbm_InvalidRule = true)
    (xa_InvalidRule : PySem.W.findIn K (.ref C_InvalidRule) "__setattr__" = some (some (.builtin "object.__setattr__")))
    (xn_InvalidRule_given : PySem.W.findIn K (.ref C_InvalidRule) "given" = some none)
    (xn_InvalidRule_index : PySem.W.findIn K (.ref C_InvalidRule) "index" = some none)
    (xn_InvalidRule_number : PySem.W.findIn K (.ref C_InvalidRule) "number" = some none)
    (xn_InvalidRule_told : PySem.W.findIn K (.ref C_InvalidRule) "told" = some none)
    (xga_NotABook : PySem.W.findIn K (.ref C_NotABook) "__getattribute__" = some (some (.builtin "BaseException.__getattribute__")))
    (xgt_NotABook : PySem.W.findIn K (.ref C_NotABook) "__getattr__" = some (none))
    (xcl_NotABook : PySem.W.findIn K (.ref C_NotABook) "__class__" = some (some (.builtin "object.__class__")))
    (xo_NotABook : PySem.W.mroIn K C_NotABook (.type "object") = some true)
    (xp_NotABook : PySem.W.keepIn K (.ref C_NotABook) = true)
    (xu_NotABook_InvalidText : PySem.W.subIn K (.ref C_NotABook) (.ref C_InvalidText) = some false)
    (xn_NotABook_InvalidText : (C_NotABook == C_InvalidText) = false)
    (xu_NotABook_InvalidNumber : PySem.W.subIn K (.ref C_NotABook) (.ref C_InvalidNumber) = some false)
    (xn_NotABook_InvalidNumber : (C_NotABook == C_InvalidNumber) = false)
    (xu_NotABook_InvalidName : PySem.W.subIn K (.ref C_NotABook) (.ref C_InvalidName) = some false)
    (xn_NotABook_InvalidName : (C_NotABook == C_InvalidName) = false)
    (xu_NotABook_InvalidIndex : PySem.W.subIn K (.ref C_NotABook) (.ref C_InvalidIndex) = some false)
    (xn_NotABook_InvalidIndex : (C_NotABook == C_InvalidIndex) = false)
    (xu_NotABook_InvalidClaim : PySem.W.subIn K (.ref C_NotABook) (.ref C_InvalidClaim) = some false)
    (xn_NotABook_InvalidClaim : (C_NotABook == C_InvalidClaim) = false)
    (xu_NotABook_InvalidRow : PySem.W.subIn K (.ref C_NotABook) (.ref C_InvalidRow) = some false)
    (xn_NotABook_InvalidRow : (C_NotABook == C_InvalidRow) = false)
    (xu_NotABook_InvalidRanking : PySem.W.subIn K (.ref C_NotABook) (.ref C_InvalidRanking) = some false)
    (xn_NotABook_InvalidRanking : (C_NotABook == C_InvalidRanking) = false)
    (xu_NotABook_InvalidRule : PySem.W.subIn K (.ref C_NotABook) (.ref C_InvalidRule) = some false)
    (xn_NotABook_InvalidRule : (C_NotABook == C_InvalidRule) = false)
    (xu_NotABook_UnknownName : PySem.W.subIn K (.ref C_NotABook) (.ref C_UnknownName) = some false)
    (xn_NotABook_UnknownName : (C_NotABook == C_UnknownName) = false)
    (xu_NotABook_NotABook : PySem.W.subIn K (.ref C_NotABook) (.ref C_NotABook) = some true)
    (xu_NotABook_NotACase : PySem.W.subIn K (.ref C_NotABook) (.ref C_NotACase) = some false)
    (xn_NotABook_NotACase : (C_NotABook == C_NotACase) = false)
    (xu_NotABook_NotACourt : PySem.W.subIn K (.ref C_NotABook) (.ref C_NotACourt) = some false)
    (xn_NotABook_NotACourt : (C_NotABook == C_NotACourt) = false)
    (xu_NotABook_InvalidLot : PySem.W.subIn K (.ref C_NotABook) (.ref C_InvalidLot) = some false)
    (xn_NotABook_InvalidLot : (C_NotABook == C_InvalidLot) = false)
    (xu_NotABook_InvalidOffers : PySem.W.subIn K (.ref C_NotABook) (.ref C_InvalidOffers) = some false)
    (xn_NotABook_InvalidOffers : (C_NotABook == C_InvalidOffers) = false)
    (xu_NotABook_InvalidCases : PySem.W.subIn K (.ref C_NotABook) (.ref C_InvalidCases) = some false)
    (xn_NotABook_InvalidCases : (C_NotABook == C_InvalidCases) = false)
    (xu_NotABook_NoRanking : PySem.W.subIn K (.ref C_NotABook) (.ref C_NoRanking) = some false)
    (xn_NotABook_NoRanking : (C_NotABook == C_NoRanking) = false)
    (xu_NotABook_TooMany : PySem.W.subIn K (.ref C_NotABook) (.ref C_TooMany) = some false)
    (xn_NotABook_TooMany : (C_NotABook == C_TooMany) = false)
    (xu_NotABook_Broken : PySem.W.subIn K (.ref C_NotABook) (.ref C_Broken) = some false)
    (xn_NotABook_Broken : (C_NotABook == C_Broken) = false)
    (xu_NotABook_InUse : PySem.W.subIn K (.ref C_NotABook) (.ref C_InUse) = some false)
    (xn_NotABook_InUse : (C_NotABook == C_InUse) = false)
    (xu_NotABook_NothingToUndo : PySem.W.subIn K (.ref C_NotABook) (.ref C_NothingToUndo) = some false)
    (xn_NotABook_NothingToUndo : (C_NotABook == C_NothingToUndo) = false)
    (xu_NotABook_WrongValue : PySem.W.subIn K (.ref C_NotABook) (.ref C_WrongValue) = some true)
    (xu_NotABook_NoAnswer : PySem.W.subIn K (.ref C_NotABook) (.ref C_NoAnswer) = some false)
    (xn_NotABook_NoAnswer : (C_NotABook == C_NoAnswer) = false)
    (xL_NotABook : K.lookup C_NotABook = some (PySem.excClassObj xnm_NotABook xq_NotABook C_NotABook xN_NotABook xbs_NotABook xbm_NotABook true xw0_NotABook xw1_NotABook xw2_NotABook xw3_NotABook xw4_NotABook xw5_NotABook xw6_NotABook xw7_NotABook xw8_NotABook xw9_NotABook "ValueError.__new__"))
    (xR_NotABook : HandSPX.refsVE xbm_NotABook = true)
    (xa_NotABook : PySem.W.findIn K (.ref C_NotABook) "__setattr__" = some (some (.builtin "object.__setattr__")))
    (xn_NotABook_given : PySem.W.findIn K (.ref C_NotABook) "given" = some none)
    (xn_NotABook_index : PySem.W.findIn K (.ref C_NotABook) "index" = some none)
    (xn_NotABook_number : PySem.W.findIn K (.ref C_NotABook) "number" = some none)
    (xn_NotABook_told : PySem.W.findIn K (.ref C_NotABook) "told" = some none)
    (ihn : PySem.W.specialIn K (.builtin "object.__class__") "__get__" = some (some (.builtin "getset_descriptor.__get__")))
    (iht : PySem.W.takesIn K (.builtin "object.__class__") = some true)
    (a_is_name : PySem.W.nsIn K mainGlobals "is_name" = some (some (.ref f_is_name)))
    (l_is_name : K.lookup f_is_name = some ⟨oc_is_name, od_is_name, .func (PySem.W.fnOf "is_name" "is_name" (defArgs s_is_name) (defBody s_is_name) (defScope s_is_name) .none kV_is_name dc_is_name pm_is_name an_is_name cd_is_name ct_is_name), sl_is_name⟩)
    (c_is_name : PySem.W.codeIn K cd_is_name "is_name" = true)
    (k_is_name : PySem.W.keepIn K (.ref f_is_name) = true)
    (a_are_names : PySem.W.nsIn K mainGlobals "are_names" = some (some (.ref f_are_names)))
    (l_are_names : K.lookup f_are_names = some ⟨oc_are_names, od_are_names, .func (PySem.W.fnOf "are_names" "are_names" (defArgs s_are_names) (defBody s_are_names) (defScope s_are_names) .none kV_are_names dc_are_names pm_are_names an_are_names cd_are_names ct_are_names), sl_are_names⟩)
    (c_are_names : PySem.W.codeIn K cd_are_names "are_names" = true)
    (k_are_names : PySem.W.keepIn K (.ref f_are_names) = true)
    (a_is_any_row : PySem.W.nsIn K mainGlobals "is_any_row" = some (some (.ref f_is_any_row)))
    (l_is_any_row : K.lookup f_is_any_row = some ⟨oc_is_any_row, od_is_any_row, .func (PySem.W.fnOf "is_any_row" "is_any_row" (defArgs s_is_any_row) (defBody s_is_any_row) (defScope s_is_any_row) .none kV_is_any_row dc_is_any_row pm_is_any_row an_is_any_row cd_is_any_row ct_is_any_row), sl_is_any_row⟩)
    (c_is_any_row : PySem.W.codeIn K cd_is_any_row "is_any_row" = true)
    (k_is_any_row : PySem.W.keepIn K (.ref f_is_any_row) = true)
    (a_is_row : PySem.W.nsIn K mainGlobals "is_row" = some (some (.ref f_is_row)))
    (l_is_row : K.lookup f_is_row = some ⟨oc_is_row, od_is_row, .func (PySem.W.fnOf "is_row" "is_row" (defArgs s_is_row) (defBody s_is_row) (defScope s_is_row) .none kV_is_row dc_is_row pm_is_row an_is_row cd_is_row ct_is_row), sl_is_row⟩)
    (c_is_row : PySem.W.codeIn K cd_is_row "is_row" = true)
    (k_is_row : PySem.W.keepIn K (.ref f_is_row) = true)
    (a_is_whole : PySem.W.nsIn K mainGlobals "is_whole" = some (some (.ref f_is_whole)))
    (l_is_whole : K.lookup f_is_whole = some ⟨oc_is_whole, od_is_whole, .func (PySem.W.fnOf "is_whole" "is_whole" (defArgs s_is_whole) (defBody s_is_whole) (defScope s_is_whole) .none kV_is_whole dc_is_whole pm_is_whole an_is_whole cd_is_whole ct_is_whole), sl_is_whole⟩)
    (c_is_whole : PySem.W.codeIn K cd_is_whole "is_whole" = true)
    (k_is_whole : PySem.W.keepIn K (.ref f_is_whole) = true)
    (a_is_index : PySem.W.nsIn K mainGlobals "is_index" = some (some (.ref f_is_index)))
    (l_is_index : K.lookup f_is_index = some ⟨oc_is_index, od_is_index, .func (PySem.W.fnOf "is_index" "is_index" (defArgs s_is_index) (defBody s_is_index) (defScope s_is_index) .none kV_is_index dc_is_index pm_is_index an_is_index cd_is_index ct_is_index), sl_is_index⟩)
    (c_is_index : PySem.W.codeIn K cd_is_index "is_index" = true)
    (k_is_index : PySem.W.keepIn K (.ref f_is_index) = true)
    (a_wrong_in_lot : PySem.W.nsIn K mainGlobals "wrong_in_lot" = some (some (.ref f_wrong_in_lot)))
    (l_wrong_in_lot : K.lookup f_wrong_in_lot = some ⟨oc_wrong_in_lot, od_wrong_in_lot, .func (PySem.W.fnOf "wrong_in_lot" "wrong_in_lot" (defArgs s_wrong_in_lot) (defBody s_wrong_in_lot) (defScope s_wrong_in_lot) .none kV_wrong_in_lot dc_wrong_in_lot pm_wrong_in_lot an_wrong_in_lot cd_wrong_in_lot ct_wrong_in_lot), sl_wrong_in_lot⟩)
    (c_wrong_in_lot : PySem.W.codeIn K cd_wrong_in_lot "wrong_in_lot" = true)
    (k_wrong_in_lot : PySem.W.keepIn K (.ref f_wrong_in_lot) = true)
    (a_is_ranking : PySem.W.nsIn K mainGlobals "is_ranking" = some (some (.ref f_is_ranking)))
    (l_is_ranking : K.lookup f_is_ranking = some ⟨oc_is_ranking, od_is_ranking, .func (PySem.W.fnOf "is_ranking" "is_ranking" (defArgs s_is_ranking) (defBody s_is_ranking) (defScope s_is_ranking) .none kV_is_ranking dc_is_ranking pm_is_ranking an_is_ranking cd_is_ranking ct_is_ranking), sl_is_ranking⟩)
    (c_is_ranking : PySem.W.codeIn K cd_is_ranking "is_ranking" = true)
    (k_is_ranking : PySem.W.keepIn K (.ref f_is_ranking) = true)
    (a_InvalidRow___init__ : PySem.W.findIn K (.ref C_InvalidRow) "__init__" = some (some (.ref f_InvalidRow___init__)))
    (i_InvalidRow___init__ : PySem.W.isFn K (.ref f_InvalidRow___init__) = true)
    (xy_InvalidRow : PySem.W.typeIn K (.ref f_InvalidRow___init__) = some (.type "function"))
    (l_InvalidRow___init__ : K.lookup f_InvalidRow___init__ = some ⟨oc_InvalidRow___init__, od_InvalidRow___init__, .func (PySem.W.fnOf "__init__" "InvalidRow.__init__" (defArgs s_InvalidRow___init__) (defBody s_InvalidRow___init__) (defScope s_InvalidRow___init__) .none kV_InvalidRow___init__ dc_InvalidRow___init__ pm_InvalidRow___init__ an_InvalidRow___init__ cd_InvalidRow___init__ ct_InvalidRow___init__), sl_InvalidRow___init__⟩)
    (c_InvalidRow___init__ : PySem.W.codeIn K cd_InvalidRow___init__ "InvalidRow.__init__" = true)
    (k_InvalidRow___init__ : PySem.W.keepIn K (.ref f_InvalidRow___init__) = true)
    (a_check_row : PySem.W.nsIn K mainGlobals "check_row" = some (some (.ref f_check_row)))
    (l_check_row : K.lookup f_check_row = some ⟨oc_check_row, od_check_row, .func (PySem.W.fnOf "check_row" "check_row" (defArgs s_check_row) (defBody s_check_row) (defScope s_check_row) .none kV_check_row dc_check_row pm_check_row an_check_row cd_check_row ct_check_row), sl_check_row⟩)
    (c_check_row : PySem.W.codeIn K cd_check_row "check_row" = true)
    (k_check_row : PySem.W.keepIn K (.ref f_check_row) = true)
    (a_InvalidRanking___init__ : PySem.W.findIn K (.ref C_InvalidRanking) "__init__" = some (some (.ref f_InvalidRanking___init__)))
    (i_InvalidRanking___init__ : PySem.W.isFn K (.ref f_InvalidRanking___init__) = true)
    (xy_InvalidRanking : PySem.W.typeIn K (.ref f_InvalidRanking___init__) = some (.type "function"))
    (l_InvalidRanking___init__ : K.lookup f_InvalidRanking___init__ = some ⟨oc_InvalidRanking___init__, od_InvalidRanking___init__, .func (PySem.W.fnOf "__init__" "InvalidRanking.__init__" (defArgs s_InvalidRanking___init__) (defBody s_InvalidRanking___init__) (defScope s_InvalidRanking___init__) .none kV_InvalidRanking___init__ dc_InvalidRanking___init__ pm_InvalidRanking___init__ an_InvalidRanking___init__ cd_InvalidRanking___init__ ct_InvalidRanking___init__), sl_InvalidRanking___init__⟩)
    (c_InvalidRanking___init__ : PySem.W.codeIn K cd_InvalidRanking___init__ "InvalidRanking.__init__" = true)
    (k_InvalidRanking___init__ : PySem.W.keepIn K (.ref f_InvalidRanking___init__) = true)
    (a_check_ranking : PySem.W.nsIn K mainGlobals "check_ranking" = some (some (.ref f_check_ranking)))
    (l_check_ranking : K.lookup f_check_ranking = some ⟨oc_check_ranking, od_check_ranking, .func (PySem.W.fnOf "check_ranking" "check_ranking" (defArgs s_check_ranking) (defBody s_check_ranking) (defScope s_check_ranking) .none kV_check_ranking dc_check_ranking pm_check_ranking an_check_ranking cd_check_ranking ct_check_ranking), sl_check_ranking⟩)
    (c_check_ranking : PySem.W.codeIn K cd_check_ranking "check_ranking" = true)
    (k_check_ranking : PySem.W.keepIn K (.ref f_check_ranking) = true)
    (a_InvalidRule___init__ : PySem.W.findIn K (.ref C_InvalidRule) "__init__" = some (some (.ref f_InvalidRule___init__)))
    (i_InvalidRule___init__ : PySem.W.isFn K (.ref f_InvalidRule___init__) = true)
    (xy_InvalidRule : PySem.W.typeIn K (.ref f_InvalidRule___init__) = some (.type "function"))
    (l_InvalidRule___init__ : K.lookup f_InvalidRule___init__ = some ⟨oc_InvalidRule___init__, od_InvalidRule___init__, .func (PySem.W.fnOf "__init__" "InvalidRule.__init__" (defArgs s_InvalidRule___init__) (defBody s_InvalidRule___init__) (defScope s_InvalidRule___init__) .none kV_InvalidRule___init__ dc_InvalidRule___init__ pm_InvalidRule___init__ an_InvalidRule___init__ cd_InvalidRule___init__ ct_InvalidRule___init__), sl_InvalidRule___init__⟩)
    (c_InvalidRule___init__ : PySem.W.codeIn K cd_InvalidRule___init__ "InvalidRule.__init__" = true)
    (k_InvalidRule___init__ : PySem.W.keepIn K (.ref f_InvalidRule___init__) = true)
    (a_check_rule : PySem.W.nsIn K mainGlobals "check_rule" = some (some (.ref f_check_rule)))
    (l_check_rule : K.lookup f_check_rule = some ⟨oc_check_rule, od_check_rule, .func (PySem.W.fnOf "check_rule" "check_rule" (defArgs s_check_rule) (defBody s_check_rule) (defScope s_check_rule) .none kV_check_rule dc_check_rule pm_check_rule an_check_rule cd_check_rule ct_check_rule), sl_check_rule⟩)
    (c_check_rule : PySem.W.codeIn K cd_check_rule "check_rule" = true)
    (k_check_rule : PySem.W.keepIn K (.ref f_check_rule) = true)
    (a_InvalidLot___init__ : PySem.W.findIn K (.ref C_InvalidLot) "__init__" = some (some (.ref f_InvalidLot___init__)))
    (i_InvalidLot___init__ : PySem.W.isFn K (.ref f_InvalidLot___init__) = true)
    (xy_InvalidLot : PySem.W.typeIn K (.ref f_InvalidLot___init__) = some (.type "function"))
    (l_InvalidLot___init__ : K.lookup f_InvalidLot___init__ = some ⟨oc_InvalidLot___init__, od_InvalidLot___init__, .func (PySem.W.fnOf "__init__" "InvalidLot.__init__" (defArgs s_InvalidLot___init__) (defBody s_InvalidLot___init__) (defScope s_InvalidLot___init__) .none kV_InvalidLot___init__ dc_InvalidLot___init__ pm_InvalidLot___init__ an_InvalidLot___init__ cd_InvalidLot___init__ ct_InvalidLot___init__), sl_InvalidLot___init__⟩)
    (c_InvalidLot___init__ : PySem.W.codeIn K cd_InvalidLot___init__ "InvalidLot.__init__" = true)
    (k_InvalidLot___init__ : PySem.W.keepIn K (.ref f_InvalidLot___init__) = true)
    (a_check_lot : PySem.W.nsIn K mainGlobals "check_lot" = some (some (.ref f_check_lot)))
    (l_check_lot : K.lookup f_check_lot = some ⟨oc_check_lot, od_check_lot, .func (PySem.W.fnOf "check_lot" "check_lot" (defArgs s_check_lot) (defBody s_check_lot) (defScope s_check_lot) .none kV_check_lot dc_check_lot pm_check_lot an_check_lot cd_check_lot ct_check_lot), sl_check_lot⟩)
    (c_check_lot : PySem.W.codeIn K cd_check_lot "check_lot" = true)
    (k_check_lot : PySem.W.keepIn K (.ref f_check_lot) = true)
    (a_read_book : PySem.W.nsIn K mainGlobals "read_book" = some (some (.ref f_read_book)))
    (l_read_book : K.lookup f_read_book = some ⟨oc_read_book, od_read_book, .func (PySem.W.fnOf "read_book" "read_book" (defArgs s_read_book) (defBody s_read_book) (defScope s_read_book) .none kV_read_book dc_read_book pm_read_book an_read_book cd_read_book ct_read_book), sl_read_book⟩)
    (c_read_book : PySem.W.codeIn K cd_read_book "read_book" = true)
    (k_read_book : PySem.W.keepIn K (.ref f_read_book) = true)
    (a_row_holds : PySem.W.nsIn K mainGlobals "row_holds" = some (some (.ref f_row_holds)))
    (l_row_holds : K.lookup f_row_holds = some ⟨oc_row_holds, od_row_holds, .func (PySem.W.fnOf "row_holds" "row_holds" (defArgs s_row_holds) (defBody s_row_holds) (defScope s_row_holds) .none kV_row_holds dc_row_holds pm_row_holds an_row_holds cd_row_holds ct_row_holds), sl_row_holds⟩)
    (c_row_holds : PySem.W.codeIn K cd_row_holds "row_holds" = true)
    (k_row_holds : PySem.W.keepIn K (.ref f_row_holds) = true)
    (a_all_hold : PySem.W.nsIn K mainGlobals "all_hold" = some (some (.ref f_all_hold)))
    (l_all_hold : K.lookup f_all_hold = some ⟨oc_all_hold, od_all_hold, .func (PySem.W.fnOf "all_hold" "all_hold" (defArgs s_all_hold) (defBody s_all_hold) (defScope s_all_hold) .none kV_all_hold dc_all_hold pm_all_hold an_all_hold cd_all_hold ct_all_hold), sl_all_hold⟩)
    (c_all_hold : PySem.W.codeIn K cd_all_hold "all_hold" = true)
    (k_all_hold : PySem.W.keepIn K (.ref f_all_hold) = true)
    (a_NotABook___init__ : PySem.W.findIn K (.ref C_NotABook) "__init__" = some (some (.ref f_NotABook___init__)))
    (i_NotABook___init__ : PySem.W.isFn K (.ref f_NotABook___init__) = true)
    (xy_NotABook : PySem.W.typeIn K (.ref f_NotABook___init__) = some (.type "function"))
    (l_NotABook___init__ : K.lookup f_NotABook___init__ = some ⟨oc_NotABook___init__, od_NotABook___init__, .func (PySem.W.fnOf "__init__" "NotABook.__init__" (defArgs s_NotABook___init__) (defBody s_NotABook___init__) (defScope s_NotABook___init__) .none kV_NotABook___init__ dc_NotABook___init__ pm_NotABook___init__ an_NotABook___init__ cd_NotABook___init__ ct_NotABook___init__), sl_NotABook___init__⟩)
    (c_NotABook___init__ : PySem.W.codeIn K cd_NotABook___init__ "NotABook.__init__" = true)
    (k_NotABook___init__ : PySem.W.keepIn K (.ref f_NotABook___init__) = true)
    (a_check_book : PySem.W.nsIn K mainGlobals "check_book" = some (some (.ref f_check_book)))
    (l_check_book : K.lookup f_check_book = some ⟨oc_check_book, od_check_book, .func (PySem.W.fnOf "check_book" "check_book" (defArgs s_check_book) (defBody s_check_book) (defScope s_check_book) .none kV_check_book dc_check_book pm_check_book an_check_book cd_check_book ct_check_book), sl_check_book⟩)
    (c_check_book : PySem.W.codeIn K cd_check_book "check_book" = true)
    (k_check_book : PySem.W.keepIn K (.ref f_check_book) = true)
    (a_Book_rows : PySem.W.findIn K (.ref C_Book) "rows" = some (some (.ref q_Book_rows)))
    (g_Book_rows : PySem.W.specialIn K (.ref q_Book_rows) "__get__" = some (some (.builtin "property.__get__")))
    (t_Book_rows : PySem.W.takesIn K (.ref q_Book_rows) = some true)
    (r_Book_rows : PySem.W.recIn K q_Book_rows "property" = some (.ref f_Book_rows :: rest_Book_rows))
    (l_Book_rows : K.lookup f_Book_rows = some ⟨oc_Book_rows, od_Book_rows, .func (PySem.W.fnOf "rows" "Book.rows" (defArgs s_Book_rows) (defBody s_Book_rows) (defScope s_Book_rows) .none kV_Book_rows dc_Book_rows pm_Book_rows an_Book_rows cd_Book_rows ct_Book_rows), sl_Book_rows⟩)
    (c_Book_rows : PySem.W.codeIn K cd_Book_rows "Book.rows" = true)
    (k_Book_rows : PySem.W.keepIn K (.ref f_Book_rows) = true)
    (a_Book_names : PySem.W.findIn K (.ref C_Book) "names" = some (some (.ref q_Book_names)))
    (g_Book_names : PySem.W.specialIn K (.ref q_Book_names) "__get__" = some (some (.builtin "property.__get__")))
    (t_Book_names : PySem.W.takesIn K (.ref q_Book_names) = some true)
    (r_Book_names : PySem.W.recIn K q_Book_names "property" = some (.ref f_Book_names :: rest_Book_names))
    (l_Book_names : K.lookup f_Book_names = some ⟨oc_Book_names, od_Book_names, .func (PySem.W.fnOf "names" "Book.names" (defArgs s_Book_names) (defBody s_Book_names) (defScope s_Book_names) .none kV_Book_names dc_Book_names pm_Book_names an_Book_names cd_Book_names ct_Book_names), sl_Book_names⟩)
    (c_Book_names : PySem.W.codeIn K cd_Book_names "Book.names" = true)
    (k_Book_names : PySem.W.keepIn K (.ref f_Book_names) = true)
    (a_holds : PySem.W.nsIn K mainGlobals "holds" = some (some (.ref f_holds)))
    (l_holds : K.lookup f_holds = some ⟨oc_holds, od_holds, .func (PySem.W.fnOf "holds" "holds" (defArgs s_holds) (defBody s_holds) (defScope s_holds) .none kV_holds dc_holds pm_holds an_holds cd_holds ct_holds), sl_holds⟩)
    (c_holds : PySem.W.codeIn K cd_holds "holds" = true)
    (k_holds : PySem.W.keepIn K (.ref f_holds) = true)
    (a_fits : PySem.W.nsIn K mainGlobals "fits" = some (some (.ref f_fits)))
    (l_fits : K.lookup f_fits = some ⟨oc_fits, od_fits, .func (PySem.W.fnOf "fits" "fits" (defArgs s_fits) (defBody s_fits) (defScope s_fits) .none kV_fits dc_fits pm_fits an_fits cd_fits ct_fits), sl_fits⟩)
    (c_fits : PySem.W.codeIn K cd_fits "fits" = true)
    (k_fits : PySem.W.keepIn K (.ref f_fits) = true)
    (a_head_of : PySem.W.nsIn K mainGlobals "head_of" = some (some (.ref f_head_of)))
    (l_head_of : K.lookup f_head_of = some ⟨oc_head_of, od_head_of, .func (PySem.W.fnOf "head_of" "head_of" (defArgs s_head_of) (defBody s_head_of) (defScope s_head_of) .none kV_head_of dc_head_of pm_head_of an_head_of cd_head_of ct_head_of), sl_head_of⟩)
    (c_head_of : PySem.W.codeIn K cd_head_of "head_of" = true)
    (k_head_of : PySem.W.keepIn K (.ref f_head_of) = true)
    (a_sides : PySem.W.nsIn K mainGlobals "sides" = some (some (.ref f_sides)))
    (l_sides : K.lookup f_sides = some ⟨oc_sides, od_sides, .func (PySem.W.fnOf "sides" "sides" (defArgs s_sides) (defBody s_sides) (defScope s_sides) .none kV_sides dc_sides pm_sides an_sides cd_sides ct_sides), sl_sides⟩)
    (c_sides : PySem.W.codeIn K cd_sides "sides" = true)
    (k_sides : PySem.W.keepIn K (.ref f_sides) = true)
    (a_rules_behind : PySem.W.nsIn K mainGlobals "rules_behind" = some (some (.ref f_rules_behind)))
    (l_rules_behind : K.lookup f_rules_behind = some ⟨oc_rules_behind, od_rules_behind, .func (PySem.W.fnOf "rules_behind" "rules_behind" (defArgs s_rules_behind) (defBody s_rules_behind) (defScope s_rules_behind) .none kV_rules_behind dc_rules_behind pm_rules_behind an_rules_behind cd_rules_behind ct_rules_behind), sl_rules_behind⟩)
    (c_rules_behind : PySem.W.codeIn K cd_rules_behind "rules_behind" = true)
    (k_rules_behind : PySem.W.keepIn K (.ref f_rules_behind) = true)
    (a_steps : PySem.W.nsIn K mainGlobals "steps" = some (some (.ref f_steps)))
    (l_steps : K.lookup f_steps = some ⟨oc_steps, od_steps, .func (PySem.W.fnOf "steps" "steps" (defArgs s_steps) (defBody s_steps) (defScope s_steps) .none kV_steps dc_steps pm_steps an_steps cd_steps ct_steps), sl_steps⟩)
    (c_steps : PySem.W.codeIn K cd_steps "steps" = true)
    (k_steps : PySem.W.keepIn K (.ref f_steps) = true)
    (a_endings : PySem.W.nsIn K mainGlobals "endings" = some (some (.ref f_endings)))
    (l_endings : K.lookup f_endings = some ⟨oc_endings, od_endings, .func (PySem.W.fnOf "endings" "endings" (defArgs s_endings) (defBody s_endings) (defScope s_endings) .none kV_endings dc_endings pm_endings an_endings cd_endings ct_endings), sl_endings⟩)
    (c_endings : PySem.W.codeIn K cd_endings "endings" = true)
    (k_endings : PySem.W.keepIn K (.ref f_endings) = true)
    (a_InvalidNumber___init__ : PySem.W.findIn K (.ref C_InvalidNumber) "__init__" = some (some (.ref f_InvalidNumber___init__)))
    (i_InvalidNumber___init__ : PySem.W.isFn K (.ref f_InvalidNumber___init__) = true)
    (xy_InvalidNumber : PySem.W.typeIn K (.ref f_InvalidNumber___init__) = some (.type "function"))
    (l_InvalidNumber___init__ : K.lookup f_InvalidNumber___init__ = some ⟨oc_InvalidNumber___init__, od_InvalidNumber___init__, .func (PySem.W.fnOf "__init__" "InvalidNumber.__init__" (defArgs s_InvalidNumber___init__) (defBody s_InvalidNumber___init__) (defScope s_InvalidNumber___init__) .none kV_InvalidNumber___init__ dc_InvalidNumber___init__ pm_InvalidNumber___init__ an_InvalidNumber___init__ cd_InvalidNumber___init__ ct_InvalidNumber___init__), sl_InvalidNumber___init__⟩)
    (c_InvalidNumber___init__ : PySem.W.codeIn K cd_InvalidNumber___init__ "InvalidNumber.__init__" = true)
    (k_InvalidNumber___init__ : PySem.W.keepIn K (.ref f_InvalidNumber___init__) = true)
    (a_check_most : PySem.W.nsIn K mainGlobals "check_most" = some (some (.ref f_check_most)))
    (l_check_most : K.lookup f_check_most = some ⟨oc_check_most, od_check_most, .func (PySem.W.fnOf "check_most" "check_most" (defArgs s_check_most) (defBody s_check_most) (defScope s_check_most) .none kV_check_most dc_check_most pm_check_most an_check_most cd_check_most ct_check_most), sl_check_most⟩)
    (c_check_most : PySem.W.codeIn K cd_check_most "check_most" = true)
    (k_check_most : PySem.W.keepIn K (.ref f_check_most) = true)
    (a_surely_wrong : PySem.W.nsIn K mainGlobals "surely_wrong" = some (some (.ref f_surely_wrong)))
    (l_surely_wrong : K.lookup f_surely_wrong = some ⟨oc_surely_wrong, od_surely_wrong, .func (PySem.W.fnOf "surely_wrong" "surely_wrong" (defArgs s_surely_wrong) (defBody s_surely_wrong) (defScope s_surely_wrong) .none kV_surely_wrong dc_surely_wrong pm_surely_wrong an_surely_wrong cd_surely_wrong ct_surely_wrong), sl_surely_wrong⟩)
    (c_surely_wrong : PySem.W.codeIn K cd_surely_wrong "surely_wrong" = true)
    (k_surely_wrong : PySem.W.keepIn K (.ref f_surely_wrong) = true)
    (a_follows_with : PySem.W.nsIn K mainGlobals "follows_with" = some (some (.ref f_follows_with)))
    (l_follows_with : K.lookup f_follows_with = some ⟨oc_follows_with, od_follows_with, .func (PySem.W.fnOf "follows_with" "follows_with" (defArgs s_follows_with) (defBody s_follows_with) (defScope s_follows_with) .none kV_follows_with dc_follows_with pm_follows_with an_follows_with cd_follows_with ct_follows_with), sl_follows_with⟩)
    (c_follows_with : PySem.W.codeIn K cd_follows_with "follows_with" = true)
    (k_follows_with : PySem.W.keepIn K (.ref f_follows_with) = true)
    (a_judge : PySem.W.nsIn K mainGlobals "judge" = some (some (.ref f_judge)))
    (l_judge : K.lookup f_judge = some ⟨oc_judge, od_judge, .func (PySem.W.fnOf "judge" "judge" (defArgs s_judge) (defBody s_judge) (defScope s_judge) .none kV_judge dc_judge pm_judge an_judge cd_judge ct_judge), sl_judge⟩)
    (c_judge : PySem.W.codeIn K cd_judge "judge" = true)
    (k_judge : PySem.W.keepIn K (.ref f_judge) = true)
    (a_reasons : PySem.W.nsIn K mainGlobals "reasons" = some (some (.ref f_reasons)))
    (l_reasons : K.lookup f_reasons = some ⟨oc_reasons, od_reasons, .func (PySem.W.fnOf "reasons" "reasons" (defArgs s_reasons) (defBody s_reasons) (defScope s_reasons) .none kV_reasons dc_reasons pm_reasons an_reasons cd_reasons ct_reasons), sl_reasons⟩)
    (c_reasons : PySem.W.codeIn K cd_reasons "reasons" = true)
    (k_reasons : PySem.W.keepIn K (.ref f_reasons) = true)
    (a_ranking_at : PySem.W.nsIn K mainGlobals "ranking_at" = some (some (.ref f_ranking_at)))
    (l_ranking_at : K.lookup f_ranking_at = some ⟨oc_ranking_at, od_ranking_at, .func (PySem.W.fnOf "ranking_at" "ranking_at" (defArgs s_ranking_at) (defBody s_ranking_at) (defScope s_ranking_at) .none kV_ranking_at dc_ranking_at pm_ranking_at an_ranking_at cd_ranking_at ct_ranking_at), sl_ranking_at⟩)
    (c_ranking_at : PySem.W.codeIn K cd_ranking_at "ranking_at" = true)
    (k_ranking_at : PySem.W.keepIn K (.ref f_ranking_at) = true)
    (a_number_of : PySem.W.nsIn K mainGlobals "number_of" = some (some (.ref f_number_of)))
    (l_number_of : K.lookup f_number_of = some ⟨oc_number_of, od_number_of, .func (PySem.W.fnOf "number_of" "number_of" (defArgs s_number_of) (defBody s_number_of) (defScope s_number_of) .none kV_number_of dc_number_of pm_number_of an_number_of cd_number_of ct_number_of), sl_number_of⟩)
    (c_number_of : PySem.W.codeIn K cd_number_of "number_of" = true)
    (k_number_of : PySem.W.keepIn K (.ref f_number_of) = true)
    (a_places : PySem.W.nsIn K mainGlobals "places" = some (some (.ref f_places)))
    (l_places : K.lookup f_places = some ⟨oc_places, od_places, .func (PySem.W.fnOf "places" "places" (defArgs s_places) (defBody s_places) (defScope s_places) .none kV_places dc_places pm_places an_places cd_places ct_places), sl_places⟩)
    (c_places : PySem.W.codeIn K cd_places "places" = true)
    (k_places : PySem.W.keepIn K (.ref f_places) = true)
    (a_beginnings : PySem.W.nsIn K mainGlobals "beginnings" = some (some (.ref f_beginnings)))
    (l_beginnings : K.lookup f_beginnings = some ⟨oc_beginnings, od_beginnings, .func (PySem.W.fnOf "beginnings" "beginnings" (defArgs s_beginnings) (defBody s_beginnings) (defScope s_beginnings) .none kV_beginnings dc_beginnings pm_beginnings an_beginnings cd_beginnings ct_beginnings), sl_beginnings⟩)
    (c_beginnings : PySem.W.codeIn K cd_beginnings "beginnings" = true)
    (k_beginnings : PySem.W.keepIn K (.ref f_beginnings) = true)
    (a__law_purse : PySem.W.nsIn K mainGlobals "_law_purse" = some (some (.ref f__law_purse)))
    (l__law_purse : K.lookup f__law_purse = some ⟨oc__law_purse, od__law_purse, .func (PySem.W.fnOf "_law_purse" "_law_purse" (defArgs s__law_purse) (defBody s__law_purse) (defScope s__law_purse) .none kV__law_purse dc__law_purse pm__law_purse an__law_purse cd__law_purse ct__law_purse), sl__law_purse⟩)
    (c__law_purse : PySem.W.codeIn K cd__law_purse "_law_purse" = true)
    (k__law_purse : PySem.W.keepIn K (.ref f__law_purse) = true)
    (a__law_draw : PySem.W.nsIn K mainGlobals "_law_draw" = some (some (.ref f__law_draw)))
    (l__law_draw : K.lookup f__law_draw = some ⟨oc__law_draw, od__law_draw, .func (PySem.W.fnOf "_law_draw" "_law_draw" (defArgs s__law_draw) (defBody s__law_draw) (defScope s__law_draw) .none kV__law_draw dc__law_draw pm__law_draw an__law_draw cd__law_draw ct__law_draw), sl__law_draw⟩)
    (c__law_draw : PySem.W.codeIn K cd__law_draw "_law_draw" = true)
    (k__law_draw : PySem.W.keepIn K (.ref f__law_draw) = true)
    (a__law_sort : PySem.W.nsIn K mainGlobals "_law_sort" = some (some (.ref f__law_sort)))
    (l__law_sort : K.lookup f__law_sort = some ⟨oc__law_sort, od__law_sort, .func (PySem.W.fnOf "_law_sort" "_law_sort" (defArgs s__law_sort) (defBody s__law_sort) (defScope s__law_sort) .none kV__law_sort dc__law_sort pm__law_sort an__law_sort cd__law_sort ct__law_sort), sl__law_sort⟩)
    (c__law_sort : PySem.W.codeIn K cd__law_sort "_law_sort" = true)
    (k__law_sort : PySem.W.keepIn K (.ref f__law_sort) = true)
    (a_Book___repr__ : PySem.W.findIn K (.ref C_Book) "__repr__" = some (some (.ref f_Book___repr__)))
    (i_Book___repr__ : PySem.W.isFn K (.ref f_Book___repr__) = true)
    (l_Book___repr__ : K.lookup f_Book___repr__ = some ⟨oc_Book___repr__, od_Book___repr__, .func (PySem.W.fnOf "__repr__" "Book.__repr__" (defArgs s_Book___repr__) (defBody s_Book___repr__) (defScope s_Book___repr__) .none kV_Book___repr__ dc_Book___repr__ pm_Book___repr__ an_Book___repr__ cd_Book___repr__ ct_Book___repr__), sl_Book___repr__⟩)
    (c_Book___repr__ : PySem.W.codeIn K cd_Book___repr__ "Book.__repr__" = true)
    (k_Book___repr__ : PySem.W.keepIn K (.ref f_Book___repr__) = true)
    (a__law_attribute : PySem.W.nsIn K mainGlobals "_law_attribute" = some (some (.ref f__law_attribute)))
    (l__law_attribute : K.lookup f__law_attribute = some ⟨oc__law_attribute, od__law_attribute, .func (PySem.W.fnOf "_law_attribute" "_law_attribute" (defArgs s__law_attribute) (defBody s__law_attribute) (defScope s__law_attribute) .none kV__law_attribute dc__law_attribute pm__law_attribute an__law_attribute cd__law_attribute ct__law_attribute), sl__law_attribute⟩)
    (c__law_attribute : PySem.W.codeIn K cd__law_attribute "_law_attribute" = true)
    (k__law_attribute : PySem.W.keepIn K (.ref f__law_attribute) = true)
    (a__law_told : PySem.W.nsIn K mainGlobals "_law_told" = some (some (.ref f__law_told)))
    (l__law_told : K.lookup f__law_told = some ⟨oc__law_told, od__law_told, .func (PySem.W.fnOf "_law_told" "_law_told" (defArgs s__law_told) (defBody s__law_told) (defScope s__law_told) .none kV__law_told dc__law_told pm__law_told an__law_told cd__law_told ct__law_told), sl__law_told⟩)
    (c__law_told : PySem.W.codeIn K cd__law_told "_law_told" = true)
    (k__law_told : PySem.W.keepIn K (.ref f__law_told) = true)
    (a__law_labels : PySem.W.nsIn K mainGlobals "_law_labels" = some (some (.ref f__law_labels)))
    (l__law_labels : K.lookup f__law_labels = some ⟨oc__law_labels, od__law_labels, .func (PySem.W.fnOf "_law_labels" "_law_labels" (defArgs s__law_labels) (defBody s__law_labels) (defScope s__law_labels) .none kV__law_labels dc__law_labels pm__law_labels an__law_labels cd__law_labels ct__law_labels), sl__law_labels⟩)
    (c__law_labels : PySem.W.codeIn K cd__law_labels "_law_labels" = true)
    (k__law_labels : PySem.W.keepIn K (.ref f__law_labels) = true)
    (a__law_all : PySem.W.nsIn K mainGlobals "_law_all" = some (some (.ref f__law_all)))
    (l__law_all : K.lookup f__law_all = some ⟨oc__law_all, od__law_all, .func (PySem.W.fnOf "_law_all" "_law_all" (defArgs s__law_all) (defBody s__law_all) (defScope s__law_all) .none kV__law_all dc__law_all pm__law_all an__law_all cd__law_all ct__law_all), sl__law_all⟩)
    (c__law_all : PySem.W.codeIn K cd__law_all "_law_all" = true)
    (k__law_all : PySem.W.keepIn K (.ref f__law_all) = true)
    (a__law_holds : PySem.W.nsIn K mainGlobals "_law_holds" = some (some (.ref f__law_holds)))
    (l__law_holds : K.lookup f__law_holds = some ⟨oc__law_holds, od__law_holds, .func (PySem.W.fnOf "_law_holds" "_law_holds" (defArgs s__law_holds) (defBody s__law_holds) (defScope s__law_holds) .none kV__law_holds dc__law_holds pm__law_holds an__law_holds cd__law_holds ct__law_holds), sl__law_holds⟩)
    (c__law_holds : PySem.W.codeIn K cd__law_holds "_law_holds" = true)
    (k__law_holds : PySem.W.keepIn K (.ref f__law_holds) = true)
    (a__law_flipped : PySem.W.nsIn K mainGlobals "_law_flipped" = some (some (.ref f__law_flipped)))
    (l__law_flipped : K.lookup f__law_flipped = some ⟨oc__law_flipped, od__law_flipped, .func (PySem.W.fnOf "_law_flipped" "_law_flipped" (defArgs s__law_flipped) (defBody s__law_flipped) (defScope s__law_flipped) .none kV__law_flipped dc__law_flipped pm__law_flipped an__law_flipped cd__law_flipped ct__law_flipped), sl__law_flipped⟩)
    (c__law_flipped : PySem.W.codeIn K cd__law_flipped "_law_flipped" = true)
    (k__law_flipped : PySem.W.keepIn K (.ref f__law_flipped) = true)
    (a__law_signs : PySem.W.nsIn K mainGlobals "_law_signs" = some (some (.ref f__law_signs)))
    (l__law_signs : K.lookup f__law_signs = some ⟨oc__law_signs, od__law_signs, .func (PySem.W.fnOf "_law_signs" "_law_signs" (defArgs s__law_signs) (defBody s__law_signs) (defScope s__law_signs) .none kV__law_signs dc__law_signs pm__law_signs an__law_signs cd__law_signs ct__law_signs), sl__law_signs⟩)
    (c__law_signs : PySem.W.codeIn K cd__law_signs "_law_signs" = true)
    (k__law_signs : PySem.W.keepIn K (.ref f__law_signs) = true)
    (a__law_rows : PySem.W.nsIn K mainGlobals "_law_rows" = some (some (.ref f__law_rows)))
    (l__law_rows : K.lookup f__law_rows = some ⟨oc__law_rows, od__law_rows, .func (PySem.W.fnOf "_law_rows" "_law_rows" (defArgs s__law_rows) (defBody s__law_rows) (defScope s__law_rows) .none kV__law_rows dc__law_rows pm__law_rows an__law_rows cd__law_rows ct__law_rows), sl__law_rows⟩)
    (c__law_rows : PySem.W.codeIn K cd__law_rows "_law_rows" = true)
    (k__law_rows : PySem.W.keepIn K (.ref f__law_rows) = true)
    (a__law_spelled : PySem.W.nsIn K mainGlobals "_law_spelled" = some (some (.ref f__law_spelled)))
    (l__law_spelled : K.lookup f__law_spelled = some ⟨oc__law_spelled, od__law_spelled, .func (PySem.W.fnOf "_law_spelled" "_law_spelled" (defArgs s__law_spelled) (defBody s__law_spelled) (defScope s__law_spelled) .none kV__law_spelled dc__law_spelled pm__law_spelled an__law_spelled cd__law_spelled ct__law_spelled), sl__law_spelled⟩)
    (c__law_spelled : PySem.W.codeIn K cd__law_spelled "_law_spelled" = true)
    (k__law_spelled : PySem.W.keepIn K (.ref f__law_spelled) = true)
    (a__law_book : PySem.W.nsIn K mainGlobals "_law_book" = some (some (.ref f__law_book)))
    (l__law_book : K.lookup f__law_book = some ⟨oc__law_book, od__law_book, .func (PySem.W.fnOf "_law_book" "_law_book" (defArgs s__law_book) (defBody s__law_book) (defScope s__law_book) .none kV__law_book dc__law_book pm__law_book an__law_book cd__law_book ct__law_book), sl__law_book⟩)
    (c__law_book : PySem.W.codeIn K cd__law_book "_law_book" = true)
    (k__law_book : PySem.W.keepIn K (.ref f__law_book) = true)
    (a__law_wrong_order : PySem.W.nsIn K mainGlobals "_law_wrong_order" = some (some (.ref f__law_wrong_order)))
    (l__law_wrong_order : K.lookup f__law_wrong_order = some ⟨oc__law_wrong_order, od__law_wrong_order, .func (PySem.W.fnOf "_law_wrong_order" "_law_wrong_order" (defArgs s__law_wrong_order) (defBody s__law_wrong_order) (defScope s__law_wrong_order) .none kV__law_wrong_order dc__law_wrong_order pm__law_wrong_order an__law_wrong_order cd__law_wrong_order ct__law_wrong_order), sl__law_wrong_order⟩)
    (c__law_wrong_order : PySem.W.codeIn K cd__law_wrong_order "_law_wrong_order" = true)
    (k__law_wrong_order : PySem.W.keepIn K (.ref f__law_wrong_order) = true)
    (a__law_firsts : PySem.W.nsIn K mainGlobals "_law_firsts" = some (some (.ref f__law_firsts)))
    (l__law_firsts : K.lookup f__law_firsts = some ⟨oc__law_firsts, od__law_firsts, .func (PySem.W.fnOf "_law_firsts" "_law_firsts" (defArgs s__law_firsts) (defBody s__law_firsts) (defScope s__law_firsts) .none kV__law_firsts dc__law_firsts pm__law_firsts an__law_firsts (.ref lc__law_firsts) ct__law_firsts), sl__law_firsts⟩)
    (c__law_firsts : PySem.W.codeIn K (.ref lc__law_firsts) "_law_firsts" = true)
    (k__law_firsts : PySem.W.keepIn K (.ref f__law_firsts) = true)
    (lk__law_firsts : K.lookup lc__law_firsts = some ⟨lo__law_firsts, ld__law_firsts, .fields lv__law_firsts, ls__law_firsts⟩)
    (lp__law_firsts : lv__law_firsts[11]? = some (.ref lt__law_firsts))
    (ln__law_firsts : K.lookup lt__law_firsts = none)
    (lr__law_firsts : ((recsOf q).any fun e => e.name == "_law_firsts") = true)
    (a_Book___init__ : PySem.W.findIn K (.ref C_Book) "__init__" = some (some (.ref f_Book___init__)))
    (i_Book___init__ : PySem.W.isFn K (.ref f_Book___init__) = true)
    (l_Book___init__ : K.lookup f_Book___init__ = some ⟨oc_Book___init__, od_Book___init__, .func (PySem.W.fnOf "__init__" "Book.__init__" (defArgs s_Book___init__) (defBody s_Book___init__) (defScope s_Book___init__) .none kV_Book___init__ dc_Book___init__ pm_Book___init__ an_Book___init__ cd_Book___init__ ct_Book___init__), sl_Book___init__⟩)
    (c_Book___init__ : PySem.W.codeIn K cd_Book___init__ "Book.__init__" = true)
    (k_Book___init__ : PySem.W.keepIn K (.ref f_Book___init__) = true)
    (a_Book_text : PySem.W.findIn K (.ref C_Book) "text" = some (some (.ref q_Book_text)))
    (g_Book_text : PySem.W.specialIn K (.ref q_Book_text) "__get__" = some (some (.builtin "property.__get__")))
    (t_Book_text : PySem.W.takesIn K (.ref q_Book_text) = some true)
    (r_Book_text : PySem.W.recIn K q_Book_text "property" = some (.ref f_Book_text :: rest_Book_text))
    (l_Book_text : K.lookup f_Book_text = some ⟨oc_Book_text, od_Book_text, .func (PySem.W.fnOf "text" "Book.text" (defArgs s_Book_text) (defBody s_Book_text) (defScope s_Book_text) .none kV_Book_text dc_Book_text pm_Book_text an_Book_text cd_Book_text ct_Book_text), sl_Book_text⟩)
    (c_Book_text : PySem.W.codeIn K cd_Book_text "Book.text" = true)
    (k_Book_text : PySem.W.keepIn K (.ref f_Book_text) = true)
    (a__law_right : PySem.W.nsIn K mainGlobals "_law_right" = some (some (.ref f__law_right)))
    (l__law_right : K.lookup f__law_right = some ⟨oc__law_right, od__law_right, .func (PySem.W.fnOf "_law_right" "_law_right" (defArgs s__law_right) (defBody s__law_right) (defScope s__law_right) .none kV__law_right dc__law_right pm__law_right an__law_right (.ref lc__law_right) ct__law_right), sl__law_right⟩)
    (c__law_right : PySem.W.codeIn K (.ref lc__law_right) "_law_right" = true)
    (k__law_right : PySem.W.keepIn K (.ref f__law_right) = true)
    (lk__law_right : K.lookup lc__law_right = some ⟨lo__law_right, ld__law_right, .fields lv__law_right, ls__law_right⟩)
    (lp__law_right : lv__law_right[11]? = some (.ref lt__law_right))
    (ln__law_right : K.lookup lt__law_right = none)
    (lr__law_right : ((recsOf q).any fun e => e.name == "_law_right") = true)
    (a_law : PySem.W.nsIn K mainGlobals "law" = some (some (.ref f_law)))
    (l_law : K.lookup f_law = some ⟨oc_law, od_law, .func (PySem.W.fnOf "law" "law" (defArgs s_law) (defBody s_law) (defScope s_law) .none kV_law dc_law pm_law an_law cd_law ct_law), sl_law⟩)
    (c_law : PySem.W.codeIn K cd_law "law" = true)
    (k_law : PySem.W.keepIn K (.ref f_law) = true)
    (z_abs : PySem.W.nsIn K mainGlobals "abs" = some none)
    (z_all : PySem.W.nsIn K mainGlobals "all" = some none)
    (z_bool : PySem.W.nsIn K mainGlobals "bool" = some none)
    (z_divmod : PySem.W.nsIn K mainGlobals "divmod" = some none)
    (z_enumerate : PySem.W.nsIn K mainGlobals "enumerate" = some none)
    (z_int : PySem.W.nsIn K mainGlobals "int" = some none)
    (z_isinstance : PySem.W.nsIn K mainGlobals "isinstance" = some none)
    (z_len : PySem.W.nsIn K mainGlobals "len" = some none)
    (z_list : PySem.W.nsIn K mainGlobals "list" = some none)
    (z_max : PySem.W.nsIn K mainGlobals "max" = some none)
    (z_min : PySem.W.nsIn K mainGlobals "min" = some none)
    (z_range : PySem.W.nsIn K mainGlobals "range" = some none)
    (z_repr : PySem.W.nsIn K mainGlobals "repr" = some none)
    (z_reversed : PySem.W.nsIn K mainGlobals "reversed" = some none)
    (z_sorted : PySem.W.nsIn K mainGlobals "sorted" = some none)
    (z_str : PySem.W.nsIn K mainGlobals "str" = some none)
    (z_sum : PySem.W.nsIn K mainGlobals "sum" = some none)
    (z_tuple : PySem.W.nsIn K mainGlobals "tuple" = some none)
    (z_zip : PySem.W.nsIn K mainGlobals "zip" = some none)
    (v_LETTERS : PySem.W.nsIn K mainGlobals "LETTERS" = some (some (.str "abcdefghijklmnopqrstuvwxyz" t_LETTERS)))
    (v_MOST_LETTERS : PySem.W.nsIn K mainGlobals "MOST_LETTERS" = some (some (.int 8 t_MOST_LETTERS)))
    (v_MOST_ROWS : PySem.W.nsIn K mainGlobals "MOST_ROWS" = some (some (.int 20 t_MOST_ROWS)))
    (v_MOST_RULES : PySem.W.nsIn K mainGlobals "MOST_RULES" = some (some (.int 8 t_MOST_RULES)))
    (v_SIGNS : PySem.W.nsIn K mainGlobals "SIGNS" = some (some (.str "+-." t_SIGNS)))
    (no1 : PySem.W.findIn K (.ref C_Book) "_text" = some none)
    (no2 : PySem.W.findIn K (.ref C_Book) "_names" = some none)
    (no3 : PySem.W.findIn K (.ref C_Book) "_rows" = some none)
    (no7 : PySem.W.typeIn K (.ref C_Book) = some (.type "type"))
    (ltnd : [lt__law_firsts, lt__law_right].Nodup) :
    EndT l w K mg 10 fa "_law_script" h (spLaw K) := by
  have e := hfa.symm.trans (PySem.W.mg_of X G a_law)
  cases e
  have o__law_firsts := tb "_law_firsts" f__law_firsts lr__law_firsts (PySem.W.mg_of X G a__law_firsts) lc__law_firsts lt__law_firsts _ _ _ _ _ _ l__law_firsts rfl rfl lk__law_firsts lp__law_firsts
  have o__law_right := tb "_law_right" f__law_right lr__law_right (PySem.W.mg_of X G a__law_right) lc__law_right lt__law_right _ _ _ _ _ _ l__law_right rfl rfl lk__law_right lp__law_right
  letI I : Tabs0 := ⟨fun a => List.lookup a [(lt__law_firsts, qn__law_firsts f__law_firsts lc__law_firsts), (lt__law_right, qn__law_right f__law_right lc__law_right)]⟩
  have ok : TabsOk [(lt__law_firsts, qn__law_firsts f__law_firsts lc__law_firsts), (lt__law_right, qn__law_right f__law_right lc__law_right)] := tabsOk_of ltnd
  let T : Txt K w mg := {
    C_Book := C_Book,
    m_Book := PySem.W.mg_of X G cm_Book,
    cl_Book := ⟨cpg_Book, chd_Book, cpo_Book, csa_Book⟩,
    C_Broken := C_Broken,
    m_Broken := PySem.W.mg_of X G cm_Broken,
    C_InUse := C_InUse,
    m_InUse := PySem.W.mg_of X G cm_InUse,
    C_InvalidCases := C_InvalidCases,
    m_InvalidCases := PySem.W.mg_of X G cm_InvalidCases,
    C_InvalidClaim := C_InvalidClaim,
    m_InvalidClaim := PySem.W.mg_of X G cm_InvalidClaim,
    C_InvalidIndex := C_InvalidIndex,
    m_InvalidIndex := PySem.W.mg_of X G cm_InvalidIndex,
    C_InvalidLot := C_InvalidLot,
    m_InvalidLot := PySem.W.mg_of X G cm_InvalidLot,
    C_InvalidName := C_InvalidName,
    m_InvalidName := PySem.W.mg_of X G cm_InvalidName,
    C_InvalidNumber := C_InvalidNumber,
    m_InvalidNumber := PySem.W.mg_of X G cm_InvalidNumber,
    C_InvalidOffers := C_InvalidOffers,
    m_InvalidOffers := PySem.W.mg_of X G cm_InvalidOffers,
    C_InvalidRanking := C_InvalidRanking,
    m_InvalidRanking := PySem.W.mg_of X G cm_InvalidRanking,
    C_InvalidRow := C_InvalidRow,
    m_InvalidRow := PySem.W.mg_of X G cm_InvalidRow,
    C_InvalidRule := C_InvalidRule,
    m_InvalidRule := PySem.W.mg_of X G cm_InvalidRule,
    C_InvalidText := C_InvalidText,
    m_InvalidText := PySem.W.mg_of X G cm_InvalidText,
    C_NoAnswer := C_NoAnswer,
    m_NoAnswer := PySem.W.mg_of X G cm_NoAnswer,
    C_NoRanking := C_NoRanking,
    m_NoRanking := PySem.W.mg_of X G cm_NoRanking,
    C_NotABook := C_NotABook,
    m_NotABook := PySem.W.mg_of X G cm_NotABook,
    C_NotACase := C_NotACase,
    m_NotACase := PySem.W.mg_of X G cm_NotACase,
    C_NotACourt := C_NotACourt,
    m_NotACourt := PySem.W.mg_of X G cm_NotACourt,
    C_NothingToUndo := C_NothingToUndo,
    m_NothingToUndo := PySem.W.mg_of X G cm_NothingToUndo,
    C_TooMany := C_TooMany,
    m_TooMany := PySem.W.mg_of X G cm_TooMany,
    C_UnknownName := C_UnknownName,
    m_UnknownName := PySem.W.mg_of X G cm_UnknownName,
    C_WrongValue := C_WrongValue,
    m_WrongValue := PySem.W.mg_of X G cm_WrongValue,
    xk_InvalidLot := ⟨xga_InvalidLot, xgt_InvalidLot, xs_InvalidLot, xh_InvalidLot, xcl_InvalidLot, ihn, iht, xo_InvalidLot⟩,
    xm_InvalidLot := exm_any2 xs_WrongValue xs_NoAnswer xh_WrongValue xh_NoAnswer xt_WrongValue xt_NoAnswer xu_InvalidLot_WrongValue xu_InvalidLot_NoAnswer rfl,
    xo_InvalidLot := ⟨⟨_, _, _, _, _, _, _, _, _, _, _, _, _, _, _, xL_InvalidLot, xR_InvalidLot⟩, xa_InvalidLot, xs_InvalidLot, xt_InvalidLot, xp_InvalidLot⟩,
    xf_InvalidLot := ⟨xga_InvalidLot, xgt_InvalidLot, xs_InvalidLot, xh_InvalidLot⟩,
    xn_InvalidLot_given := xn_InvalidLot_given,
    xn_InvalidLot_index := xn_InvalidLot_index,
    xn_InvalidLot_number := xn_InvalidLot_number,
    xn_InvalidLot_told := xn_InvalidLot_told,
    xj_InvalidLot := a_InvalidLot___init__,
    xy_InvalidLot := xy_InvalidLot,
    kt_InvalidLot := ⟨kit_no xh_InvalidText xt_InvalidText xu_InvalidLot_InvalidText xn_InvalidLot_InvalidText, kit_no xh_InvalidNumber xt_InvalidNumber xu_InvalidLot_InvalidNumber xn_InvalidLot_InvalidNumber, kit_no xh_InvalidName xt_InvalidName xu_InvalidLot_InvalidName xn_InvalidLot_InvalidName, kit_no xh_InvalidIndex xt_InvalidIndex xu_InvalidLot_InvalidIndex xn_InvalidLot_InvalidIndex, kit_no xh_InvalidClaim xt_InvalidClaim xu_InvalidLot_InvalidClaim xn_InvalidLot_InvalidClaim, kit_no xh_InvalidRow xt_InvalidRow xu_InvalidLot_InvalidRow xn_InvalidLot_InvalidRow, kit_no xh_InvalidRanking xt_InvalidRanking xu_InvalidLot_InvalidRanking xn_InvalidLot_InvalidRanking, kit_no xh_InvalidRule xt_InvalidRule xu_InvalidLot_InvalidRule xn_InvalidLot_InvalidRule, kit_no xh_UnknownName xt_UnknownName xu_InvalidLot_UnknownName xn_InvalidLot_UnknownName, kit_no xh_NotABook xt_NotABook xu_InvalidLot_NotABook xn_InvalidLot_NotABook, kit_no xh_NotACase xt_NotACase xu_InvalidLot_NotACase xn_InvalidLot_NotACase, kit_no xh_NotACourt xt_NotACourt xu_InvalidLot_NotACourt xn_InvalidLot_NotACourt, kit_yes xh_InvalidLot xt_InvalidLot xu_InvalidLot_InvalidLot, kit_no xh_InvalidOffers xt_InvalidOffers xu_InvalidLot_InvalidOffers xn_InvalidLot_InvalidOffers, kit_no xh_InvalidCases xt_InvalidCases xu_InvalidLot_InvalidCases xn_InvalidLot_InvalidCases, kit_no xh_NoRanking xt_NoRanking xu_InvalidLot_NoRanking xn_InvalidLot_NoRanking, kit_no xh_TooMany xt_TooMany xu_InvalidLot_TooMany xn_InvalidLot_TooMany, kit_no xh_Broken xt_Broken xu_InvalidLot_Broken xn_InvalidLot_Broken, kit_no xh_InUse xt_InUse xu_InvalidLot_InUse xn_InvalidLot_InUse, kit_no xh_NothingToUndo xt_NothingToUndo xu_InvalidLot_NothingToUndo xn_InvalidLot_NothingToUndo, kit_yes xh_WrongValue xt_WrongValue xu_InvalidLot_WrongValue, kit_no xh_NoAnswer xt_NoAnswer xu_InvalidLot_NoAnswer xn_InvalidLot_NoAnswer, True.intro⟩,
    xk_InvalidNumber := ⟨xga_InvalidNumber, xgt_InvalidNumber, xs_InvalidNumber, xh_InvalidNumber, xcl_InvalidNumber, ihn, iht, xo_InvalidNumber⟩,
    xm_InvalidNumber := exm_any2 xs_WrongValue xs_NoAnswer xh_WrongValue xh_NoAnswer xt_WrongValue xt_NoAnswer xu_InvalidNumber_WrongValue xu_InvalidNumber_NoAnswer rfl,
    xo_InvalidNumber := ⟨⟨_, _, _, _, _, _, _, _, _, _, _, _, _, _, _, xL_InvalidNumber, xR_InvalidNumber⟩, xa_InvalidNumber, xs_InvalidNumber, xt_InvalidNumber, xp_InvalidNumber⟩,
    xf_InvalidNumber := ⟨xga_InvalidNumber, xgt_InvalidNumber, xs_InvalidNumber, xh_InvalidNumber⟩,
    xn_InvalidNumber_given := xn_InvalidNumber_given,
    xn_InvalidNumber_index := xn_InvalidNumber_index,
    xn_InvalidNumber_number := xn_InvalidNumber_number,
    xn_InvalidNumber_told := xn_InvalidNumber_told,
    xj_InvalidNumber := a_InvalidNumber___init__,
    xy_InvalidNumber := xy_InvalidNumber,
    kt_InvalidNumber := ⟨kit_no xh_InvalidText xt_InvalidText xu_InvalidNumber_InvalidText xn_InvalidNumber_InvalidText, kit_yes xh_InvalidNumber xt_InvalidNumber xu_InvalidNumber_InvalidNumber, kit_no xh_InvalidName xt_InvalidName xu_InvalidNumber_InvalidName xn_InvalidNumber_InvalidName, kit_no xh_InvalidIndex xt_InvalidIndex xu_InvalidNumber_InvalidIndex xn_InvalidNumber_InvalidIndex, kit_no xh_InvalidClaim xt_InvalidClaim xu_InvalidNumber_InvalidClaim xn_InvalidNumber_InvalidClaim, kit_no xh_InvalidRow xt_InvalidRow xu_InvalidNumber_InvalidRow xn_InvalidNumber_InvalidRow, kit_no xh_InvalidRanking xt_InvalidRanking xu_InvalidNumber_InvalidRanking xn_InvalidNumber_InvalidRanking, kit_no xh_InvalidRule xt_InvalidRule xu_InvalidNumber_InvalidRule xn_InvalidNumber_InvalidRule, kit_no xh_UnknownName xt_UnknownName xu_InvalidNumber_UnknownName xn_InvalidNumber_UnknownName, kit_no xh_NotABook xt_NotABook xu_InvalidNumber_NotABook xn_InvalidNumber_NotABook, kit_no xh_NotACase xt_NotACase xu_InvalidNumber_NotACase xn_InvalidNumber_NotACase, kit_no xh_NotACourt xt_NotACourt xu_InvalidNumber_NotACourt xn_InvalidNumber_NotACourt, kit_no xh_InvalidLot xt_InvalidLot xu_InvalidNumber_InvalidLot xn_InvalidNumber_InvalidLot, kit_no xh_InvalidOffers xt_InvalidOffers xu_InvalidNumber_InvalidOffers xn_InvalidNumber_InvalidOffers, kit_no xh_InvalidCases xt_InvalidCases xu_InvalidNumber_InvalidCases xn_InvalidNumber_InvalidCases, kit_no xh_NoRanking xt_NoRanking xu_InvalidNumber_NoRanking xn_InvalidNumber_NoRanking, kit_no xh_TooMany xt_TooMany xu_InvalidNumber_TooMany xn_InvalidNumber_TooMany, kit_no xh_Broken xt_Broken xu_InvalidNumber_Broken xn_InvalidNumber_Broken, kit_no xh_InUse xt_InUse xu_InvalidNumber_InUse xn_InvalidNumber_InUse, kit_no xh_NothingToUndo xt_NothingToUndo xu_InvalidNumber_NothingToUndo xn_InvalidNumber_NothingToUndo, kit_yes xh_WrongValue xt_WrongValue xu_InvalidNumber_WrongValue, kit_no xh_NoAnswer xt_NoAnswer xu_InvalidNumber_NoAnswer xn_InvalidNumber_NoAnswer, True.intro⟩,
    xk_InvalidRanking := ⟨xga_InvalidRanking, xgt_InvalidRanking, xs_InvalidRanking, xh_InvalidRanking, xcl_InvalidRanking, ihn, iht, xo_InvalidRanking⟩,
    xm_InvalidRanking := exm_any2 xs_WrongValue xs_NoAnswer xh_WrongValue xh_NoAnswer xt_WrongValue xt_NoAnswer xu_InvalidRanking_WrongValue xu_InvalidRanking_NoAnswer rfl,
    xo_InvalidRanking := ⟨⟨_, _, _, _, _, _, _, _, _, _, _, _, _, _, _, xL_InvalidRanking, xR_InvalidRanking⟩, xa_InvalidRanking, xs_InvalidRanking, xt_InvalidRanking, xp_InvalidRanking⟩,
    xf_InvalidRanking := ⟨xga_InvalidRanking, xgt_InvalidRanking, xs_InvalidRanking, xh_InvalidRanking⟩,
    xn_InvalidRanking_given := xn_InvalidRanking_given,
    xn_InvalidRanking_index := xn_InvalidRanking_index,
    xn_InvalidRanking_number := xn_InvalidRanking_number,
    xn_InvalidRanking_told := xn_InvalidRanking_told,
    xj_InvalidRanking := a_InvalidRanking___init__,
    xy_InvalidRanking := xy_InvalidRanking,
    kt_InvalidRanking := ⟨kit_no xh_InvalidText xt_InvalidText xu_InvalidRanking_InvalidText xn_InvalidRanking_InvalidText, kit_no xh_InvalidNumber xt_InvalidNumber xu_InvalidRanking_InvalidNumber xn_InvalidRanking_InvalidNumber, kit_no xh_InvalidName xt_InvalidName xu_InvalidRanking_InvalidName xn_InvalidRanking_InvalidName, kit_no xh_InvalidIndex xt_InvalidIndex xu_InvalidRanking_InvalidIndex xn_InvalidRanking_InvalidIndex, kit_no xh_InvalidClaim xt_InvalidClaim xu_InvalidRanking_InvalidClaim xn_InvalidRanking_InvalidClaim, kit_no xh_InvalidRow xt_InvalidRow xu_InvalidRanking_InvalidRow xn_InvalidRanking_InvalidRow, kit_yes xh_InvalidRanking xt_InvalidRanking xu_InvalidRanking_InvalidRanking, kit_no xh_InvalidRule xt_InvalidRule xu_InvalidRanking_InvalidRule xn_InvalidRanking_InvalidRule, kit_no xh_UnknownName xt_UnknownName xu_InvalidRanking_UnknownName xn_InvalidRanking_UnknownName, kit_no xh_NotABook xt_NotABook xu_InvalidRanking_NotABook xn_InvalidRanking_NotABook, kit_no xh_NotACase xt_NotACase xu_InvalidRanking_NotACase xn_InvalidRanking_NotACase, kit_no xh_NotACourt xt_NotACourt xu_InvalidRanking_NotACourt xn_InvalidRanking_NotACourt, kit_no xh_InvalidLot xt_InvalidLot xu_InvalidRanking_InvalidLot xn_InvalidRanking_InvalidLot, kit_no xh_InvalidOffers xt_InvalidOffers xu_InvalidRanking_InvalidOffers xn_InvalidRanking_InvalidOffers, kit_no xh_InvalidCases xt_InvalidCases xu_InvalidRanking_InvalidCases xn_InvalidRanking_InvalidCases, kit_no xh_NoRanking xt_NoRanking xu_InvalidRanking_NoRanking xn_InvalidRanking_NoRanking, kit_no xh_TooMany xt_TooMany xu_InvalidRanking_TooMany xn_InvalidRanking_TooMany, kit_no xh_Broken xt_Broken xu_InvalidRanking_Broken xn_InvalidRanking_Broken, kit_no xh_InUse xt_InUse xu_InvalidRanking_InUse xn_InvalidRanking_InUse, kit_no xh_NothingToUndo xt_NothingToUndo xu_InvalidRanking_NothingToUndo xn_InvalidRanking_NothingToUndo, kit_yes xh_WrongValue xt_WrongValue xu_InvalidRanking_WrongValue, kit_no xh_NoAnswer xt_NoAnswer xu_InvalidRanking_NoAnswer xn_InvalidRanking_NoAnswer, True.intro⟩,
    xk_InvalidRow := ⟨xga_InvalidRow, xgt_InvalidRow, xs_InvalidRow, xh_InvalidRow, xcl_InvalidRow, ihn, iht, xo_InvalidRow⟩,
    xm_InvalidRow := exm_any2 xs_WrongValue xs_NoAnswer xh_WrongValue xh_NoAnswer xt_WrongValue xt_NoAnswer xu_InvalidRow_WrongValue xu_InvalidRow_NoAnswer rfl,
    xo_InvalidRow := ⟨⟨_, _, _, _, _, _, _, _, _, _, _, _, _, _, _, xL_InvalidRow, xR_InvalidRow⟩, xa_InvalidRow, xs_InvalidRow, xt_InvalidRow, xp_InvalidRow⟩,
    xf_InvalidRow := ⟨xga_InvalidRow, xgt_InvalidRow, xs_InvalidRow, xh_InvalidRow⟩,
    xn_InvalidRow_given := xn_InvalidRow_given,
    xn_InvalidRow_index := xn_InvalidRow_index,
    xn_InvalidRow_number := xn_InvalidRow_number,
    xn_InvalidRow_told := xn_InvalidRow_told,
    xj_InvalidRow := a_InvalidRow___init__,
    xy_InvalidRow := xy_InvalidRow,
    kt_InvalidRow := ⟨kit_no xh_InvalidText xt_InvalidText xu_InvalidRow_InvalidText xn_InvalidRow_InvalidText, kit_no xh_InvalidNumber xt_InvalidNumber xu_InvalidRow_InvalidNumber xn_InvalidRow_InvalidNumber, kit_no xh_InvalidName xt_InvalidName xu_InvalidRow_InvalidName xn_InvalidRow_InvalidName, kit_no xh_InvalidIndex xt_InvalidIndex xu_InvalidRow_InvalidIndex xn_InvalidRow_InvalidIndex, kit_no xh_InvalidClaim xt_InvalidClaim xu_InvalidRow_InvalidClaim xn_InvalidRow_InvalidClaim, kit_yes xh_InvalidRow xt_InvalidRow xu_InvalidRow_InvalidRow, kit_no xh_InvalidRanking xt_InvalidRanking xu_InvalidRow_InvalidRanking xn_InvalidRow_InvalidRanking, kit_no xh_InvalidRule xt_InvalidRule xu_InvalidRow_InvalidRule xn_InvalidRow_InvalidRule, kit_no xh_UnknownName xt_UnknownName xu_InvalidRow_UnknownName xn_InvalidRow_UnknownName, kit_no xh_NotABook xt_NotABook xu_InvalidRow_NotABook xn_InvalidRow_NotABook, kit_no xh_NotACase xt_NotACase xu_InvalidRow_NotACase xn_InvalidRow_NotACase, kit_no xh_NotACourt xt_NotACourt xu_InvalidRow_NotACourt xn_InvalidRow_NotACourt, kit_no xh_InvalidLot xt_InvalidLot xu_InvalidRow_InvalidLot xn_InvalidRow_InvalidLot, kit_no xh_InvalidOffers xt_InvalidOffers xu_InvalidRow_InvalidOffers xn_InvalidRow_InvalidOffers, kit_no xh_InvalidCases xt_InvalidCases xu_InvalidRow_InvalidCases xn_InvalidRow_InvalidCases, kit_no xh_NoRanking xt_NoRanking xu_InvalidRow_NoRanking xn_InvalidRow_NoRanking, kit_no xh_TooMany xt_TooMany xu_InvalidRow_TooMany xn_InvalidRow_TooMany, kit_no xh_Broken xt_Broken xu_InvalidRow_Broken xn_InvalidRow_Broken, kit_no xh_InUse xt_InUse xu_InvalidRow_InUse xn_InvalidRow_InUse, kit_no xh_NothingToUndo xt_NothingToUndo xu_InvalidRow_NothingToUndo xn_InvalidRow_NothingToUndo, kit_yes xh_WrongValue xt_WrongValue xu_InvalidRow_WrongValue, kit_no xh_NoAnswer xt_NoAnswer xu_InvalidRow_NoAnswer xn_InvalidRow_NoAnswer, True.intro⟩,
    xk_InvalidRule := ⟨xga_InvalidRule, xgt_InvalidRule, xs_InvalidRule, xh_InvalidRule, xcl_InvalidRule, ihn, iht, xo_InvalidRule⟩,
    xm_InvalidRule := exm_any2 xs_WrongValue xs_NoAnswer xh_WrongValue xh_NoAnswer xt_WrongValue xt_NoAnswer xu_InvalidRule_WrongValue xu_InvalidRule_NoAnswer rfl,
    xo_InvalidRule := ⟨⟨_, _, _, _, _, _, _, _, _, _, _, _, _, _, _, xL_InvalidRule, xR_InvalidRule⟩, xa_InvalidRule, xs_InvalidRule, xt_InvalidRule, xp_InvalidRule⟩,
    xf_InvalidRule := ⟨xga_InvalidRule, xgt_InvalidRule, xs_InvalidRule, xh_InvalidRule⟩,
    xn_InvalidRule_given := xn_InvalidRule_given,
    xn_InvalidRule_index := xn_InvalidRule_index,
    xn_InvalidRule_number := xn_InvalidRule_number,
    xn_InvalidRule_told := xn_InvalidRule_told,
    xj_InvalidRule := a_InvalidRule___init__,
    xy_InvalidRule := xy_InvalidRule,
    kt_InvalidRule := ⟨kit_no xh_InvalidText xt_InvalidText xu_InvalidRule_InvalidText xn_InvalidRule_InvalidText, kit_no xh_InvalidNumber xt_InvalidNumber xu_InvalidRule_InvalidNumber xn_InvalidRule_InvalidNumber, kit_no xh_InvalidName xt_InvalidName xu_InvalidRule_InvalidName xn_InvalidRule_InvalidName, kit_no xh_InvalidIndex xt_InvalidIndex xu_InvalidRule_InvalidIndex xn_InvalidRule_InvalidIndex, kit_no xh_InvalidClaim xt_InvalidClaim xu_InvalidRule_InvalidClaim xn_InvalidRule_InvalidClaim, kit_no xh_InvalidRow xt_InvalidRow xu_InvalidRule_InvalidRow xn_InvalidRule_InvalidRow, kit_no xh_InvalidRanking xt_InvalidRanking xu_InvalidRule_InvalidRanking xn_InvalidRule_InvalidRanking, kit_yes xh_InvalidRule xt_InvalidRule xu_InvalidRule_InvalidRule, kit_no xh_UnknownName xt_UnknownName xu_InvalidRule_UnknownName xn_InvalidRule_UnknownName, kit_no xh_NotABook xt_NotABook xu_InvalidRule_NotABook xn_InvalidRule_NotABook, kit_no xh_NotACase xt_NotACase xu_InvalidRule_NotACase xn_InvalidRule_NotACase, kit_no xh_NotACourt xt_NotACourt xu_InvalidRule_NotACourt xn_InvalidRule_NotACourt, kit_no xh_InvalidLot xt_InvalidLot xu_InvalidRule_InvalidLot xn_InvalidRule_InvalidLot, kit_no xh_InvalidOffers xt_InvalidOffers xu_InvalidRule_InvalidOffers xn_InvalidRule_InvalidOffers, kit_no xh_InvalidCases xt_InvalidCases xu_InvalidRule_InvalidCases xn_InvalidRule_InvalidCases, kit_no xh_NoRanking xt_NoRanking xu_InvalidRule_NoRanking xn_InvalidRule_NoRanking, kit_no xh_TooMany xt_TooMany xu_InvalidRule_TooMany xn_InvalidRule_TooMany, kit_no xh_Broken xt_Broken xu_InvalidRule_Broken xn_InvalidRule_Broken, kit_no xh_InUse xt_InUse xu_InvalidRule_InUse xn_InvalidRule_InUse, kit_no xh_NothingToUndo xt_NothingToUndo xu_InvalidRule_NothingToUndo xn_InvalidRule_NothingToUndo, kit_yes xh_WrongValue xt_WrongValue xu_InvalidRule_WrongValue, kit_no xh_NoAnswer xt_NoAnswer xu_InvalidRule_NoAnswer xn_InvalidRule_NoAnswer, True.intro⟩,
    xk_NotABook := ⟨xga_NotABook, xgt_NotABook, xs_NotABook, xh_NotABook, xcl_NotABook, ihn, iht, xo_NotABook⟩,
    xm_NotABook := exm_any2 xs_WrongValue xs_NoAnswer xh_WrongValue xh_NoAnswer xt_WrongValue xt_NoAnswer xu_NotABook_WrongValue xu_NotABook_NoAnswer rfl,
    xo_NotABook := ⟨⟨_, _, _, _, _, _, _, _, _, _, _, _, _, _, _, xL_NotABook, xR_NotABook⟩, xa_NotABook, xs_NotABook, xt_NotABook, xp_NotABook⟩,
    xf_NotABook := ⟨xga_NotABook, xgt_NotABook, xs_NotABook, xh_NotABook⟩,
    xn_NotABook_given := xn_NotABook_given,
    xn_NotABook_index := xn_NotABook_index,
    xn_NotABook_number := xn_NotABook_number,
    xn_NotABook_told := xn_NotABook_told,
    xj_NotABook := a_NotABook___init__,
    xy_NotABook := xy_NotABook,
    kt_NotABook := ⟨kit_no xh_InvalidText xt_InvalidText xu_NotABook_InvalidText xn_NotABook_InvalidText, kit_no xh_InvalidNumber xt_InvalidNumber xu_NotABook_InvalidNumber xn_NotABook_InvalidNumber, kit_no xh_InvalidName xt_InvalidName xu_NotABook_InvalidName xn_NotABook_InvalidName, kit_no xh_InvalidIndex xt_InvalidIndex xu_NotABook_InvalidIndex xn_NotABook_InvalidIndex, kit_no xh_InvalidClaim xt_InvalidClaim xu_NotABook_InvalidClaim xn_NotABook_InvalidClaim, kit_no xh_InvalidRow xt_InvalidRow xu_NotABook_InvalidRow xn_NotABook_InvalidRow, kit_no xh_InvalidRanking xt_InvalidRanking xu_NotABook_InvalidRanking xn_NotABook_InvalidRanking, kit_no xh_InvalidRule xt_InvalidRule xu_NotABook_InvalidRule xn_NotABook_InvalidRule, kit_no xh_UnknownName xt_UnknownName xu_NotABook_UnknownName xn_NotABook_UnknownName, kit_yes xh_NotABook xt_NotABook xu_NotABook_NotABook, kit_no xh_NotACase xt_NotACase xu_NotABook_NotACase xn_NotABook_NotACase, kit_no xh_NotACourt xt_NotACourt xu_NotABook_NotACourt xn_NotABook_NotACourt, kit_no xh_InvalidLot xt_InvalidLot xu_NotABook_InvalidLot xn_NotABook_InvalidLot, kit_no xh_InvalidOffers xt_InvalidOffers xu_NotABook_InvalidOffers xn_NotABook_InvalidOffers, kit_no xh_InvalidCases xt_InvalidCases xu_NotABook_InvalidCases xn_NotABook_InvalidCases, kit_no xh_NoRanking xt_NoRanking xu_NotABook_NoRanking xn_NotABook_NoRanking, kit_no xh_TooMany xt_TooMany xu_NotABook_TooMany xn_NotABook_TooMany, kit_no xh_Broken xt_Broken xu_NotABook_Broken xn_NotABook_Broken, kit_no xh_InUse xt_InUse xu_NotABook_InUse xn_NotABook_InUse, kit_no xh_NothingToUndo xt_NothingToUndo xu_NotABook_NothingToUndo xn_NotABook_NothingToUndo, kit_yes xh_WrongValue xt_WrongValue xu_NotABook_WrongValue, kit_no xh_NoAnswer xt_NoAnswer xu_NotABook_NoAnswer xn_NotABook_NoAnswer, True.intro⟩,
    f_is_name := f_is_name,
    e_is_name := PySem.W.fnOf "is_name" "is_name" (defArgs s_is_name) (defBody s_is_name) (defScope s_is_name) .none kV_is_name dc_is_name pm_is_name an_is_name cd_is_name ct_is_name,
    F_is_name := fun_mk (st := s_is_name) l_is_name c_is_name k_is_name,
    b_is_name := Fun.binds (ps := ["value"]) (fun_mk (st := s_is_name) l_is_name c_is_name k_is_name) fun _ _ _ _ _ _ us hl => match us, hl with | [_], _ => rfl,
    m_is_name := PySem.W.mg_of X G a_is_name,
    f_are_names := f_are_names,
    e_are_names := PySem.W.fnOf "are_names" "are_names" (defArgs s_are_names) (defBody s_are_names) (defScope s_are_names) .none kV_are_names dc_are_names pm_are_names an_are_names cd_are_names ct_are_names,
    F_are_names := fun_mk (st := s_are_names) l_are_names c_are_names k_are_names,
    b_are_names := Fun.binds (ps := ["values"]) (fun_mk (st := s_are_names) l_are_names c_are_names k_are_names) fun _ _ _ _ _ _ us hl => match us, hl with | [_], _ => rfl,
    m_are_names := PySem.W.mg_of X G a_are_names,
    f_is_any_row := f_is_any_row,
    e_is_any_row := PySem.W.fnOf "is_any_row" "is_any_row" (defArgs s_is_any_row) (defBody s_is_any_row) (defScope s_is_any_row) .none kV_is_any_row dc_is_any_row pm_is_any_row an_is_any_row cd_is_any_row ct_is_any_row,
    F_is_any_row := fun_mk (st := s_is_any_row) l_is_any_row c_is_any_row k_is_any_row,
    b_is_any_row := Fun.binds (ps := ["value"]) (fun_mk (st := s_is_any_row) l_is_any_row c_is_any_row k_is_any_row) fun _ _ _ _ _ _ us hl => match us, hl with | [_], _ => rfl,
    m_is_any_row := PySem.W.mg_of X G a_is_any_row,
    f_is_row := f_is_row,
    e_is_row := PySem.W.fnOf "is_row" "is_row" (defArgs s_is_row) (defBody s_is_row) (defScope s_is_row) .none kV_is_row dc_is_row pm_is_row an_is_row cd_is_row ct_is_row,
    F_is_row := fun_mk (st := s_is_row) l_is_row c_is_row k_is_row,
    b_is_row := Fun.binds (ps := ["value", "many"]) (fun_mk (st := s_is_row) l_is_row c_is_row k_is_row) fun _ _ _ _ _ _ us hl => match us, hl with | [_, _], _ => rfl,
    m_is_row := PySem.W.mg_of X G a_is_row,
    f_is_whole := f_is_whole,
    e_is_whole := PySem.W.fnOf "is_whole" "is_whole" (defArgs s_is_whole) (defBody s_is_whole) (defScope s_is_whole) .none kV_is_whole dc_is_whole pm_is_whole an_is_whole cd_is_whole ct_is_whole,
    F_is_whole := fun_mk (st := s_is_whole) l_is_whole c_is_whole k_is_whole,
    b_is_whole := Fun.binds (ps := ["value"]) (fun_mk (st := s_is_whole) l_is_whole c_is_whole k_is_whole) fun _ _ _ _ _ _ us hl => match us, hl with | [_], _ => rfl,
    m_is_whole := PySem.W.mg_of X G a_is_whole,
    f_is_index := f_is_index,
    e_is_index := PySem.W.fnOf "is_index" "is_index" (defArgs s_is_index) (defBody s_is_index) (defScope s_is_index) .none kV_is_index dc_is_index pm_is_index an_is_index cd_is_index ct_is_index,
    F_is_index := fun_mk (st := s_is_index) l_is_index c_is_index k_is_index,
    b_is_index := Fun.binds (ps := ["value", "many"]) (fun_mk (st := s_is_index) l_is_index c_is_index k_is_index) fun _ _ _ _ _ _ us hl => match us, hl with | [_, _], _ => rfl,
    m_is_index := PySem.W.mg_of X G a_is_index,
    f_wrong_in_lot := f_wrong_in_lot,
    e_wrong_in_lot := PySem.W.fnOf "wrong_in_lot" "wrong_in_lot" (defArgs s_wrong_in_lot) (defBody s_wrong_in_lot) (defScope s_wrong_in_lot) .none kV_wrong_in_lot dc_wrong_in_lot pm_wrong_in_lot an_wrong_in_lot cd_wrong_in_lot ct_wrong_in_lot,
    F_wrong_in_lot := fun_mk (st := s_wrong_in_lot) l_wrong_in_lot c_wrong_in_lot k_wrong_in_lot,
    b_wrong_in_lot := Fun.binds (ps := ["lot", "many"]) (fun_mk (st := s_wrong_in_lot) l_wrong_in_lot c_wrong_in_lot k_wrong_in_lot) fun _ _ _ _ _ _ us hl => match us, hl with | [_, _], _ => rfl,
    m_wrong_in_lot := PySem.W.mg_of X G a_wrong_in_lot,
    f_is_ranking := f_is_ranking,
    e_is_ranking := PySem.W.fnOf "is_ranking" "is_ranking" (defArgs s_is_ranking) (defBody s_is_ranking) (defScope s_is_ranking) .none kV_is_ranking dc_is_ranking pm_is_ranking an_is_ranking cd_is_ranking ct_is_ranking,
    F_is_ranking := fun_mk (st := s_is_ranking) l_is_ranking c_is_ranking k_is_ranking,
    b_is_ranking := Fun.binds (ps := ["value", "many"]) (fun_mk (st := s_is_ranking) l_is_ranking c_is_ranking k_is_ranking) fun _ _ _ _ _ _ us hl => match us, hl with | [_, _], _ => rfl,
    m_is_ranking := PySem.W.mg_of X G a_is_ranking,
    f_InvalidRow___init__ := f_InvalidRow___init__,
    e_InvalidRow___init__ := PySem.W.fnOf "__init__" "InvalidRow.__init__" (defArgs s_InvalidRow___init__) (defBody s_InvalidRow___init__) (defScope s_InvalidRow___init__) .none kV_InvalidRow___init__ dc_InvalidRow___init__ pm_InvalidRow___init__ an_InvalidRow___init__ cd_InvalidRow___init__ ct_InvalidRow___init__,
    F_InvalidRow___init__ := fun_mk (st := s_InvalidRow___init__) l_InvalidRow___init__ c_InvalidRow___init__ k_InvalidRow___init__,
    b_InvalidRow___init__ := Fun.binds (ps := ["self", "given"]) (fun_mk (st := s_InvalidRow___init__) l_InvalidRow___init__ c_InvalidRow___init__ k_InvalidRow___init__) fun _ _ _ _ _ _ us hl => match us, hl with | [_, _], _ => rfl,
    f_check_row := f_check_row,
    e_check_row := PySem.W.fnOf "check_row" "check_row" (defArgs s_check_row) (defBody s_check_row) (defScope s_check_row) .none kV_check_row dc_check_row pm_check_row an_check_row cd_check_row ct_check_row,
    F_check_row := fun_mk (st := s_check_row) l_check_row c_check_row k_check_row,
    b_check_row := Fun.binds (ps := ["row", "many"]) (fun_mk (st := s_check_row) l_check_row c_check_row k_check_row) fun _ _ _ _ _ _ us hl => match us, hl with | [_, _], _ => rfl,
    m_check_row := PySem.W.mg_of X G a_check_row,
    f_InvalidRanking___init__ := f_InvalidRanking___init__,
    e_InvalidRanking___init__ := PySem.W.fnOf "__init__" "InvalidRanking.__init__" (defArgs s_InvalidRanking___init__) (defBody s_InvalidRanking___init__) (defScope s_InvalidRanking___init__) .none kV_InvalidRanking___init__ dc_InvalidRanking___init__ pm_InvalidRanking___init__ an_InvalidRanking___init__ cd_InvalidRanking___init__ ct_InvalidRanking___init__,
    F_InvalidRanking___init__ := fun_mk (st := s_InvalidRanking___init__) l_InvalidRanking___init__ c_InvalidRanking___init__ k_InvalidRanking___init__,
    b_InvalidRanking___init__ := Fun.binds (ps := ["self", "given"]) (fun_mk (st := s_InvalidRanking___init__) l_InvalidRanking___init__ c_InvalidRanking___init__ k_InvalidRanking___init__) fun _ _ _ _ _ _ us hl => match us, hl with | [_, _], _ => rfl,
    f_check_ranking := f_check_ranking,
    e_check_ranking := PySem.W.fnOf "check_ranking" "check_ranking" (defArgs s_check_ranking) (defBody s_check_ranking) (defScope s_check_ranking) .none kV_check_ranking dc_check_ranking pm_check_ranking an_check_ranking cd_check_ranking ct_check_ranking,
    F_check_ranking := fun_mk (st := s_check_ranking) l_check_ranking c_check_ranking k_check_ranking,
    b_check_ranking := Fun.binds (ps := ["ranking", "many"]) (fun_mk (st := s_check_ranking) l_check_ranking c_check_ranking k_check_ranking) fun _ _ _ _ _ _ us hl => match us, hl with | [_, _], _ => rfl,
    m_check_ranking := PySem.W.mg_of X G a_check_ranking,
    f_InvalidRule___init__ := f_InvalidRule___init__,
    e_InvalidRule___init__ := PySem.W.fnOf "__init__" "InvalidRule.__init__" (defArgs s_InvalidRule___init__) (defBody s_InvalidRule___init__) (defScope s_InvalidRule___init__) .none kV_InvalidRule___init__ dc_InvalidRule___init__ pm_InvalidRule___init__ an_InvalidRule___init__ cd_InvalidRule___init__ ct_InvalidRule___init__,
    F_InvalidRule___init__ := fun_mk (st := s_InvalidRule___init__) l_InvalidRule___init__ c_InvalidRule___init__ k_InvalidRule___init__,
    b_InvalidRule___init__ := Fun.binds (ps := ["self", "given"]) (fun_mk (st := s_InvalidRule___init__) l_InvalidRule___init__ c_InvalidRule___init__ k_InvalidRule___init__) fun _ _ _ _ _ _ us hl => match us, hl with | [_, _], _ => rfl,
    f_check_rule := f_check_rule,
    e_check_rule := PySem.W.fnOf "check_rule" "check_rule" (defArgs s_check_rule) (defBody s_check_rule) (defScope s_check_rule) .none kV_check_rule dc_check_rule pm_check_rule an_check_rule cd_check_rule ct_check_rule,
    F_check_rule := fun_mk (st := s_check_rule) l_check_rule c_check_rule k_check_rule,
    b_check_rule := Fun.binds (ps := ["rule", "many"]) (fun_mk (st := s_check_rule) l_check_rule c_check_rule k_check_rule) fun _ _ _ _ _ _ us hl => match us, hl with | [_, _], _ => rfl,
    m_check_rule := PySem.W.mg_of X G a_check_rule,
    f_InvalidLot___init__ := f_InvalidLot___init__,
    e_InvalidLot___init__ := PySem.W.fnOf "__init__" "InvalidLot.__init__" (defArgs s_InvalidLot___init__) (defBody s_InvalidLot___init__) (defScope s_InvalidLot___init__) .none kV_InvalidLot___init__ dc_InvalidLot___init__ pm_InvalidLot___init__ an_InvalidLot___init__ cd_InvalidLot___init__ ct_InvalidLot___init__,
    F_InvalidLot___init__ := fun_mk (st := s_InvalidLot___init__) l_InvalidLot___init__ c_InvalidLot___init__ k_InvalidLot___init__,
    b_InvalidLot___init__ := Fun.binds (ps := ["self", "index"]) (fun_mk (st := s_InvalidLot___init__) l_InvalidLot___init__ c_InvalidLot___init__ k_InvalidLot___init__) fun _ _ _ _ _ _ us hl => match us, hl with | [_, _], _ => rfl,
    f_check_lot := f_check_lot,
    e_check_lot := PySem.W.fnOf "check_lot" "check_lot" (defArgs s_check_lot) (defBody s_check_lot) (defScope s_check_lot) .none kV_check_lot dc_check_lot pm_check_lot an_check_lot cd_check_lot ct_check_lot,
    F_check_lot := fun_mk (st := s_check_lot) l_check_lot c_check_lot k_check_lot,
    b_check_lot := Fun.binds (ps := ["lot", "many"]) (fun_mk (st := s_check_lot) l_check_lot c_check_lot k_check_lot) fun _ _ _ _ _ _ us hl => match us, hl with | [_, _], _ => rfl,
    m_check_lot := PySem.W.mg_of X G a_check_lot,
    f_read_book := f_read_book,
    e_read_book := PySem.W.fnOf "read_book" "read_book" (defArgs s_read_book) (defBody s_read_book) (defScope s_read_book) .none kV_read_book dc_read_book pm_read_book an_read_book cd_read_book ct_read_book,
    F_read_book := fun_mk (st := s_read_book) l_read_book c_read_book k_read_book,
    b_read_book := Fun.binds (ps := ["text"]) (fun_mk (st := s_read_book) l_read_book c_read_book k_read_book) fun _ _ _ _ _ _ us hl => match us, hl with | [_], _ => rfl,
    m_read_book := PySem.W.mg_of X G a_read_book,
    f_row_holds := f_row_holds,
    e_row_holds := PySem.W.fnOf "row_holds" "row_holds" (defArgs s_row_holds) (defBody s_row_holds) (defScope s_row_holds) .none kV_row_holds dc_row_holds pm_row_holds an_row_holds cd_row_holds ct_row_holds,
    F_row_holds := fun_mk (st := s_row_holds) l_row_holds c_row_holds k_row_holds,
    b_row_holds := Fun.binds (ps := ["row", "ranking"]) (fun_mk (st := s_row_holds) l_row_holds c_row_holds k_row_holds) fun _ _ _ _ _ _ us hl => match us, hl with | [_, _], _ => rfl,
    m_row_holds := PySem.W.mg_of X G a_row_holds,
    f_all_hold := f_all_hold,
    e_all_hold := PySem.W.fnOf "all_hold" "all_hold" (defArgs s_all_hold) (defBody s_all_hold) (defScope s_all_hold) .none kV_all_hold dc_all_hold pm_all_hold an_all_hold cd_all_hold ct_all_hold,
    F_all_hold := fun_mk (st := s_all_hold) l_all_hold c_all_hold k_all_hold,
    b_all_hold := Fun.binds (ps := ["rows", "ranking"]) (fun_mk (st := s_all_hold) l_all_hold c_all_hold k_all_hold) fun _ _ _ _ _ _ us hl => match us, hl with | [_, _], _ => rfl,
    m_all_hold := PySem.W.mg_of X G a_all_hold,
    f_NotABook___init__ := f_NotABook___init__,
    e_NotABook___init__ := PySem.W.fnOf "__init__" "NotABook.__init__" (defArgs s_NotABook___init__) (defBody s_NotABook___init__) (defScope s_NotABook___init__) .none kV_NotABook___init__ dc_NotABook___init__ pm_NotABook___init__ an_NotABook___init__ cd_NotABook___init__ ct_NotABook___init__,
    F_NotABook___init__ := fun_mk (st := s_NotABook___init__) l_NotABook___init__ c_NotABook___init__ k_NotABook___init__,
    b_NotABook___init__ := Fun.binds (ps := ["self", "given"]) (fun_mk (st := s_NotABook___init__) l_NotABook___init__ c_NotABook___init__ k_NotABook___init__) fun _ _ _ _ _ _ us hl => match us, hl with | [_, _], _ => rfl,
    f_check_book := f_check_book,
    e_check_book := PySem.W.fnOf "check_book" "check_book" (defArgs s_check_book) (defBody s_check_book) (defScope s_check_book) .none kV_check_book dc_check_book pm_check_book an_check_book cd_check_book ct_check_book,
    F_check_book := fun_mk (st := s_check_book) l_check_book c_check_book k_check_book,
    b_check_book := Fun.binds (ps := ["book"]) (fun_mk (st := s_check_book) l_check_book c_check_book k_check_book) fun _ _ _ _ _ _ us hl => match us, hl with | [_], _ => rfl,
    m_check_book := PySem.W.mg_of X G a_check_book,
    f_Book_rows := f_Book_rows,
    e_Book_rows := PySem.W.fnOf "rows" "Book.rows" (defArgs s_Book_rows) (defBody s_Book_rows) (defScope s_Book_rows) .none kV_Book_rows dc_Book_rows pm_Book_rows an_Book_rows cd_Book_rows ct_Book_rows,
    F_Book_rows := fun_mk (st := s_Book_rows) l_Book_rows c_Book_rows k_Book_rows,
    b_Book_rows := Fun.binds (ps := ["self"]) (fun_mk (st := s_Book_rows) l_Book_rows c_Book_rows k_Book_rows) fun _ _ _ _ _ _ us hl => match us, hl with | [_], _ => rfl,
    q_Book_rows := q_Book_rows,
    p_Book_rows := ⟨a_Book_rows, g_Book_rows, t_Book_rows, ⟨_, r_Book_rows⟩⟩,
    f_Book_names := f_Book_names,
    e_Book_names := PySem.W.fnOf "names" "Book.names" (defArgs s_Book_names) (defBody s_Book_names) (defScope s_Book_names) .none kV_Book_names dc_Book_names pm_Book_names an_Book_names cd_Book_names ct_Book_names,
    F_Book_names := fun_mk (st := s_Book_names) l_Book_names c_Book_names k_Book_names,
    b_Book_names := Fun.binds (ps := ["self"]) (fun_mk (st := s_Book_names) l_Book_names c_Book_names k_Book_names) fun _ _ _ _ _ _ us hl => match us, hl with | [_], _ => rfl,
    q_Book_names := q_Book_names,
    p_Book_names := ⟨a_Book_names, g_Book_names, t_Book_names, ⟨_, r_Book_names⟩⟩,
    f_holds := f_holds,
    e_holds := PySem.W.fnOf "holds" "holds" (defArgs s_holds) (defBody s_holds) (defScope s_holds) .none kV_holds dc_holds pm_holds an_holds cd_holds ct_holds,
    F_holds := fun_mk (st := s_holds) l_holds c_holds k_holds,
    b_holds := Fun.binds (ps := ["book", "row", "ranking"]) (fun_mk (st := s_holds) l_holds c_holds k_holds) fun _ _ _ _ _ _ us hl => match us, hl with | [_, _, _], _ => rfl,
    m_holds := PySem.W.mg_of X G a_holds,
    f_fits := f_fits,
    e_fits := PySem.W.fnOf "fits" "fits" (defArgs s_fits) (defBody s_fits) (defScope s_fits) .none kV_fits dc_fits pm_fits an_fits cd_fits ct_fits,
    F_fits := fun_mk (st := s_fits) l_fits c_fits k_fits,
    b_fits := Fun.binds (ps := ["book", "ranking"]) (fun_mk (st := s_fits) l_fits c_fits k_fits) fun _ _ _ _ _ _ us hl => match us, hl with | [_, _], _ => rfl,
    m_fits := PySem.W.mg_of X G a_fits,
    f_head_of := f_head_of,
    e_head_of := PySem.W.fnOf "head_of" "head_of" (defArgs s_head_of) (defBody s_head_of) (defScope s_head_of) .none kV_head_of dc_head_of pm_head_of an_head_of cd_head_of ct_head_of,
    F_head_of := fun_mk (st := s_head_of) l_head_of c_head_of k_head_of,
    b_head_of := Fun.binds (ps := ["rules"]) (fun_mk (st := s_head_of) l_head_of c_head_of k_head_of) fun _ _ _ _ _ _ us hl => match us, hl with | [_], _ => rfl,
    m_head_of := PySem.W.mg_of X G a_head_of,
    f_sides := f_sides,
    e_sides := PySem.W.fnOf "sides" "sides" (defArgs s_sides) (defBody s_sides) (defScope s_sides) .none kV_sides dc_sides pm_sides an_sides cd_sides ct_sides,
    F_sides := fun_mk (st := s_sides) l_sides c_sides k_sides,
    b_sides := Fun.binds (ps := ["row"]) (fun_mk (st := s_sides) l_sides c_sides k_sides) fun _ _ _ _ _ _ us hl => match us, hl with | [_], _ => rfl,
    m_sides := PySem.W.mg_of X G a_sides,
    f_rules_behind := f_rules_behind,
    e_rules_behind := PySem.W.fnOf "rules_behind" "rules_behind" (defArgs s_rules_behind) (defBody s_rules_behind) (defScope s_rules_behind) .none kV_rules_behind dc_rules_behind pm_rules_behind an_rules_behind cd_rules_behind ct_rules_behind,
    F_rules_behind := fun_mk (st := s_rules_behind) l_rules_behind c_rules_behind k_rules_behind,
    b_rules_behind := Fun.binds (ps := ["head", "told", "many"]) (fun_mk (st := s_rules_behind) l_rules_behind c_rules_behind k_rules_behind) fun _ _ _ _ _ _ us hl => match us, hl with | [_, _, _], _ => rfl,
    m_rules_behind := PySem.W.mg_of X G a_rules_behind,
    f_steps := f_steps,
    e_steps := PySem.W.fnOf "steps" "steps" (defArgs s_steps) (defBody s_steps) (defScope s_steps) .none kV_steps dc_steps pm_steps an_steps cd_steps ct_steps,
    F_steps := fun_mk (st := s_steps) l_steps c_steps k_steps,
    b_steps := Fun.binds (ps := ["rows", "many"]) (fun_mk (st := s_steps) l_steps c_steps k_steps) fun _ _ _ _ _ _ us hl => match us, hl with | [_, _], _ => rfl,
    m_steps := PySem.W.mg_of X G a_steps,
    f_endings := f_endings,
    e_endings := PySem.W.fnOf "endings" "endings" (defArgs s_endings) (defBody s_endings) (defScope s_endings) .none kV_endings dc_endings pm_endings an_endings cd_endings ct_endings,
    F_endings := fun_mk (st := s_endings) l_endings c_endings k_endings,
    b_endings := Fun.binds (ps := ["behind"]) (fun_mk (st := s_endings) l_endings c_endings k_endings) fun _ _ _ _ _ _ us hl => match us, hl with | [_], _ => rfl,
    m_endings := PySem.W.mg_of X G a_endings,
    f_InvalidNumber___init__ := f_InvalidNumber___init__,
    e_InvalidNumber___init__ := PySem.W.fnOf "__init__" "InvalidNumber.__init__" (defArgs s_InvalidNumber___init__) (defBody s_InvalidNumber___init__) (defScope s_InvalidNumber___init__) .none kV_InvalidNumber___init__ dc_InvalidNumber___init__ pm_InvalidNumber___init__ an_InvalidNumber___init__ cd_InvalidNumber___init__ ct_InvalidNumber___init__,
    F_InvalidNumber___init__ := fun_mk (st := s_InvalidNumber___init__) l_InvalidNumber___init__ c_InvalidNumber___init__ k_InvalidNumber___init__,
    b_InvalidNumber___init__ := Fun.binds (ps := ["self", "given"]) (fun_mk (st := s_InvalidNumber___init__) l_InvalidNumber___init__ c_InvalidNumber___init__ k_InvalidNumber___init__) fun _ _ _ _ _ _ us hl => match us, hl with | [_, _], _ => rfl,
    f_check_most := f_check_most,
    e_check_most := PySem.W.fnOf "check_most" "check_most" (defArgs s_check_most) (defBody s_check_most) (defScope s_check_most) .none kV_check_most dc_check_most pm_check_most an_check_most cd_check_most ct_check_most,
    F_check_most := fun_mk (st := s_check_most) l_check_most c_check_most k_check_most,
    b_check_most := Fun.binds (ps := ["most"]) (fun_mk (st := s_check_most) l_check_most c_check_most k_check_most) fun _ _ _ _ _ _ us hl => match us, hl with | [_], _ => rfl,
    m_check_most := PySem.W.mg_of X G a_check_most,
    f_surely_wrong := f_surely_wrong,
    e_surely_wrong := PySem.W.fnOf "surely_wrong" "surely_wrong" (defArgs s_surely_wrong) (defBody s_surely_wrong) (defScope s_surely_wrong) .none kV_surely_wrong dc_surely_wrong pm_surely_wrong an_surely_wrong cd_surely_wrong ct_surely_wrong,
    F_surely_wrong := fun_mk (st := s_surely_wrong) l_surely_wrong c_surely_wrong k_surely_wrong,
    b_surely_wrong := Fun.binds (ps := ["book", "most"]) (fun_mk (st := s_surely_wrong) l_surely_wrong c_surely_wrong k_surely_wrong) fun _ _ _ _ _ _ us hl => match us, hl with | [_, _], _ => rfl,
    m_surely_wrong := PySem.W.mg_of X G a_surely_wrong,
    f_follows_with := f_follows_with,
    e_follows_with := PySem.W.fnOf "follows_with" "follows_with" (defArgs s_follows_with) (defBody s_follows_with) (defScope s_follows_with) .none kV_follows_with dc_follows_with pm_follows_with an_follows_with cd_follows_with ct_follows_with,
    F_follows_with := fun_mk (st := s_follows_with) l_follows_with c_follows_with k_follows_with,
    b_follows_with := Fun.binds (ps := ["book", "row", "most"]) (fun_mk (st := s_follows_with) l_follows_with c_follows_with k_follows_with) fun _ _ _ _ _ _ us hl => match us, hl with | [_, _, _], _ => rfl,
    m_follows_with := PySem.W.mg_of X G a_follows_with,
    f_judge := f_judge,
    e_judge := PySem.W.fnOf "judge" "judge" (defArgs s_judge) (defBody s_judge) (defScope s_judge) .none kV_judge dc_judge pm_judge an_judge cd_judge ct_judge,
    F_judge := fun_mk (st := s_judge) l_judge c_judge k_judge,
    b_judge := Fun.binds (ps := ["book", "row"]) (fun_mk (st := s_judge) l_judge c_judge k_judge) fun _ _ _ _ _ _ us hl => match us, hl with | [_, _], _ => rfl,
    m_judge := PySem.W.mg_of X G a_judge,
    f_reasons := f_reasons,
    e_reasons := PySem.W.fnOf "reasons" "reasons" (defArgs s_reasons) (defBody s_reasons) (defScope s_reasons) .none kV_reasons dc_reasons pm_reasons an_reasons cd_reasons ct_reasons,
    F_reasons := fun_mk (st := s_reasons) l_reasons c_reasons k_reasons,
    b_reasons := Fun.binds (ps := ["book", "rule"]) (fun_mk (st := s_reasons) l_reasons c_reasons k_reasons) fun _ _ _ _ _ _ us hl => match us, hl with | [_, _], _ => rfl,
    m_reasons := PySem.W.mg_of X G a_reasons,
    f_ranking_at := f_ranking_at,
    e_ranking_at := PySem.W.fnOf "ranking_at" "ranking_at" (defArgs s_ranking_at) (defBody s_ranking_at) (defScope s_ranking_at) .none kV_ranking_at dc_ranking_at pm_ranking_at an_ranking_at cd_ranking_at ct_ranking_at,
    F_ranking_at := fun_mk (st := s_ranking_at) l_ranking_at c_ranking_at k_ranking_at,
    b_ranking_at := Fun.binds (ps := ["book", "number"]) (fun_mk (st := s_ranking_at) l_ranking_at c_ranking_at k_ranking_at) fun _ _ _ _ _ _ us hl => match us, hl with | [_, _], _ => rfl,
    m_ranking_at := PySem.W.mg_of X G a_ranking_at,
    f_number_of := f_number_of,
    e_number_of := PySem.W.fnOf "number_of" "number_of" (defArgs s_number_of) (defBody s_number_of) (defScope s_number_of) .none kV_number_of dc_number_of pm_number_of an_number_of cd_number_of ct_number_of,
    F_number_of := fun_mk (st := s_number_of) l_number_of c_number_of k_number_of,
    b_number_of := Fun.binds (ps := ["book", "ranking"]) (fun_mk (st := s_number_of) l_number_of c_number_of k_number_of) fun _ _ _ _ _ _ us hl => match us, hl with | [_, _], _ => rfl,
    m_number_of := PySem.W.mg_of X G a_number_of,
    f_places := f_places,
    e_places := PySem.W.fnOf "places" "places" (defArgs s_places) (defBody s_places) (defScope s_places) .none kV_places dc_places pm_places an_places cd_places ct_places,
    F_places := fun_mk (st := s_places) l_places c_places k_places,
    b_places := Fun.binds (ps := ["book", "rule"]) (fun_mk (st := s_places) l_places c_places k_places) fun _ _ _ _ _ _ us hl => match us, hl with | [_, _], _ => rfl,
    m_places := PySem.W.mg_of X G a_places,
    f_beginnings := f_beginnings,
    e_beginnings := PySem.W.fnOf "beginnings" "beginnings" (defArgs s_beginnings) (defBody s_beginnings) (defScope s_beginnings) .none kV_beginnings dc_beginnings pm_beginnings an_beginnings cd_beginnings ct_beginnings,
    F_beginnings := fun_mk (st := s_beginnings) l_beginnings c_beginnings k_beginnings,
    b_beginnings := Fun.binds (ps := ["book", "lot"]) (fun_mk (st := s_beginnings) l_beginnings c_beginnings k_beginnings) fun _ _ _ _ _ _ us hl => match us, hl with | [_, _], _ => rfl,
    m_beginnings := PySem.W.mg_of X G a_beginnings,
    f__law_purse := f__law_purse,
    e__law_purse := PySem.W.fnOf "_law_purse" "_law_purse" (defArgs s__law_purse) (defBody s__law_purse) (defScope s__law_purse) .none kV__law_purse dc__law_purse pm__law_purse an__law_purse cd__law_purse ct__law_purse,
    F__law_purse := fun_mk (st := s__law_purse) l__law_purse c__law_purse k__law_purse,
    b__law_purse := Fun.binds (ps := ["_law_script", "_law_spot"]) (fun_mk (st := s__law_purse) l__law_purse c__law_purse k__law_purse) fun _ _ _ _ _ _ us hl => match us, hl with | [_, _], _ => rfl,
    m__law_purse := PySem.W.mg_of X G a__law_purse,
    f__law_draw := f__law_draw,
    e__law_draw := PySem.W.fnOf "_law_draw" "_law_draw" (defArgs s__law_draw) (defBody s__law_draw) (defScope s__law_draw) .none kV__law_draw dc__law_draw pm__law_draw an__law_draw cd__law_draw ct__law_draw,
    F__law_draw := fun_mk (st := s__law_draw) l__law_draw c__law_draw k__law_draw,
    b__law_draw := Fun.binds (ps := ["_law_purse_here", "_law_many"]) (fun_mk (st := s__law_draw) l__law_draw c__law_draw k__law_draw) fun _ _ _ _ _ _ us hl => match us, hl with | [_, _], _ => rfl,
    m__law_draw := PySem.W.mg_of X G a__law_draw,
    f__law_sort := f__law_sort,
    e__law_sort := PySem.W.fnOf "_law_sort" "_law_sort" (defArgs s__law_sort) (defBody s__law_sort) (defScope s__law_sort) .none kV__law_sort dc__law_sort pm__law_sort an__law_sort cd__law_sort ct__law_sort,
    F__law_sort := fun_mk (st := s__law_sort) l__law_sort c__law_sort k__law_sort,
    b__law_sort := Fun.binds (ps := ["_law_e"]) (fun_mk (st := s__law_sort) l__law_sort c__law_sort k__law_sort) fun _ _ _ _ _ _ us hl => match us, hl with | [_], _ => rfl,
    m__law_sort := PySem.W.mg_of X G a__law_sort,
    f_Book___repr__ := f_Book___repr__,
    e_Book___repr__ := PySem.W.fnOf "__repr__" "Book.__repr__" (defArgs s_Book___repr__) (defBody s_Book___repr__) (defScope s_Book___repr__) .none kV_Book___repr__ dc_Book___repr__ pm_Book___repr__ an_Book___repr__ cd_Book___repr__ ct_Book___repr__,
    F_Book___repr__ := fun_mk (st := s_Book___repr__) l_Book___repr__ c_Book___repr__ k_Book___repr__,
    b_Book___repr__ := Fun.binds (ps := ["self"]) (fun_mk (st := s_Book___repr__) l_Book___repr__ c_Book___repr__ k_Book___repr__) fun _ _ _ _ _ _ us hl => match us, hl with | [_], _ => rfl,
    h_Book___repr__ := ⟨a_Book___repr__, i_Book___repr__, k_Book___repr__⟩,
    f__law_attribute := f__law_attribute,
    e__law_attribute := PySem.W.fnOf "_law_attribute" "_law_attribute" (defArgs s__law_attribute) (defBody s__law_attribute) (defScope s__law_attribute) .none kV__law_attribute dc__law_attribute pm__law_attribute an__law_attribute cd__law_attribute ct__law_attribute,
    F__law_attribute := fun_mk (st := s__law_attribute) l__law_attribute c__law_attribute k__law_attribute,
    b__law_attribute := Fun.binds (ps := ["_law_e", "_law_word_here"]) (fun_mk (st := s__law_attribute) l__law_attribute c__law_attribute k__law_attribute) fun _ _ _ _ _ _ us hl => match us, hl with | [_, _], _ => rfl,
    m__law_attribute := PySem.W.mg_of X G a__law_attribute,
    f__law_told := f__law_told,
    e__law_told := PySem.W.fnOf "_law_told" "_law_told" (defArgs s__law_told) (defBody s__law_told) (defScope s__law_told) .none kV__law_told dc__law_told pm__law_told an__law_told cd__law_told ct__law_told,
    F__law_told := fun_mk (st := s__law_told) l__law_told c__law_told k__law_told,
    b__law_told := Fun.binds (ps := ["_law_job"]) (fun_mk (st := s__law_told) l__law_told c__law_told k__law_told) fun _ _ _ _ _ _ us hl => match us, hl with | [_], _ => rfl,
    m__law_told := PySem.W.mg_of X G a__law_told,
    f__law_labels := f__law_labels,
    e__law_labels := PySem.W.fnOf "_law_labels" "_law_labels" (defArgs s__law_labels) (defBody s__law_labels) (defScope s__law_labels) .none kV__law_labels dc__law_labels pm__law_labels an__law_labels cd__law_labels ct__law_labels,
    F__law_labels := fun_mk (st := s__law_labels) l__law_labels c__law_labels k__law_labels,
    b__law_labels := Fun.binds (ps := ["_law_purse_here", "_law_many"]) (fun_mk (st := s__law_labels) l__law_labels c__law_labels k__law_labels) fun _ _ _ _ _ _ us hl => match us, hl with | [_, _], _ => rfl,
    m__law_labels := PySem.W.mg_of X G a__law_labels,
    f__law_all := f__law_all,
    e__law_all := PySem.W.fnOf "_law_all" "_law_all" (defArgs s__law_all) (defBody s__law_all) (defScope s__law_all) .none kV__law_all dc__law_all pm__law_all an__law_all cd__law_all ct__law_all,
    F__law_all := fun_mk (st := s__law_all) l__law_all c__law_all k__law_all,
    b__law_all := Fun.binds (ps := ["_law_many"]) (fun_mk (st := s__law_all) l__law_all c__law_all k__law_all) fun _ _ _ _ _ _ us hl => match us, hl with | [_], _ => rfl,
    m__law_all := PySem.W.mg_of X G a__law_all,
    f__law_holds := f__law_holds,
    e__law_holds := PySem.W.fnOf "_law_holds" "_law_holds" (defArgs s__law_holds) (defBody s__law_holds) (defScope s__law_holds) .none kV__law_holds dc__law_holds pm__law_holds an__law_holds cd__law_holds ct__law_holds,
    F__law_holds := fun_mk (st := s__law_holds) l__law_holds c__law_holds k__law_holds,
    b__law_holds := Fun.binds (ps := ["_law_row_here", "_law_order_here"]) (fun_mk (st := s__law_holds) l__law_holds c__law_holds k__law_holds) fun _ _ _ _ _ _ us hl => match us, hl with | [_, _], _ => rfl,
    m__law_holds := PySem.W.mg_of X G a__law_holds,
    f__law_flipped := f__law_flipped,
    e__law_flipped := PySem.W.fnOf "_law_flipped" "_law_flipped" (defArgs s__law_flipped) (defBody s__law_flipped) (defScope s__law_flipped) .none kV__law_flipped dc__law_flipped pm__law_flipped an__law_flipped cd__law_flipped ct__law_flipped,
    F__law_flipped := fun_mk (st := s__law_flipped) l__law_flipped c__law_flipped k__law_flipped,
    b__law_flipped := Fun.binds (ps := ["_law_row_here"]) (fun_mk (st := s__law_flipped) l__law_flipped c__law_flipped k__law_flipped) fun _ _ _ _ _ _ us hl => match us, hl with | [_], _ => rfl,
    m__law_flipped := PySem.W.mg_of X G a__law_flipped,
    f__law_signs := f__law_signs,
    e__law_signs := PySem.W.fnOf "_law_signs" "_law_signs" (defArgs s__law_signs) (defBody s__law_signs) (defScope s__law_signs) .none kV__law_signs dc__law_signs pm__law_signs an__law_signs cd__law_signs ct__law_signs,
    F__law_signs := fun_mk (st := s__law_signs) l__law_signs c__law_signs k__law_signs,
    b__law_signs := Fun.binds (ps := ["_law_purse_here", "_law_many"]) (fun_mk (st := s__law_signs) l__law_signs c__law_signs k__law_signs) fun _ _ _ _ _ _ us hl => match us, hl with | [_, _], _ => rfl,
    m__law_signs := PySem.W.mg_of X G a__law_signs,
    f__law_rows := f__law_rows,
    e__law_rows := PySem.W.fnOf "_law_rows" "_law_rows" (defArgs s__law_rows) (defBody s__law_rows) (defScope s__law_rows) .none kV__law_rows dc__law_rows pm__law_rows an__law_rows cd__law_rows ct__law_rows,
    F__law_rows := fun_mk (st := s__law_rows) l__law_rows c__law_rows k__law_rows,
    b__law_rows := Fun.binds (ps := ["_law_purse_here", "_law_many", "_law_most", "_law_wrong"]) (fun_mk (st := s__law_rows) l__law_rows c__law_rows k__law_rows) fun _ _ _ _ _ _ us hl => match us, hl with | [_, _, _, _], _ => rfl,
    m__law_rows := PySem.W.mg_of X G a__law_rows,
    f__law_spelled := f__law_spelled,
    e__law_spelled := PySem.W.fnOf "_law_spelled" "_law_spelled" (defArgs s__law_spelled) (defBody s__law_spelled) (defScope s__law_spelled) .none kV__law_spelled dc__law_spelled pm__law_spelled an__law_spelled cd__law_spelled ct__law_spelled,
    F__law_spelled := fun_mk (st := s__law_spelled) l__law_spelled c__law_spelled k__law_spelled,
    b__law_spelled := Fun.binds (ps := ["_law_labels_here", "_law_rows_here"]) (fun_mk (st := s__law_spelled) l__law_spelled c__law_spelled k__law_spelled) fun _ _ _ _ _ _ us hl => match us, hl with | [_, _], _ => rfl,
    m__law_spelled := PySem.W.mg_of X G a__law_spelled,
    f__law_book := f__law_book,
    e__law_book := PySem.W.fnOf "_law_book" "_law_book" (defArgs s__law_book) (defBody s__law_book) (defScope s__law_book) .none kV__law_book dc__law_book pm__law_book an__law_book cd__law_book ct__law_book,
    F__law_book := fun_mk (st := s__law_book) l__law_book c__law_book k__law_book,
    b__law_book := Fun.binds (ps := ["_law_purse_here", "_law_least", "_law_span", "_law_most"]) (fun_mk (st := s__law_book) l__law_book c__law_book k__law_book) fun _ _ _ _ _ _ us hl => match us, hl with | [_, _, _, _], _ => rfl,
    m__law_book := PySem.W.mg_of X G a__law_book,
    f__law_wrong_order := f__law_wrong_order,
    e__law_wrong_order := PySem.W.fnOf "_law_wrong_order" "_law_wrong_order" (defArgs s__law_wrong_order) (defBody s__law_wrong_order) (defScope s__law_wrong_order) .none kV__law_wrong_order dc__law_wrong_order pm__law_wrong_order an__law_wrong_order cd__law_wrong_order ct__law_wrong_order,
    F__law_wrong_order := fun_mk (st := s__law_wrong_order) l__law_wrong_order c__law_wrong_order k__law_wrong_order,
    b__law_wrong_order := Fun.binds (ps := ["_law_purse_here", "_law_many"]) (fun_mk (st := s__law_wrong_order) l__law_wrong_order c__law_wrong_order k__law_wrong_order) fun _ _ _ _ _ _ us hl => match us, hl with | [_, _], _ => rfl,
    m__law_wrong_order := PySem.W.mg_of X G a__law_wrong_order,
    f__law_firsts := f__law_firsts,
    e__law_firsts := PySem.W.fnOf "_law_firsts" "_law_firsts" (defArgs s__law_firsts) (defBody s__law_firsts) (defScope s__law_firsts) .none kV__law_firsts dc__law_firsts pm__law_firsts an__law_firsts (.ref lc__law_firsts) ct__law_firsts,
    F__law_firsts := fun_mk (st := s__law_firsts) l__law_firsts c__law_firsts k__law_firsts,
    b__law_firsts := Fun.binds (ps := ["_law_x", "_law_row_here", "_law_order_here"]) (fun_mk (st := s__law_firsts) l__law_firsts c__law_firsts k__law_firsts) fun _ _ _ _ _ _ us hl => match us, hl with | [_, _, _], _ => rfl,
    lc__law_firsts := lc__law_firsts,
    lt__law_firsts := lt__law_firsts,
    FC__law_firsts := ⟨_, _, _, _, _, _, _, _, rfl, l__law_firsts, c__law_firsts⟩,
    m__law_firsts := PySem.W.mg_of X G a__law_firsts,
    f_Book___init__ := f_Book___init__,
    e_Book___init__ := PySem.W.fnOf "__init__" "Book.__init__" (defArgs s_Book___init__) (defBody s_Book___init__) (defScope s_Book___init__) .none kV_Book___init__ dc_Book___init__ pm_Book___init__ an_Book___init__ cd_Book___init__ ct_Book___init__,
    F_Book___init__ := fun_mk (st := s_Book___init__) l_Book___init__ c_Book___init__ k_Book___init__,
    b_Book___init__ := Fun.binds (ps := ["self", "text"]) (fun_mk (st := s_Book___init__) l_Book___init__ c_Book___init__ k_Book___init__) fun _ _ _ _ _ _ us hl => match us, hl with | [_, _], _ => rfl,
    mk_Book := ⟨cmk_Book, a_Book___init__, i_Book___init__, ckc_Book⟩,
    f_Book_text := f_Book_text,
    e_Book_text := PySem.W.fnOf "text" "Book.text" (defArgs s_Book_text) (defBody s_Book_text) (defScope s_Book_text) .none kV_Book_text dc_Book_text pm_Book_text an_Book_text cd_Book_text ct_Book_text,
    F_Book_text := fun_mk (st := s_Book_text) l_Book_text c_Book_text k_Book_text,
    b_Book_text := Fun.binds (ps := ["self"]) (fun_mk (st := s_Book_text) l_Book_text c_Book_text k_Book_text) fun _ _ _ _ _ _ us hl => match us, hl with | [_], _ => rfl,
    q_Book_text := q_Book_text,
    p_Book_text := ⟨a_Book_text, g_Book_text, t_Book_text, ⟨_, r_Book_text⟩⟩,
    f__law_right := f__law_right,
    e__law_right := PySem.W.fnOf "_law_right" "_law_right" (defArgs s__law_right) (defBody s__law_right) (defScope s__law_right) .none kV__law_right dc__law_right pm__law_right an__law_right (.ref lc__law_right) ct__law_right,
    F__law_right := fun_mk (st := s__law_right) l__law_right c__law_right k__law_right,
    b__law_right := Fun.binds (ps := ["_law_purse_here"]) (fun_mk (st := s__law_right) l__law_right c__law_right k__law_right) fun _ _ _ _ _ _ us hl => match us, hl with | [_], _ => rfl,
    lc__law_right := lc__law_right,
    lt__law_right := lt__law_right,
    FC__law_right := ⟨_, _, _, _, _, _, _, _, rfl, l__law_right, c__law_right⟩,
    m__law_right := PySem.W.mg_of X G a__law_right,
    f_law := fa,
    e_law := PySem.W.fnOf "law" "law" (defArgs s_law) (defBody s_law) (defScope s_law) .none kV_law dc_law pm_law an_law cd_law ct_law,
    F_law := fun_mk (st := s_law) l_law c_law k_law,
    b_law := Fun.binds (ps := ["_law_script"]) (fun_mk (st := s_law) l_law c_law k_law) fun _ _ _ _ _ _ us hl => match us, hl with | [_], _ => rfl,
    m_law := PySem.W.mg_of X G a_law,
    n_abs := PySem.W.mg_none_of X G z_abs,
    n_all := PySem.W.mg_none_of X G z_all,
    n_bool := PySem.W.mg_none_of X G z_bool,
    n_divmod := PySem.W.mg_none_of X G z_divmod,
    n_enumerate := PySem.W.mg_none_of X G z_enumerate,
    n_int := PySem.W.mg_none_of X G z_int,
    n_isinstance := PySem.W.mg_none_of X G z_isinstance,
    n_len := PySem.W.mg_none_of X G z_len,
    n_list := PySem.W.mg_none_of X G z_list,
    n_max := PySem.W.mg_none_of X G z_max,
    n_min := PySem.W.mg_none_of X G z_min,
    n_range := PySem.W.mg_none_of X G z_range,
    n_repr := PySem.W.mg_none_of X G z_repr,
    n_reversed := PySem.W.mg_none_of X G z_reversed,
    n_sorted := PySem.W.mg_none_of X G z_sorted,
    n_str := PySem.W.mg_none_of X G z_str,
    n_sum := PySem.W.mg_none_of X G z_sum,
    n_tuple := PySem.W.mg_none_of X G z_tuple,
    n_zip := PySem.W.mg_none_of X G z_zip,
    t_LETTERS := t_LETTERS,
    c_LETTERS := PySem.W.mg_of X G v_LETTERS,
    t_MOST_LETTERS := t_MOST_LETTERS,
    c_MOST_LETTERS := PySem.W.mg_of X G v_MOST_LETTERS,
    t_MOST_ROWS := t_MOST_ROWS,
    c_MOST_ROWS := PySem.W.mg_of X G v_MOST_ROWS,
    t_MOST_RULES := t_MOST_RULES,
    c_MOST_RULES := PySem.W.mg_of X G v_MOST_RULES,
    t_SIGNS := t_SIGNS,
    c_SIGNS := PySem.W.mg_of X G v_SIGNS,
    no_text := no1,
    no_names := no2,
    no_rows := no3,
    ins_Book := ⟨⟨cpg_Book, chd_Book, cpo_Book, csa_Book⟩, cia_Book, ihn, iht, cim_Book⟩,
    or_Book := a_Book___repr__,
    ir_Book := i_Book___repr__,
    ct_Book := no7,
    tts := [(lt__law_firsts, qn__law_firsts f__law_firsts lc__law_firsts), (lt__law_right, qn__law_right f__law_right lc__law_right)], tabs := ok, hm__law_firsts := List.mem_cons_self, hm__law_right := (List.mem_cons_of_mem _ List.mem_cons_self) }
  exact ⟨T.e_law, I, [(lc__law_firsts, lt__law_firsts, qn__law_firsts f__law_firsts lc__law_firsts), (lc__law_right, lt__law_right, qn__law_right f__law_right lc__law_right)], fun s v => .of_eq rfl, ok, (f_cons o__law_firsts.1 (f_cons o__law_right.1 f_nil)), (f_cons ln__law_firsts (f_cons ln__law_right f_nil)), (f_cons o__law_firsts.2 (f_cons o__law_right.2 f_nil)), fun base hb => d_law T (hb _ List.mem_cons_self) (hb _ (List.mem_cons_of_mem _ List.mem_cons_self))⟩
end K09

/-! these names are taken so that the head makes no second copy of its largest terms: the compiled file would be too big -/
def PySem.W.Fast.tw2578844274663467673 : Nat := 0
def PySem.W.Fast.tw16725989216784495842 : Nat := 0
def PySem.W.Fast.tw6196576887302690960 : Nat := 0
open PySem PySem.W PyProof.Rows in
set_option maxRecDepth 100000 in
set_option maxHeartbeats 0 in
theorem PySem.Challenge.cw_rankedrules_k09_rankings_refused_holds : PySem.Challenge.rw_rankedrules_k09_rankings_refused.Holds := by
  w_on; o_law; k_head; (case hw => w_witness2)
  k_fill
  refine Dw.walk_GT (l := PySem.Challenge.rw_rankedrules_k09_rankings_refused) (k := 10) (x := "_law_script") (sp := K09.spLaw) rfl rfl ⟨rfl, by decide, by decide⟩ (fun w h Y => PySem.W.km_in_of Y) (fun K ns h hb => ⟨ns, rfl, ⟨h, hb⟩, fun d h => h⟩) ?F
  case F =>
    intro w mg fa h KX G hmg tb
    refine' K09.all_mk KX G hmg tb ?cm_Book ?cpg_Book ?chd_Book ?cpo_Book ?csa_Book ?cmk_Book ?ckc_Book ?cia_Book ?cim_Book ?cm_Broken ?cm_InUse ?cm_InvalidCases ?cm_InvalidClaim ?cm_InvalidIndex ?cm_InvalidLot ?cm_InvalidName ?cm_InvalidNumber ?cm_InvalidOffers ?cm_InvalidRanking ?cm_InvalidRow ?cm_InvalidRule ?cm_InvalidText ?cm_NoAnswer ?cm_NoRanking ?cm_NotABook ?cm_NotACase ?cm_NotACourt ?cm_NothingToUndo ?cm_TooMany ?cm_UnknownName ?cm_WrongValue ?xh_Broken ?xt_Broken ?xh_InUse ?xt_InUse ?xh_InvalidCases ?xt_InvalidCases ?xh_InvalidClaim ?xt_InvalidClaim ?xh_InvalidIndex ?xt_InvalidIndex ?xh_InvalidLot ?xt_InvalidLot ?xh_InvalidName ?xt_InvalidName ?xh_InvalidNumber ?xt_InvalidNumber ?xh_InvalidOffers ?xt_InvalidOffers ?xh_InvalidRanking ?xt_InvalidRanking ?xh_InvalidRow ?xt_InvalidRow ?xh_InvalidRule ?xt_InvalidRule ?xh_InvalidText ?xt_InvalidText ?xh_NoAnswer ?xt_NoAnswer ?xh_NoRanking ?xt_NoRanking ?xh_NotABook ?xt_NotABook ?xh_NotACase ?xt_NotACase ?xh_NotACourt ?xt_NotACourt ?xh_NothingToUndo ?xt_NothingToUndo ?xh_TooMany ?xt_TooMany ?xh_UnknownName ?xt_UnknownName ?xh_WrongValue ?xt_WrongValue ?xs_InvalidLot ?xs_InvalidNumber ?xs_InvalidRanking ?xs_InvalidRow ?xs_InvalidRule ?xs_NoAnswer ?xs_NotABook ?xs_WrongValue ?xga_InvalidLot ?xgt_InvalidLot ?xcl_InvalidLot ?xo_InvalidLot ?xp_InvalidLot ?xu_InvalidLot_InvalidText ?xn_InvalidLot_InvalidText ?xu_InvalidLot_InvalidNumber ?xn_InvalidLot_InvalidNumber ?xu_InvalidLot_InvalidName ?xn_InvalidLot_InvalidName ?xu_InvalidLot_InvalidIndex ?xn_InvalidLot_InvalidIndex ?xu_InvalidLot_InvalidClaim ?xn_InvalidLot_InvalidClaim ?xu_InvalidLot_InvalidRow ?xn_InvalidLot_InvalidRow ?xu_InvalidLot_InvalidRanking ?xn_InvalidLot_InvalidRanking ?xu_InvalidLot_InvalidRule ?xn_InvalidLot_InvalidRule ?xu_InvalidLot_UnknownName ?xn_InvalidLot_UnknownName ?xu_InvalidLot_NotABook ?xn_InvalidLot_NotABook ?xu_InvalidLot_NotACase ?xn_InvalidLot_NotACase ?xu_InvalidLot_NotACourt ?xn_InvalidLot_NotACourt ?xu_InvalidLot_InvalidLot ?xu_InvalidLot_InvalidOffers ?xn_InvalidLot_InvalidOffers ?xu_InvalidLot_InvalidCases ?xn_InvalidLot_InvalidCases ?xu_InvalidLot_NoRanking ?xn_InvalidLot_NoRanking ?xu_InvalidLot_TooMany ?xn_InvalidLot_TooMany ?xu_InvalidLot_Broken ?xn_InvalidLot_Broken ?xu_InvalidLot_InUse ?xn_InvalidLot_InUse ?xu_InvalidLot_NothingToUndo ?xn_InvalidLot_NothingToUndo ?xu_InvalidLot_WrongValue ?xu_InvalidLot_NoAnswer ?xn_InvalidLot_NoAnswer ?xL_InvalidLot ?xR_InvalidLot ?xa_InvalidLot ?xn_InvalidLot_given ?xn_InvalidLot_index ?xn_InvalidLot_number ?xn_InvalidLot_told ?xga_InvalidNumber ?xgt_InvalidNumber ?xcl_InvalidNumber ?xo_InvalidNumber ?xp_InvalidNumber ?xu_InvalidNumber_InvalidText ?xn_InvalidNumber_InvalidText ?xu_InvalidNumber_InvalidNumber ?xu_InvalidNumber_InvalidName ?xn_InvalidNumber_InvalidName ?xu_InvalidNumber_InvalidIndex ?xn_InvalidNumber_InvalidIndex ?xu_InvalidNumber_InvalidClaim ?xn_InvalidNumber_InvalidClaim ?xu_InvalidNumber_InvalidRow ?xn_InvalidNumber_InvalidRow ?xu_InvalidNumber_InvalidRanking ?xn_InvalidNumber_InvalidRanking ?xu_InvalidNumber_InvalidRule ?xn_InvalidNumber_InvalidRule ?xu_InvalidNumber_UnknownName ?xn_InvalidNumber_UnknownName ?xu_InvalidNumber_NotABook ?xn_InvalidNumber_NotABook ?xu_InvalidNumber_NotACase ?xn_InvalidNumber_NotACase ?xu_InvalidNumber_NotACourt ?xn_InvalidNumber_NotACourt ?xu_InvalidNumber_InvalidLot ?xn_InvalidNumber_InvalidLot ?xu_InvalidNumber_InvalidOffers ?xn_InvalidNumber_InvalidOffers ?xu_InvalidNumber_InvalidCases ?xn_InvalidNumber_InvalidCases ?xu_InvalidNumber_NoRanking ?xn_InvalidNumber_NoRanking ?xu_InvalidNumber_TooMany ?xn_InvalidNumber_TooMany ?xu_InvalidNumber_Broken ?xn_InvalidNumber_Broken ?xu_InvalidNumber_InUse ?xn_InvalidNumber_InUse ?xu_InvalidNumber_NothingToUndo ?xn_InvalidNumber_NothingToUndo ?xu_InvalidNumber_WrongValue ?xu_InvalidNumber_NoAnswer ?xn_InvalidNumber_NoAnswer ?xL_InvalidNumber ?xR_InvalidNumber ?xa_InvalidNumber ?xn_InvalidNumber_given ?xn_InvalidNumber_index ?xn_InvalidNumber_number ?xn_InvalidNumber_told ?xga_InvalidRanking ?xgt_InvalidRanking ?xcl_InvalidRanking ?xo_InvalidRanking ?xp_InvalidRanking ?xu_InvalidRanking_InvalidText ?xn_InvalidRanking_InvalidText ?xu_InvalidRanking_InvalidNumber ?xn_InvalidRanking_InvalidNumber ?xu_InvalidRanking_InvalidName ?xn_InvalidRanking_InvalidName ?xu_InvalidRanking_InvalidIndex ?xn_InvalidRanking_InvalidIndex ?xu_InvalidRanking_InvalidClaim ?xn_InvalidRanking_InvalidClaim ?xu_InvalidRanking_InvalidRow ?xn_InvalidRanking_InvalidRow ?xu_InvalidRanking_InvalidRanking ?xu_InvalidRanking_InvalidRule ?xn_InvalidRanking_InvalidRule ?xu_InvalidRanking_UnknownName ?xn_InvalidRanking_UnknownName ?xu_InvalidRanking_NotABook ?xn_InvalidRanking_NotABook ?xu_InvalidRanking_NotACase ?xn_InvalidRanking_NotACase ?xu_InvalidRanking_NotACourt ?xn_InvalidRanking_NotACourt ?xu_InvalidRanking_InvalidLot ?xn_InvalidRanking_InvalidLot ?xu_InvalidRanking_InvalidOffers ?xn_InvalidRanking_InvalidOffers ?xu_InvalidRanking_InvalidCases ?xn_InvalidRanking_InvalidCases ?xu_InvalidRanking_NoRanking ?xn_InvalidRanking_NoRanking ?xu_InvalidRanking_TooMany ?xn_InvalidRanking_TooMany ?xu_InvalidRanking_Broken ?xn_InvalidRanking_Broken ?xu_InvalidRanking_InUse ?xn_InvalidRanking_InUse ?xu_InvalidRanking_NothingToUndo ?xn_InvalidRanking_NothingToUndo ?xu_InvalidRanking_WrongValue ?xu_InvalidRanking_NoAnswer ?xn_InvalidRanking_NoAnswer ?xL_InvalidRanking ?xR_InvalidRanking ?xa_InvalidRanking ?xn_InvalidRanking_given ?xn_InvalidRanking_index ?xn_InvalidRanking_number ?xn_InvalidRanking_told ?xga_InvalidRow ?xgt_InvalidRow ?xcl_InvalidRow ?xo_InvalidRow ?xp_InvalidRow ?xu_InvalidRow_InvalidText ?xn_InvalidRow_InvalidText ?xu_InvalidRow_InvalidNumber ?xn_InvalidRow_InvalidNumber ?xu_InvalidRow_InvalidName ?xn_InvalidRow_InvalidName ?xu_InvalidRow_InvalidIndex ?xn_InvalidRow_InvalidIndex ?xu_InvalidRow_InvalidClaim ?xn_InvalidRow_InvalidClaim ?xu_InvalidRow_InvalidRow ?xu_InvalidRow_InvalidRanking ?xn_InvalidRow_InvalidRanking ?xu_InvalidRow_InvalidRule ?xn_InvalidRow_InvalidRule ?xu_InvalidRow_UnknownName ?xn_InvalidRow_UnknownName ?xu_InvalidRow_NotABook ?xn_InvalidRow_NotABook ?xu_InvalidRow_NotACase ?xn_InvalidRow_NotACase ?xu_InvalidRow_NotACourt ?xn_InvalidRow_NotACourt ?xu_InvalidRow_InvalidLot ?xn_InvalidRow_InvalidLot ?xu_InvalidRow_InvalidOffers ?xn_InvalidRow_InvalidOffers ?xu_InvalidRow_InvalidCases ?xn_InvalidRow_InvalidCases ?xu_InvalidRow_NoRanking ?xn_InvalidRow_NoRanking ?xu_InvalidRow_TooMany ?xn_InvalidRow_TooMany ?xu_InvalidRow_Broken ?xn_InvalidRow_Broken ?xu_InvalidRow_InUse ?xn_InvalidRow_InUse ?xu_InvalidRow_NothingToUndo ?xn_InvalidRow_NothingToUndo ?xu_InvalidRow_WrongValue ?xu_InvalidRow_NoAnswer ?xn_InvalidRow_NoAnswer ?xL_InvalidRow ?xR_InvalidRow ?xa_InvalidRow ?xn_InvalidRow_given ?xn_InvalidRow_index ?xn_InvalidRow_number ?xn_InvalidRow_told ?xga_InvalidRule ?xgt_InvalidRule ?xcl_InvalidRule ?xo_InvalidRule ?xp_InvalidRule ?xu_InvalidRule_InvalidText ?xn_InvalidRule_InvalidText ?xu_InvalidRule_InvalidNumber ?xn_InvalidRule_InvalidNumber ?xu_InvalidRule_InvalidName ?xn_InvalidRule_InvalidName ?xu_InvalidRule_InvalidIndex ?xn_InvalidRule_InvalidIndex ?xu_InvalidRule_InvalidClaim ?xn_InvalidRule_InvalidClaim ?xu_InvalidRule_InvalidRow ?xn_InvalidRule_InvalidRow ?xu_InvalidRule_InvalidRanking ?xn_InvalidRule_InvalidRanking ?xu_InvalidRule_InvalidRule ?xu_InvalidRule_UnknownName ?xn_InvalidRule_UnknownName ?xu_InvalidRule_NotABook ?xn_InvalidRule_NotABook ?xu_InvalidRule_NotACase ?xn_InvalidRule_NotACase ?xu_InvalidRule_NotACourt ?xn_InvalidRule_NotACourt ?xu_InvalidRule_InvalidLot ?xn_InvalidRule_InvalidLot ?xu_InvalidRule_InvalidOffers ?xn_InvalidRule_InvalidOffers ?xu_InvalidRule_InvalidCases ?xn_InvalidRule_InvalidCases ?xu_InvalidRule_NoRanking ?xn_InvalidRule_NoRanking ?xu_InvalidRule_TooMany ?xn_InvalidRule_TooMany ?xu_InvalidRule_Broken ?xn_InvalidRule_Broken ?xu_InvalidRule_InUse ?xn_InvalidRule_InUse ?xu_InvalidRule_NothingToUndo ?xn_InvalidRule_NothingToUndo ?xu_InvalidRule_WrongValue ?xu_InvalidRule_NoAnswer ?xn_InvalidRule_NoAnswer ?xL_InvalidRule ?xR_InvalidRule ?xa_InvalidRule ?xn_InvalidRule_given ?xn_InvalidRule_index ?xn_InvalidRule_number ?xn_InvalidRule_told ?xga_NotABook ?xgt_NotABook ?xcl_NotABook ?xo_NotABook ?xp_NotABook ?xu_NotABook_InvalidText ?xn_NotABook_InvalidText ?xu_NotABook_InvalidNumber ?xn_NotABook_InvalidNumber ?xu_NotABook_InvalidName ?xn_NotABook_InvalidName ?xu_NotABook_InvalidIndex ?xn_NotABook_InvalidIndex ?xu_NotABook_InvalidClaim ?xn_NotABook_InvalidClaim ?xu_NotABook_InvalidRow ?xn_NotABook_InvalidRow ?xu_NotABook_InvalidRanking ?xn_NotABook_InvalidRanking ?xu_NotABook_InvalidRule ?xn_NotABook_InvalidRule ?xu_NotABook_UnknownName ?xn_NotABook_UnknownName ?xu_NotABook_NotABook ?xu_NotABook_NotACase ?xn_NotABook_NotACase ?xu_NotABook_NotACourt ?xn_NotABook_NotACourt ?xu_NotABook_InvalidLot ?xn_NotABook_InvalidLot ?xu_NotABook_InvalidOffers ?xn_NotABook_InvalidOffers ?xu_NotABook_InvalidCases ?xn_NotABook_InvalidCases ?xu_NotABook_NoRanking ?xn_NotABook_NoRanking ?xu_NotABook_TooMany ?xn_NotABook_TooMany ?xu_NotABook_Broken ?xn_NotABook_Broken ?xu_NotABook_InUse ?xn_NotABook_InUse ?xu_NotABook_NothingToUndo ?xn_NotABook_NothingToUndo ?xu_NotABook_WrongValue ?xu_NotABook_NoAnswer ?xn_NotABook_NoAnswer ?xL_NotABook ?xR_NotABook ?xa_NotABook ?xn_NotABook_given ?xn_NotABook_index ?xn_NotABook_number ?xn_NotABook_told ?ihn ?iht ?a_is_name ?l_is_name ?c_is_name ?k_is_name ?a_are_names ?l_are_names ?c_are_names ?k_are_names ?a_is_any_row ?l_is_any_row ?c_is_any_row ?k_is_any_row ?a_is_row ?l_is_row ?c_is_row ?k_is_row ?a_is_whole ?l_is_whole ?c_is_whole ?k_is_whole ?a_is_index ?l_is_index ?c_is_index ?k_is_index ?a_wrong_in_lot ?l_wrong_in_lot ?c_wrong_in_lot ?k_wrong_in_lot ?a_is_ranking ?l_is_ranking ?c_is_ranking ?k_is_ranking ?a_InvalidRow___init__ ?i_InvalidRow___init__ ?xy_InvalidRow ?l_InvalidRow___init__ ?c_InvalidRow___init__ ?k_InvalidRow___init__ ?a_check_row ?l_check_row ?c_check_row ?k_check_row ?a_InvalidRanking___init__ ?i_InvalidRanking___init__ ?xy_InvalidRanking ?l_InvalidRanking___init__ ?c_InvalidRanking___init__ ?k_InvalidRanking___init__ ?a_check_ranking ?l_check_ranking ?c_check_ranking ?k_check_ranking ?a_InvalidRule___init__ ?i_InvalidRule___init__ ?xy_InvalidRule ?l_InvalidRule___init__ ?c_InvalidRule___init__ ?k_InvalidRule___init__ ?a_check_rule ?l_check_rule ?c_check_rule ?k_check_rule ?a_InvalidLot___init__ ?i_InvalidLot___init__ ?xy_InvalidLot ?l_InvalidLot___init__ ?c_InvalidLot___init__ ?k_InvalidLot___init__ ?a_check_lot ?l_check_lot ?c_check_lot ?k_check_lot ?a_read_book ?l_read_book ?c_read_book ?k_read_book ?a_row_holds ?l_row_holds ?c_row_holds ?k_row_holds ?a_all_hold ?l_all_hold ?c_all_hold ?k_all_hold ?a_NotABook___init__ ?i_NotABook___init__ ?xy_NotABook ?l_NotABook___init__ ?c_NotABook___init__ ?k_NotABook___init__ ?a_check_book ?l_check_book ?c_check_book ?k_check_book ?a_Book_rows ?g_Book_rows ?t_Book_rows ?r_Book_rows ?l_Book_rows ?c_Book_rows ?k_Book_rows ?a_Book_names ?g_Book_names ?t_Book_names ?r_Book_names ?l_Book_names ?c_Book_names ?k_Book_names ?a_holds ?l_holds ?c_holds ?k_holds ?a_fits ?l_fits ?c_fits ?k_fits ?a_head_of ?l_head_of ?c_head_of ?k_head_of ?a_sides ?l_sides ?c_sides ?k_sides ?a_rules_behind ?l_rules_behind ?c_rules_behind ?k_rules_behind ?a_steps ?l_steps ?c_steps ?k_steps ?a_endings ?l_endings ?c_endings ?k_endings ?a_InvalidNumber___init__ ?i_InvalidNumber___init__ ?xy_InvalidNumber ?l_InvalidNumber___init__ ?c_InvalidNumber___init__ ?k_InvalidNumber___init__ ?a_check_most ?l_check_most ?c_check_most ?k_check_most ?a_surely_wrong ?l_surely_wrong ?c_surely_wrong ?k_surely_wrong ?a_follows_with ?l_follows_with ?c_follows_with ?k_follows_with ?a_judge ?l_judge ?c_judge ?k_judge ?a_reasons ?l_reasons ?c_reasons ?k_reasons ?a_ranking_at ?l_ranking_at ?c_ranking_at ?k_ranking_at ?a_number_of ?l_number_of ?c_number_of ?k_number_of ?a_places ?l_places ?c_places ?k_places ?a_beginnings ?l_beginnings ?c_beginnings ?k_beginnings ?a__law_purse ?l__law_purse ?c__law_purse ?k__law_purse ?a__law_draw ?l__law_draw ?c__law_draw ?k__law_draw ?a__law_sort ?l__law_sort ?c__law_sort ?k__law_sort ?a_Book___repr__ ?i_Book___repr__ ?l_Book___repr__ ?c_Book___repr__ ?k_Book___repr__ ?a__law_attribute ?l__law_attribute ?c__law_attribute ?k__law_attribute ?a__law_told ?l__law_told ?c__law_told ?k__law_told ?a__law_labels ?l__law_labels ?c__law_labels ?k__law_labels ?a__law_all ?l__law_all ?c__law_all ?k__law_all ?a__law_holds ?l__law_holds ?c__law_holds ?k__law_holds ?a__law_flipped ?l__law_flipped ?c__law_flipped ?k__law_flipped ?a__law_signs ?l__law_signs ?c__law_signs ?k__law_signs ?a__law_rows ?l__law_rows ?c__law_rows ?k__law_rows ?a__law_spelled ?l__law_spelled ?c__law_spelled ?k__law_spelled ?a__law_book ?l__law_book ?c__law_book ?k__law_book ?a__law_wrong_order ?l__law_wrong_order ?c__law_wrong_order ?k__law_wrong_order ?a__law_firsts ?l__law_firsts ?c__law_firsts ?k__law_firsts ?lk__law_firsts ?lp__law_firsts ?ln__law_firsts ?lr__law_firsts ?a_Book___init__ ?i_Book___init__ ?l_Book___init__ ?c_Book___init__ ?k_Book___init__ ?a_Book_text ?g_Book_text ?t_Book_text ?r_Book_text ?l_Book_text ?c_Book_text ?k_Book_text ?a__law_right ?l__law_right ?c__law_right ?k__law_right ?lk__law_right ?lp__law_right ?ln__law_right ?lr__law_right ?a_law ?l_law ?c_law ?k_law ?z_abs ?z_all ?z_bool ?z_divmod ?z_enumerate ?z_int ?z_isinstance ?z_len ?z_list ?z_max ?z_min ?z_range ?z_repr ?z_reversed ?z_sorted ?z_str ?z_sum ?z_tuple ?z_zip ?v_LETTERS ?v_MOST_LETTERS ?v_MOST_ROWS ?v_MOST_RULES ?v_SIGNS ?no1 ?no2 ?no3 ?no7 ?ltnd
    (case cm_Book => k_is)
    (case cpg_Book => k_is)
    (case chd_Book => k_is)
    (case cpo_Book => k_is)
    (case csa_Book => k_is)
    (case cmk_Book => k_is)
    (case ckc_Book => k_is)
    (case cia_Book => k_is)
    (case cim_Book => k_is)
    (case cm_Broken => k_is)
    (case cm_InUse => k_is)
    (case cm_InvalidCases => k_is)
    (case cm_InvalidClaim => k_is)
    (case cm_InvalidIndex => k_is)
    (case cm_InvalidLot => k_is)
    (case cm_InvalidName => k_is)
    (case cm_InvalidNumber => k_is)
    (case cm_InvalidOffers => k_is)
    (case cm_InvalidRanking => k_is)
    (case cm_InvalidRow => k_is)
    (case cm_InvalidRule => k_is)
    (case cm_InvalidText => k_is)
    (case cm_NoAnswer => k_is)
    (case cm_NoRanking => k_is)
    (case cm_NotABook => k_is)
    (case cm_NotACase => k_is)
    (case cm_NotACourt => k_is)
    (case cm_NothingToUndo => k_is)
    (case cm_TooMany => k_is)
    (case cm_UnknownName => k_is)
    (case cm_WrongValue => k_is)
    (case xh_Broken => k_is)
    (case xt_Broken => k_is)
    (case xh_InUse => k_is)
    (case xt_InUse => k_is)
    (case xh_InvalidCases => k_is)
    (case xt_InvalidCases => k_is)
    (case xh_InvalidClaim => k_is)
    (case xt_InvalidClaim => k_is)
    (case xh_InvalidIndex => k_is)
    (case xt_InvalidIndex => k_is)
    (case xh_InvalidLot => k_is)
    (case xt_InvalidLot => k_is)
    (case xh_InvalidName => k_is)
    (case xt_InvalidName => k_is)
    (case xh_InvalidNumber => k_is)
    (case xt_InvalidNumber => k_is)
    (case xh_InvalidOffers => k_is)
    (case xt_InvalidOffers => k_is)
    (case xh_InvalidRanking => k_is)
    (case xt_InvalidRanking => k_is)
    (case xh_InvalidRow => k_is)
    (case xt_InvalidRow => k_is)
    (case xh_InvalidRule => k_is)
    (case xt_InvalidRule => k_is)
    (case xh_InvalidText => k_is)
    (case xt_InvalidText => k_is)
    (case xh_NoAnswer => k_is)
    (case xt_NoAnswer => k_is)
    (case xh_NoRanking => k_is)
    (case xt_NoRanking => k_is)
    (case xh_NotABook => k_is)
    (case xt_NotABook => k_is)
    (case xh_NotACase => k_is)
    (case xt_NotACase => k_is)
    (case xh_NotACourt => k_is)
    (case xt_NotACourt => k_is)
    (case xh_NothingToUndo => k_is)
    (case xt_NothingToUndo => k_is)
    (case xh_TooMany => k_is)
    (case xt_TooMany => k_is)
    (case xh_UnknownName => k_is)
    (case xt_UnknownName => k_is)
    (case xh_WrongValue => k_is)
    (case xt_WrongValue => k_is)
    (case xs_InvalidLot => k_is)
    (case xs_InvalidNumber => k_is)
    (case xs_InvalidRanking => k_is)
    (case xs_InvalidRow => k_is)
    (case xs_InvalidRule => k_is)
    (case xs_NoAnswer => k_is)
    (case xs_NotABook => k_is)
    (case xs_WrongValue => k_is)
    (case xga_InvalidLot => k_is)
    (case xgt_InvalidLot => k_is)
    (case xcl_InvalidLot => k_is)
    (case xo_InvalidLot => k_is)
    (case xp_InvalidLot => k_is)
    (case xu_InvalidLot_InvalidText => k_is)
    (case xn_InvalidLot_InvalidText => first | rfl | decide)
    (case xu_InvalidLot_InvalidNumber => k_is)
    (case xn_InvalidLot_InvalidNumber => first | rfl | decide)
    (case xu_InvalidLot_InvalidName => k_is)
    (case xn_InvalidLot_InvalidName => first | rfl | decide)
    (case xu_InvalidLot_InvalidIndex => k_is)
    (case xn_InvalidLot_InvalidIndex => first | rfl | decide)
    (case xu_InvalidLot_InvalidClaim => k_is)
    (case xn_InvalidLot_InvalidClaim => first | rfl | decide)
    (case xu_InvalidLot_InvalidRow => k_is)
    (case xn_InvalidLot_InvalidRow => first | rfl | decide)
    (case xu_InvalidLot_InvalidRanking => k_is)
    (case xn_InvalidLot_InvalidRanking => first | rfl | decide)
    (case xu_InvalidLot_InvalidRule => k_is)
    (case xn_InvalidLot_InvalidRule => first | rfl | decide)
    (case xu_InvalidLot_UnknownName => k_is)
    (case xn_InvalidLot_UnknownName => first | rfl | decide)
    (case xu_InvalidLot_NotABook => k_is)
    (case xn_InvalidLot_NotABook => first | rfl | decide)
    (case xu_InvalidLot_NotACase => k_is)
    (case xn_InvalidLot_NotACase => first | rfl | decide)
    (case xu_InvalidLot_NotACourt => k_is)
    (case xn_InvalidLot_NotACourt => first | rfl | decide)
    (case xu_InvalidLot_InvalidLot => k_is)
    (case xu_InvalidLot_InvalidOffers => k_is)
    (case xn_InvalidLot_InvalidOffers => first | rfl | decide)
    (case xu_InvalidLot_InvalidCases => k_is)
    (case xn_InvalidLot_InvalidCases => first | rfl | decide)
    (case xu_InvalidLot_NoRanking => k_is)
    (case xn_InvalidLot_NoRanking => first | rfl | decide)
    (case xu_InvalidLot_TooMany => k_is)
    (case xn_InvalidLot_TooMany => first | rfl | decide)
    (case xu_InvalidLot_Broken => k_is)
    (case xn_InvalidLot_Broken => first | rfl | decide)
    (case xu_InvalidLot_InUse => k_is)
    (case xn_InvalidLot_InUse => first | rfl | decide)
    (case xu_InvalidLot_NothingToUndo => k_is)
    (case xn_InvalidLot_NothingToUndo => first | rfl | decide)
    (case xu_InvalidLot_WrongValue => k_is)
    (case xu_InvalidLot_NoAnswer => k_is)
    (case xn_InvalidLot_NoAnswer => first | rfl | decide)
    (case xL_InvalidLot => k_is)
    (case xR_InvalidLot => first | rfl | decide +kernel)
    (case xa_InvalidLot => k_is)
    (case xn_InvalidLot_given => k_is)
    (case xn_InvalidLot_index => k_is)
    (case xn_InvalidLot_number => k_is)
    (case xn_InvalidLot_told => k_is)
    (case xga_InvalidNumber => k_is)
    (case xgt_InvalidNumber => k_is)
    (case xcl_InvalidNumber => k_is)
    (case xo_InvalidNumber => k_is)
    (case xp_InvalidNumber => k_is)
    (case xu_InvalidNumber_InvalidText => k_is)
    (case xn_InvalidNumber_InvalidText => first | rfl | decide)
    (case xu_InvalidNumber_InvalidNumber => k_is)
    (case xu_InvalidNumber_InvalidName => k_is)
    (case xn_InvalidNumber_InvalidName => first | rfl | decide)
    (case xu_InvalidNumber_InvalidIndex => k_is)
    (case xn_InvalidNumber_InvalidIndex => first | rfl | decide)
    (case xu_InvalidNumber_InvalidClaim => k_is)
    (case xn_InvalidNumber_InvalidClaim => first | rfl | decide)
    (case xu_InvalidNumber_InvalidRow => k_is)
    (case xn_InvalidNumber_InvalidRow => first | rfl | decide)
    (case xu_InvalidNumber_InvalidRanking => k_is)
    (case xn_InvalidNumber_InvalidRanking => first | rfl | decide)
    (case xu_InvalidNumber_InvalidRule => k_is)
    (case xn_InvalidNumber_InvalidRule => first | rfl | decide)
    (case xu_InvalidNumber_UnknownName => k_is)
    (case xn_InvalidNumber_UnknownName => first | rfl | decide)
    (case xu_InvalidNumber_NotABook => k_is)
    (case xn_InvalidNumber_NotABook => first | rfl | decide)
    (case xu_InvalidNumber_NotACase => k_is)
    (case xn_InvalidNumber_NotACase => first | rfl | decide)
    (case xu_InvalidNumber_NotACourt => k_is)
    (case xn_InvalidNumber_NotACourt => first | rfl | decide)
    (case xu_InvalidNumber_InvalidLot => k_is)
    (case xn_InvalidNumber_InvalidLot => first | rfl | decide)
    (case xu_InvalidNumber_InvalidOffers => k_is)
    (case xn_InvalidNumber_InvalidOffers => first | rfl | decide)
    (case xu_InvalidNumber_InvalidCases => k_is)
    (case xn_InvalidNumber_InvalidCases => first | rfl | decide)
    (case xu_InvalidNumber_NoRanking => k_is)
    (case xn_InvalidNumber_NoRanking => first | rfl | decide)
    (case xu_InvalidNumber_TooMany => k_is)
    (case xn_InvalidNumber_TooMany => first | rfl | decide)
    (case xu_InvalidNumber_Broken => k_is)
    (case xn_InvalidNumber_Broken => first | rfl | decide)
    (case xu_InvalidNumber_InUse => k_is)
    (case xn_InvalidNumber_InUse => first | rfl | decide)
    (case xu_InvalidNumber_NothingToUndo => k_is)
    (case xn_InvalidNumber_NothingToUndo => first | rfl | decide)
    (case xu_InvalidNumber_WrongValue => k_is)
    (case xu_InvalidNumber_NoAnswer => k_is)
    (case xn_InvalidNumber_NoAnswer => first | rfl | decide)
    (case xL_InvalidNumber => k_is)
    (case xR_InvalidNumber => first | rfl | decide +kernel)
    (case xa_InvalidNumber => k_is)
    (case xn_InvalidNumber_given => k_is)
    (case xn_InvalidNumber_index => k_is)
    (case xn_InvalidNumber_number => k_is)
    (case xn_InvalidNumber_told => k_is)
    (case xga_InvalidRanking => k_is)
    (case xgt_InvalidRanking => k_is)
    (case xcl_InvalidRanking => k_is)
    (case xo_InvalidRanking => k_is)
    (case xp_InvalidRanking => k_is)
    (case xu_InvalidRanking_InvalidText => k_is)
    (case xn_InvalidRanking_InvalidText => first | rfl | decide)
    (case xu_InvalidRanking_InvalidNumber => k_is)
    (case xn_InvalidRanking_InvalidNumber => first | rfl | decide)
    (case xu_InvalidRanking_InvalidName => k_is)
    (case xn_InvalidRanking_InvalidName => first | rfl | decide)
    (case xu_InvalidRanking_InvalidIndex => k_is)
    (case xn_InvalidRanking_InvalidIndex => first | rfl | decide)
    (case xu_InvalidRanking_InvalidClaim => k_is)
    (case xn_InvalidRanking_InvalidClaim => first | rfl | decide)
    (case xu_InvalidRanking_InvalidRow => k_is)
    (case xn_InvalidRanking_InvalidRow => first | rfl | decide)
    (case xu_InvalidRanking_InvalidRanking => k_is)
    (case xu_InvalidRanking_InvalidRule => k_is)
    (case xn_InvalidRanking_InvalidRule => first | rfl | decide)
    (case xu_InvalidRanking_UnknownName => k_is)
    (case xn_InvalidRanking_UnknownName => first | rfl | decide)
    (case xu_InvalidRanking_NotABook => k_is)
    (case xn_InvalidRanking_NotABook => first | rfl | decide)
    (case xu_InvalidRanking_NotACase => k_is)
    (case xn_InvalidRanking_NotACase => first | rfl | decide)
    (case xu_InvalidRanking_NotACourt => k_is)
    (case xn_InvalidRanking_NotACourt => first | rfl | decide)
    (case xu_InvalidRanking_InvalidLot => k_is)
    (case xn_InvalidRanking_InvalidLot => first | rfl | decide)
    (case xu_InvalidRanking_InvalidOffers => k_is)
    (case xn_InvalidRanking_InvalidOffers => first | rfl | decide)
    (case xu_InvalidRanking_InvalidCases => k_is)
    (case xn_InvalidRanking_InvalidCases => first | rfl | decide)
    (case xu_InvalidRanking_NoRanking => k_is)
    (case xn_InvalidRanking_NoRanking => first | rfl | decide)
    (case xu_InvalidRanking_TooMany => k_is)
    (case xn_InvalidRanking_TooMany => first | rfl | decide)
    (case xu_InvalidRanking_Broken => k_is)
    (case xn_InvalidRanking_Broken => first | rfl | decide)
    (case xu_InvalidRanking_InUse => k_is)
    (case xn_InvalidRanking_InUse => first | rfl | decide)
    (case xu_InvalidRanking_NothingToUndo => k_is)
    (case xn_InvalidRanking_NothingToUndo => first | rfl | decide)
    (case xu_InvalidRanking_WrongValue => k_is)
    (case xu_InvalidRanking_NoAnswer => k_is)
    (case xn_InvalidRanking_NoAnswer => first | rfl | decide)
    (case xL_InvalidRanking => k_is)
    (case xR_InvalidRanking => first | rfl | decide +kernel)
    (case xa_InvalidRanking => k_is)
    (case xn_InvalidRanking_given => k_is)
    (case xn_InvalidRanking_index => k_is)
    (case xn_InvalidRanking_number => k_is)
    (case xn_InvalidRanking_told => k_is)
    (case xga_InvalidRow => k_is)
    (case xgt_InvalidRow => k_is)
    (case xcl_InvalidRow => k_is)
    (case xo_InvalidRow => k_is)
    (case xp_InvalidRow => k_is)
    (case xu_InvalidRow_InvalidText => k_is)
    (case xn_InvalidRow_InvalidText => first | rfl | decide)
    (case xu_InvalidRow_InvalidNumber => k_is)
    (case xn_InvalidRow_InvalidNumber => first | rfl | decide)
    (case xu_InvalidRow_InvalidName => k_is)
    (case xn_InvalidRow_InvalidName => first | rfl | decide)
    (case xu_InvalidRow_InvalidIndex => k_is)
    (case xn_InvalidRow_InvalidIndex => first | rfl | decide)
    (case xu_InvalidRow_InvalidClaim => k_is)
    (case xn_InvalidRow_InvalidClaim => first | rfl | decide)
    (case xu_InvalidRow_InvalidRow => k_is)
    (case xu_InvalidRow_InvalidRanking => k_is)
    (case xn_InvalidRow_InvalidRanking => first | rfl | decide)
    (case xu_InvalidRow_InvalidRule => k_is)
    (case xn_InvalidRow_InvalidRule => first | rfl | decide)
    (case xu_InvalidRow_UnknownName => k_is)
    (case xn_InvalidRow_UnknownName => first | rfl | decide)
    (case xu_InvalidRow_NotABook => k_is)
    (case xn_InvalidRow_NotABook => first | rfl | decide)
    (case xu_InvalidRow_NotACase => k_is)
    (case xn_InvalidRow_NotACase => first | rfl | decide)
    (case xu_InvalidRow_NotACourt => k_is)
    (case xn_InvalidRow_NotACourt => first | rfl | decide)
    (case xu_InvalidRow_InvalidLot => k_is)
    (case xn_InvalidRow_InvalidLot => first | rfl | decide)
    (case xu_InvalidRow_InvalidOffers => k_is)
    (case xn_InvalidRow_InvalidOffers => first | rfl | decide)
    (case xu_InvalidRow_InvalidCases => k_is)
    (case xn_InvalidRow_InvalidCases => first | rfl | decide)
    (case xu_InvalidRow_NoRanking => k_is)
    (case xn_InvalidRow_NoRanking => first | rfl | decide)
    (case xu_InvalidRow_TooMany => k_is)
    (case xn_InvalidRow_TooMany => first | rfl | decide)
    (case xu_InvalidRow_Broken => k_is)
    (case xn_InvalidRow_Broken => first | rfl | decide)
    (case xu_InvalidRow_InUse => k_is)
    (case xn_InvalidRow_InUse => first | rfl | decide)
    (case xu_InvalidRow_NothingToUndo => k_is)
    (case xn_InvalidRow_NothingToUndo => first | rfl | decide)
    (case xu_InvalidRow_WrongValue => k_is)
    (case xu_InvalidRow_NoAnswer => k_is)
    (case xn_InvalidRow_NoAnswer => first | rfl | decide)
    (case xL_InvalidRow => k_is)
    (case xR_InvalidRow => first | rfl | decide +kernel)
    (case xa_InvalidRow => k_is)
    (case xn_InvalidRow_given => k_is)
    (case xn_InvalidRow_index => k_is)
    (case xn_InvalidRow_number => k_is)
    (case xn_InvalidRow_told => k_is)
    (case xga_InvalidRule => k_is)
    (case xgt_InvalidRule => k_is)
    (case xcl_InvalidRule => k_is)
    (case xo_InvalidRule => k_is)
    (case xp_InvalidRule => k_is)
    (case xu_InvalidRule_InvalidText => k_is)
    (case xn_InvalidRule_InvalidText => first | rfl | decide)
    (case xu_InvalidRule_InvalidNumber => k_is)
    (case xn_InvalidRule_InvalidNumber => first | rfl | decide)
    (case xu_InvalidRule_InvalidName => k_is)
    (case xn_InvalidRule_InvalidName => first | rfl | decide)
    (case xu_InvalidRule_InvalidIndex => k_is)
    (case xn_InvalidRule_InvalidIndex => first | rfl | decide)
    (case xu_InvalidRule_InvalidClaim => k_is)
    (case xn_InvalidRule_InvalidClaim => first | rfl | decide)
    (case xu_InvalidRule_InvalidRow => k_is)
    (case xn_InvalidRule_InvalidRow => first | rfl | decide)
    (case xu_InvalidRule_InvalidRanking => k_is)
    (case xn_InvalidRule_InvalidRanking => first | rfl | decide)
    (case xu_InvalidRule_InvalidRule => k_is)
    (case xu_InvalidRule_UnknownName => k_is)
    (case xn_InvalidRule_UnknownName => first | rfl | decide)
    (case xu_InvalidRule_NotABook => k_is)
    (case xn_InvalidRule_NotABook => first | rfl | decide)
    (case xu_InvalidRule_NotACase => k_is)
    (case xn_InvalidRule_NotACase => first | rfl | decide)
    (case xu_InvalidRule_NotACourt => k_is)
    (case xn_InvalidRule_NotACourt => first | rfl | decide)
    (case xu_InvalidRule_InvalidLot => k_is)
    (case xn_InvalidRule_InvalidLot => first | rfl | decide)
    (case xu_InvalidRule_InvalidOffers => k_is)
    (case xn_InvalidRule_InvalidOffers => first | rfl | decide)
    (case xu_InvalidRule_InvalidCases => k_is)
    (case xn_InvalidRule_InvalidCases => first | rfl | decide)
    (case xu_InvalidRule_NoRanking => k_is)
    (case xn_InvalidRule_NoRanking => first | rfl | decide)
    (case xu_InvalidRule_TooMany => k_is)
    (case xn_InvalidRule_TooMany => first | rfl | decide)
    (case xu_InvalidRule_Broken => k_is)
    (case xn_InvalidRule_Broken => first | rfl | decide)
    (case xu_InvalidRule_InUse => k_is)
    (case xn_InvalidRule_InUse => first | rfl | decide)
    (case xu_InvalidRule_NothingToUndo => k_is)
    (case xn_InvalidRule_NothingToUndo => first | rfl | decide)
    (case xu_InvalidRule_WrongValue => k_is)
    (case xu_InvalidRule_NoAnswer => k_is)
    (case xn_InvalidRule_NoAnswer => first | rfl | decide)
    (case xL_InvalidRule => k_is)
    (case xR_InvalidRule => first | rfl | decide +kernel)
    (case xa_InvalidRule => k_is)
    (case xn_InvalidRule_given => k_is)
    (case xn_InvalidRule_index => k_is)
    (case xn_InvalidRule_number => k_is)
    (case xn_InvalidRule_told => k_is)
    (case xga_NotABook => k_is)
    (case xgt_NotABook => k_is)
    (case xcl_NotABook => k_is)
    (case xo_NotABook => k_is)
    (case xp_NotABook => k_is)
    (case xu_NotABook_InvalidText => k_is)
    (case xn_NotABook_InvalidText => first | rfl | decide)
    (case xu_NotABook_InvalidNumber => k_is)
    (case xn_NotABook_InvalidNumber => first | rfl | decide)
    (case xu_NotABook_InvalidName => k_is)
    (case xn_NotABook_InvalidName => first | rfl | decide)
    (case xu_NotABook_InvalidIndex => k_is)
    (case xn_NotABook_InvalidIndex => first | rfl | decide)
    (case xu_NotABook_InvalidClaim => k_is)
    (case xn_NotABook_InvalidClaim => first | rfl | decide)
    (case xu_NotABook_InvalidRow => k_is)
    (case xn_NotABook_InvalidRow => first | rfl | decide)
    (case xu_NotABook_InvalidRanking => k_is)
    (case xn_NotABook_InvalidRanking => first | rfl | decide)
    (case xu_NotABook_InvalidRule => k_is)
    (case xn_NotABook_InvalidRule => first | rfl | decide)
    (case xu_NotABook_UnknownName => k_is)
    (case xn_NotABook_UnknownName => first | rfl | decide)
    (case xu_NotABook_NotABook => k_is)
    (case xu_NotABook_NotACase => k_is)
    (case xn_NotABook_NotACase => first | rfl | decide)
    (case xu_NotABook_NotACourt => k_is)
    (case xn_NotABook_NotACourt => first | rfl | decide)
    (case xu_NotABook_InvalidLot => k_is)
    (case xn_NotABook_InvalidLot => first | rfl | decide)
    (case xu_NotABook_InvalidOffers => k_is)
    (case xn_NotABook_InvalidOffers => first | rfl | decide)
    (case xu_NotABook_InvalidCases => k_is)
    (case xn_NotABook_InvalidCases => first | rfl | decide)
    (case xu_NotABook_NoRanking => k_is)
    (case xn_NotABook_NoRanking => first | rfl | decide)
    (case xu_NotABook_TooMany => k_is)
    (case xn_NotABook_TooMany => first | rfl | decide)
    (case xu_NotABook_Broken => k_is)
    (case xn_NotABook_Broken => first | rfl | decide)
    (case xu_NotABook_InUse => k_is)
    (case xn_NotABook_InUse => first | rfl | decide)
    (case xu_NotABook_NothingToUndo => k_is)
    (case xn_NotABook_NothingToUndo => first | rfl | decide)
    (case xu_NotABook_WrongValue => k_is)
    (case xu_NotABook_NoAnswer => k_is)
    (case xn_NotABook_NoAnswer => first | rfl | decide)
    (case xL_NotABook => k_is)
    (case xR_NotABook => first | rfl | decide +kernel)
    (case xa_NotABook => k_is)
    (case xn_NotABook_given => k_is)
    (case xn_NotABook_index => k_is)
    (case xn_NotABook_number => k_is)
    (case xn_NotABook_told => k_is)
    (case ihn => k_is)
    (case iht => k_is)
    (case a_is_name => k_is)
    (case l_is_name => k_is)
    (case c_is_name => k_is)
    (case k_is_name => k_is)
    (case a_are_names => k_is)
    (case l_are_names => k_is)
    (case c_are_names => k_is)
    (case k_are_names => k_is)
    (case a_is_any_row => k_is)
    (case l_is_any_row => k_is)
    (case c_is_any_row => k_is)
    (case k_is_any_row => k_is)
    (case a_is_row => k_is)
    (case l_is_row => k_is)
    (case c_is_row => k_is)
    (case k_is_row => k_is)
    (case a_is_whole => k_is)
    (case l_is_whole => k_is)
    (case c_is_whole => k_is)
    (case k_is_whole => k_is)
    (case a_is_index => k_is)
    (case l_is_index => k_is)
    (case c_is_index => k_is)
    (case k_is_index => k_is)
    (case a_wrong_in_lot => k_is)
    (case l_wrong_in_lot => k_is)
    (case c_wrong_in_lot => k_is)
    (case k_wrong_in_lot => k_is)
    (case a_is_ranking => k_is)
    (case l_is_ranking => k_is)
    (case c_is_ranking => k_is)
    (case k_is_ranking => k_is)
    (case a_InvalidRow___init__ => k_is)
    (case i_InvalidRow___init__ => k_is)
    (case xy_InvalidRow => k_is)
    (case l_InvalidRow___init__ => k_is)
    (case c_InvalidRow___init__ => k_is)
    (case k_InvalidRow___init__ => k_is)
    (case a_check_row => k_is)
    (case l_check_row => k_is)
    (case c_check_row => k_is)
    (case k_check_row => k_is)
    (case a_InvalidRanking___init__ => k_is)
    (case i_InvalidRanking___init__ => k_is)
    (case xy_InvalidRanking => k_is)
    (case l_InvalidRanking___init__ => k_is)
    (case c_InvalidRanking___init__ => k_is)
    (case k_InvalidRanking___init__ => k_is)
    (case a_check_ranking => k_is)
    (case l_check_ranking => k_is)
    (case c_check_ranking => k_is)
    (case k_check_ranking => k_is)
    (case a_InvalidRule___init__ => k_is)
    (case i_InvalidRule___init__ => k_is)
    (case xy_InvalidRule => k_is)
    (case l_InvalidRule___init__ => k_is)
    (case c_InvalidRule___init__ => k_is)
    (case k_InvalidRule___init__ => k_is)
    (case a_check_rule => k_is)
    (case l_check_rule => k_is)
    (case c_check_rule => k_is)
    (case k_check_rule => k_is)
    (case a_InvalidLot___init__ => k_is)
    (case i_InvalidLot___init__ => k_is)
    (case xy_InvalidLot => k_is)
    (case l_InvalidLot___init__ => k_is)
    (case c_InvalidLot___init__ => k_is)
    (case k_InvalidLot___init__ => k_is)
    (case a_check_lot => k_is)
    (case l_check_lot => k_is)
    (case c_check_lot => k_is)
    (case k_check_lot => k_is)
    (case a_read_book => k_is)
    (case l_read_book => k_is)
    (case c_read_book => k_is)
    (case k_read_book => k_is)
    (case a_row_holds => k_is)
    (case l_row_holds => k_is)
    (case c_row_holds => k_is)
    (case k_row_holds => k_is)
    (case a_all_hold => k_is)
    (case l_all_hold => k_is)
    (case c_all_hold => k_is)
    (case k_all_hold => k_is)
    (case a_NotABook___init__ => k_is)
    (case i_NotABook___init__ => k_is)
    (case xy_NotABook => k_is)
    (case l_NotABook___init__ => k_is)
    (case c_NotABook___init__ => k_is)
    (case k_NotABook___init__ => k_is)
    (case a_check_book => k_is)
    (case l_check_book => k_is)
    (case c_check_book => k_is)
    (case k_check_book => k_is)
    (case a_Book_rows => k_is)
    (case g_Book_rows => k_is)
    (case t_Book_rows => k_is)
    (case r_Book_rows => k_is)
    (case l_Book_rows => k_is)
    (case c_Book_rows => k_is)
    (case k_Book_rows => k_is)
    (case a_Book_names => k_is)
    (case g_Book_names => k_is)
    (case t_Book_names => k_is)
    (case r_Book_names => k_is)
    (case l_Book_names => k_is)
    (case c_Book_names => k_is)
    (case k_Book_names => k_is)
    (case a_holds => k_is)
    (case l_holds => k_is)
    (case c_holds => k_is)
    (case k_holds => k_is)
    (case a_fits => k_is)
    (case l_fits => k_is)
    (case c_fits => k_is)
    (case k_fits => k_is)
    (case a_head_of => k_is)
    (case l_head_of => k_is)
    (case c_head_of => k_is)
    (case k_head_of => k_is)
    (case a_sides => k_is)
    (case l_sides => k_is)
    (case c_sides => k_is)
    (case k_sides => k_is)
    (case a_rules_behind => k_is)
    (case l_rules_behind => k_is)
    (case c_rules_behind => k_is)
    (case k_rules_behind => k_is)
    (case a_steps => k_is)
    (case l_steps => k_is)
    (case c_steps => k_is)
    (case k_steps => k_is)
    (case a_endings => k_is)
    (case l_endings => k_is)
    (case c_endings => k_is)
    (case k_endings => k_is)
    (case a_InvalidNumber___init__ => k_is)
    (case i_InvalidNumber___init__ => k_is)
    (case xy_InvalidNumber => k_is)
    (case l_InvalidNumber___init__ => k_is)
    (case c_InvalidNumber___init__ => k_is)
    (case k_InvalidNumber___init__ => k_is)
    (case a_check_most => k_is)
    (case l_check_most => k_is)
    (case c_check_most => k_is)
    (case k_check_most => k_is)
    (case a_surely_wrong => k_is)
    (case l_surely_wrong => k_is)
    (case c_surely_wrong => k_is)
    (case k_surely_wrong => k_is)
    (case a_follows_with => k_is)
    (case l_follows_with => k_is)
    (case c_follows_with => k_is)
    (case k_follows_with => k_is)
    (case a_judge => k_is)
    (case l_judge => k_is)
    (case c_judge => k_is)
    (case k_judge => k_is)
    (case a_reasons => k_is)
    (case l_reasons => k_is)
    (case c_reasons => k_is)
    (case k_reasons => k_is)
    (case a_ranking_at => k_is)
    (case l_ranking_at => k_is)
    (case c_ranking_at => k_is)
    (case k_ranking_at => k_is)
    (case a_number_of => k_is)
    (case l_number_of => k_is)
    (case c_number_of => k_is)
    (case k_number_of => k_is)
    (case a_places => k_is)
    (case l_places => k_is)
    (case c_places => k_is)
    (case k_places => k_is)
    (case a_beginnings => k_is)
    (case l_beginnings => k_is)
    (case c_beginnings => k_is)
    (case k_beginnings => k_is)
    (case a__law_purse => k_is)
    (case l__law_purse => k_is)
    (case c__law_purse => k_is)
    (case k__law_purse => k_is)
    (case a__law_draw => k_is)
    (case l__law_draw => k_is)
    (case c__law_draw => k_is)
    (case k__law_draw => k_is)
    (case a__law_sort => k_is)
    (case l__law_sort => k_is)
    (case c__law_sort => k_is)
    (case k__law_sort => k_is)
    (case a_Book___repr__ => k_is)
    (case i_Book___repr__ => k_is)
    (case l_Book___repr__ => k_is)
    (case c_Book___repr__ => k_is)
    (case k_Book___repr__ => k_is)
    (case a__law_attribute => k_is)
    (case l__law_attribute => k_is)
    (case c__law_attribute => k_is)
    (case k__law_attribute => k_is)
    (case a__law_told => k_is)
    (case l__law_told => k_is)
    (case c__law_told => k_is)
    (case k__law_told => k_is)
    (case a__law_labels => k_is)
    (case l__law_labels => k_is)
    (case c__law_labels => k_is)
    (case k__law_labels => k_is)
    (case a__law_all => k_is)
    (case l__law_all => k_is)
    (case c__law_all => k_is)
    (case k__law_all => k_is)
    (case a__law_holds => k_is)
    (case l__law_holds => k_is)
    (case c__law_holds => k_is)
    (case k__law_holds => k_is)
    (case a__law_flipped => k_is)
    (case l__law_flipped => k_is)
    (case c__law_flipped => k_is)
    (case k__law_flipped => k_is)
    (case a__law_signs => k_is)
    (case l__law_signs => k_is)
    (case c__law_signs => k_is)
    (case k__law_signs => k_is)
    (case a__law_rows => k_is)
    (case l__law_rows => k_is)
    (case c__law_rows => k_is)
    (case k__law_rows => k_is)
    (case a__law_spelled => k_is)
    (case l__law_spelled => k_is)
    (case c__law_spelled => k_is)
    (case k__law_spelled => k_is)
    (case a__law_book => k_is)
    (case l__law_book => k_is)
    (case c__law_book => k_is)
    (case k__law_book => k_is)
    (case a__law_wrong_order => k_is)
    (case l__law_wrong_order => k_is)
    (case c__law_wrong_order => k_is)
    (case k__law_wrong_order => k_is)
    (case a__law_firsts => k_is)
    (case l__law_firsts => k_is)
    (case c__law_firsts => k_is)
    (case k__law_firsts => k_is)
    (case lk__law_firsts => k_is)
    (case lp__law_firsts => rfl)
    (case ln__law_firsts => first | rfl | kernel_rfl)
    (case lr__law_firsts => first | rfl | decide +kernel)
    (case a_Book___init__ => k_is)
    (case i_Book___init__ => k_is)
    (case l_Book___init__ => k_is)
    (case c_Book___init__ => k_is)
    (case k_Book___init__ => k_is)
    (case a_Book_text => k_is)
    (case g_Book_text => k_is)
    (case t_Book_text => k_is)
    (case r_Book_text => k_is)
    (case l_Book_text => k_is)
    (case c_Book_text => k_is)
    (case k_Book_text => k_is)
    (case a__law_right => k_is)
    (case l__law_right => k_is)
    (case c__law_right => k_is)
    (case k__law_right => k_is)
    (case lk__law_right => k_is)
    (case lp__law_right => rfl)
    (case ln__law_right => first | rfl | kernel_rfl)
    (case lr__law_right => first | rfl | decide +kernel)
    (case a_law => k_is)
    (case l_law => k_is)
    (case c_law => k_is)
    (case k_law => k_is)
    (case z_abs => k_is)
    (case z_all => k_is)
    (case z_bool => k_is)
    (case z_divmod => k_is)
    (case z_enumerate => k_is)
    (case z_int => k_is)
    (case z_isinstance => k_is)
    (case z_len => k_is)
    (case z_list => k_is)
    (case z_max => k_is)
    (case z_min => k_is)
    (case z_range => k_is)
    (case z_repr => k_is)
    (case z_reversed => k_is)
    (case z_sorted => k_is)
    (case z_str => k_is)
    (case z_sum => k_is)
    (case z_tuple => k_is)
    (case z_zip => k_is)
    (case v_LETTERS => k_is)
    (case v_MOST_LETTERS => k_is)
    (case v_MOST_ROWS => k_is)
    (case v_MOST_RULES => k_is)
    (case v_SIGNS => k_is)
    (case no1 => k_is)
    (case no2 => k_is)
    (case no3 => k_is)
    (case no7 => k_is)
    (case ltnd => first | decide | (simp; done))
#print axioms PySem.Challenge.cw_rankedrules_k09_rankings_refused_holds



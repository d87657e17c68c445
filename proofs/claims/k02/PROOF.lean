import PyProof.Rows.All
import Wide.All
import OpenK.AllK
import Wide.FinOn
import HandS.Base
import HandS.Call
import HandS.List
import HandS.Comp
import HandS.Ends
import HandS.Iter
import HandS.Text
import HandS.Words
import HandS.Lambda
import HandS.IsInst
import HandS.Conv
import HandS.Zip
import HandS.Property
import HandS.Star
import HandS.Sort
import HandS.Dict
import HandS.Flow
import HandS.WrittenGet
import KE.KUnpackStar
import KE.GoesNew
import HandS.Codes
import PyProof.P3Eq
import HandS.SetFor
import HandS.Strs
import PyProof.ReprReads
import HandS.RevRange
import PyProof.EnumMake
import KE.GoesMore
import HandS.Style
import HandS.TupAny
import HandS.EndBits
import HandS.WideBits
import HandS.More
import PyProof.Rows.EqBoolInt
import HandS.TryOnly
import HandS.Deep
import HandS.Small
import KE.KDictDisplayH
import HandS.DictComp
import HandS.CallLocal
import HandS.ListItems
import PyProof.FString5
import PyProof.TupleOfStr
import HandS.Exc
import HandS.SuiteRaise
import KE.KTryMore
import HandS.ExcIs
import HandS.ExcField
import HandS.HotCalls
import HandS.ExcOwn
import PyProof.ExcBaseAll.ArithmeticError
import HandS.EndTab
import HandS.EndOwn
import KE.KExcIs
import HandS.ExcInit
import PyProof.CallFns
import KE.DatumIndex
import HandS.TupSets
import KE.SortData
import KE.SortKeyHeap
import KE.KLam
import HandS.OwnEq
import KE.KCallOwn
import KE.KFmtOwn
import PyProof.InstEq
import PyProof.InstNe
import HandS.FStr
import HandS.MakeKwOnly
import HandS.RaiseMore
import HandS.MakeKw
import HandS.Replace
import HandS.ReplaceLit
import PyProof.Rows.SortStr
import HandS.SetTxt0
import PyProof.ReprHeadsTuple
import PyProof.ListStr
import KE.KExcInit
import HandS.HeadHook3
import HandS.ForMost
import PySem.Challenge.RW_rankedrules_k02_books_made
set_option Elab.async false
set_option linter.all false
set_option maxRecDepth 100000
set_option maxHeartbeats 4000000
set_option autoImplicit false
/-! A data layer over HandS's readings: what a slot holds is said as plain data (D), never as addresses. -/
namespace Dw
open PySem PySem.Spec PyProof.Rows L2

/-- a list of the written part -/
def SqK (K : PySem.W.Frag) (a : Addr) (xs : List V) : Prop :=
  ∃ (o : Obj) (its : Array Value) (n : Nat), K.lookup a = some o ∧ o.cls = .type "list" ∧ o.dict = none ∧ o.data = .seq its n ∧ its.size ≤ sizeLine ∧ Vals xs its.toList
/-- which addresses hold a table of code objects, and of what name these are -/
class Tabs0 where
  nm : Addr → Option Str
variable [Tabs0]
/-- plain data -/
inductive D where
  | non | bl (b : Bool) | int (i : Int) | str (x : Str)
  | tup (ds : List D) | lst (ds : List D)
  | obj (C : Addr) (ns : List Str) (ds : List D)
  | raw (v : V)
  | purse
  | rng (lo hi : Int)
  | dct (ks : List Key) (ds : List D)
  | scr (K : PySem.W.Frag) (vs : List V)
  | tupN (ds : List D)
  | tag (d : D)

/-- a world: the abstract heap, the addresses that may change (U), the purses among them (P) -/
structure Wd where
  H : Hp
  U : Addr → Prop
  P : Addr → Prop

/-- a tuple to be read, as it is -/
def TupAt (H : Hp) (a : Addr) (vs : List V) : Prop := Rd H a (.tup vs)
/-- .. one that is known to have no dict of its own -/
def TupN (H : Hp) (a : Addr) (vs : List V) : Prop := ∃ o : Obj, H a = some (.frz o (.tup vs)) ∧ o.cls = .type "tuple" ∧ o.dict = none
theorem TupAt.mk {H : Hp} {a : Addr} {vs : List V} (h : H a = some (.tup vs)) : TupAt H a vs := .inl h
theorem TupAt.sq {K : PySem.W.Frag} {H : Hp} {a : Addr} {vs : List V} (h : TupAt H a vs) : SqT K H a vs := .inl h
theorem TupN.at {H : Hp} {a : Addr} {vs : List V} (h : TupN H a vs) : TupAt H a vs := let ⟨o, e, _⟩ := h; .inr ⟨o, e⟩
theorem TupAt.imp {H H' : Hp} {a : Addr} {vs : List V} (s : ∀ u, H a = some u → H' a = some u) (h : TupAt H a vs) : TupAt H' a vs := h.elim (fun h => .inl (s _ h)) fun ⟨o, h⟩ => .inr ⟨o, s _ h⟩
theorem TupN.imp {H H' : Hp} {a : Addr} {vs : List V} (s : ∀ u, H a = some u → H' a = some u) (h : TupN H a vs) : TupN H' a vs := let ⟨o, e, c⟩ := h; ⟨o, s _ e, c⟩
theorem TupAt.same {H H' : Hp} {a : Addr} {vs : List V} (h : TupAt H a vs) (s : Same H H') : TupAt H' a vs := h.imp (s a)
theorem TupN.same {H H' : Hp} {a : Addr} {vs : List V} (h : TupN H a vs) (s : Same H H') : TupN H' a vs := h.imp (s a)
theorem TupAt.some {H : Hp} {a : Addr} {vs : List V} (h : TupAt H a vs) : ∃ u, H a = some u := h.elim (fun h => ⟨_, h⟩) fun ⟨_, h⟩ => ⟨_, h⟩
theorem TupAt.keep {H H' : Hp} {U U' : Addr → Prop} {a : Addr} {vs : List V} (h : TupAt H a vs) (n : ¬ U a) (k : ∀ u, H a = Option.some u → ¬ U a → H' a = Option.some u ∧ ¬ U' a) : TupAt H' a vs ∧ ¬ U' a := let ⟨u, e⟩ := h.some; ⟨h.imp fun u e => (k u e n).1, (k u e n).2⟩
mutual
def Rep (W : Wd) : D → V → Prop
  | .non, v => v = .non
  | .bl b, v => v = .bl b
  | .int i, v => v = .int i
  | .str x, v => v = .str x
  | .raw u, v => v = u
  | .tup ds, v => ∃ a vs, v = .ref a ∧ TupAt W.H a vs ∧ ¬ W.U a ∧ RepL W ds vs
  | .tupN ds, v => ∃ a vs, v = .ref a ∧ TupN W.H a vs ∧ ¬ W.U a ∧ RepL W ds vs
  | .lst ds, v => ∃ a vs, v = .ref a ∧ W.H a = some (.lst vs) ∧ ¬ W.U a ∧ RepL W ds vs
  | .obj C ns ds, v => ∃ a dx vs, v = .ref a ∧ W.H a = some (.ins C dx (ns.zip vs)) ∧ ¬ W.U a ∧ ns.length = vs.length ∧ RepL W ds vs
  | .purse, v => ∃ a, v = .ref a ∧ W.P a ∧ Tabs0.nm a = none ∧ ∀ p q, Tabs0.nm p = some q → W.P p
  | .rng lo hi, v => ∃ a, v = .ref a ∧ W.H a = some (.rng lo hi) ∧ ¬ W.U a
  | .dct ks ds, v => ∃ a vs, v = .ref a ∧ W.H a = some (.dK (ks.zip vs)) ∧ ¬ W.U a ∧ ks.length = vs.length ∧ RepL W ds vs
  | .scr K vs, v => ∃ a, v = .ref a ∧ ((∃ u, W.H a = some u ∧ ¬ W.U a ∧ (u = .lst vs ∨ ∃ o, u = .frz o (.lst vs))) ∨ SqK K a vs) ∧ ∀ p q, Tabs0.nm p = some q → W.P p
  | .tag d, v => Rep W d v ∧ ∀ p q, Tabs0.nm p = some q → W.P p
def RepL (W : Wd) : List D → List V → Prop
  | [], vs => vs = []
  | d :: ds, vs => ∃ v r, vs = v :: r ∧ Rep W d v ∧ RepL W ds r
end

def PurseAt (H : Hp) (a : Addr) : Prop := ∃ x y : Int, 0 ≤ x ∧ 0 ≤ y ∧ y < 2147483647 ∧ H a = some (.lst [.int x, .int y])

/-- what stands at an address that may change: a purse, or a table -/
def OwnAt (H : Hp) (a : Addr) : Prop := match Tabs0.nm a with | none => PurseAt H a | some q => LamX.TabS H a q
theorem OwnAt.purse {H : Hp} {a : Addr} (h : OwnAt H a) (n : Tabs0.nm a = none) : PurseAt H a := by
  unfold OwnAt at h
  rw [n] at h
  exact h
theorem OwnAt.of {H : Hp} {a : Addr} (h : PurseAt H a) (n : Tabs0.nm a = none) : OwnAt H a := by
  unfold OwnAt
  rw [n]
  exact h
theorem OwnAt.tab {H : Hp} {a : Addr} {q : Str} (h : OwnAt H a) (n : Tabs0.nm a = some q) : LamX.TabS H a q := by
  unfold OwnAt at h
  rw [n] at h
  exact h
theorem OwnAt.same {H H' : Hp} {a : Addr} (s : Same H H') (h : OwnAt H a) : OwnAt H' a := by
  unfold OwnAt at h ⊢
  cases n : Tabs0.nm a with
  | none =>
    rw [n] at h
    obtain ⟨x, y, h1, h2, h3, e⟩ := h
    exact ⟨x, y, h1, h2, h3, s _ _ e⟩
  | some q =>
    rw [n] at h
    exact LamX.TabS.ext h s
theorem OwnAt.upd {H : Hp} {a b : Addr} {u : HO} (ha : ∀ h, H a ≠ some (.ext h)) (hb : b ≠ a) (h : OwnAt H b) : OwnAt (L2.upd H a u) b := by
  unfold OwnAt at h ⊢
  cases n : Tabs0.nm b with
  | none =>
    rw [n] at h
    obtain ⟨x, y, h1, h2, h3, e⟩ := h
    exact ⟨x, y, h1, h2, h3, by rw [upd_ne hb]; exact e⟩
  | some q =>
    rw [n] at h
    obtain ⟨ps, h1, h2, h3⟩ := h
    refine ⟨ps, by rw [upd_ne hb]; exact h1, h2, fun pos cv hc => ?_⟩
    obtain ⟨c, e1, e2⟩ := h3 pos cv hc
    refine ⟨c, e1, ?_⟩
    rw [upd_ne fun z : c = a => ?_]
    · exact e2
    · rw [z] at e2
      exact ha _ e2
theorem no_ext {H : Hp} {a : Addr} {vs : List V} (h : H a = some (.lst vs)) : ∀ f, H a ≠ some (.ext f) := fun f z => by rw [h] at z; cases z
theorem no_extI {H : Hp} {a C dx : Addr} {fs : List (Str × V)} (h : H a = some (.ins C dx fs)) : ∀ f, H a ≠ some (.ext f) := fun f z => by rw [h] at z; cases z
theorem OwnAt.some {H : Hp} {a : Addr} (h : OwnAt H a) : H a ≠ none := by
  unfold OwnAt at h
  cases n : Tabs0.nm a with
  | none =>
    rw [n] at h
    obtain ⟨x, y, h1, h2, h3, e⟩ := h
    rw [e]; exact fun z => nomatch z
  | some q =>
    rw [n] at h
    obtain ⟨ps, h1, _⟩ := h
    rw [h1]; exact fun z => nomatch z
/-- F: what this def may not touch -/
structure WOk (F : Addr → Prop) (W : Wd) : Prop where
  dom : ∀ a, W.U a → W.H a ≠ none
  fu : ∀ a, F a → W.U a
  pu : ∀ a, W.P a → W.U a ∧ ¬ F a ∧ OwnAt W.H a

structure Stp (F : Addr → Prop) (W W' : Wd) : Prop where
  keep : ∀ a u, W.H a = some u → ¬ W.U a → W'.H a = some u ∧ ¬ W'.U a
  pur : W'.P = W.P
  fr : ∀ a, F a → W'.H a = W.H a

theorem Stp.refl {F : Addr → Prop} (W : Wd) : Stp F W W := ⟨fun _ _ h n => ⟨h, n⟩, rfl, fun _ _ => rfl⟩
theorem Stp.trans {F : Addr → Prop} {W W1 W2 : Wd} (a : Stp F W W1) (b : Stp F W1 W2) : Stp F W W2 :=
  ⟨fun c u h n => let ⟨h1, n1⟩ := a.keep c u h n; b.keep c u h1 n1, b.pur.trans a.pur, fun c h => (b.fr c h).trans (a.fr c h)⟩

mutual
theorem Rep.mono {W W' : Wd} (k : ∀ a u, W.H a = some u → ¬ W.U a → W'.H a = some u ∧ ¬ W'.U a) (p : ∀ a, W.P a → W'.P a) : ∀ (d : D) (v : V), Rep W d v → Rep W' d v
  | .non, _, h => h
  | .bl _, _, h => h
  | .int _, _, h => h
  | .str _, _, h => h
  | .raw _, _, h => h
  | .tup ds, _, ⟨a, vs, e, h, n, r⟩ => let ⟨h', n'⟩ := h.keep n (k a); ⟨a, vs, e, h', n', RepL.mono k p ds vs r⟩
  | .tupN ds, _, ⟨a, vs, e, h, n, r⟩ => let ⟨_, n'⟩ := h.at.keep n (k a); ⟨a, vs, e, h.imp fun u e => (k a u e n).1, n', RepL.mono k p ds vs r⟩
  | .lst ds, _, ⟨a, vs, e, h, n, r⟩ => let ⟨h', n'⟩ := k _ _ h n; ⟨a, vs, e, h', n', RepL.mono k p ds vs r⟩
  | .obj C ns ds, _, ⟨a, dx, vs, e, h, n, l, r⟩ => let ⟨h', n'⟩ := k _ _ h n; ⟨a, dx, vs, e, h', n', l, RepL.mono k p ds vs r⟩
  | .purse, _, ⟨a, e, h, n, t⟩ => ⟨a, e, p a h, n, fun x q z => p x (t x q z)⟩
  | .rng lo hi, _, ⟨a, e, h, n⟩ => let ⟨h', n'⟩ := k _ _ h n; ⟨a, e, h', n'⟩
  | .dct ks ds, _, ⟨a, vs, e, h, n, l, r⟩ => let ⟨h', n'⟩ := k _ _ h n; ⟨a, vs, e, h', n', l, RepL.mono k p ds vs r⟩
  | .scr K vs, _, ⟨a, e, .inl ⟨u, h, n, q⟩, t⟩ => let ⟨h', n'⟩ := k _ _ h n; ⟨a, e, .inl ⟨u, h', n', q⟩, fun x q z => p x (t x q z)⟩
  | .scr K vs, _, ⟨a, e, .inr q, t⟩ => ⟨a, e, .inr q, fun x q z => p x (t x q z)⟩
  | .tag d, v, ⟨h, t⟩ => ⟨Rep.mono k p d v h, fun x q z => p x (t x q z)⟩
theorem RepL.mono {W W' : Wd} (k : ∀ a u, W.H a = some u → ¬ W.U a → W'.H a = some u ∧ ¬ W'.U a) (p : ∀ a, W.P a → W'.P a) : ∀ (ds : List D) (vs : List V), RepL W ds vs → RepL W' ds vs
  | [], _, h => h
  | d :: ds, _, ⟨v, r, e, h1, h2⟩ => ⟨v, r, e, Rep.mono k p d v h1, RepL.mono k p ds r h2⟩
end
theorem Rep.stp {F : Addr → Prop} {W W' : Wd} {d : D} {v : V} (s : Stp F W W') (h : Rep W d v) : Rep W' d v := Rep.mono s.keep (fun a h => by rw [s.pur]; exact h) d v h
theorem RepL.stp {F : Addr → Prop} {W W' : Wd} {d : List D} {v : List V} (s : Stp F W W') (h : RepL W d v) : RepL W' d v := RepL.mono s.keep (fun a h => by rw [s.pur]; exact h) d v h
/-- the world with another heap -/
abbrev Wd.at (W : Wd) (H : Hp) : Wd := ⟨H, W.U, W.P⟩
theorem Rep.same {W : Wd} {H : Hp} {d : D} {v : V} (s : Same W.H H) (h : Rep W d v) : Rep (W.at H) d v := Rep.mono (W' := W.at H) (fun a u e n => ⟨s a u e, n⟩) (fun _ h => h) d v h
theorem RepL.same {W : Wd} {H : Hp} {d : List D} {v : List V} (s : Same W.H H) (h : RepL W d v) : RepL (W.at H) d v := RepL.mono (W' := W.at H) (fun a u e n => ⟨s a u e, n⟩) (fun _ h => h) d v h
theorem Stp.of_same {F : Addr → Prop} {W : Wd} {H : Hp} (ok : WOk F W) (s : Same W.H H) : Stp F W (W.at H) :=
  ⟨fun a u e n => ⟨s a u e, n⟩, rfl, fun a h => by
    cases q : W.H a with
    | none => exact absurd q (ok.dom a (ok.fu a h))
    | some u => exact s a u q⟩
theorem WOk.same {F : Addr → Prop} {W : Wd} {H : Hp} (ok : WOk F W) (s : Same W.H H) : WOk F (W.at H) :=
  ⟨fun a h z => ok.dom a h (s.free z), ok.fu, fun a h => let ⟨u, f, o⟩ := ok.pu a h; ⟨u, f, o.same s⟩⟩
theorem WOk.new {F : Addr → Prop} {W : Wd} (ok : WOk F W) {a : Addr} (h : W.H a = none) : ¬ W.U a := fun u => ok.dom a u h

theorem RepL.length {W : Wd} : ∀ {ds : List D} {vs : List V}, RepL W ds vs → ds.length = vs.length
  | [], _, h => by rw [show _ = [] from h]; rfl
  | _ :: ds, _, ⟨_, r, e, _, h⟩ => by rw [e, List.length_cons, List.length_cons, RepL.length (ds := ds) h]
theorem RepL.get {W : Wd} : ∀ {ds : List D} {vs : List V} {i : Nat} {d : D}, RepL W ds vs → ds[i]? = some d → ∃ v, vs[i]? = some v ∧ Rep W d v
  | [], _, _, _, _, e => by simp at e
  | d :: ds, _, 0, d', ⟨v, r, e, h1, h2⟩, q => by
    have : d = d' := by simpa using q
    subst this
    exact ⟨v, by rw [e]; rfl, h1⟩
  | d :: ds, _, i + 1, d', ⟨v, r, e, h1, h2⟩, q => by
    obtain ⟨v', a, b⟩ := RepL.get (i := i) (d := d') h2 (by simpa using q)
    exact ⟨v', by rw [e]; simpa using a, b⟩
theorem RepL.append {W : Wd} : ∀ {ds es : List D} {vs us : List V}, RepL W ds vs → RepL W es us → RepL W (ds ++ es) (vs ++ us)
  | [], _, _, _, h, h' => by rw [show _ = [] from h]; exact h'
  | d :: ds, es, _, us, ⟨v, r, e, h1, h2⟩, h' => ⟨v, r ++ us, by rw [e]; rfl, h1, RepL.append h2 h'⟩
theorem RepL.take {W : Wd} : ∀ {ds : List D} {vs : List V} (n : Nat), RepL W ds vs → RepL W (ds.take n) (vs.take n)
  | _, _, 0, _ => by rw [List.take_zero, List.take_zero]; rfl
  | [], _, n + 1, h => by rw [show _ = [] from h]; rfl
  | d :: ds, _, n + 1, ⟨v, r, e, h1, h2⟩ => ⟨v, r.take n, by rw [e]; rfl, h1, RepL.take n h2⟩
theorem RepL.drop {W : Wd} : ∀ {ds : List D} {vs : List V} (n : Nat), RepL W ds vs → RepL W (ds.drop n) (vs.drop n)
  | _, _, 0, h => h
  | [], _, n + 1, h => by rw [show _ = [] from h]; rfl
  | d :: ds, _, n + 1, ⟨v, r, e, h1, h2⟩ => by rw [e]; exact RepL.drop n h2
theorem RepL.set {W : Wd} {d : D} {v : V} (h : Rep W d v) : ∀ {ds : List D} {vs : List V} (n : Nat), RepL W ds vs → RepL W (ds.set n d) (vs.set n v)
  | [], _, n, h' => by rw [show _ = [] from h']; rfl
  | _ :: ds, _, 0, ⟨u, r, e, h1, h2⟩ => by rw [e]; exact ⟨v, r, rfl, h, h2⟩
  | c :: ds, _, n + 1, ⟨u, r, e, h1, h2⟩ => by rw [e]; exact ⟨u, r.set n v, rfl, h1, RepL.set h n h2⟩
theorem RepL.eraseIdx {W : Wd} : ∀ {ds : List D} {vs : List V} (n : Nat), RepL W ds vs → RepL W (ds.eraseIdx n) (vs.eraseIdx n)
  | [], _, n, h' => by rw [show _ = [] from h']; rfl
  | _ :: ds, _, 0, ⟨u, r, e, h1, h2⟩ => by rw [e]; exact h2
  | c :: ds, _, n + 1, ⟨u, r, e, h1, h2⟩ => by rw [e]; exact ⟨u, r.eraseIdx n, rfl, h1, RepL.eraseIdx n h2⟩
theorem RepL.one {W : Wd} {d : D} {v : V} (h : Rep W d v) : RepL W [d] [v] := ⟨v, [], rfl, h, rfl⟩
theorem RepL.ints {W : Wd} : ∀ {ns : List Int} {vs : List V}, RepL W (ns.map D.int) vs ↔ vs = ns.map V.int
  | [], vs => Iff.rfl
  | n :: ns, vs => by
    constructor
    · rintro ⟨v, r, e, h1, h2⟩
      rw [e, show v = .int n from h1, RepL.ints.mp h2]; rfl
    · intro e
      exact ⟨.int n, ns.map V.int, e, rfl, RepL.ints.mpr rfl⟩
theorem RepL.strs {W : Wd} : ∀ {ns : List Str} {vs : List V}, RepL W (ns.map D.str) vs ↔ vs = ns.map V.str
  | [], vs => Iff.rfl
  | n :: ns, vs => by
    constructor
    · rintro ⟨v, r, e, h1, h2⟩
      rw [e, show v = .str n from h1, RepL.strs.mp h2]; rfl
    · intro e
      exact ⟨.str n, ns.map V.str, e, rfl, RepL.strs.mpr rfl⟩
theorem RepL.bls {W : Wd} : ∀ {ns : List Bool} {vs : List V}, RepL W (ns.map D.bl) vs ↔ vs = ns.map V.bl
  | [], vs => Iff.rfl
  | n :: ns, vs => by
    constructor
    · rintro ⟨v, r, e, h1, h2⟩
      rw [e, show v = .bl n from h1, RepL.bls.mp h2]; rfl
    · intro e
      exact ⟨.bl n, ns.map V.bl, e, rfl, RepL.bls.mpr rfl⟩

mutual
/-- what is known less of -/
def weakD : D → D
  | .tupN ds => .tup (weakDs ds) | .tup ds => .tup (weakDs ds) | .lst ds => .lst (weakDs ds)
  | d => d
def weakDs : List D → List D
  | [] => []
  | d :: ds => weakD d :: weakDs ds
end
mutual
theorem Rep.weak {W : Wd} : ∀ (d : D) (v : V), Rep W d v → Rep W (weakD d) v
  | .tupN ds, _, ⟨a, vs, e, h, n, r⟩ => ⟨a, vs, e, h.at, n, RepL.weak ds vs r⟩
  | .tup ds, _, ⟨a, vs, e, h, n, r⟩ => ⟨a, vs, e, h, n, RepL.weak ds vs r⟩
  | .lst ds, _, ⟨a, vs, e, h, n, r⟩ => ⟨a, vs, e, h, n, RepL.weak ds vs r⟩
  | .non, _, h => h
  | .bl _, _, h => h
  | .int _, _, h => h
  | .str _, _, h => h
  | .raw _, _, h => h
  | .obj _ _ _, _, h => h
  | .purse, _, h => h
  | .rng _ _, _, h => h
  | .dct _ _, _, h => h
  | .scr _ _, _, h => h
  | .tag _, _, h => h
theorem RepL.weak {W : Wd} : ∀ (ds : List D) (vs : List V), RepL W ds vs → RepL W (weakDs ds) vs
  | [], _, h => h
  | d :: ds, _, ⟨v, r, e, h1, h2⟩ => ⟨v, r, e, Rep.weak d v h1, RepL.weak ds r h2⟩
end
/-! ### the slots -/
/-- an own thing: a list, or a dict by its keys -/
structure Ow where
  ks : Option (List Key)
  ds : List D
@[reducible] def Ow.cell (o : Ow) (vs : List V) : HO := match o.ks with | none => .lst vs | some ks => .dK (ks.zip vs)
inductive Sl where
  | unset | val (d : D) | ownX (o : Ow)
@[reducible] def Sl.own (ds : List D) : Sl := .ownX ⟨none, ds⟩
@[reducible] def Sl.owd (ks : List Key) (ds : List D) : Sl := .ownX ⟨some ks, ds⟩
theorem Ow.ext (o : Ow) (vs : List V) : ∀ f, o.cell vs ≠ .ext f := fun f z => by
  obtain ⟨ks, ds⟩ := o
  cases ks <;> cases z
theorem no_extX {H : Hp} {a : Addr} {o : Ow} {vs : List V} (h : H a = some (o.cell vs)) : ∀ f, H a ≠ some (.ext f) := fun f z => by
  rw [h] at z
  exact o.ext vs f (Option.some.inj z)
abbrev Gam := List Sl

structure SR (F : Addr → Prop) (Γ : Gam) (σ : L2.St) (W : Wd) : Prop where
  ok : WOk F W
  len : Γ.length = σ.length
  val : ∀ (i : Nat) (d : D), Γ[i]? = some (Sl.val d) → ∃ v, σ[i]? = some (some v) ∧ Rep W d v
  ownX : ∀ (i : Nat) (ds : Ow), Γ[i]? = some (Sl.ownX ds) → ∃ a vs, σ[i]? = some (some (V.ref a)) ∧ W.U a ∧ ¬ F a ∧ ¬ W.P a ∧ W.H a = some (ds.cell vs) ∧ RepL W ds.ds vs
  apartX : ∀ (i j : Nat) (a : Addr) (ds es : Ow), Γ[i]? = some (Sl.ownX ds) → Γ[j]? = some (Sl.ownX es) → σ[i]? = some (some (V.ref a)) → σ[j]? = some (some (V.ref a)) → i = j
theorem SR.own {F : Addr → Prop} {Γ : Gam} {σ : L2.St} {W : Wd} (h : SR F Γ σ W) (i : Nat) (ds : List D) (e : Γ[i]? = some (Sl.own ds)) : ∃ a vs, σ[i]? = some (some (V.ref a)) ∧ W.U a ∧ ¬ F a ∧ ¬ W.P a ∧ W.H a = some (.lst vs) ∧ RepL W ds vs := h.ownX i ⟨none, ds⟩ e
theorem SR.owd {F : Addr → Prop} {Γ : Gam} {σ : L2.St} {W : Wd} (h : SR F Γ σ W) (i : Nat) (ks : List Key) (ds : List D) (e : Γ[i]? = some (Sl.owd ks ds)) : ∃ a vs, σ[i]? = some (some (V.ref a)) ∧ W.U a ∧ ¬ F a ∧ ¬ W.P a ∧ W.H a = some (.dK (ks.zip vs)) ∧ RepL W ds vs := h.ownX i ⟨some ks, ds⟩ e

theorem SR.same {F : Addr → Prop} {Γ : Gam} {σ : L2.St} {W : Wd} {H : Hp} (s : Same W.H H) (h : SR F Γ σ W) : SR F Γ σ (W.at H) :=
  ⟨h.ok.same s, h.len, fun i d e => let ⟨v, a, b⟩ := h.val i d e; ⟨v, a, b.same s⟩,
   fun i ds e => let ⟨a, vs, e1, u, f, p, q, r⟩ := h.ownX i ds e; ⟨a, vs, e1, u, f, p, s _ _ q, r.same s⟩, h.apartX⟩
/-- forgetting -/
theorem SR.weak {F : Addr → Prop} {Γ Γ' : Gam} {σ σ' : L2.St} {W : Wd} (h : SR F Γ σ W) (l : Γ'.length = σ'.length) (k : ∀ (i : Nat) (s : Sl), Γ'[i]? = some s → s = Sl.unset ∨ (Γ[i]? = some s ∧ σ'[i]? = σ[i]?)) : SR F Γ' σ' W := by
  have kv : ∀ (i : Nat) (d : D), Γ'[i]? = some (Sl.val d) → Γ[i]? = some (Sl.val d) ∧ σ'[i]? = σ[i]? := fun i d e => by
    rcases k i _ e with z | z
    · cases z
    · exact z
  have ko : ∀ (i : Nat) (d : Ow), Γ'[i]? = some (Sl.ownX d) → Γ[i]? = some (Sl.ownX d) ∧ σ'[i]? = σ[i]? := fun i d e => by
    rcases k i _ e with z | z
    · cases z
    · exact z
  refine ⟨h.ok, l, fun i d e => ?_, fun i ds e => ?_, fun i j a ds es e1 e2 e3 e4 => ?_⟩
  · obtain ⟨z, q⟩ := kv i d e
    rw [q]; exact h.val i d z
  · obtain ⟨z, q⟩ := ko i ds e
    rw [q]; exact h.ownX i ds z
  · obtain ⟨z1, q1⟩ := ko i ds e1
    obtain ⟨z2, q2⟩ := ko j es e2
    rw [q1] at e3; rw [q2] at e4
    exact h.apartX i j a ds es z1 z2 e3 e4
/-- a value is stored -/
theorem SR.set {F : Addr → Prop} {Γ : Gam} {σ : L2.St} {W : Wd} {i : Nat} {d : D} {v : V} (h : SR F Γ σ W) (r : Rep W d v) : SR F (Γ.set i (.val d)) (σ.set i (some v)) W := by
  refine ⟨h.ok, by simp [h.len], fun j e q => ?_, fun j ds q => ?_, fun j k a ds es q1 q2 q3 q4 => ?_⟩
  · by_cases hj : i = j
    · subst hj
      have hl : i < Γ.length := by
        have := (List.getElem?_eq_some_iff.mp q).1
        simpa using this
      rw [List.getElem?_set_self hl] at q
      cases q
      exact ⟨v, by rw [List.getElem?_set_self (by rw [← h.len]; exact hl)], r⟩
    · rw [List.getElem?_set_ne hj] at q ⊢
      exact h.val j e q
  · by_cases hj : i = j
    · subst hj
      have hl : i < Γ.length := by
        have := (List.getElem?_eq_some_iff.mp q).1
        simpa using this
      rw [List.getElem?_set_self hl] at q
      cases q
    · rw [List.getElem?_set_ne hj] at q ⊢
      exact h.ownX j ds q
  · have n : ∀ (j : Nat) (ds : Ow), (Γ.set i (.val d))[j]? = some (Sl.ownX ds) → i ≠ j := fun j ds q e => by
      subst e
      have hl : i < Γ.length := by
        have := (List.getElem?_eq_some_iff.mp q).1
        simpa using this
      rw [List.getElem?_set_self hl] at q
      cases q
    have n1 := n j ds q1
    have n2 := n k es q2
    rw [List.getElem?_set_ne n1] at q1 q3
    rw [List.getElem?_set_ne n2] at q2 q4
    exact h.apartX j k a ds es q1 q2 q3 q4
/-- what the callee may not touch: the frame and the own lists -/
def ownA (Γ : Gam) (σ : L2.St) (a : Addr) : Prop := ∃ (i : Nat) (ds : Ow), Γ[i]? = some (Sl.ownX ds) ∧ σ[i]? = some (some (V.ref a))
/-- behind a call -/
theorem SR.call {F : Addr → Prop} {Γ : Gam} {σ : L2.St} {W W' : Wd} (h : SR F Γ σ W) (s : Stp (fun a => F a ∨ ownA Γ σ a) W W') (ok : WOk (fun a => F a ∨ ownA Γ σ a) W') : SR F Γ σ W' := by
  refine ⟨⟨ok.dom, fun a z => ok.fu a (.inl z), fun a z => let ⟨u, f, p⟩ := ok.pu a z; ⟨u, fun w => f (.inl w), p⟩⟩, h.len, fun i d e => ?_, fun i ds e => ?_, h.apartX⟩
  · obtain ⟨v, a, b⟩ := h.val i d e
    exact ⟨v, a, b.stp s⟩
  · obtain ⟨a, vs, e1, u, f, p, q, r⟩ := h.ownX i ds e
    have o : ownA Γ σ a := ⟨i, ds, e, e1⟩
    exact ⟨a, vs, e1, ok.fu a (.inr o), f, fun z => (ok.pu a z).2.1 (.inr o), (s.fr a (.inr o)).trans q, r.stp s⟩
theorem SR.callOk {F : Addr → Prop} {Γ : Gam} {σ : L2.St} {W : Wd} (h : SR F Γ σ W) : WOk (fun a => F a ∨ ownA Γ σ a) W := by
  refine ⟨h.ok.dom, fun a z => ?_, fun a z => ?_⟩
  · rcases z with z | ⟨i, ds, e, q⟩
    · exact h.ok.fu a z
    · obtain ⟨b, vs, e1, u, _⟩ := h.ownX i ds e
      rw [q] at e1; cases e1
      exact u
  · obtain ⟨u, f, p⟩ := h.ok.pu a z
    refine ⟨u, fun w => ?_, p⟩
    rcases w with w | ⟨i, ds, e, q⟩
    · exact f w
    · obtain ⟨b, vs, e1, _, _, np, _⟩ := h.ownX i ds e
      rw [q] at e1; cases e1
      exact np z
theorem Stp.sub {F G : Addr → Prop} {W W' : Wd} (s : Stp G W W') (k : ∀ a, F a → G a) : Stp F W W' := ⟨s.keep, s.pur, fun a h => s.fr a (k a h)⟩
end Dw

/-! The judgements over data: Ev (pure), EvB (a list that is read), EvN (a new list), Dl (with draws), Ds (statements). -/
namespace Dw
open PySem PySem.Spec PyProof.Rows L2
variable [Tabs0]

def Ev (t : TE) (Γ : Gam) (d : D) : Prop := ∀ (F : Addr → Prop) (σ : L2.St) (W : Wd) (Q : VK), SR F Γ σ W → (∀ v H, Same W.H H → Rep (W.at H) d v → Q v H) → t σ W.H Q
def EvB (t : TE) (Γ : Gam) (ds : List D) : Prop := ∀ (F : Addr → Prop) (σ : L2.St) (W : Wd) (Q : VK), SR F Γ σ W → (∀ a vs H, Same W.H H → H a = some (.lst vs) → RepL (W.at H) ds vs → Q (.ref a) H) → t σ W.H Q
/-- the world where a is one's own, too -/
abbrev Wd.plus (W : Wd) (H : Hp) (a : Addr) : Wd := ⟨H, fun b => W.U b ∨ b = a, W.P⟩
theorem RepL.minus {W : Wd} {H : Hp} {a : Addr} {ds : List D} {vs : List V} (h : RepL (W.plus H a) ds vs) : RepL (W.at H) ds vs := RepL.mono (W := W.plus H a) (W' := W.at H) (fun b u e n => ⟨e, fun z => n (Or.inl z)⟩) (fun _ h => h) ds vs h
theorem RepL.plus {W : Wd} {H : Hp} {a : Addr} {ds : List D} {vs : List V} (n : W.H a = none) (s : Same W.H H) (h : RepL W ds vs) : RepL (W.plus H a) ds vs := RepL.mono (W := W) (W' := W.plus H a) (fun b u e nu => ⟨s b u e, fun z => z.elim nu fun z => by rw [z, n] at e; cases e⟩) (fun _ h => h) ds vs h
def EvN (t : TE) (Γ : Gam) (ds : List D) : Prop := ∀ (F : Addr → Prop) (σ : L2.St) (W : Wd) (Q : VK), SR F Γ σ W → (∀ a vs H, Same W.H H → W.H a = none → H a = some (.lst vs) → RepL (W.plus H a) ds vs → Q (.ref a) H) → t σ W.H Q
def EvT (t : TT) (Γ : Gam) (b : Bool) : Prop := ∀ (F : Addr → Prop) (σ : L2.St) (W : Wd) (Q : Bool → Hp → Prop), SR F Γ σ W → (∀ H, Same W.H H → Q b H) → t σ W.H Q
def EvA (t : TA) (Γ : Gam) (ds : List D) : Prop := ∀ (F : Addr → Prop) (σ : L2.St) (W : Wd) (Q : List V → Hp → Prop), SR F Γ σ W → (∀ vs H, Same W.H H → RepL (W.at H) ds vs → Q vs H) → t σ W.H Q

def Dl (t : TE) (Γ : Gam) (Q : D → Gam → Prop) : Prop := ∀ (F : Addr → Prop) (σ : L2.St) (W : Wd) (R : VK), SR F Γ σ W → (∀ v W' d Γ', Stp F W W' → SR F Γ' σ W' → Rep W' d v → Q d Γ' → R v W'.H) → t σ W.H R
def DlT (t : TT) (Γ : Gam) (Q : Bool → Gam → Prop) : Prop := ∀ (F : Addr → Prop) (σ : L2.St) (W : Wd) (R : Bool → Hp → Prop), SR F Γ σ W → (∀ b W' Γ', Stp F W W' → SR F Γ' σ W' → Q b Γ' → R b W'.H) → t σ W.H R
def DlA (t : TA) (Γ : Gam) (Q : List D → Gam → Prop) : Prop := ∀ (F : Addr → Prop) (σ : L2.St) (W : Wd) (R : List V → Hp → Prop), SR F Γ σ W → (∀ vs W' ds Γ', Stp F W W' → SR F Γ' σ W' → RepL W' ds vs → Q ds Γ' → R vs W'.H) → t σ W.H R

structure DE where
  nx : Gam → Prop
  rt : D → Prop
  bk : Gam → Prop := fun _ => False
  ct : Gam → Prop := fun _ => False
structure Lift (F : Addr → Prop) (W0 : Wd) (De : DE) (Dr : Ends) : Prop where
  nx : ∀ σ W Γ, Stp F W0 W → SR F Γ σ W → De.nx Γ → Dr.nx σ W.H
  rt : ∀ v W d, Stp F W0 W → WOk F W → Rep W d v → De.rt d → Dr.rt v W.H
  bk : ∀ σ W Γ, Stp F W0 W → SR F Γ σ W → De.bk Γ → Dr.bk σ W.H
  ct : ∀ σ W Γ, Stp F W0 W → SR F Γ σ W → De.ct Γ → Dr.ct σ W.H
theorem Lift.after {F : Addr → Prop} {W0 W1 : Wd} {De : DE} {Dr : Ends} (l : Lift F W0 De Dr) (s : Stp F W0 W1) : Lift F W1 De Dr :=
  ⟨fun σ W Γ a => l.nx σ W Γ (s.trans a), fun v W d a => l.rt v W d (s.trans a), fun σ W Γ a => l.bk σ W Γ (s.trans a), fun σ W Γ a => l.ct σ W Γ (s.trans a)⟩
def Ds (t : TS) (Γ : Gam) (De : DE) : Prop := ∀ (F : Addr → Prop) (σ : L2.St) (W : Wd) (Dr : Ends), SR F Γ σ W → Lift F W De Dr → t Dr σ W.H

/-! ### from the pure to the others -/
section
variable {t : TE} {Γ : Gam} {d : D} {ds : List D}
theorem Same.up {W : Wd} {H H' : Hp} (a : Same W.H H) (b : Same (W.at H).H H') : Same W.H H' := Same.trans a b
theorem EvN.b (h : EvN t Γ ds) : EvB t Γ ds := fun F σ W Q r k => h F σ W Q r fun a vs H s _ e l => k a vs H s e l.minus
theorem EvN.ev (h : EvN t Γ ds) : Ev t Γ (.lst ds) := fun F σ W Q r k => h F σ W Q r fun a vs H s n e l => k _ H s ⟨a, vs, rfl, e, r.ok.new n, l.minus⟩
theorem Ev.b (h : Ev t Γ (.lst ds)) : EvB t Γ ds := fun F σ W Q r k => h F σ W Q r fun v H s ⟨a, vs, e, q, _, l⟩ => by subst e; exact k a vs H s q l
theorem Ev.dl {Q : D → Gam → Prop} (h : Ev t Γ d) (q : Q d Γ) : Dl t Γ Q := fun F σ W R r k => h F σ W R r fun v H s l => k v (W.at H) d Γ (Stp.of_same r.ok s) (r.same s) l q
theorem Dl.imp {Q Q' : D → Gam → Prop} (h : Dl t Γ Q) (k : ∀ d Γ', Q d Γ' → Q' d Γ') : Dl t Γ Q' := fun F σ W R r z => h F σ W R r fun v W' d Γ' s r' l q => z v W' d Γ' s r' l (k d Γ' q)
theorem EvT.dl {t : TT} {b : Bool} {Q : Bool → Gam → Prop} (h : EvT t Γ b) (q : Q b Γ) : DlT t Γ Q := fun F σ W R r k => h F σ W R r fun H s => k b (W.at H) Γ (Stp.of_same r.ok s) (r.same s) q
theorem EvA.dl {t : TA} {Q : List D → Gam → Prop} (h : EvA t Γ ds) (q : Q ds Γ) : DlA t Γ Q := fun F σ W R r k => h F σ W R r fun vs H s l => k vs (W.at H) ds Γ (Stp.of_same r.ok s) (r.same s) l q
end

/-! ### names, constants -/
section
variable {Γ : Gam} {i : Nat} {d : D} {ds : List D}
theorem ev_var (h : Γ[i]? = some (.val d)) : Ev (tVar i) Γ d := fun F σ W Q r k => let ⟨v, e, l⟩ := r.val i d h; ⟨v, e, k v W.H (Same.refl _) l⟩
theorem evb_own (h : Γ[i]? = some (.own ds)) : EvB (tVar i) Γ ds := fun F σ W Q r k => let ⟨a, vs, e, _, _, _, q, l⟩ := r.own i ds h; ⟨.ref a, e, k a vs W.H (Same.refl _) q l⟩
theorem ev_int {z : Int} : Ev (tC (.int z)) Γ (.int z) := fun F σ W Q r k => k _ W.H (Same.refl _) rfl
theorem ev_bl {z : Bool} : Ev (tC (.bl z)) Γ (.bl z) := fun F σ W Q r k => k _ W.H (Same.refl _) rfl
theorem ev_str {z : Str} : Ev (tC (.str z)) Γ (.str z) := fun F σ W Q r k => k _ W.H (Same.refl _) rfl
theorem ev_non : Ev (tC .non) Γ .non := fun F σ W Q r k => k _ W.H (Same.refl _) rfl
theorem ev_raw {z : V} : Ev (tC z) Γ (.raw z) := fun F σ W Q r k => k _ W.H (Same.refl _) rfl
end

/-! ### arguments -/
section
variable {Γ : Gam} {t : TE} {tr : TA} {d : D} {ds : List D}
theorem eva_nil : EvA tNil Γ [] := fun F σ W Q r k => k [] W.H (Same.refl _) rfl
theorem eva_cons (h : Ev t Γ d) (hr : EvA tr Γ ds) : EvA (tCons t tr) Γ (d :: ds) := fun F σ W Q r k =>
  h F σ W _ r fun v H s l => hr F σ (W.at H) _ (r.same s) fun vs H' s' l' => k (v :: vs) H' (Same.trans s s') ⟨v, vs, rfl, Rep.same (W := W.at H) s' l, l'⟩
theorem dla_nil {Q : List D → Gam → Prop} (q : Q [] Γ) : DlA tNil Γ Q := eva_nil.dl q
theorem dla_cons {Q : List D → Gam → Prop} (h : Dl t Γ fun d Γ1 => DlA tr Γ1 fun ds Γ2 => Q (d :: ds) Γ2) : DlA (tCons t tr) Γ Q := fun F σ W R r k =>
  h F σ W _ r fun v W1 d Γ1 s1 r1 l1 h1 => h1 F σ W1 _ r1 fun vs W2 ds Γ2 s2 r2 l2 q => k (v :: vs) W2 (d :: ds) Γ2 (s1.trans s2) r2 ⟨v, vs, rfl, l1.stp s2, l2⟩ q
end

/-! ### operators -/
/-- what a two-place operator gives on data -/
def DR2 (r : R2) (x y d : D) : Prop := ∀ (W : Wd) (u v : V) (Q : VK), (∀ a, W.U a → W.H a ≠ none) → Rep W x u → Rep W y v → (∀ z H, Same W.H H → Rep (W.at H) d z → Q z H) → r u v W.H Q
def DRL (r : List V → Hp → VK → Prop) (xs : List D) (d : D) : Prop := ∀ (W : Wd) (us : List V) (Q : VK), (∀ a, W.U a → W.H a ≠ none) → RepL W xs us → (∀ z H, Same W.H H → Rep (W.at H) d z → Q z H) → r us W.H Q
section
variable {Γ : Gam} {ta tb : TE} {r : R2} {x y d : D}
theorem ev_op (ha : Ev ta Γ x) (hb : Ev tb Γ y) (hr : DR2 r x y d) : Ev (tOp r ta tb) Γ d := fun F σ W Q g k =>
  ha F σ W _ g fun u H s l => hb F σ (W.at H) _ (g.same s) fun v H' s' l' => hr (W.at H') u v Q ((g.same s).same s').ok.dom (Rep.same (W := W.at H) s' l) l' fun z H'' s'' q => k z H'' (Same.trans s (Same.trans s' s'')) q
theorem dl_op {Q : D → Gam → Prop} (h : Dl ta Γ fun x Γ1 => Dl tb Γ1 fun y Γ2 => ∃ d, DR2 r x y d ∧ Q d Γ2) : Dl (tOp r ta tb) Γ Q := fun F σ W R g k =>
  h F σ W _ g fun u W1 x Γ1 s1 g1 l1 h1 => h1 F σ W1 _ g1 fun v W2 y Γ2 s2 g2 l2 ⟨d, hr, q⟩ => hr W2 u v R g2.ok.dom (l1.stp s2) l2 fun z H s3 l3 =>
    k z (W2.at H) d Γ2 ((s1.trans s2).trans (Stp.of_same g2.ok s3)) (g2.same s3) l3 q
theorem ev_cb {r : List V → Hp → VK → Prop} {t : TA} {xs : List D} (ha : EvA t Γ xs) (hr : DRL r xs d) : Ev (tCB r t) Γ d := fun F σ W Q g k =>
  ha F σ W _ g fun us H s l => hr (W.at H) us Q (g.same s).ok.dom l fun z H' s' q => k z H' (Same.trans s s') q
end
/-- no new object -/
theorem dr2_flat {r : R2} {x y d : D} (h : ∀ (W : Wd) (u v : V) (Q : VK), Rep W x u → Rep W y v → (∀ z, Rep W d z → Q z W.H) → r u v W.H Q) : DR2 r x y d :=
  fun W u v Q _ a b k => h W u v Q a b fun z q => k z W.H (Same.refl _) q
theorem same_upd {H : Hp} {p : Addr} {o : HO} (h : H p = none) : Same H (upd H p o) := fun b x e => by
  rw [upd_ne (ne_of_none e h)]
  exact e
theorem rep_new_lst {W : Wd} {p : Addr} {ds : List D} {vs : List V} (dom : ∀ a, W.U a → W.H a ≠ none) (h : W.H p = none) (l : RepL W ds vs) : Rep (W.at (upd W.H p (.lst vs))) (.lst ds) (.ref p) :=
  ⟨p, vs, rfl, upd_same, fun u => dom p u h, l.same (same_upd h)⟩
theorem rep_new_tup {W : Wd} {p : Addr} {ds : List D} {vs : List V} (dom : ∀ a, W.U a → W.H a ≠ none) (h : W.H p = none) (l : RepL W ds vs) : Rep (W.at (upd W.H p (.tup vs))) (.tup ds) (.ref p) :=
  ⟨p, vs, rfl, .mk upd_same, fun u => dom p u h, l.same (same_upd h)⟩

section
variable {i j : Int} {x y : Str} {ds es : List D} {K : PySem.W.Frag}
theorem dr2_rI0 {g : Int → Int → V} {d : D} (h : ∀ W, Rep W d (g i j)) : DR2 (rI0 g) (.int i) (.int j) d := dr2_flat fun W u v Q a b k => ⟨i, j, a, b, k _ (h W)⟩
theorem dr2_rI {C : Int → Int → Prop} {g : Int → Int → V} {d : D} (hc : C i j) (h : ∀ W, Rep W d (g i j)) : DR2 (rI C g) (.int i) (.int j) d := dr2_flat fun W u v Q a b k => ⟨i, j, a, b, hc, k _ (h W)⟩
theorem dr2_add : DR2 (rI0 fun i j => .int (i + j)) (.int i) (.int j) (.int (i + j)) := dr2_rI0 fun _ => rfl
theorem dr2_mul (h : CMul i j) : DR2 (rI CMul fun i j => .int (i * j)) (.int i) (.int j) (.int (i * j)) := dr2_rI h fun _ => rfl
theorem dr2_mod (h : 0 < j) : DR2 (rI (fun _ j => 0 < j) fun i j => .int (i % j)) (.int i) (.int j) (.int (i % j)) := dr2_rI h fun _ => rfl
theorem dr2_lt : DR2 (rI0 fun i j => .bl (decide (i < j))) (.int i) (.int j) (.bl (decide (i < j))) := dr2_rI0 fun _ => rfl
theorem dr2_le : DR2 (rI0 fun i j => .bl (decide (i ≤ j))) (.int i) (.int j) (.bl (decide (i ≤ j))) := dr2_rI0 fun _ => rfl
theorem dr2_gt : DR2 (rI0 fun i j => .bl (decide (j < i))) (.int i) (.int j) (.bl (decide (j < i))) := dr2_rI0 fun _ => rfl
theorem dr2_ge : DR2 (rI0 fun i j => .bl (decide (j ≤ i))) (.int i) (.int j) (.bl (decide (j ≤ i))) := dr2_rI0 fun _ => rfl
abbrev rAddStr : R2 := fun x y H Q => ∃ i j, x = .str i ∧ y = .str j ∧ i.length + j.length ≤ sizeLine ∧ Q (.str (i ++ j)) H
theorem dr2_add_str (h : x.length + y.length ≤ sizeLine) : DR2 rAddStr (.str x) (.str y) (.str (x ++ y)) := dr2_flat fun W u v Q a b k => ⟨x, y, a, b, h, k _ rfl⟩
theorem dr2_cat (h : ds.length + es.length ≤ sizeLine) : DR2 rCat (.lst ds) (.lst es) (.lst (ds ++ es)) := fun W u v Q dom ⟨a, vs, e1, h1, n1, l1⟩ ⟨b, ws, e2, h2, n2, l2⟩ k =>
  ⟨a, b, vs, ws, e1, e2, h1, h2, by rw [← l1.length, ← l2.length]; exact h, fun p hp => k _ _ (same_upd hp) (rep_new_lst dom hp (l1.append l2))⟩
theorem dr2_catT (n : ds ≠ []) (h : ds.length + es.length ≤ sizeLine) : DR2 (rCatT K) (.tup ds) (.tup es) (.tup (ds ++ es)) := by
  intro W u v Q dom ⟨a, vs, e1, h1, n1, l1⟩ ⟨b, ws, e2, h2, n2, l2⟩ k
  have nv : vs ≠ [] := fun z => by
    have := l1.length
    rw [z] at this
    exact n (List.length_eq_zero_iff.mp this)
  subst e1
  refine ⟨a, b, vs, ws, rfl, e2, h1.sq, h2.sq, nv, by rw [← l1.length, ← l2.length]; exact h, fun z => ?_, fun _ p hp => k _ _ (same_upd hp) (rep_new_tup dom hp (l1.append l2))⟩
  have e : es = [] := List.length_eq_zero_iff.mp (by rw [l2.length, z]; rfl)
  rw [e, List.append_nil] at k
  exact k _ W.H (Same.refl _) ⟨a, vs, rfl, h1, n1, l1⟩
theorem dr2_eq_int : DR2 rEq (.int i) (.int j) (.bl (decide (i = j))) := dr2_flat fun W u v Q a b k => by
  rw [show u = .int i from a, show v = .int j from b]
  exact ⟨rfl, k _ (congrArg V.bl (by simp))⟩
theorem dr2_eq_str : DR2 rEq (.str x) (.str y) (.bl (decide (x = y))) := dr2_flat fun W u v Q a b k => by
  rw [show u = .str x from a, show v = .str y from b]
  exact ⟨rfl, k _ (congrArg V.bl (by simp))⟩
theorem dr2_ne_int : DR2 rNe (.int i) (.int j) (.bl (!decide (i = j))) := dr2_flat fun W u v Q a b k => by
  rw [show u = .int i from a, show v = .int j from b]
  exact ⟨rfl, k _ (congrArg V.bl (by simp))⟩
theorem dr2_ne_str : DR2 rNe (.str x) (.str y) (.bl (!decide (x = y))) := dr2_flat fun W u v Q a b k => by
  rw [show u = .str x from a, show v = .str y from b]
  exact ⟨rfl, k _ (congrArg V.bl (by simp))⟩
end

/-! ### deep equality -/
mutual
def py : D → PyData
  | .non => .none | .bl b => .bool b | .int i => .int i | .str x => .str x
  | .tup ds => .tuple (pys ds) | .lst ds => .list (pys ds)
  | .tupN ds => .tuple (pys ds)
  | .obj _ _ _ => .none | .raw _ => .none | .purse => .none | .rng _ _ => .none | .dct _ _ => .none | .scr _ _ => .none | .tag _ => .none
def pys : List D → List PyData
  | [] => []
  | d :: ds => py d :: pys ds
end
mutual
def isPy : D → Bool
  | .obj _ _ _ => false | .raw _ => false | .purse => false | .rng _ _ => false | .dct _ _ => false | .scr _ _ => false | .tag _ => false
  | .tup ds => isPys ds | .lst ds => isPys ds | .tupN ds => isPys ds
  | _ => true
def isPys : List D → Bool
  | [] => true
  | d :: ds => isPy d && isPys ds
end
mutual
theorem dp_of {K : PySem.W.Frag} {W : Wd} : ∀ (d : D) (v : V), isPy d = true → Rep W d v → Dp K W.H v (py d)
  | .non, _, _, h => by rw [show _ = V.non from h]; exact .non
  | .bl b, _, _, h => by rw [show _ = V.bl b from h]; exact .bl b
  | .int b, _, _, h => by rw [show _ = V.int b from h]; exact .int b
  | .str b, _, _, h => by rw [show _ = V.str b from h]; exact .str b
  | .tup ds, _, p, ⟨a, vs, e, h, _, l⟩ => by rw [e]; exact .tup h.sq (dps_of ds vs p l)
  | .tupN ds, _, p, ⟨a, vs, e, h, _, l⟩ => by rw [e]; exact .tup h.at.sq (dps_of ds vs p l)
  | .lst ds, _, p, ⟨a, vs, e, h, _, l⟩ => by rw [e]; exact .lst (.of h) (dps_of ds vs p l)
  | .obj _ _ _, _, p, _ => nomatch p
  | .raw _, _, p, _ => nomatch p
  | .purse, _, p, _ => nomatch p
  | .rng _ _, _, p, _ => nomatch p
  | .dct _ _, _, p, _ => nomatch p
  | .scr _ _, _, p, _ => nomatch p
  | .tag _, _, p, _ => nomatch p
theorem dps_of {K : PySem.W.Frag} {W : Wd} : ∀ (ds : List D) (vs : List V), isPys ds = true → RepL W ds vs → DpAll K W.H vs (pys ds)
  | [], _, _, h => by rw [show _ = [] from h]; exact .nil
  | d :: ds, _, p, ⟨v, r, e, h1, h2⟩ => by
    have p' : isPy d = true ∧ isPys ds = true := by simpa [isPys] using p
    rw [e]
    exact .cons (dp_of d v p'.1 h1) (dps_of ds r p'.2 h2)
end
section
variable {K : PySem.W.Frag} {x y : D} {ta tb : TE} {Γ : Gam} {ds es : List D}
theorem dr2_eqD (px : isPy x = true) (py' : isPy y = true) (sx : SeqAt.shaped (py x) = true) (sy : SeqAt.shaped (py y) = true) : DR2 (rEqD K) x y (.bl (PyData.eqv (py x) (py y))) :=
  dr2_flat fun W u v Q a b k => ⟨_, _, dp_of x u px a, dp_of y v py' b, sx, sy, k _ rfl⟩
theorem dr2_neD (px : isPy x = true) (py' : isPy y = true) (sx : SeqAt.shaped (py x) = true) (sy : SeqAt.shaped (py y) = true) : DR2 (rNeD K) x y (.bl (!PyData.eqv (py x) (py y))) :=
  dr2_flat fun W u v Q a b k => ⟨_, _, dp_of x u px a, dp_of y v py' b, sx, sy, k _ rfl⟩
end
end Dw

/-! Rules over data: tests, statements, calls, lists that are one's own. -/
namespace Dw
open PySem PySem.Spec PyProof.Rows L2
variable [Tabs0]

/-! ### tests -/
section
variable {Γ : Gam} {t ta tb : TE} {c ct' : TT} {a b : Bool} {d d1 d2 : D} {ds : List D} {K : PySem.W.Frag}
abbrev tTru (K : PySem.W.Frag) (ta : TE) : TT := fun σ H Q => ta σ H fun x H' => ∃ k, TruV K x H' k ∧ Q k H'
theorem evt_test (h : Ev t Γ (.bl b)) : EvT (tTest t) Γ b := fun F σ W Q g k => h F σ W _ g fun v H s l => ⟨b, l, k H s⟩
theorem evt_tru_bl (h : Ev t Γ (.bl b)) : EvT (tTru K t) Γ b := fun F σ W Q g k => h F σ W _ g fun v H s l => ⟨b, by rw [show v = .bl b from l]; rfl, k H s⟩
theorem evt_or (h : EvT c Γ a) (h' : a = false → EvT ct' Γ b) : EvT (tOr c ct') Γ (a || b) := fun F σ W Q g k => h F σ W _ g fun H s => by
  cases a with
  | false => exact h' rfl F σ (W.at H) Q (g.same s) fun H' s' => k H' (Same.trans s s')
  | true => exact k H s
theorem evt_not (h : EvT c Γ a) : EvT (tNot c) Γ (!a) := fun F σ W Q g k => h F σ W _ g fun H s => k H s
theorem evt_yes : EvT tYes Γ true := fun F σ W Q g k => k W.H (Same.refl _)
theorem dlt_test {Q : Bool → Gam → Prop} (h : Dl t Γ fun d Γ1 => ∃ b, d = .bl b ∧ Q b Γ1) : DlT (tTest t) Γ Q := fun F σ W R g k => h F σ W _ g fun v W1 d Γ1 s g1 l ⟨b, e, q⟩ => ⟨b, by rw [e] at l; exact l, k b W1 Γ1 s g1 q⟩
theorem dlt_yes {Q : Bool → Gam → Prop} (h : Q true Γ) : DlT tYes Γ Q := evt_yes.dl h
/-! ### choice, and, or as values -/
theorem ev_if (h : EvT c Γ a) (h1 : a = true → Ev ta Γ d1) (h2 : a = false → Ev tb Γ d2) : Ev (tIf c ta tb) Γ (if a = true then d1 else d2) := fun F σ W Q g k => h F σ W _ g fun H s => by
  cases a with
  | true => exact h1 rfl F σ (W.at H) Q (g.same s) fun v H' s' l => k v H' (Same.trans s s') l
  | false => exact h2 rfl F σ (W.at H) Q (g.same s) fun v H' s' l => k v H' (Same.trans s s') l
theorem dl_if {Q : D → Gam → Prop} (h : DlT c Γ fun b Γ1 => (b = true → Dl ta Γ1 Q) ∧ (b = false → Dl tb Γ1 Q)) : Dl (tIf c ta tb) Γ Q := fun F σ W R g k => h F σ W _ g fun b W1 Γ1 s g1 q => by
  cases b with
  | true => exact q.1 rfl F σ W1 R g1 fun v W2 d Γ2 s2 g2 l q2 => k v W2 d Γ2 (s.trans s2) g2 l q2
  | false => exact q.2 rfl F σ W1 R g1 fun v W2 d Γ2 s2 g2 l q2 => k v W2 d Γ2 (s.trans s2) g2 l q2
theorem ev_andV (h : Ev ta Γ (.bl a)) (h' : a = true → Ev tb Γ (.bl b)) : Ev (tAndV ta tb) Γ (.bl (a && b)) := fun F σ W Q g k => h F σ W _ g fun v H s l => ⟨a, l, by
  cases a with
  | true => exact h' rfl F σ (W.at H) Q (g.same s) fun v H' s' l => k v H' (Same.trans s s') l
  | false => exact k _ H s rfl⟩
theorem ev_orV (h : Ev ta Γ (.bl a)) (h' : a = false → Ev tb Γ (.bl b)) : Ev (tOrV ta tb) Γ (.bl (a || b)) := fun F σ W Q g k => h F σ W _ g fun v H s l => ⟨a, l, by
  cases a with
  | false => exact h' rfl F σ (W.at H) Q (g.same s) fun v H' s' l => k v H' (Same.trans s s') l
  | true => exact k _ H s rfl⟩
theorem dl_andV {Q : D → Gam → Prop} (h : Dl ta Γ fun d Γ1 => ∃ a, d = .bl a ∧ (a = true → Dl tb Γ1 Q) ∧ (a = false → Q (.bl false) Γ1)) : Dl (tAndV ta tb) Γ Q := fun F σ W R g k => h F σ W _ g fun v W1 d Γ1 s g1 l ⟨a, e, q1, q2⟩ => ⟨a, by rw [e] at l; exact l, by
  cases a with
  | true => exact q1 rfl F σ W1 R g1 fun v W2 d Γ2 s2 g2 l q2 => k v W2 d Γ2 (s.trans s2) g2 l q2
  | false => exact k _ W1 (.bl false) Γ1 s g1 rfl (q2 rfl)⟩
end

/-! ### displays -/
section
variable {Γ : Gam} {t : TA} {ds : List D}
theorem evn_lst (h : EvA t Γ ds) (hz : ds.length ≤ sizeLine) : EvN (tLst t) Γ ds := fun F σ W Q g k => h F σ W _ g fun vs H s l => ⟨by rw [← l.length]; exact hz, fun p hp =>
  k p vs _ (Same.trans s (same_upd hp)) (s.free hp) upd_same (RepL.plus (W := W.at H) hp (same_upd hp) l)⟩
theorem ev_tup (h : EvA t Γ ds) (hz : ds.length ≤ sizeLine) : Ev (tTup t) Γ (.tup ds) := fun F σ W Q g k => h F σ W _ g fun vs H s l => ⟨by rw [← l.length]; exact hz, fun p hp =>
  k _ _ (Same.trans s (same_upd hp)) (rep_new_tup (W := W.at H) (g.same s).ok.dom hp l)⟩
theorem dl_tup {Q : D → Gam → Prop} (h : DlA t Γ fun ds Γ1 => ds.length ≤ sizeLine ∧ Q (.tup ds) Γ1) : Dl (tTup t) Γ Q := fun F σ W R g k => h F σ W _ g fun vs W1 ds Γ1 s g1 l ⟨hz, q⟩ => ⟨by rw [← l.length]; exact hz, fun p hp =>
  k _ (W1.at _) (.tup ds) Γ1 (s.trans (Stp.of_same g1.ok (same_upd hp))) (g1.same (same_upd hp)) (rep_new_tup g1.ok.dom hp l) q⟩
end

/-! ### a list of one's own -/
theorem SR.plus {F : Addr → Prop} {Γ : Gam} {σ : L2.St} {W : Wd} {a : Addr} {H : Hp} (g : SR F Γ σ W) (s : Same W.H H) (n : W.H a = none) (ne : H a ≠ none) :
    Stp F W (W.plus H a) ∧ SR F Γ σ (W.plus H a) ∧ ¬ ownA Γ σ a ∧ ¬ F a ∧ ¬ W.P a := by
  have nu : ¬ W.U a := g.ok.new n
  have kp : ∀ b u, W.H b = some u → ¬ W.U b → H b = some u ∧ ¬ (W.U b ∨ b = a) := fun b u q nb => ⟨s b u q, fun z => z.elim nb fun z => by rw [z, n] at q; cases q⟩
  have st : Stp F W (W.plus H a) := ⟨kp, rfl, fun b h => by
    cases q : W.H b with
    | none => exact absurd q (g.ok.dom b (g.ok.fu b h))
    | some u => exact s b u q⟩
  refine ⟨st, ⟨⟨fun b h z => ?_, fun b h => Or.inl (g.ok.fu b h), fun b h => ?_⟩, g.len, fun j d q => ?_, fun j es q => ?_, g.apartX⟩, fun ⟨i, ds, e, q⟩ => ?_, fun z => nu (g.ok.fu a z), fun z => nu (g.ok.pu a z).1⟩
  · have z : H b = none := z
    rcases h with h | h
    · exact g.ok.dom b h (s.free z)
    · rw [h] at z; exact ne z
  · obtain ⟨u, f, o⟩ := g.ok.pu b h
    exact ⟨Or.inl u, f, o.same s⟩
  · obtain ⟨v, e1, r⟩ := g.val j d q
    exact ⟨v, e1, r.stp st⟩
  · obtain ⟨c, ws, e1, u, f, p, q1, r⟩ := g.ownX j es q
    exact ⟨c, ws, e1, Or.inl u, f, p, s _ _ q1, r.stp st⟩
  · obtain ⟨c, ws, e1, u, f, p, q1, r⟩ := g.ownX i ds e
    rw [q] at e1; cases e1
    exact nu u
theorem SR.adoptX {F : Addr → Prop} {Γ : Gam} {σ : L2.St} {W : Wd} {i : Nat} {a : Addr} {vs : List V} {ds : Ow} (g : SR F Γ σ W) (u : W.U a) (f : ¬ F a) (p : ¬ W.P a) (e : W.H a = some (ds.cell vs)) (l : RepL W ds.ds vs) (no : ¬ ownA Γ σ a) :
    SR F (Γ.set i (.ownX ds)) (σ.set i (some (.ref a))) W := by
  have lt : ∀ (k : Nat) (s : Sl), k = i → (Γ.set i (.ownX ds))[k]? = some s → i < Γ.length := fun k s hk q => by
    rw [hk] at q
    have := (List.getElem?_eq_some_iff.mp q).1
    simpa using this
  refine ⟨g.ok, by simp [g.len], fun j d q => ?_, fun j es q => ?_, fun j k c es fs q1 q2 q3 q4 => ?_⟩
  · by_cases hj : j = i
    · have hl := lt j _ hj q
      rw [hj, List.getElem?_set_self hl] at q; cases q
    · rw [List.getElem?_set_ne (Ne.symm hj)] at q ⊢
      exact g.val j d q
  · by_cases hj : j = i
    · have hl := lt j _ hj q
      rw [hj, List.getElem?_set_self hl] at q; cases q
      exact ⟨a, vs, by rw [hj, List.getElem?_set_self (by rw [← g.len]; exact hl)], u, f, p, e, l⟩
    · rw [List.getElem?_set_ne (Ne.symm hj)] at q ⊢
      exact g.ownX j es q
  · by_cases hj : j = i
    · have hl := lt j _ hj q1
      rw [hj, List.getElem?_set_self (by rw [← g.len]; exact hl)] at q3
      by_cases hk : k = i
      · rw [hj, hk]
      · rw [List.getElem?_set_ne (Ne.symm hk)] at q2 q4
        cases q3
        exact absurd ⟨k, fs, q2, q4⟩ no
    · rw [List.getElem?_set_ne (Ne.symm hj)] at q1 q3
      by_cases hk : k = i
      · have hl := lt k _ hk q2
        rw [hk, List.getElem?_set_self (by rw [← g.len]; exact hl)] at q4
        cases q4
        exact absurd ⟨j, es, q1, q3⟩ no
      · rw [List.getElem?_set_ne (Ne.symm hk)] at q2 q4
        exact g.apartX j k c es fs q1 q2 q3 q4
theorem SR.adopt {F : Addr → Prop} {Γ : Gam} {σ : L2.St} {W : Wd} {i : Nat} {a : Addr} {vs : List V} {ds : List D} (g : SR F Γ σ W) (u : W.U a) (f : ¬ F a) (p : ¬ W.P a) (e : W.H a = some (.lst vs)) (l : RepL W ds vs) (no : ¬ ownA Γ σ a) :
    SR F (Γ.set i (.own ds)) (σ.set i (some (.ref a))) W := g.adoptX (ds := ⟨none, ds⟩) u f p e l no
theorem SR.setOwn {F : Addr → Prop} {Γ : Gam} {σ : L2.St} {W : Wd} {i : Nat} {a : Addr} {vs : List V} {ds : List D} {H : Hp} (g : SR F Γ σ W) (s : Same W.H H) (n : W.H a = none) (e : H a = some (.lst vs)) (l : RepL (W.plus H a) ds vs) :
    Stp F W (W.plus H a) ∧ SR F (Γ.set i (.own ds)) (σ.set i (some (.ref a))) (W.plus H a) := by
  obtain ⟨st, g2, no, f, p⟩ := g.plus s n (by rw [e]; exact fun z => nomatch z)
  exact ⟨st, g2.adopt (Or.inr rfl) f p e l no⟩
end Dw

/-! Rules over data: own lists changed, statements, defs and their calls. -/
namespace Dw
open PySem PySem.Spec PyProof.Rows L2
variable [Tabs0]

/-! ### an own list is changed -/
theorem SR.writeX {F : Addr → Prop} {Γ : Gam} {σ : L2.St} {W : Wd} {i : Nat} {a : Addr} {vs : List V} {ds es : Ow} (g : SR F Γ σ W) (hi : Γ[i]? = some (.ownX ds)) (hs : σ[i]? = some (some (.ref a))) (l : RepL W es.ds vs) :
    Stp F W (W.at (upd W.H a (es.cell vs))) ∧ SR F (Γ.set i (.ownX es)) σ (W.at (upd W.H a (es.cell vs))) := by
  obtain ⟨a', us, e1, u, f, p, q, r⟩ := g.ownX i ds hi
  rw [hs] at e1; cases e1
  have kp : ∀ b o, W.H b = some o → ¬ W.U b → (upd W.H a (es.cell vs)) b = some o ∧ ¬ W.U b := fun b o e n => ⟨by rw [upd_ne (fun z : b = a => n (by rw [z]; exact u))]; exact e, n⟩
  have st : Stp F W (W.at (upd W.H a (es.cell vs))) := ⟨kp, rfl, fun b h => upd_ne (fun z : b = a => f (by rw [← z]; exact h))⟩
  refine ⟨st, ⟨⟨fun b h z => ?_, g.ok.fu, fun b h => ?_⟩, by simp [g.len], fun j d q' => ?_, fun j fs q' => ?_, fun j k c es' fs q1 q2 q3 q4 => ?_⟩⟩
  · have z : (upd W.H a (es.cell vs)) b = none := z
    by_cases hb : b = a
    · rw [hb, upd_same] at z; cases z
    · rw [upd_ne hb] at z; exact g.ok.dom b h z
  · obtain ⟨u', f', o⟩ := g.ok.pu b h
    exact ⟨u', f', o.upd (no_extX q) fun z : b = a => p (by rw [← z]; exact h)⟩
  · have hj : i ≠ j := fun z => by
      subst z
      have hl : i < Γ.length := (List.getElem?_eq_some_iff.mp hi).1
      rw [List.getElem?_set_self hl] at q'; cases q'
    rw [List.getElem?_set_ne hj] at q'
    obtain ⟨v, e1, r'⟩ := g.val j d q'
    exact ⟨v, e1, r'.stp st⟩
  · by_cases hj : i = j
    · subst hj
      have hl : i < Γ.length := (List.getElem?_eq_some_iff.mp hi).1
      rw [List.getElem?_set_self hl] at q'; cases q'
      exact ⟨a, vs, hs, u, f, p, upd_same, l.stp st⟩
    · rw [List.getElem?_set_ne hj] at q'
      obtain ⟨c, ws, e1, u', f', p', q1, r'⟩ := g.ownX j fs q'
      have nc : c ≠ a := fun z => hj (g.apartX i j a ds fs hi q' hs (z ▸ e1))
      exact ⟨c, ws, e1, u', f', p', (upd_ne nc).trans q1, r'.stp st⟩
  · have get : ∀ (j : Nat) (es' : Ow), (Γ.set i (.ownX es))[j]? = some (Sl.ownX es') → ∃ fs, Γ[j]? = some (Sl.ownX fs) := fun j es' q => by
      by_cases hj : i = j
      · subst hj; exact ⟨ds, hi⟩
      · rw [List.getElem?_set_ne hj] at q; exact ⟨es', q⟩
    obtain ⟨x, e1⟩ := get j es' q1
    obtain ⟨y, e2⟩ := get k fs q2
    exact g.apartX j k c x y e1 e2 q3 q4
theorem SR.write {F : Addr → Prop} {Γ : Gam} {σ : L2.St} {W : Wd} {i : Nat} {a : Addr} {vs : List V} {ds es : List D} (g : SR F Γ σ W) (hi : Γ[i]? = some (.own ds)) (hs : σ[i]? = some (some (.ref a))) (l : RepL W es vs) :
    Stp F W (W.at (upd W.H a (.lst vs))) ∧ SR F (Γ.set i (.own es)) σ (W.at (upd W.H a (.lst vs))) := g.writeX (ds := ⟨none, ds⟩) (es := ⟨none, es⟩) hi hs l
section
variable {K : PySem.W.Frag} {Γ : Gam} {i : Nat} {t : TA} {Q : D → Gam → Prop} {ds : List D}
/-- i's list is at the same place behind a step -/
theorem tyV_lst {K : PySem.W.Frag} {H : Hp} {a : Addr} {vs : List V} (h : H a = some (.lst vs)) : tyV K "list" (.ref a) H := .inl ⟨rfl, _, .inl (.inl h)⟩
theorem dl_append (h0 : ∃ ds, Γ[i]? = some (.own ds)) (h : DlA t Γ fun es Γ1 => ∃ e ds, es = [e] ∧ Γ1[i]? = some (.own ds) ∧ ds.length < sizeLine ∧ Q .non (Γ1.set i (.own (ds ++ [e])))) : Dl (tBM K "list" rAppend (tVar i) t) Γ Q := fun F σ W R g k => by
  obtain ⟨ds0, e0⟩ := h0
  obtain ⟨a, vs0, hs, _, _, _, q0, _⟩ := g.own i ds0 e0
  refine ⟨.ref a, hs, tyV_lst q0, h F σ W _ g fun us W1 es Γ1 s1 g1 l1 ⟨e, ds, e1, e2, hz, q⟩ => ?_⟩
  obtain ⟨a', vs, hs', u, f, p, q1, r1⟩ := g1.own i ds e2
  rw [hs] at hs'; cases hs'
  subst e1
  obtain ⟨v, _, rfl, l1, rfl⟩ := l1
  obtain ⟨st, g2⟩ := g1.write e2 hs (r1.append (RepL.one l1))
  exact ⟨a, vs, v, rfl, rfl, q1, by rw [← r1.length]; exact hz, k .non _ .non _ (s1.trans st) g2 rfl q⟩
theorem dl_popAt (h0 : ∃ ds, Γ[i]? = some (.own ds)) (h : DlA t Γ fun es Γ1 => ∃ (z : Int) (j : Nat) (ds : List D) (d : D), es = [.int z] ∧ Γ1[i]? = some (.own ds) ∧ -(2 ^ 63) ≤ z ∧ z < 2 ^ 63 ∧ seqIndex? z ds.length = some j ∧ ds[j]? = some d ∧ Q d (Γ1.set i (.own (ds.eraseIdx j)))) :
    Dl (tBM K "list" rPopAt (tVar i) t) Γ Q := fun F σ W R g k => by
  obtain ⟨ds0, e0⟩ := h0
  obtain ⟨a, vs0, hs, _, _, _, q0, _⟩ := g.own i ds0 e0
  refine ⟨.ref a, hs, tyV_lst q0, h F σ W _ g fun us W1 es Γ1 s1 g1 l1 ⟨z, j, ds, d, e1, e2, h1, h2, h3, h4, q⟩ => ?_⟩
  obtain ⟨a', vs, hs', u, f, p, q1, r1⟩ := g1.own i ds e2
  rw [hs] at hs'; cases hs'
  subst e1
  obtain ⟨v, _, rfl, l1, rfl⟩ := l1
  obtain ⟨w', hw, rw'⟩ := r1.get h4
  obtain ⟨st, g2⟩ := g1.write e2 hs (r1.eraseIdx j)
  exact ⟨a, vs, z, j, w', rfl, by rw [show v = .int z from l1], q1, h1, h2, by rw [← r1.length]; exact h3, hw, k w' _ d _ (s1.trans st) g2 (rw'.stp st) q⟩
end

/-! ### statements -/
section
variable {K : PySem.W.Frag} {Γ : Gam} {i j : Nat} {t u : TS} {te : TE} {De : DE} {ds es : List D}
theorem ds_next (h : De.nx Γ) : Ds tNext Γ De := fun F σ W Dr g l => l.nx σ W Γ (Stp.refl W) g h
theorem ds_seq (h : Ds t Γ { De with nx := fun Γ' => Ds u Γ' De }) : Ds (tSeq t u) Γ De := fun F σ W Dr g l => h F σ W { Dr with nx := u Dr } g
  ⟨fun σ1 W1 Γ1 s g1 q => q F σ1 W1 Dr g1 (l.after s), l.rt, l.bk, l.ct⟩
theorem ds_asg (h : Dl te Γ fun d Γ1 => De.nx (Γ1.set i (.val d))) : Ds (tAsg te (gName i)) Γ De := fun F σ W Dr g l => h F σ W _ g fun v W1 d Γ1 s g1 r q => l.nx _ W1 _ s (g1.set r) q
theorem ds_asg_own (h : EvN te Γ ds) (q : De.nx (Γ.set i (.own ds))) : Ds (tAsg te (gName i)) Γ De := fun F σ W Dr g l => h F σ W _ g fun a vs H s n e r =>
  let ⟨st, g2⟩ := g.setOwn (i := i) s n e r
  l.nx _ (W.plus H a) _ st g2 q
theorem ds_if {c : TT} (h : DlT c Γ fun b Γ1 => (b = true → Ds t Γ1 De) ∧ (b = false → Ds u Γ1 De)) : Ds (tIfS c t u) Γ De := fun F σ W Dr g l => h F σ W _ g fun b W1 Γ1 s g1 q => by
  cases b with
  | true => exact q.1 rfl F σ W1 Dr g1 (l.after s)
  | false => exact q.2 rfl F σ W1 Dr g1 (l.after s)
theorem ds_ret (h : Dl te Γ fun d _ => De.rt d) : Ds (tRet te) Γ De := fun F σ W Dr g l => h F σ W _ g fun v W1 d Γ1 s g1 r q => l.rt v W1 d s g1.ok r q
theorem ds_drop (h : Dl te Γ fun _ Γ1 => De.nx Γ1) : Ds (tDrop te) Γ De := fun F σ W Dr g l => h F σ W _ g fun v W1 d Γ1 s g1 r q => l.nx _ W1 _ s g1 q
/-- an own list is no longer changed -/
theorem SR.freeze {F : Addr → Prop} {σ : L2.St} {W : Wd} {a : Addr} (g : SR F Γ σ W) (hi : Γ[i]? = some (.own ds)) (hs : σ[i]? = some (some (.ref a))) :
    Stp F W ⟨W.H, fun b => W.U b ∧ b ≠ a, W.P⟩ ∧ SR F (Γ.set i (.val (.lst ds))) σ ⟨W.H, fun b => W.U b ∧ b ≠ a, W.P⟩ := by
  obtain ⟨a', us, e1, u, f, p, q, r⟩ := g.own i ds hi
  rw [hs] at e1; cases e1
  have st : Stp F W ⟨W.H, fun b => W.U b ∧ b ≠ a, W.P⟩ := ⟨fun b o e n => ⟨e, fun z => n z.1⟩, rfl, fun _ _ => rfl⟩
  have hl : i < Γ.length := (List.getElem?_eq_some_iff.mp hi).1
  refine ⟨st, ⟨⟨fun b h => g.ok.dom b h.1, fun b h => ⟨g.ok.fu b h, fun z => f (z ▸ h)⟩, fun b h => let ⟨u', f', pp⟩ := g.ok.pu b h; ⟨⟨u', fun z => p (z ▸ h)⟩, f', pp⟩⟩, by simp [g.len], fun j d q' => ?_, fun j fs q' => ?_, fun j k c es' fs q1 q2 q3 q4 => ?_⟩⟩
  · by_cases hj : i = j
    · subst hj
      rw [List.getElem?_set_self hl] at q'; cases q'
      exact ⟨.ref a, hs, a, us, rfl, q, fun z => z.2 rfl, r.stp st⟩
    · rw [List.getElem?_set_ne hj] at q'
      obtain ⟨v, e1, r'⟩ := g.val j d q'
      exact ⟨v, e1, r'.stp st⟩
  · have hj : i ≠ j := fun z => by
      subst z
      rw [List.getElem?_set_self hl] at q'; cases q'
    rw [List.getElem?_set_ne hj] at q'
    obtain ⟨c, ws, e1, u', f', p', q1, r'⟩ := g.ownX j fs q'
    exact ⟨c, ws, e1, ⟨u', fun z => hj (g.apartX i j a ⟨none, ds⟩ fs hi q' hs (z ▸ e1))⟩, f', p', q1, r'.stp st⟩
  · have get : ∀ (j : Nat) (es' : Ow), (Γ.set i (.val (.lst ds)))[j]? = some (Sl.ownX es') → Γ[j]? = some (Sl.ownX es') := fun j es' q => by
      by_cases hj : i = j
      · subst hj; rw [List.getElem?_set_self hl] at q; cases q
      · rw [List.getElem?_set_ne hj] at q; exact q
    exact g.apartX j k c es' fs (get j es' q1) (get k fs q2) q3 q4
theorem ds_freeze (i : Nat) (hi : Γ[i]? = some (.own ds)) (h : Ds t (Γ.set i (.val (.lst ds))) De) : Ds t Γ De := fun F σ W Dr g l => by
  obtain ⟨a, vs, hs, _⟩ := g.own i ds hi
  obtain ⟨st, g2⟩ := g.freeze hi hs
  exact h F σ ⟨W.H, fun b => W.U b ∧ b ≠ a, W.P⟩ Dr g2 (l.after st)
theorem ds_ret_own (hi : Γ[i]? = some (.own ds)) (h : De.rt (.lst ds)) : Ds (tRet (tVar i)) Γ De := by
  have hl : i < Γ.length := (List.getElem?_eq_some_iff.mp hi).1
  exact ds_freeze i hi (ds_ret ((ev_var (d := .lst ds) (by rw [List.getElem?_set_self hl])).dl h))
theorem ds_par_oo {t1 t2 : TE} (h1 : EvN t1 Γ ds) (h2 : EvN t2 Γ es) (q : De.nx ((Γ.set i (.own ds)).set j (.own es))) : Ds (tPar i j (tCons t1 (tCons t2 tNil))) Γ De := fun F σ W Dr g l =>
  h1 F σ W _ g fun a vs H s n e r => by
    obtain ⟨st1, g1, no1, f1, p1⟩ := g.plus s n (by rw [e]; exact fun z => nomatch z)
    refine h2 F σ (W.plus H a) _ g1 fun b ws H' s' n' e' r' => ?_
    obtain ⟨st2, g2, no2, f2, p2⟩ := g1.plus s' n' (by rw [e']; exact fun z => nomatch z)
    have nab : b ≠ a := fun z => by
      have n' : H b = none := n'
      rw [z, e] at n'; cases n'
    have ea : H' a = some (.lst vs) := s' a _ e
    have ra : RepL ((W.plus H a).plus H' b) ds vs := r.stp st2
    have g3 := g2.adopt (i := i) (Or.inl (Or.inr rfl)) f1 p1 ea ra no1
    have no3 : ¬ ownA (Γ.set i (.own ds)) (σ.set i (some (.ref a))) b := fun ⟨k, fs, e1, e2⟩ => by
      by_cases hk : k = i
      · rw [hk] at e1 e2
        have hl : i < (Γ.set i (Sl.own ds)).length := (List.getElem?_eq_some_iff.mp e1).1
        rw [List.length_set] at hl
        rw [List.getElem?_set_self (by rw [← g.len]; exact hl)] at e2
        cases e2
        exact nab rfl
      · rw [List.getElem?_set_ne (Ne.symm hk)] at e1 e2
        exact no2 ⟨k, fs, e1, e2⟩
    have g4 := g3.adopt (i := j) (Or.inr rfl) f2 p2 e' r' no3
    exact ⟨.ref a, .ref b, rfl, l.nx _ ((W.plus H a).plus H' b) _ (st1.trans st2) g4 q⟩
end

/-! ### a def's promise over data -/
/-- for each x : α that is ok, called with args x, it returns some d with rel x d -/
structure Spc where
  ty : Type
  args : ty → List D
  ok : ty → Prop
  rel : ty → D → Prop
def toSp (s : Spc) : Sp := fun vs H Q _ => ∃ (x : s.ty) (F : Addr → Prop) (W : Wd), W.H = H ∧ WOk F W ∧ RepL W (s.args x) vs ∧ s.ok x ∧ ∀ d v W', s.rel x d → Stp F W W' → WOk F W' → Rep W' d v → Q v W'.H
/-- the slots at a def's start -/
def Gz0 (n : Nat) (ds : List D) : Gam := ds.map Sl.val ++ List.replicate (n - ds.length) Sl.unset
theorem sr_start {F : Addr → Prop} {W : Wd} {N : List Str} {ds : List D} {vs : List V} (ok : WOk F W) (r : RepL W ds vs) : SR F (Gz0 N.length ds) (L2.start N vs) W := by
  have hl := r.length
  refine ⟨ok, by simp [Gz0, L2.start, hl], fun i d e => ?_, fun i d e => ?_, fun i j a ds' es e => ?_⟩
  · unfold Gz0 at e
    by_cases hi : i < ds.length
    · rw [List.getElem?_append_left (by simpa using hi), List.getElem?_map] at e
      cases q : ds[i]? with
      | none => rw [q] at e; cases e
      | some d' =>
        rw [q] at e; cases e
        obtain ⟨v, e1, r1⟩ := r.get q
        refine ⟨v, ?_, r1⟩
        unfold L2.start
        rw [List.getElem?_append_left (by simp [← hl, hi]), List.getElem?_map, e1]
        rfl
    · rw [List.getElem?_append_right (by simpa using hi)] at e
      have := List.mem_of_getElem? e
      rw [List.mem_replicate] at this
      cases this.2
  all_goals
    exfalso
    unfold Gz0 at e
    by_cases hi : i < ds.length
    · rw [List.getElem?_append_left (by simpa using hi), List.getElem?_map] at e
      cases q : ds[i]? with
      | none => rw [q] at e; cases e
      | some d' => rw [q] at e; cases e
    · rw [List.getElem?_append_right (by simpa using hi)] at e
      have := List.mem_of_getElem? e
      rw [List.mem_replicate] at this
      cases this.2
theorem body_of {s : Spc} {N : List Str} {t : TS} {vs : List V} {H : Hp} {Q : VK} {E : XK} (hs : toSp s vs H Q E) (hb : ∀ x, s.ok x → Ds t (Gz0 N.length (s.args x)) ⟨fun _ => s.rel x .non, s.rel x, fun _ => False, fun _ => False⟩) :
    t { nx := fun _ H' => Q .non H', rt := Q } (L2.start N vs) H := by
  obtain ⟨x, F, W, rfl, ok, r, hx, q⟩ := hs
  exact hb x hx F _ W _ (sr_start ok r) ⟨fun σ W' Γ st g h => q .non .non W' h st g.ok rfl, fun v W' d st ok' r' h => q d v W' h st ok' r', fun _ _ _ _ _ h => h.elim, fun _ _ _ _ _ h => h.elim⟩
theorem spc_len {s : Spc} {n : Nat} (h : ∀ x, (s.args x).length = n) : ∀ vs H Q E, toSp s vs H Q E → vs.length = n := fun vs H Q E ⟨x, F, W, _, _, r, _⟩ => by rw [← r.length]; exact h x
section
variable {P : Program} {w : World} {K : PySem.W.Frag} {mg : Str → Option Value} {base : Heap}
/-- THE RULE for a def that raises nothing -/
theorem fn_ok {x qual : Str} {st : Stmt} {f : Addr} {fd : FuncData} {N ps : List Str} {k : Nat} {s : Spc} (F : Fun K x qual st f fd) (S : FnScope N ps (defScope st)) (len : ∀ x, (s.args x).length = ps.length)
    (hbody : ∀ (cdv : Value) (A : Around) (outer : List Env) (s' : Shared) (H : Hp) (E : XK), Room k (A.deeper (envOfC qual (defScope st) s'.heap.objs.size f cdv)) →
      ∃ t, PSs (cxOf CX0 P w K mg base N qual (defScope st) f cdv A outer s' H E).nox (defBody st) t ∧ ∀ x, s.ok x → Ds t (Gz0 N.length (s.args x)) ⟨fun _ => s.rel x .non, s.rel x, fun _ => False, fun _ => False⟩) :
    FnOk P w K mg base CX0 (k + 1) f fd ps (toSp s) :=
  F.ok S (spc_len len) fun cdv A outer s' H vs Q E hr h => by
    obtain ⟨t, p, hb⟩ := hbody cdv A outer s' H E hr
    exact ⟨t, p, body_of h hb⟩
end
section
variable {Γ : Gam} {s : Spc} {t tk : TA} {E : XK} {Q : D → Gam → Prop} {ds es : List D} {d : D}
theorem dl_call (h : DlA t Γ fun ds Γ1 => ∃ x, ds = s.args x ∧ s.ok x ∧ ∀ d, s.rel x d → Q d Γ1) : Dl (tCall (toSp s) [] E t) Γ Q := fun F σ W R g k => h F σ W _ g fun vs W1 ds Γ1 st g1 r ⟨x, e, ok, q⟩ => by
  subst e
  rw [List.append_nil]
  exact ⟨x, _, W1, rfl, g1.callOk, r, ok, fun d v W' hd st' ok' r' => k v W' d Γ1 (st.trans (st'.sub fun _ z => .inl z)) (g1.call st' ok') r' (q d hd)⟩
theorem pure_call {F : Addr → Prop} {σ : L2.St} {W : Wd} {vs : List V} {x : s.ty} {R : VK} {U : Addr → Prop} (g : SR F Γ σ W) (ul : ∀ a, U a → W.U a) (hU : RepL ⟨W.H, U, fun _ => False⟩ (s.args x) vs) (ok : s.ok x) (k : ∀ d v H, s.rel x d → Same W.H H → Rep ⟨H, U, fun _ => False⟩ d v → R v H) : toSp s vs W.H R E := by
  refine ⟨x, U, ⟨W.H, U, fun _ => False⟩, rfl, ⟨fun a h => g.ok.dom a (ul a h), fun a h => h, fun a h => h.elim⟩, hU, ok, fun d v W' hd st ok' r => ?_⟩
  refine k d v W'.H hd (fun b o e => ?_) (Rep.mono (W := W') (W' := ⟨W'.H, U, fun _ => False⟩) (fun a u e n => ⟨e, fun z => n (ok'.fu a z)⟩) (fun a z => by rw [st.pur] at z; exact z) d v r)
  by_cases hb : U b
  · exact (st.fr b hb).trans e
  · exact (st.keep b o e hb).1
/-- purse-free data, as seen by a def that draws nothing -/
theorem Rep.addP {W : Wd} {H : Hp} {U P : Addr → Prop} {d : D} {v : V} (h : Rep ⟨H, U, fun _ => False⟩ d v) : Rep ⟨H, U, P⟩ d v := Rep.mono (W := ⟨H, U, fun _ => False⟩) (W' := ⟨H, U, P⟩) (fun _ _ e n => ⟨e, n⟩) (fun _ z => z.elim) d v h
mutual
/-- no purse within -/
def noP : D → Bool
  | .purse => false | .scr _ _ => false | .tag _ => false
  | .tup ds => noPs ds | .lst ds => noPs ds | .obj _ _ ds => noPs ds | .dct _ ds => noPs ds | .tupN ds => noPs ds
  | _ => true
def noPs : List D → Bool
  | [] => true
  | d :: ds => noP d && noPs ds
end
mutual
theorem Rep.delP {W : Wd} : ∀ (d : D) (v : V), noP d = true → Rep W d v → Rep ⟨W.H, W.U, fun _ => False⟩ d v
  | .non, _, _, h => h
  | .bl _, _, _, h => h
  | .int _, _, _, h => h
  | .str _, _, _, h => h
  | .raw _, _, _, h => h
  | .tup ds, _, n, ⟨a, vs, e, h, u, r⟩ => ⟨a, vs, e, h, u, RepL.delP ds vs n r⟩
  | .tupN ds, _, n, ⟨a, vs, e, h, u, r⟩ => ⟨a, vs, e, h, u, RepL.delP ds vs n r⟩
  | .lst ds, _, n, ⟨a, vs, e, h, u, r⟩ => ⟨a, vs, e, h, u, RepL.delP ds vs n r⟩
  | .obj C ns ds, _, n, ⟨a, dx, vs, e, h, u, l, r⟩ => ⟨a, dx, vs, e, h, u, l, RepL.delP ds vs n r⟩
  | .purse, _, n, _ => nomatch n
  | .rng _ _, _, _, h => h
  | .dct ks ds, _, n, ⟨a, vs, e, h, u, l, r⟩ => ⟨a, vs, e, h, u, l, RepL.delP ds vs n r⟩
  | .scr _ _, _, n, _ => nomatch n
  | .tag _, _, n, _ => nomatch n
theorem RepL.delP {W : Wd} : ∀ (ds : List D) (vs : List V), noPs ds = true → RepL W ds vs → RepL ⟨W.H, W.U, fun _ => False⟩ ds vs
  | [], _, _, h => h
  | d :: ds, _, n, ⟨v, r, e, h1, h2⟩ => by
    have n' : noP d = true ∧ noPs ds = true := by simpa [noPs] using n
    exact ⟨v, r, e, Rep.delP d v n'.1 h1, RepL.delP ds r n'.2 h2⟩
end
theorem noPs_map {α : Type} {f : α → D} (h : ∀ x, noP (f x) = true) : ∀ xs : List α, noPs (xs.map f) = true
  | [] => rfl
  | x :: xs => by
    show (noP (f x) && noPs (xs.map f)) = true
    rw [h, noPs_map h xs]; rfl
/-- a call that draws nothing -/
theorem ev_call {x : s.ty} (h : EvA t Γ (s.args x)) (np : noPs (s.args x) = true) (ok : s.ok x) (hd : ∀ d', s.rel x d' → d' = d) : Ev (tCall (toSp s) [] E t) Γ d := fun F σ W R g k => h F σ W _ g fun vs H st r => by
  rw [List.append_nil]
  exact pure_call (W := W.at H) (g.same st) (fun _ z => z) (RepL.delP _ _ np r) ok fun d' v H' hd' s' r' => by
    rw [hd d' hd'] at r'
    exact k v H' (Same.trans st s') (Rep.addP (W := W) r')
end
end Dw

/-! Rules over data: targets, iterators, for, comprehensions. -/
namespace Dw
open PySem PySem.Spec PyProof.Rows L2
variable [Tabs0]

/-! ### wiped slots -/
theorem wipe_get (σ : L2.St) (j : Nat) : ∀ vs : List Nat, (wipe σ vs)[j]? = if j ∈ vs then (if j < σ.length then some none else none) else σ[j]?
  | [] => by simp [wipe]
  | v :: vs => by
    unfold wipe
    by_cases hv : v = j
    · subst hv
      rw [if_pos List.mem_cons_self]
      by_cases hl : v < σ.length
      · rw [List.getElem?_set_self (by rw [wipe_length]; exact hl), if_pos hl]
      · rw [if_neg hl]
        exact List.getElem?_eq_none (by rw [List.length_set, wipe_length]; omega)
    · rw [List.getElem?_set_ne hv, wipe_get σ j vs]
      by_cases hm : j ∈ vs
      · rw [if_pos hm, if_pos (List.mem_cons_of_mem _ hm)]
      · rw [if_neg hm, if_neg (by simp only [List.mem_cons, not_or]; exact ⟨fun z => hv z.symm, hm⟩)]
theorem wipe_set {σ : L2.St} {i : Nat} {o : Option V} {vs : List Nat} (h : i ∈ vs) : wipe (σ.set i o) vs = wipe σ vs := by
  refine List.ext_getElem? fun j => ?_
  rw [wipe_get, wipe_get, List.length_set]
  by_cases hm : j ∈ vs
  · rw [if_pos hm, if_pos hm]
  · rw [if_neg hm, if_neg hm, List.getElem?_set_ne (fun z : i = j => hm (by rw [← z]; exact h))]
theorem wipe_wipe {σ : L2.St} {vs : List Nat} : wipe (wipe σ vs) vs = wipe σ vs := by
  refine List.ext_getElem? fun j => ?_
  rw [wipe_get (wipe σ vs), wipe_get σ, wipe_length]
  by_cases hm : j ∈ vs
  · rw [if_pos hm, if_pos hm]
  · rw [if_neg hm, if_neg hm]
def wipeG (Γ : Gam) : List Nat → Gam
  | [] => Γ
  | v :: vs => (wipeG Γ vs).set v .unset
theorem wipeG_length (Γ : Gam) : ∀ vs : List Nat, (wipeG Γ vs).length = Γ.length
  | [] => rfl
  | v :: vs => by unfold wipeG; rw [List.length_set, wipeG_length Γ vs]
theorem wipeG_get {Γ : Gam} {j : Nat} {s : Sl} : ∀ {vs : List Nat}, (wipeG Γ vs)[j]? = some s → s = .unset ∨ (Γ[j]? = some s ∧ j ∉ vs)
  | [], h => .inr ⟨h, by simp⟩
  | v :: vs, h => by
    unfold wipeG at h
    by_cases hv : v = j
    · subst hv
      have hl : v < (wipeG Γ vs).length := by
        have := (List.getElem?_eq_some_iff.mp h).1
        simpa using this
      rw [List.getElem?_set_self hl] at h
      cases h; exact .inl rfl
    · rw [List.getElem?_set_ne hv] at h
      rcases wipeG_get h with h | ⟨h1, h2⟩
      · exact .inl h
      · exact .inr ⟨h1, by simp only [List.mem_cons, not_or]; exact ⟨fun z => hv z.symm, h2⟩⟩
theorem SR.wipe {F : Addr → Prop} {Γ : Gam} {σ : L2.St} {W : Wd} (g : SR F Γ σ W) (vs : List Nat) : SR F (wipeG Γ vs) (wipe σ vs) W :=
  g.weak (by rw [wipeG_length, wipe_length, g.len]) fun i s e => by
    rcases wipeG_get e with h | ⟨h1, h2⟩
    · exact .inl h
    · exact .inr ⟨h1, by rw [wipe_get, if_neg h2]⟩
theorem SR.unwipe {F : Addr → Prop} {Γ : Gam} {σ : L2.St} {W : Wd} {vs : List Nat} (g : SR F Γ (L2.wipe σ vs) W) : SR F Γ σ W :=
  ⟨g.ok, by rw [g.len, wipe_length], fun i d e => let ⟨v, e1, r⟩ := g.val i d e; ⟨v, (wipe_some e1).1, r⟩,
   fun i ds e => let ⟨a, vs', e1, r⟩ := g.ownX i ds e; ⟨a, vs', (wipe_some e1).1, r⟩, fun i j a ds es e1 e2 e3 e4 => by
    obtain ⟨b, _, q1, _⟩ := g.ownX i ds e1
    obtain ⟨c, _, q2, _⟩ := g.ownX j es e2
    have z1 := (wipe_some q1).1
    have z2 := (wipe_some q2).1
    rw [e3] at z1; cases z1
    rw [e4] at z2; cases z2
    exact g.apartX i j _ ds es e1 e2 q1 q2⟩

/-! ### targets -/
/-- storing x changes the slots is alone -/
def DG (g : TG) (is : List Nat) (x : D) (Γ Γ' : Gam) : Prop := ∀ (F : Addr → Prop) (σ : L2.St) (W : Wd) (v : V) (R : L2.St → Hp → Prop), SR F Γ σ W → Rep W x v →
  (∀ σ', SR F Γ' σ' W → (∀ vs : List Nat, (∀ i ∈ is, i ∈ vs) → wipe σ' vs = wipe σ vs) → R σ' W.H) → g v σ W.H R
theorem dg_name {i : Nat} {x : D} {Γ : Gam} : DG (gName i) [i] x Γ (Γ.set i (.val x)) := fun F σ W v R g r k => k _ (g.set r) fun vs h => wipe_set (h i List.mem_cons_self)
theorem dg_tup2 {K : PySem.W.Frag} {g1 g2 : TG} {is js : List Nat} {x y : D} {Γ Γ1 Γ2 : Gam} (h1 : DG g1 is x Γ Γ1) (h2 : DG g2 js y Γ1 Γ2) : DG (gTup K 2 (gCons g1 (gCons g2 gNil))) (is ++ js) (.tup [x, y]) Γ Γ2 := fun F σ W v R g r k => by
  obtain ⟨a, vs, e, ha, nu, v1, _, rfl, r1, v2, _, rfl, r2, rfl⟩ := r
  refine ⟨a, [v1, v2], e, ha.sq, rfl, v1, [v2], rfl, h1 F σ W v1 _ g r1 fun σ1 g1 w1 => ⟨v2, [], rfl, h2 F σ1 W v2 _ g1 r2 fun σ2 g2 w2 => ⟨rfl, k σ2 g2 fun vs h => ?_⟩⟩⟩
  rw [w2 vs fun i hi => h i (List.mem_append_right _ hi), w1 vs fun i hi => h i (List.mem_append_left _ hi)]
theorem dg_tup3 {K : PySem.W.Frag} {g1 g2 g3 : TG} {is js ks : List Nat} {x y z : D} {Γ Γ1 Γ2 Γ3 : Gam} (h1 : DG g1 is x Γ Γ1) (h2 : DG g2 js y Γ1 Γ2) (h3 : DG g3 ks z Γ2 Γ3) : DG (gTup K 3 (gCons g1 (gCons g2 (gCons g3 gNil)))) (is ++ (js ++ ks)) (.tup [x, y, z]) Γ Γ3 := fun F σ W v R g r k => by
  obtain ⟨a, vs, e, ha, nu, v1, _, rfl, r1, v2, _, rfl, r2, v3, _, rfl, r3, rfl⟩ := r
  refine ⟨a, [v1, v2, v3], e, ha.sq, rfl, v1, [v2, v3], rfl, h1 F σ W v1 _ g r1 fun σ1 g1 w1 => ⟨v2, [v3], rfl, h2 F σ1 W v2 _ g1 r2 fun σ2 g2 w2 => ⟨v3, [], rfl, h3 F σ2 W v3 _ g2 r3 fun σ3 g3 w3 => ⟨rfl, k σ3 g3 fun vs h => ?_⟩⟩⟩⟩
  rw [w3 vs fun i hi => h i (List.mem_append_right _ (List.mem_append_right _ hi)), w2 vs fun i hi => h i (List.mem_append_right _ (List.mem_append_left _ hi)), w1 vs fun i hi => h i (List.mem_append_left _ hi)]
theorem ds_asg_g {te : TE} {g : TG} {Γ : Gam} {De : DE} (h : Dl te Γ fun d Γ1 => ∃ is Γ2, DG g is d Γ1 Γ2 ∧ De.nx Γ2) : Ds (tAsg te g) Γ De := fun F σ W Dr s l => h F σ W _ s fun v W1 d Γ1 st g1 r ⟨is, Γ2, hg, q⟩ =>
  hg F σ W1 v _ g1 r fun σ' g' _ => l.nx σ' W1 Γ2 st g' q

/-! ### iterators -/
structure ItOk (F : Addr → Prop) (W : Wd) (J : It) (xs : List D) : Prop where
  go : ∀ (W1 : Wd) (i : Nat) (x : D), Stp F W W1 → WOk F W1 → xs[i]? = some x → J.go i W1.H ∧ ∀ v H', J.yld i W1.H v H' → Same W1.H H' ∧ Rep (W1.at H') x v
  stop : ∀ (W1 : Wd), Stp F W W1 → WOk F W1 → J.stop xs.length W1.H
structure ItS (W : Wd) (J : It) (xs : List D) : Prop where
  go : ∀ (W1 : Wd) (i : Nat) (x : D), (∀ a, W1.U a → W1.H a ≠ none) → Same W.H W1.H → (∀ a u, W.H a = some u → ¬ W.U a → ¬ W1.U a) → W1.P = W.P → xs[i]? = some x → J.go i W1.H ∧ ∀ v H', J.yld i W1.H v H' → Same W1.H H' ∧ Rep (W1.at H') x v
  stop : ∀ (H : Hp), Same W.H H → J.stop xs.length H
def Di (wi : TI) (Γ : Gam) (Q : List D → Gam → Prop) : Prop := ∀ (F : Addr → Prop) (σ : L2.St) (W : Wd) (R : It → Hp → Prop), SR F Γ σ W → (∀ J W' xs Γ', Stp F W W' → SR F Γ' σ W' → ItOk F W' J xs → Q xs Γ' → R J W'.H) → wi σ W.H R
def Ei (wi : TI) (Γ : Gam) (xs : List D) : Prop := ∀ (F : Addr → Prop) (σ : L2.St) (W : Wd) (R : It → Hp → Prop), SR F Γ σ W → (∀ J H, Same W.H H → ItS (W.at H) J xs → R J H) → wi σ W.H R
section
variable {K : PySem.W.Frag} {Γ : Gam} {t : TE} {ta : TA} {xs : List D} {Q : List D → Gam → Prop}
theorem di_list (h : Dl t Γ fun d Γ1 => ∃ xs, d = .lst xs ∧ Q xs Γ1) : Di (iList K t) Γ Q := fun F σ W R g k => h F σ W _ g fun v W1 d Γ1 st g1 r ⟨xs, e, q⟩ => by
  subst e
  obtain ⟨a, vs, rfl, ha, nu, l⟩ := r
  refine ⟨a, rfl, ⟨vs, .of ha⟩, k (Itl K a) W1 xs Γ1 st g1 ⟨fun W2 i x s2 ok2 hx => ?_, fun W2 s2 ok2 => ⟨vs, .of (s2.keep a _ ha nu).1, by rw [l.length]; exact Nat.le_refl _⟩⟩ q⟩
  obtain ⟨v, hv, rv⟩ := l.get hx
  exact ⟨⟨vs, v, .of (s2.keep a _ ha nu).1, hv⟩, fun u H' ⟨e, hy⟩ => by
    subst e
    have := hy vs (.of (s2.keep a _ ha nu).1)
    rw [hv] at this; cases this
    exact ⟨Same.refl _, rv.stp s2⟩⟩
theorem ei_list (h : EvB t Γ xs) : Ei (iList K t) Γ xs := fun F σ W R g k => h F σ W _ g fun a vs H st ha l => by
  refine ⟨a, rfl, ⟨vs, .of ha⟩, k (Itl K a) H st ⟨fun W2 i x dm s2 ku pu hx => ?_, fun H2 s2 => ⟨vs, .of (s2 a _ ha), by rw [l.length]; exact Nat.le_refl _⟩⟩⟩
  obtain ⟨v, hv, rv⟩ := l.get hx
  exact ⟨⟨vs, v, .of (s2 a _ ha), hv⟩, fun u H' ⟨e, hy⟩ => by
    subst e
    have := hy vs (.of (s2 a _ ha))
    rw [hv] at this; cases this
    exact ⟨Same.refl _, Rep.mono (W := W.at H) (W' := W2) (fun b u e n => ⟨s2 b u e, ku b u e n⟩) (fun b z => by rw [pu]; exact z) _ _ rv⟩⟩
theorem ei_tup (h : Ev t Γ (.tup xs)) : Ei (iTup K t) Γ xs := fun F σ W R g k => h F σ W _ g fun v H st ⟨a, vs, e, ha, nu, l⟩ => by
  subst e
  refine ⟨a, rfl, ⟨vs, ha.sq⟩, k (Itt K a) H st ⟨fun W2 i x dm s2 ku pu hx => ?_, fun H2 s2 => ⟨vs, (ha.same s2).sq, by rw [l.length]; exact Nat.le_refl _⟩⟩⟩
  obtain ⟨v, hv, rv⟩ := l.get hx
  exact ⟨⟨vs, v, (ha.same s2).sq, hv⟩, fun u H' ⟨e, hy⟩ => by
    subst e
    have := hy vs ((ha.same s2).sq)
    rw [hv] at this; cases this
    exact ⟨Same.refl _, Rep.mono (W := W.at H) (W' := W2) (fun b u e n => ⟨s2 b u e, ku b u e n⟩) (fun b z => by rw [pu]; exact z) _ _ rv⟩⟩
/-- 0, 1, .., n - 1 -/
def rng (n : Nat) : List D := (List.range n).map fun (i : Nat) => D.int i
theorem rng_get {n i : Nat} {x : D} (h : (rng n)[i]? = some x) : i < n ∧ x = .int i := by
  unfold rng at h
  rw [List.getElem?_map] at h
  by_cases hi : i < n
  · rw [List.getElem?_range hi] at h
    cases h; exact ⟨hi, rfl⟩
  · rw [List.getElem?_eq_none (by simpa using hi)] at h; cases h
theorem rng_length (n : Nat) : (rng n).length = n := by simp [rng]
theorem di_range {Q : List D → Gam → Prop} (h : DlA ta Γ fun ds Γ1 => ∃ n : Nat, ds = [.int n] ∧ n < 2 ^ 62 ∧ Q (rng n) Γ1) : Di (iRng1 ta) Γ Q := fun F σ W R g k => h F σ W _ g fun vs W1 ds Γ1 st g1 r ⟨n, e, hn, q⟩ => by
  subst e
  obtain ⟨v, _, rfl, rv, rfl⟩ := r
  refine ⟨n, by rw [show v = V.int n from rv], by omega, by omega, k (Itr 0 (n : Int).toNat) W1 (rng n) Γ1 st g1 ⟨fun W2 i x s2 ok2 hx => ?_, fun W2 s2 ok2 => ?_⟩ q⟩
  · obtain ⟨hi, rfl⟩ := rng_get hx
    refine ⟨by show i < (n : Int).toNat; omega, fun u H' ⟨e, hy⟩ => ?_⟩
    subst e hy
    exact ⟨Same.refl _, by show V.int (0 + (i : Int)) = V.int i; rw [Int.zero_add]⟩
  · show (n : Int).toNat ≤ _
    rw [rng_length]; omega
/-- the signs of a text -/
def signs (x : Str) : List D := x.cps.toList.map fun c => D.str ⟨#[c]⟩
end

/-! ### for -/
section
variable {Γ : Gam} {wi : TI} {g : TG} {tb : TS} {De : DE}
theorem ds_for (J : List D → Nat → Gam → Prop) (h : Di wi Γ fun xs Γ1 => J xs 0 Γ1 ∧ (∀ i x Γ', xs[i]? = some x → J xs i Γ' → ∃ is Γ2, DG g is x Γ' Γ2 ∧ Ds tb Γ2 ⟨J xs (i + 1), De.rt, De.nx, J xs (i + 1)⟩) ∧ ∀ Γ', J xs xs.length Γ' → De.nx Γ') : Ds (tFor wi g tb) Γ De :=
  fun F σ W Dr s l => h F σ W _ s fun I W1 xs Γ1 st g1 it ⟨h0, hs, hd⟩ => by
    refine ⟨fun i m σ' H' => m = xs.length - i ∧ i ≤ xs.length ∧ ∃ W' Γ', W'.H = H' ∧ Stp F W1 W' ∧ SR F Γ' σ' W' ∧ J xs i Γ', ⟨_, rfl, Nat.zero_le _, W1, Γ1, rfl, .refl _, g1, h0⟩, ?_⟩
    rintro i m σ' H' ⟨rfl, hi, W', Γ', rfl, s', g', j⟩
    by_cases hlt : i < xs.length
    · obtain ⟨x, hx⟩ : ∃ x, xs[i]? = some x := ⟨_, List.getElem?_eq_getElem hlt⟩
      obtain ⟨is, Γ2, hg, hb⟩ := hs i x Γ' hx j
      obtain ⟨go, yl⟩ := it.go W' i x s' g'.ok hx
      refine .inr ⟨go, fun σ2 H2 => ∃ W2 Γ2, W2.H = H2 ∧ Stp F W1 W2 ∧ SR F Γ2 σ2 W2 ∧ J xs (i + 1) Γ2, fun σ2 H2 q => ⟨xs.length - (i + 1), by omega, rfl, hlt, q⟩, fun v H2 y => ?_⟩
      obtain ⟨sm, rv⟩ := yl v H2 y
      have s2 := s'.trans (Stp.of_same g'.ok sm)
      refine hg F σ' (W'.at H2) v _ (g'.same sm) rv fun σ3 g3 _ => hb F σ3 (W'.at H2) _ g3 ⟨fun σ4 W4 Γ4 s4 g4 q => ⟨W4, Γ4, rfl, s2.trans s4, g4, q⟩, fun v W4 d s4 ok4 r4 q => l.rt v W4 d (st.trans (s2.trans s4)) ok4 r4 q, fun σ4 W4 Γ4 s4 g4 q => l.nx σ4 W4 Γ4 (st.trans (s2.trans s4)) g4 q, fun σ4 W4 Γ4 s4 g4 q => ⟨W4, Γ4, rfl, s2.trans s4, g4, q⟩⟩
    · have e : i = xs.length := by omega
      subst e
      exact .inl ⟨it.stop W' s' g'.ok, l.nx σ' W' Γ' (st.trans s') g' (hd Γ' j)⟩
end

/-! ### list comprehensions -/
section
variable {Γ : Gam} {wi : TI} {g : TG} {tt : TT} {te : TE} {vs : List Nat}
/-- pure: over xs.map c, kept where p, f of each -/
theorem evn_lc {α : Type} {xs : List α} {c : α → D} {p : α → Bool} {f : α → D} (h : Ei wi Γ (xs.map c)) (hz : xs.length ≤ 1000000)
    (he : ∀ x ∈ xs, ∃ is Γ2, DG g is (c x) (wipeG Γ vs) Γ2 ∧ (∀ i ∈ is, i ∈ vs) ∧ EvT tt Γ2 (p x) ∧ (p x = true → Ev te Γ2 (f x))) : EvN (tLc wi g tt te vs) Γ ((xs.filter p).map f) := fun F σ W R s k =>
  h F σ W _ s fun I H1 st it => fun Dn hD => by
    have wd : W.H Dn = none := st.free hD
    refine ⟨fun i m H' => m = xs.length - i ∧ i ≤ xs.length ∧ Same H1 H' ∧ ∃ us, H' Dn = some (.lst us) ∧ RepL (W.plus H' Dn) (((xs.take i).filter p).map f) us, ⟨_, rfl, Nat.zero_le _, same_upd hD, [], upd_same, rfl⟩, ?_⟩
    rintro i m H' ⟨rfl, hi, sm, us, hus, rus⟩
    by_cases hlt : i < xs.length
    · have hx : xs[i]? = some xs[i] := List.getElem?_eq_getElem hlt
      have hx' : (xs.map c)[i]? = some (c xs[i]) := by rw [List.getElem?_map, hx]; rfl
      obtain ⟨is, Γ2, hg, his, ht, hel⟩ := he xs[i] (List.getElem_mem hlt)
      obtain ⟨go, yl⟩ := it.go (W.plus H' Dn) i (c xs[i]) (fun b hb z => hb.elim (fun u => s.ok.dom b u ((Same.trans st sm).free z)) (fun e => by rw [e] at z; exact absurd (hus.symm.trans z) (fun q => nomatch q))) sm (fun b u e n z => z.elim n fun z => by rw [z] at e; exact absurd (e.symm.trans hD) (fun q => nomatch q)) rfl hx'
      refine .inr ⟨go, fun H2 => Same H1 H2 ∧ ∃ us, H2 Dn = some (.lst us) ∧ RepL (W.plus H2 Dn) (((xs.take (i + 1)).filter p).map f) us, fun H2 q => ⟨xs.length - (i + 1), by omega, rfl, hlt, q⟩, fun v H2 y => ?_⟩
      obtain ⟨sm2, rv⟩ := yl v H2 y
      have sW : Same W.H H2 := Same.trans st (Same.trans sm sm2)
      -- the world where the list in the making is one's own
      obtain ⟨_, gp, _, _, _⟩ := s.plus sW wd (by rw [sm2 _ _ hus]; exact fun z => nomatch z)
      have gp := gp.wipe vs
      refine hg F _ (W.plus H2 Dn) v _ gp rv fun σ2 g2 w2 => ⟨by rw [w2 vs his, wipe_wipe], ?_⟩
      refine ht F σ2 (W.plus H2 Dn) _ g2 fun H3 s3 => ?_
      have e1 : (xs.take (i + 1)).filter p = (xs.take i).filter p ++ (if p xs[i] = true then [xs[i]] else []) := by
        rw [List.take_add_one, hx, List.filter_append]
        congr 1
        cases hp : p xs[i] <;> simp [hp]
      have mv : ∀ {H3 H4 : Hp} {ds us}, Same H3 H4 → RepL (W.plus H3 Dn) ds us → RepL (W.plus H4 Dn) ds us := fun {H3 H4 ds us} s34 r => RepL.mono (W := W.plus H3 Dn) (W' := W.plus H4 Dn) (fun b u e n => ⟨s34 b u e, n⟩) (fun _ h => h) ds us r
      cases hp : p xs[i] with
      | false =>
        rw [if_neg Bool.false_ne_true]
        refine ⟨Same.trans (Same.trans sm sm2) s3, us, s3 _ _ (sm2 _ _ hus), ?_⟩
        rw [e1, hp, if_neg Bool.false_ne_true, List.append_nil]
        exact mv s3 (mv sm2 rus)
      | true =>
        rw [if_pos rfl]
        refine hel hp F σ2 ((W.plus H2 Dn).at H3) _ (g2.same s3) fun z H4 s4 rz => ?_
        have h4 : H4 Dn = some (.lst us) := s4 _ _ (s3 _ _ (sm2 _ _ hus))
        have un : ∀ {ds us}, RepL (W.plus H4 Dn) ds us → ∀ o, RepL (W.plus (upd H4 Dn o) Dn) ds us := fun {ds us} r o => RepL.mono (W := W.plus H4 Dn) (W' := W.plus (upd H4 Dn o) Dn) (fun b u e n => ⟨by
          show (upd H4 Dn o) b = some u
          rw [upd_ne (fun z : b = Dn => n (Or.inr z))]; exact e, n⟩) (fun _ h => h) ds us r
        refine ⟨us, h4, ?_, fun b u e => ?_, us ++ [z], upd_same, ?_⟩
        · rw [← rus.length, List.length_map]
          refine Nat.lt_of_le_of_lt (Nat.le_trans (List.length_filter_le _ _) (Nat.le_trans (List.length_take_le _ _) ?_)) (show 1000000 < sizeLine by decide)
          omega
        · have nb : b ≠ Dn := fun z => by rw [z, hD] at e; cases e
          rw [upd_ne nb]
          exact s4 _ _ (s3 _ _ (sm2 _ _ (sm _ _ e)))
        · rw [e1, hp, if_pos rfl, List.map_append]
          exact un ((mv s4 (mv s3 (mv sm2 rus))).append (RepL.one rz)) _
    · have e : i = xs.length := by omega
      subst e
      rw [List.take_length] at rus
      exact .inl ⟨by have := it.stop H' sm; rw [List.length_map] at this; exact this, k Dn us H' (Same.trans st sm) wd hus rus⟩
end
end Dw

/-! Rules over data: comprehensions that draw. -/
namespace Dw
open PySem PySem.Spec PyProof.Rows L2
variable [Tabs0]

abbrev Fp (F : Addr → Prop) (a : Addr) : Addr → Prop := fun b => F b ∨ b = a
theorem SR.frame {F : Addr → Prop} {Γ : Gam} {σ : L2.St} {W : Wd} {a : Addr} (g : SR F Γ σ W) (u : W.U a) (p : ¬ W.P a) (no : ¬ ownA Γ σ a) : SR (Fp F a) Γ σ W :=
  ⟨⟨g.ok.dom, fun b h => h.elim (g.ok.fu b) fun h => by rw [h]; exact u, fun b h => let ⟨u', f, pp⟩ := g.ok.pu b h; ⟨u', fun z => z.elim f fun z => p (by rw [← z]; exact h), pp⟩⟩, g.len, g.val,
   fun i ds e => let ⟨b, vs, e1, u', f, pp, q, r⟩ := g.ownX i ds e; ⟨b, vs, e1, u', fun z => z.elim f fun z => no ⟨i, ds, e, by rw [← z]; exact e1⟩, pp, q, r⟩, g.apartX⟩
/-- a cell of the frame is changed -/
theorem SR.poke {F : Addr → Prop} {Γ : Gam} {σ : L2.St} {W : Wd} {a : Addr} {o : HO} (g : SR (Fp F a) Γ σ W) (nf : ¬ F a) (ne : ∀ h, W.H a ≠ some (.ext h)) :
    Stp F W (W.at (upd W.H a o)) ∧ SR (Fp F a) Γ σ (W.at (upd W.H a o)) := by
  have u : W.U a := g.ok.fu a (Or.inr rfl)
  have st : Stp F W (W.at (upd W.H a o)) := ⟨fun b x e n => ⟨by
    show (upd W.H a o) b = some x
    rw [upd_ne (fun z : b = a => n (by rw [z]; exact u))]; exact e, n⟩, rfl, fun b h => upd_ne (fun z : b = a => nf (by rw [← z]; exact h))⟩
  refine ⟨st, ⟨⟨fun b h z => ?_, g.ok.fu, fun b h => ?_⟩, g.len, fun i d e => ?_, fun i ds e => ?_, g.apartX⟩⟩
  · have z : (upd W.H a o) b = none := z
    by_cases hb : b = a
    · rw [hb, upd_same] at z; cases z
    · rw [upd_ne hb] at z; exact g.ok.dom b h z
  · obtain ⟨u', f, oo⟩ := g.ok.pu b h
    exact ⟨u', f, oo.upd ne fun z : b = a => f (Or.inr z)⟩
  · obtain ⟨v, e1, r⟩ := g.val i d e
    exact ⟨v, e1, r.stp st⟩
  · obtain ⟨b, vs, e1, u', f, pp, q, r⟩ := g.ownX i ds e
    exact ⟨b, vs, e1, u', f, pp, (upd_ne (fun z : b = a => f (Or.inr z))).trans q, r.stp st⟩
/-- .. and becomes a value -/
theorem SR.land {F : Addr → Prop} {Γ : Gam} {σ : L2.St} {W : Wd} {a : Addr} (g : SR (Fp F a) Γ σ W) (nf : ¬ F a) :
    Stp F W ⟨W.H, fun b => W.U b ∧ b ≠ a, W.P⟩ ∧ SR F Γ σ ⟨W.H, fun b => W.U b ∧ b ≠ a, W.P⟩ := by
  have st : Stp F W ⟨W.H, fun b => W.U b ∧ b ≠ a, W.P⟩ := ⟨fun b x e n => ⟨e, fun z => n z.1⟩, rfl, fun _ _ => rfl⟩
  refine ⟨st, ⟨⟨fun b h => g.ok.dom b h.1, fun b h => ⟨g.ok.fu b (Or.inl h), fun z => nf (by rw [← z]; exact h)⟩, fun b h => ?_⟩, g.len, fun i d e => ?_, fun i ds e => ?_, g.apartX⟩⟩
  · obtain ⟨u', f, pp⟩ := g.ok.pu b h
    exact ⟨⟨u', fun z => f (Or.inr z)⟩, fun z => f (Or.inl z), pp⟩
  · obtain ⟨v, e1, r⟩ := g.val i d e
    exact ⟨v, e1, r.stp st⟩
  · obtain ⟨b, vs, e1, u', f, pp, q, r⟩ := g.ownX i ds e
    exact ⟨b, vs, e1, ⟨u', fun z => f (Or.inr z)⟩, fun z => f (Or.inl z), pp, q, r.stp st⟩
section
variable {Γ : Gam} {wi : TI} {g : TG} {tt : TT} {te : TE} {vs : List Nat} {Q : D → Gam → Prop}
theorem dl_lc (h : Di wi Γ fun xs Γ1 => xs.length ≤ 1000000 ∧ ∃ J : Nat → List D → Gam → Prop, J 0 [] (wipeG Γ1 vs) ∧
      (∀ i x acc Γ', xs[i]? = some x → J i acc Γ' → ∃ is Γ2, DG g is x Γ' Γ2 ∧ (∀ i ∈ is, i ∈ vs) ∧ DlT tt Γ2 fun b Γ3 => (b = true → Dl te Γ3 fun d Γ4 => J (i + 1) (acc ++ [d]) (wipeG Γ4 vs)) ∧ (b = false → J (i + 1) acc (wipeG Γ3 vs))) ∧
      ∀ acc Γ', J xs.length acc Γ' → Q (.lst acc) Γ') : Dl (tLc wi g tt te vs) Γ Q := fun F σ W R s k =>
  h F σ W _ s fun I W1 xs Γ1 st1 g1 it ⟨hz, J, h0, hs, hd⟩ => fun Dn hD => by
    obtain ⟨stp, gp, no, nf, np⟩ := g1.plus (H := upd W1.H Dn (.lst [])) (a := Dn) (same_upd hD) hD (by rw [upd_same]; exact fun z => nomatch z)
    have gf := (gp.frame (Or.inr rfl) np no).wipe vs
    refine ⟨fun i m H' => m = xs.length - i ∧ i ≤ xs.length ∧ ∃ W' Γ' acc us, W'.H = H' ∧ Stp F W1 W' ∧ SR (Fp F Dn) Γ' (wipe σ vs) W' ∧ H' Dn = some (.lst us) ∧ RepL W' acc us ∧ acc.length ≤ i ∧ J i acc Γ',
      ⟨_, rfl, Nat.zero_le _, W1.plus (upd W1.H Dn (.lst [])) Dn, _, [], [], rfl, stp, gf, upd_same, rfl, Nat.le_refl _, h0⟩, ?_⟩
    rintro i m H' ⟨rfl, hi, W', Γ', acc, us, rfl, s', g', hus, rus, hl, j⟩
    by_cases hlt : i < xs.length
    · have hx : xs[i]? = some xs[i] := List.getElem?_eq_getElem hlt
      obtain ⟨is, Γ2, hg, his, ht⟩ := hs i xs[i] acc Γ' hx j
      have ok1 : WOk F W' := ⟨g'.ok.dom, fun b z => g'.ok.fu b (Or.inl z), fun b z => let ⟨u, f, p⟩ := g'.ok.pu b z; ⟨u, fun q => f (Or.inl q), p⟩⟩
      obtain ⟨go, yl⟩ := it.go W' i xs[i] s' ok1 hx
      refine .inr ⟨go, fun H2 => ∃ W2 Γ2 acc us, W2.H = H2 ∧ Stp F W1 W2 ∧ SR (Fp F Dn) Γ2 (wipe σ vs) W2 ∧ H2 Dn = some (.lst us) ∧ RepL W2 acc us ∧ acc.length ≤ i + 1 ∧ J (i + 1) acc Γ2, fun H2 q => ⟨xs.length - (i + 1), by omega, rfl, hlt, q⟩, fun v H2 y => ?_⟩
      obtain ⟨sm, rv⟩ := yl v H2 y
      have g2 := g'.same sm
      have s2 : Stp F W1 (W'.at H2) := s'.trans (Stp.of_same ok1 sm)
      refine hg (Fp F Dn) _ (W'.at H2) v _ g2 rv fun σ2 g3 w2 => ?_
      have ew : wipe σ2 vs = wipe σ vs := by rw [w2 vs his, wipe_wipe]
      refine ⟨ew, ht (Fp F Dn) σ2 (W'.at H2) _ g3 fun b W3 Γ3 s3 g4 q => ?_⟩
      have h3 : W3.H Dn = some (.lst us) := (s3.fr Dn (Or.inr rfl)).trans (sm _ _ hus)
      have r3 : RepL W3 acc us := (RepL.same (W := W') sm rus).stp s3
      cases b with
      | false =>
        rw [if_neg Bool.false_ne_true]
        have g5 := g4.wipe vs
        rw [ew] at g5
        exact ⟨W3, _, acc, us, rfl, s2.trans (s3.sub fun _ z => Or.inl z), g5, h3, r3, by omega, q.2 rfl⟩
      | true =>
        rw [if_pos rfl]
        refine q.1 rfl (Fp F Dn) σ2 W3 _ g4 fun z W4 d Γ4 s4 g5 rz qj => ?_
        have h4 : W4.H Dn = some (.lst us) := (s4.fr Dn (Or.inr rfl)).trans h3
        have r4 : RepL W4 acc us := r3.stp s4
        have g6 := g5.wipe vs
        rw [ew] at g6
        obtain ⟨s5, g7⟩ := g6.poke (o := .lst (us ++ [z])) nf (no_ext (by assumption))
        refine ⟨us, h4, ?_, W4.at (upd W4.H Dn (.lst (us ++ [z]))), _, acc ++ [d], us ++ [z], rfl, ((s2.trans (s3.sub fun _ z => Or.inl z)).trans (s4.sub fun _ z => Or.inl z)).trans s5, g7, upd_same, (r4.append (RepL.one rz)).stp s5, by rw [List.length_append, List.length_singleton]; omega, qj⟩
        rw [← r4.length]
        exact Nat.lt_of_le_of_lt (show acc.length ≤ 1000000 by omega) (by decide)
    · have e : i = xs.length := by omega
      subst e
      have ok1 : WOk F W' := ⟨g'.ok.dom, fun b z => g'.ok.fu b (Or.inl z), fun b z => let ⟨u, f, p⟩ := g'.ok.pu b z; ⟨u, fun q => f (Or.inl q), p⟩⟩
      obtain ⟨s8, g8⟩ := (SR.unwipe g').land nf
      refine .inl ⟨it.stop W' s' ok1, k (.ref Dn) ⟨W'.H, fun b => W'.U b ∧ b ≠ Dn, W'.P⟩ (.lst acc) Γ' (st1.trans (s'.trans s8)) g8 ⟨Dn, us, rfl, hus, fun z => z.2 rfl, rus.stp s8⟩ (hd acc Γ' j)⟩
end
end Dw

/-! Operators that serve several kinds at once, and what they give on data. -/
namespace Dw
open PySem PySem.Spec PyProof.Rows L2
variable [Tabs0]
section
variable {X : Cx} {a b c e : Expr} {ta tb te : TE} {pos : Pos} {i j : Int} {x y : Str} {ds es : List D} {K : PySem.W.Frag} {Γ : Gam} {d : D}
abbrev rOr (r r' : R2) : R2 := fun x y H Q => r x y H Q ∨ r' x y H Q
theorem dr2_l {r r' : R2} {x y d : D} (h : DR2 r x y d) : DR2 (rOr r r') x y d := fun W u v Q dom a b k => .inl (h W u v Q dom a b k)
theorem dr2_r {r r' : R2} {x y d : D} (h : DR2 r' x y d) : DR2 (rOr r r') x y d := fun W u v Q dom a b k => .inr (h W u v Q dom a b k)
/-! ### + and * -/
abbrev rPlus (K : PySem.W.Frag) : R2 := rOr (rI0 fun i j => .int (i + j)) (rOr rAddStr (rOr rCat (rCatT K)))
theorem opPlus : OpR X (binaryOp .Add) (rPlus X.K) := op_add.or (op_add_str.or (op_cat.or op_catT))
theorem plus_int : DR2 (rPlus K) (.int i) (.int j) (.int (i + j)) := dr2_l dr2_add
theorem plus_str (h : x.length + y.length ≤ sizeLine) : DR2 (rPlus K) (.str x) (.str y) (.str (x ++ y)) := dr2_r (dr2_l (dr2_add_str h))
theorem plus_lst (h : ds.length + es.length ≤ sizeLine) : DR2 (rPlus K) (.lst ds) (.lst es) (.lst (ds ++ es)) := dr2_r (dr2_r (dr2_l (dr2_cat h)))
theorem plus_tup (n : ds ≠ []) (h : ds.length + es.length ≤ sizeLine) : DR2 (rPlus K) (.tup ds) (.tup es) (.tup (ds ++ es)) := dr2_r (dr2_r (dr2_r (dr2_catT n h)))
abbrev rTimes : R2 := rOr (rI CMul fun i j => .int (i * j)) rRep
theorem opTimes : OpR X (binaryOp .Mult) rTimes := op_mul.or op_rep
theorem times_int (h : CMul i j) : DR2 rTimes (.int i) (.int j) (.int (i * j)) := dr2_l (dr2_mul h)
/-! ### comparisons -/
abbrev rEqX (K : PySem.W.Frag) : R2 := rOr rEq (rEqD K)
abbrev rNeX (K : PySem.W.Frag) : R2 := rOr rNe (rNeD K)
theorem opEq (hu : X.A.units + 64 < cLine) : OpR X (compareOp .Eq) (rEqX X.K) := op_eq.or (op_eqD hu)
theorem opNe (hu : X.A.units + 64 < cLine) : OpR X (compareOp .NotEq) (rNeX X.K) := op_ne.or (op_neD hu)
theorem eq_int' : DR2 (rEqX K) (.int i) (.int j) (.bl (decide (i = j))) := dr2_l dr2_eq_int
theorem eq_str' : DR2 (rEqX K) (.str x) (.str y) (.bl (decide (x = y))) := dr2_l dr2_eq_str
theorem ne_int' : DR2 (rNeX K) (.int i) (.int j) (.bl (!decide (i = j))) := dr2_l dr2_ne_int
theorem ne_str' : DR2 (rNeX K) (.str x) (.str y) (.bl (!decide (x = y))) := dr2_l dr2_ne_str
theorem eq_deep {p q : D} (h1 : isPy p = true) (h2 : isPy q = true) (h3 : SeqAt.shaped (py p) = true) (h4 : SeqAt.shaped (py q) = true) : DR2 (rEqX K) p q (.bl (PyData.eqv (py p) (py q))) := dr2_r (dr2_eqD h1 h2 h3 h4)
theorem ne_deep {p q : D} (h1 : isPy p = true) (h2 : isPy q = true) (h3 : SeqAt.shaped (py p) = true) (h4 : SeqAt.shaped (py q) = true) : DR2 (rNeX K) p q (.bl (!PyData.eqv (py p) (py q))) := dr2_r (dr2_neD h1 h2 h3 h4)
abbrev rLtS : R2 := fun x y H Q => ∃ i j, x = .str i ∧ y = .str j ∧ Q (.bl (decide (i.cps.toList < j.cps.toList))) H
theorem opLt : OpR X (compareOp .Lt) (rOr (rI0 fun i j => .bl (decide (i < j))) rLtS) := op_lt.or op_lt_str
theorem lt_int' : DR2 (rOr (rI0 fun i j => .bl (decide (i < j))) rLtS) (.int i) (.int j) (.bl (decide (i < j))) := dr2_l dr2_lt
theorem lt_str' : DR2 (rOr (rI0 fun i j => .bl (decide (i < j))) rLtS) (.str x) (.str y) (.bl (decide (x.cps.toList < y.cps.toList))) := dr2_r (dr2_flat fun W u v Q a b k => ⟨x, y, a, b, k _ rfl⟩)
theorem opLe : OpR X (compareOp .LtE) (rI0 fun i j => .bl (decide (i ≤ j))) := op_le
theorem opGt : OpR X (compareOp .Gt) (rI0 fun i j => .bl (decide (j < i))) := op_gt
theorem opGe : OpR X (compareOp .GtE) (rI0 fun i j => .bl (decide (j ≤ i))) := op_ge
abbrev rInS : R2 := fun x y H Q => ∃ i j, x = .str i ∧ y = .str j ∧ Q (.bl (!(Builtin.Str.occurrences j i 0 j.length 1).isEmpty)) H
abbrev rNinS : R2 := fun x y H Q => ∃ i j, x = .str i ∧ y = .str j ∧ Q (.bl (!(!(Builtin.Str.occurrences j i 0 j.length 1).isEmpty))) H
theorem opIn : OpR X (compareOp .In) (rOr (rIn X.K false) rInS) := op_in_seq.or op_in_str
theorem opNotIn : OpR X (compareOp .NotIn) (rOr (rIn X.K true) rNinS) := op_notIn_seq.or op_notin_str
theorem in_str' : DR2 (rOr (rIn K false) rInS) (.str x) (.str y) (.bl (!(Builtin.Str.occurrences y x 0 y.length 1).isEmpty)) := dr2_r (dr2_flat fun W u v Q a b k => ⟨x, y, a, b, k _ rfl⟩)
/-- scalars -/
def isSc : D → Bool
  | .non => true | .bl _ => true | .int _ => true | .str _ => true | _ => false
def scV : D → V
  | .non => .non | .bl b => .bl b | .int i => .int i | .str x => .str x | _ => .non
theorem rep_sc {W : Wd} {d : D} {v : V} (h : isSc d = true) (r : Rep W d v) : v = scV d := by
  cases d <;> first | exact r | exact absurd (show false = true from h) Bool.false_ne_true
theorem repL_sc {W : Wd} : ∀ {ds : List D} {vs : List V}, ds.all isSc = true → RepL W ds vs → vs = ds.map scV
  | [], _, _, h => h
  | d :: ds, _, p, ⟨v, r, e, h1, h2⟩ => by
    have p' : isSc d = true ∧ ds.all isSc = true := by simpa using p
    rw [e, rep_sc p'.1 h1, repL_sc p'.2 h2]; rfl
theorem flat_sc {d : D} (h : isSc d = true) : flatV (scV d) = true := by
  cases d <;> first | rfl | exact absurd (show false = true from h) Bool.false_ne_true
theorem flats_sc : ∀ {ds : List D}, ds.all isSc = true → (ds.map scV).all flatV = true
  | [], _ => rfl
  | d :: ds, p => by
    have p' : isSc d = true ∧ ds.all isSc = true := by simpa using p
    rw [List.map_cons, List.all_cons, flat_sc p'.1, flats_sc p'.2]; rfl
theorem ev_in {neg : Bool} {r' : R2} (ha : Ev ta Γ d) (hb : EvB tb Γ ds) (s1 : isSc d = true) (s2 : ds.all isSc = true) : Ev (tOp (rOr (rIn K neg) r') ta tb) Γ (.bl (if neg then !inV (scV d) (ds.map scV) else inV (scV d) (ds.map scV))) := fun F σ W Q g k =>
  ha F σ W _ g fun v H s r => hb F σ (W.at H) _ (g.same s) fun p vs H' s' e l => .inl ⟨p, vs, rfl, .inl (.of e), by rw [rep_sc s1 r]; exact flat_sc s1, by rw [repL_sc s2 l]; exact flats_sc s2, by
    rw [rep_sc s1 r, repL_sc s2 l]
    exact k _ H' (Same.trans s s') rfl⟩
/-! ### len, items, slices -/
abbrev rLen (K : PySem.W.Frag) : List V → Hp → VK → Prop := fun xs H Q => (∃ p ys, xs = [.ref p] ∧ (SqL K H p ys ∨ SqT K H p ys) ∧ Q (.int ys.length) H) ∨ ∃ z, xs = [.str z] ∧ z.length ≤ sizeLine ∧ Q (.int z.length) H
theorem opLen : CallR X (.builtin "len") (rLen X.K) := call_len_seq.or call_len_str
theorem ev_len (h : EvB ta Γ ds) : Ev (tCB (rLen K) (tCons ta tNil)) Γ (.int ds.length) := fun F σ W Q g k => h F σ W _ g fun p vs H s e l => .inl ⟨p, vs, rfl, .inl (.of e), k _ H s (by rw [l.length]; rfl)⟩
theorem ev_lenT (h : Ev ta Γ (.tup ds)) : Ev (tCB (rLen K) (tCons ta tNil)) Γ (.int ds.length) := fun F σ W Q g k => h F σ W _ g fun u H s ⟨p, vs, eu, e, nu, l⟩ => .inl ⟨p, vs, by rw [eu], .inr e.sq, k _ H s (by rw [l.length]; rfl)⟩
theorem ev_lenS (h : Ev ta Γ (.str x)) (hz : x.length ≤ sizeLine) : Ev (tCB (rLen K) (tCons ta tNil)) Γ (.int x.length) := fun F σ W Q g k => h F σ W _ g fun u H s r => .inr ⟨x, by rw [show u = V.str x from r], hz, k _ H s rfl⟩
theorem atI_rep {W : Wd} {vs : List V} (l : RepL W ds vs) (h : atI ds i = some d) : ∃ v, atI vs i = some v ∧ Rep W d v := by
  unfold atI at h ⊢
  rw [← l.length]
  cases q : ixN ds.length i with
  | none => rw [q] at h; cases h
  | some k =>
    rw [q] at h
    obtain ⟨v, e, r⟩ := l.get (i := k) h
    exact ⟨v, e, r⟩
theorem ev_ix (ha : EvB ta Γ ds) (hb : Ev tb Γ (.int i)) (h : atI ds i = some d) : Ev (tOp (rIx K) ta tb) Γ d := fun F σ W Q g k => ha F σ W _ g fun p vs H s e l => hb F σ (W.at H) _ (g.same s) fun u H' s' r => by
  obtain ⟨v, ev, rv⟩ := atI_rep (RepL.same (W := W.at H) s' l) h
  exact .inl ⟨p, vs, i, v, rfl, r, .of (s' _ _ e), ev, k v H' (Same.trans s s') rv⟩
theorem dr2_ixS {z : Nat} (hl : x.length ≤ sizeLine) (h : atI x.cps.toList i = some z) : DR2 (rIx K) (.str x) (.int i) (.str ⟨#[z]⟩) := dr2_flat fun W u v Q a b k => .inr (.inr ⟨x, i, z, a, b, hl, h, k _ rfl⟩)
/-! ### iterators -/
theorem pi_or {tg iter : Expr} {w1 w2 : TI} (h1 : PI X tg iter w1) (h2 : PI X tg iter w2) : PI X tg iter (fun σ H R => w1 σ H R ∨ w2 σ H R) :=
  ⟨fun pins s σ H R I h => h.elim (h1.run pins s σ H R I) (h2.run pins s σ H R I)⟩
abbrev iAny (K : PySem.W.Frag) (t : TE) : TI := fun σ H R => iList K t σ H R ∨ (fun σ H R => iTup K t σ H R ∨ iStr t σ H R) σ H R
theorem pi_any {tg : Expr} (h : PE X e te) : PI X tg e (iAny X.K te) := pi_or (pi_list h) (pi_or (pi_tup h) (pi_str h))
theorem ei_l {w1 w2 : TI} {xs : List D} (h : Ei w1 Γ xs) : Ei (fun σ H R => w1 σ H R ∨ w2 σ H R) Γ xs := fun F σ W R g k => .inl (h F σ W R g k)
theorem ei_r {w1 w2 : TI} {xs : List D} (h : Ei w2 Γ xs) : Ei (fun σ H R => w1 σ H R ∨ w2 σ H R) Γ xs := fun F σ W R g k => .inr (h F σ W R g k)
theorem di_l {w1 w2 : TI} {Q : List D → Gam → Prop} (h : Di w1 Γ Q) : Di (fun σ H R => w1 σ H R ∨ w2 σ H R) Γ Q := fun F σ W R g k => .inl (h F σ W R g k)
theorem eia_list {xs : List D} (h : EvB te Γ xs) : Ei (iAny K te) Γ xs := ei_l (ei_list h)
theorem eia_tup {xs : List D} (h : Ev te Γ (.tup xs)) : Ei (iAny K te) Γ xs := ei_r (ei_l (ei_tup h))
theorem dia_list {Q : List D → Gam → Prop} (h : Dl te Γ fun d Γ1 => ∃ xs, d = .lst xs ∧ Q xs Γ1) : Di (iAny K te) Γ Q := di_l (di_list h)
theorem signs_get {x : Str} {i : Nat} {d : D} (h : (signs x)[i]? = some d) : i < x.cps.size ∧ ∃ c, x.cps[i]? = some c ∧ d = .str ⟨#[c]⟩ := by
  unfold signs at h
  rw [List.getElem?_map, Array.getElem?_toList] at h
  cases q : x.cps[i]? with
  | none => rw [q] at h; cases h
  | some c =>
    rw [q] at h
    have hl := (Array.getElem?_eq_some_iff.mp q).1
    exact ⟨hl, c, rfl, (Option.some.inj h).symm⟩
theorem signs_length (x : Str) : (signs x).length = x.cps.size := by simp [signs]
theorem ei_str (h : Ev te Γ (.str x)) : Ei (iStr te) Γ (signs x) := fun F σ W R g k => h F σ W _ g fun v H s r => ⟨x, r, k (Its x) H s ⟨fun W1 i d dm sm ku pu hx => by
  obtain ⟨hi, c, hc, rfl⟩ := signs_get hx
  refine ⟨hi, fun v H' ⟨e, c', hc', ev⟩ => ?_⟩
  rw [hc] at hc'; cases hc'
  subst e ev
  exact ⟨Same.refl _, rfl⟩, fun H2 s2 => by rw [signs_length]; exact Nat.le_refl _⟩⟩
theorem eia_str (h : Ev te Γ (.str x)) : Ei (iAny K te) Γ (signs x) := ei_r (ei_r (ei_str h))
/-! ### builtins over lists -/
theorem ev_all {bs : List Bool} (h : EvB ta Γ (bs.map D.bl)) : Ev (tCB (rAll K) (tCons ta tNil)) Γ (.bl (bs.all id)) := fun F σ W Q g k => h F σ W _ g fun p vs H s e l => ⟨p, bs, rfl, .of (by rw [e, RepL.bls.mp l]), k _ H s rfl⟩
theorem dl_all {Q : D → Gam → Prop} (h : Dl ta Γ fun d Γ1 => ∃ bs : List Bool, d = .lst (bs.map D.bl) ∧ Q (.bl (bs.all id)) Γ1) : Dl (tCB (rAll K) (tCons ta tNil)) Γ Q := fun F σ W R g k => h F σ W _ g fun v W1 d Γ1 st g1 r ⟨bs, e, q⟩ => by
  subst e
  obtain ⟨p, vs, rfl, e, nu, l⟩ := r
  exact ⟨p, bs, rfl, .of (by rw [e, RepL.bls.mp l]), k _ W1 (.bl (bs.all id)) Γ1 st g1 rfl q⟩
/-- sep.join(xs) -/
abbrev rJoin (K : PySem.W.Frag) : V → List V → Hp → VK → Prop := fun x xs H Q => ∃ a p, ∃ ys : List Str, x = .str a ∧ xs = [.ref p] ∧ (SqL K H p (ys.map V.str) ∨ SqT K H p (ys.map V.str)) ∧
      (ys.map (·.length)).sum + ys.length * a.length ≤ 16777216 ∧ Q (.str (Txt.join a ys)) H
theorem ev_join {ys : List Str} (ha : Ev ta Γ (.str x)) (hb : EvB tb Γ (ys.map D.str)) (hz : (ys.map (·.length)).sum + ys.length * x.length ≤ 16777216) : Ev (tM1 (rJoin K) ta tb) Γ (.str (Txt.join x ys)) := fun F σ W Q g k =>
  ha F σ W _ g fun v H s r => ⟨⟨x, r⟩, hb F σ (W.at H) _ (g.same s) fun p vs H' s' e l => ⟨x, p, ys, r, rfl, .inl (.of (by rw [e, RepL.strs.mp l])), hz, k _ H' (Same.trans s s') rfl⟩⟩
theorem ev_joinT {ys : List Str} (ha : Ev ta Γ (.str x)) (hb : Ev tb Γ (.tup (ys.map D.str))) (hz : (ys.map (·.length)).sum + ys.length * x.length ≤ 16777216) : Ev (tM1 (rJoin K) ta tb) Γ (.str (Txt.join x ys)) := fun F σ W Q g k =>
  ha F σ W _ g fun v H s r => ⟨⟨x, r⟩, hb F σ (W.at H) _ (g.same s) fun u H' s' ⟨p, vs, eu, e, nu, l⟩ => ⟨x, p, ys, r, by rw [eu], .inr (RepL.strs.mp l ▸ e.sq), hz, k _ H' (Same.trans s s') rfl⟩⟩
theorem dl_join {Q : D → Gam → Prop} (ha : Ev ta Γ (.str x)) (hb : Dl tb Γ fun d Γ1 => ∃ ys : List Str, d = .lst (ys.map D.str) ∧ (ys.map (·.length)).sum + ys.length * x.length ≤ 16777216 ∧ Q (.str (Txt.join x ys)) Γ1) : Dl (tM1 (rJoin K) ta tb) Γ Q := fun F σ W R g k =>
  ha F σ W _ g fun v H s r => ⟨⟨x, r⟩, hb F σ (W.at H) _ (g.same s) fun u W2 d Γ1 st g1 rd ⟨ys, e, hz, q⟩ => by
    subst e
    obtain ⟨p, vs, rfl, e, nu, l⟩ := rd
    exact ⟨x, p, ys, r, rfl, .inl (.of (e.trans (by rw [RepL.strs.mp l]))), hz, k _ W2 (.str (Txt.join x ys)) Γ1 ((Stp.of_same g.ok s).trans st) g1 rfl q⟩⟩
/-- list(range(n)) -/
theorem evn_listRg {n : Nat} (h : Ev ta Γ (.int n)) (hn : n ≤ 16777216) : EvN (tLstRg (tRg1 ta)) Γ (rng n) := fun F σ W Q g k => h F σ W _ g fun v H s r => ⟨n, r, RgOk.of_le (by omega) (by omega) (by omega) (by omega), fun q hq => by
  have e : rgV 0 n = (rng n).map scV := by
    unfold rgV rng
    rw [List.map_map]
    refine List.map_congr_left fun i _ => ?_
    show V.int (0 + (i : Int)) = V.int i
    rw [Int.zero_add]
  have l : RepL (W.at H) (rng n) (rgV 0 n) := by
    have := (RepL.ints (W := W.at H) (ns := (List.range n).map fun (i : Nat) => (i : Int)) (vs := rgV 0 n)).mpr (by
      rw [e]; unfold rng; rw [List.map_map, List.map_map]; rfl)
    rw [List.map_map] at this
    exact this
  exact k q _ _ (Same.trans s (same_upd hq)) (s.free hq) upd_same (RepL.plus (W := W.at H) hq (same_upd hq) l)⟩
/-- list(xs), tuple(xs) -/
abbrev rListOf (K : PySem.W.Frag) : List V → Hp → VK → Prop := fun xs H Q => ∃ p ys, xs = [.ref p] ∧ (SqL K H p ys ∨ SqT K H p ys) ∧ ∀ l, H l = none → Q (.ref l) (upd H l (.lst ys))
theorem evn_list (h : EvB ta Γ ds) : EvN (tCB (rListOf K) (tCons ta tNil)) Γ ds := fun F σ W Q g k => h F σ W _ g fun p vs H s e l => ⟨p, vs, rfl, .inl (.of e), fun n hn => k n vs _ (Same.trans s (same_upd hn)) (s.free hn) upd_same (RepL.plus (W := W.at H) hn (same_upd hn) l)⟩
abbrev rTupleOf (K : PySem.W.Frag) : List V → Hp → VK → Prop := fun xs H Q => ∃ p ys, xs = [.ref p] ∧ ((SqL K H p ys ∧ ∀ l, H l = none → Q (.ref l) (upd H l (.tup ys))) ∨ (SqT K H p ys ∧ Q (.ref p) H))
theorem ev_tuple (h : EvB ta Γ ds) : Ev (tCB (rTupleOf K) (tCons ta tNil)) Γ (.tup ds) := fun F σ W Q g k => h F σ W _ g fun p vs H s e l => ⟨p, vs, rfl, .inl ⟨.of e, fun n hn => k _ _ (Same.trans s (same_upd hn)) (rep_new_tup (W := W.at H) (g.same s).ok.dom hn l)⟩⟩
/-- sorted(texts) -/
theorem dl_sortedS {Q : D → Gam → Prop} {r' : List V → Hp → VK → Prop} (h : Dl ta Γ fun d Γ1 => ∃ ys : List Str, d = .lst (ys.map D.str) ∧ ys.length < 64 ∧ ∀ zs : List Str, zs.Perm ys → sortedS zs = true → Q (.lst (zs.map D.str)) Γ1) :
    Dl (tCB (fun xs H Q => r' xs H Q ∨ rSortedS K xs H Q) (tCons ta tNil)) Γ Q := fun F σ W R g k => h F σ W _ g fun v W1 d Γ1 st g1 r ⟨ys, e, hz, q⟩ => by
  subst e
  obtain ⟨p, vs, rfl, e, nu, l⟩ := r
  refine .inr ⟨p, ys, rfl, .of (by rw [e, RepL.strs.mp l]), hz, fun zs n hp hs hn => ?_⟩
  exact k _ (W1.at _) (.lst (zs.map D.str)) Γ1 (st.trans (Stp.of_same g1.ok (same_upd hn))) (g1.same (same_upd hn)) (rep_new_lst g1.ok.dom hn (RepL.strs.mpr rfl)) (q zs hp hs)
theorem opSorted {X : Cx} : CallR X (.builtin "sorted") (fun xs H Q => rSorted X.K xs H Q ∨ rSortedS X.K xs H Q) := cr_sorted.or cr_sortedS
end
end Dw

/-! Rules of the machine that the hand layer lacks: f(k = v) by keywords alone, an attribute as a target within a tuple, count of flat things. -/
namespace Dw
open PySem PySem.Spec PyProof.Rows L2
variable [Tabs0]
section
variable {X : Cx} {CX : CXT} {k : Nat} {f C : Addr} {fd : FuncData} {ps ks : List Str} {sp : Sp} {E : XK} {x m : Str} {p pos apos kpos : Pos} {e o : Expr} {es : List Expr} {kws : List Keyword} {te ta : TE} {t tk : TA} {nm : Option Str}
variable {g : List Value → List Value → List Value} {gV : List V → List V → List V}
end
section
variable {X : Cx} {o : Expr} {f : Str} {pos : Pos} {ta : TE}
/-- x.f as a target -/
def gFld (K : PySem.W.Frag) (ta : TE) (f : Str) : TG := fun y σ H Q => ta σ H fun x H2 => ∃ a C dx fs, x = .ref a ∧ H2 a = some (.ins C dx fs) ∧ Cls K C ∧ NoAttr K C f ∧ fs.length < 1000 ∧ Q σ (upd H2 a (.ins C dx (putF f y fs)))
theorem pg_fld (ha : PE X o ta)
    (hs : ∀ v, assign (.Attribute o f pos) X.env v = (do
      let ov ← holding [v] (eval o X.env)
      standAt pos
      holding [v, ov] (setAttr ov f v)
      release [v, ov] []) := by intro _; rfl) : PG X (.Attribute o f pos) (gFld X.K ta f) := by
  refine ⟨fun pins s σ H v u Q I r h => ?_⟩
  rw [hs]
  refine wpAny_bind (wpAny_holding (thn (ha.run pins s σ H _ I h) fun ov s1 ⟨x, H2, I2, rx, a, C, dx, fs, ex, ea, c, n, l, q2⟩ => ?_))
  subst ex
  obtain rfl : ov = Value.ref a := rx
  refine wpAny_bind (wpAny_standAt (wpAny_bind (wpAny_holding ?_)))
  exact setattr_ok I2 ea c n l r fun s3 I3 => wpAny_release ⟨σ, _, I3, q2⟩
end
/-- xs.count(y), all flat -/
def rCnt (K : PySem.W.Frag) : V → List V → Hp → VK → Prop := fun x xs H Q => ∃ (p : Addr) (ys : List V) (y : V), x = .ref p ∧ xs = [y] ∧ SqL K H p ys ∧ flatV y = true ∧ ys.all flatV = true ∧ Q (.int (ys.countP fun z => eqV z y : Nat)) H
theorem count_eqU {x : V} : ∀ {xs : List V} {us : List Value}, Vals xs us → xs.all flatV = true → us.countP (eqU x) = xs.countP fun y => eqV y x
  | _, _, .nil, _ => rfl
  | _, _, .cons r t, h => by
    rw [List.all_cons, Bool.and_eq_true] at h
    rw [List.countP_cons, List.countP_cons, eqU_of r h.1, count_eqU t h.2]
theorem mt_countX {X : Cx} : MtR X "list.count" (rCnt X.K) := by
  intro pins s σ H x xs v us Q I rx rxs h
  obtain ⟨p, ys, y, rfl, rfl, hs, fy, fys, q⟩ := h
  cases rx
  obtain ⟨u, rfl, ru⟩ := rxs.one
  obtain ⟨its, rv, ⟨⟨cls, dd, data, sl⟩, n, ho, hc, hdn, hd⟩, hlen⟩ := I.list hs
  simp only at hc hd
  subst hc hd
  refine call_meets PySem.F.slot_list_count ⟨_, ho, rfl⟩ PySem.F.entry_list_count (PySem.F.args_list_count_2 _ _)
    (SeqAt.list_countAt p its.toArray n dd sl u (eqU y)) ⟨ho, fun z hz => mem_eqAt ru fy rv fys z (by simpa using hz), ?_⟩
  have ec : its.toArray.toList.countP (eqU y) = ys.countP fun z => eqV z y := count_eqU rv fys
  refine ⟨.int (ys.countP fun z => eqV z y : Nat), H, I.tok _, ⟨s.toks, ?_⟩, q⟩
  show Value.int ((its.toArray.toList.countP (eqU y) : Nat) : Int) s.toks = _
  rw [ec]
end Dw

/-! The same rules with the written part K named (within a comprehension's block it is the def's). -/
namespace Dw
open PySem PySem.Spec PyProof.Rows L2
variable [Tabs0]
section
variable {X : Cx} {K : PySem.W.Frag} {e : Expr} {te ta tb : TE} {pos apos : Pos} {tg o i a : Expr} {t : TA}
theorem ixA (K : PySem.W.Frag) (hK : X.K = K := by rfl) : IxR X (rIx K) := hK ▸ ix_seq
theorem eqA (K : PySem.W.Frag) (hu : X.A.units + 64 < cLine) (hK : X.K = K := by rfl) : OpR X (compareOp .Eq) (rEqX K) := hK ▸ opEq hu
theorem neA (K : PySem.W.Frag) (hu : X.A.units + 64 < cLine) (hK : X.K = K := by rfl) : OpR X (compareOp .NotEq) (rNeX K) := hK ▸ opNe hu
theorem inA (K : PySem.W.Frag) (hK : X.K = K := by rfl) : OpR X (compareOp .In) (rOr (rIn K false) rInS) := hK ▸ opIn
theorem ninA (K : PySem.W.Frag) (hK : X.K = K := by rfl) : OpR X (compareOp .NotIn) (rOr (rIn K true) rNinS) := hK ▸ opNotIn
theorem lenA (K : PySem.W.Frag) (hK : X.K = K := by rfl) : CallR X (.builtin "len") (rLen K) := hK ▸ opLen
theorem allA (K : PySem.W.Frag) (hc : X.calm = true := by rfl) (hK : X.K = K := by rfl) : CallR X (.builtin "all") (rAll K) := hK ▸ cr_all hc
abbrev rSortedX (K : PySem.W.Frag) : List V → Hp → VK → Prop := fun xs H Q => rSorted K xs H Q ∨ rSortedS K xs H Q
theorem sortedA (K : PySem.W.Frag) (hK : X.K = K := by rfl) : CallR X (.builtin "sorted") (rSortedX K) := hK ▸ opSorted
theorem isiA (K : PySem.W.Frag) (hK : X.K = K := by rfl) : CallR X (.builtin "isinstance") (rIsi K) := hK ▸ call_isi
theorem listA (K : PySem.W.Frag) (hK : X.K = K := by rfl) : CallR X (.type "list") (rListOf K) := hK ▸ call_list_of
theorem tupleA (K : PySem.W.Frag) (hK : X.K = K := by rfl) : CallR X (.type "tuple") (rTupleOf K) := hK ▸ call_tuple_of
theorem countA (K : PySem.W.Frag) (hK : X.K = K := by rfl) : MtR X "list.count" (rCnt K) := hK ▸ mt_countX
theorem indexA (K : PySem.W.Frag) (hK : X.K = K := by rfl) : MtR X "list.index" (rIndex K) := hK ▸ mt_index
theorem joinA (K : PySem.W.Frag) (ho : PE X o ta) (he : PE X e te) (hK : X.K = K := by rfl) (hs : starEach [e] X.env = [(false, eval e X.env)] := by rfl) (hbase : attributeBase o "join" X.env (eval o X.env) = eval o X.env := by rfl) (hline : (apos.endLine == pos.line) = true := by rfl) :
    PE X (.Call (.Attribute o "join" apos) [e] [] pos) (tM1 (rJoin K) ta te) := hK ▸ pe_join ho he hs hbase hline
theorem notA (K : PySem.W.Frag) (ha : PE X a ta) (hK : X.K = K := by rfl) : PE X (.UnaryOp .Not a pos) (tNotT K ta) := hK ▸ pe_notT ha
theorem fldA (K : PySem.W.Frag) {f : Str} (he : PE X e ta) (hK : X.K = K := by rfl) (hb : attributeBase e f X.env (eval e X.env) = eval e X.env := by rfl) : PE X (.Attribute e f pos) (tFld K ta f) := hK ▸ pe_fld he hb
theorem truA (K : PySem.W.Frag) (ha : PE X a ta) (hK : X.K = K := by rfl) (he : ∀ whole, isTrue a X.env whole = (do let v ← whole; standAt a.pos; holding [v] (truthy v)) := by intro _; rfl) : PT X a (tTru K ta) := by
  subst hK; exact pt_truth ha he
end
end Dw

/-! Lists of texts as data: their shape, their equality. -/
namespace Dw
open PySem PySem.Spec PyProof.Rows L2
variable [Tabs0]
def okS (x : Str) : Prop := PyData.strOk x = true
theorem canLay_strs : ∀ {xs : List Str}, (∀ x ∈ xs, okS x) → PyData.canLayAll0 (pys (xs.map D.str)) = true
  | [], _ => rfl
  | x :: xs, h => by
    show (PyData.strOk x && PyData.canLayAll0 (pys (xs.map D.str))) = true
    rw [show PyData.strOk x = true from h x List.mem_cons_self, canLay_strs fun y hy => h y (List.mem_cons_of_mem _ hy)]; rfl
theorem depth_strs : ∀ xs : List Str, PyData.depthAll (pys (xs.map D.str)) = 0
  | [] => rfl
  | x :: xs => by
    show max 0 (PyData.depthAll (pys (xs.map D.str))) = 0
    rw [depth_strs xs]; rfl
theorem isPys_strs : ∀ xs : List Str, isPys (xs.map D.str) = true
  | [] => rfl
  | x :: xs => by
    show (true && isPys (xs.map D.str)) = true
    rw [isPys_strs xs]; rfl
theorem shaped_lst {xs : List Str} (h : ∀ x ∈ xs, okS x) : SeqAt.shaped (py (.lst (xs.map D.str))) = true := by
  show (PyData.canLayAll0 (pys (xs.map D.str)) && decide (PyData.depthAll (pys (xs.map D.str)) + 1 ≤ 64)) = true
  rw [canLay_strs h, depth_strs]; rfl
theorem eqv_strs : ∀ xs ys : List Str, PyData.eqvAll (pys (xs.map D.str)) (pys (ys.map D.str)) = decide (xs = ys)
  | [], [] => rfl
  | [], y :: ys => by
    show false = _
    simp
  | x :: xs, [] => by
    show false = _
    simp
  | x :: xs, y :: ys => by
    show ((x == y) && PyData.eqvAll (pys (xs.map D.str)) (pys (ys.map D.str))) = _
    rw [eqv_strs xs ys, Bool.eq_iff_iff]
    simp
section
variable {K : PySem.W.Frag} {xs ys : List Str} {ta tb : TE} {Γ : Gam}
theorem eq_strsL (h1 : ∀ x ∈ xs, okS x) (h2 : ∀ x ∈ ys, okS x) : DR2 (rEqX K) (.lst (xs.map D.str)) (.lst (ys.map D.str)) (.bl (decide (xs = ys))) := by
  have := eq_deep (K := K) (p := .lst (xs.map D.str)) (q := .lst (ys.map D.str)) (isPys_strs xs) (isPys_strs ys) (shaped_lst h1) (shaped_lst h2)
  rw [show PyData.eqv (py (.lst (xs.map D.str))) (py (.lst (ys.map D.str))) = PyData.eqvAll (pys (xs.map D.str)) (pys (ys.map D.str)) from rfl, eqv_strs] at this
  exact this
end
/-- a text of one sign -/
def ch (c : Nat) : Str := ⟨#[c]⟩
theorem ch_eq {a b : Nat} : ch a = ch b ↔ a = b := by
  constructor
  · intro h
    have : (#[a] : Array Nat) = #[b] := congrArg Str.cps h
    simpa using this
  · rintro rfl; rfl
theorem okS_ch {c : Nat} (h : c < 1114112) : okS (ch c) := by
  show (#[c] : Array Nat).all (fun x => decide (x < 0x110000)) = true
  simp [h]
/-- a text of its codes -/
def tx (l : List Nat) : Str := ⟨l.toArray⟩
theorem tx_len (l : List Nat) : (tx l).length = l.length := by show l.toArray.size = _; simp
theorem tx_cps (l : List Nat) : (tx l).cps.toList = l := by show l.toArray.toList = l; simp
theorem tx_eq {a b : List Nat} : tx a = tx b ↔ a = b := by
  constructor
  · intro h
    have := congrArg (fun x : Str => x.cps.toList) h
    simpa [tx_cps] using this
  · rintro rfl; rfl
theorem okS_tx {l : List Nat} (h : ∀ c ∈ l, c < 1114112) : okS (tx l) := by
  show l.toArray.all (fun x => decide (x < 0x110000)) = true
  simp
  exact h
theorem of_tx (x : Str) : x = tx x.cps.toList := by
  obtain ⟨⟨l⟩⟩ := x
  rfl
theorem tx_append (a b : List Nat) : tx a ++ tx b = tx (a ++ b) := by
  show (⟨a.toArray ++ b.toArray⟩ : Str) = ⟨(a ++ b).toArray⟩
  simp
theorem signs_tx (l : List Nat) : signs (tx l) = (l.map ch).map D.str := by
  unfold signs
  rw [tx_cps, List.map_map]
  rfl
end Dw

/-! More rules of the machine: () + t, a range that is kept, enumerate of a tuple, first, *rest = a list. -/
namespace Dw
open PySem PySem.Spec PyProof.Rows L2
variable [Tabs0]
section
variable {X : Cx}
/-! ### () + t -/
abbrev rCatE (K : PySem.W.Frag) : R2 := fun x y H Q => ∃ a b ys, x = .ref a ∧ y = .ref b ∧ SqT K H a [] ∧ SqT K H b ys ∧ Q (.ref b) H
theorem op_catE : OpR X (binaryOp .Add) (rCatE X.K) := by
  intro pins s σ H x y v u Q I rx ry ⟨a, b, ys, ex, ey, ha, hb, q⟩
  subst ex; subst ey
  cases rx; cases ry
  obtain ⟨i1, v1, t1, _⟩ := I.tuple ha
  obtain ⟨i2, v2, t2, _⟩ := I.tuple hb
  cases v1
  obtain ⟨o1, g1, c1, n1, d1⟩ := t1
  obtain ⟨o2, g2, c2, n2, d2⟩ := t2
  obtain ⟨oc1, od1, da1, sl1⟩ := o1
  obtain ⟨oc2, od2, da2, sl2⟩ := o2
  simp only at c1 d1 c2 d2
  subst c1; subst d1; subst c2; subst d2
  exact concat_meets ⟨_, g1, rfl⟩ ⟨_, g2, rfl⟩ noFill_tuple_add seq_tuple_add PySem.F.slot_tuple_add PySem.F.entry_tuple_add
    (PySem.F.args_tuple_add_2 _ _) (tuple_addW0 a b _ _ n1 n2 od1 od2 sl1 sl2 rfl) ⟨g1, g2, ⟨.ref b, H, I, rfl, q⟩⟩
abbrev rPlusE (K : PySem.W.Frag) : R2 := rOr (rPlus K) (rCatE K)
theorem plusE (K : PySem.W.Frag) (hK : X.K = K := by rfl) : OpR X (binaryOp .Add) (rPlusE K) := hK ▸ opPlus.or op_catE
variable {K : PySem.W.Frag} {ds es : List D} {i j : Int} {x y : Str} {ta tb : TE} {Γ : Gam}
theorem pl_int : DR2 (rPlusE K) (.int i) (.int j) (.int (i + j)) := dr2_l plus_int
theorem pl_str (h : x.length + y.length ≤ sizeLine) : DR2 (rPlusE K) (.str x) (.str y) (.str (x ++ y)) := dr2_l (plus_str h)
theorem pl_lst (h : ds.length + es.length ≤ sizeLine) : DR2 (rPlusE K) (.lst ds) (.lst es) (.lst (ds ++ es)) := dr2_l (plus_lst h)
theorem pl_tup (h : ds.length + es.length ≤ sizeLine) : DR2 (rPlusE K) (.tup ds) (.tup es) (.tup (ds ++ es)) := by
  by_cases n : ds = []
  · subst n
    exact dr2_r (dr2_flat fun W u v Q ⟨a, vs, e1, h1, n1, l1⟩ b k => by
      obtain ⟨c, ws, e2, h2, n2, l2⟩ := id b
      rw [show vs = [] from l1] at h1
      exact ⟨a, c, ws, e1, e2, h1.sq, h2.sq, by rw [← e2]; exact k v b⟩)
  · exact dr2_l (plus_tup n h)
theorem pl_evn (ha : EvB ta Γ ds) (hb : EvB tb Γ es) (h : ds.length + es.length ≤ sizeLine) : EvN (tOp (rPlusE K) ta tb) Γ (ds ++ es) := fun F σ W Q g k => ha F σ W _ g fun p vs H s e l => hb F σ (W.at H) _ (g.same s) fun q ws H' s' e' l' =>
  .inl (.inr (.inr (.inl ⟨p, q, vs, ws, rfl, rfl, s' _ _ e, e', by rw [← l.length, ← l'.length]; exact h, fun n hn =>
    k n (vs ++ ws) _ (Same.trans s (Same.trans s' (same_upd hn))) (s.free (s'.free hn)) upd_same (RepL.plus (W := W.at H') hn (same_upd hn) ((RepL.same (W := W.at H) s' l).append l'))⟩)))

/-! ### range(n), kept -/
def iRgO (te : TE) : TI := fun σ H R => te σ H fun x H1 => ∃ p lo hi, x = .ref p ∧ H1 p = some (.rng lo hi) ∧ (-(2 ^ 62) ≤ lo ∧ lo < 2 ^ 62 ∧ -(2 ^ 62) ≤ hi ∧ hi < 2 ^ 62) ∧ R (Itr lo (hi - lo).toNat) H1
theorem pi_rgO {tg l : Expr} {te : TE} (hl : PE X l te) : PI X tg l (iRgO te) := by
  refine ⟨fun pins s σ H R I h => thn (hl.run pins s σ H _ I h) fun v s1 ⟨x, H1, I1, r1, q1⟩ => ?_⟩
  obtain ⟨p, lo, hi, ex, hp, ⟨b1, b2, b3, b4⟩, q⟩ := q1
  subst ex
  cases r1
  obtain ⟨t, u, w, hr⟩ := I1.hok p _ hp
  have hr' : IsRange s1.heap p lo hi 1 t u w := hr
  refine wpAny_pyIter_range hr' (small_one b1 b2 b3 b4) ?_
  refine ⟨s1.heap.objs.size, [s1.heap.objs.size], _, _, H1, rfl, I1.kept (t' := s1.toks) fun b o e => Heap.get?_push_of_some _ e, turn_range _ lo (hi - lo).toNat, ?_, fun b hb => ?_, q⟩
  · have e1 : lo + ((0 : Nat) : Int) * 1 = lo := by simp
    have e2 : (((hi - lo).toNat : Nat) : Int) - ((0 : Nat) : Int) = Builtin.Range.rangeSize lo hi 1 := by rw [rangeSize_one]; split <;> omega
    show IsRangeIter _ _ (lo + ((0 : Nat) : Int) * 1) (_ - _) 1
    rw [e1, e2]
    exact Heap.get?_push_size _ rfl
  · obtain rfl : b = s1.heap.objs.size := by simpa using hb
    exact I1.fpOk (Nat.le_refl _) (I1.hok.fresh (Nat.le_refl _))
abbrev iAnyR (K : PySem.W.Frag) (t : TE) : TI := fun σ H R => iAny K t σ H R ∨ iRgO t σ H R
theorem piR (K : PySem.W.Frag) {tg e : Expr} {te : TE} (h : PE X e te) (hK : X.K = K := by rfl) : PI X tg e (iAnyR K te) := hK ▸ pi_or (pi_any h) (pi_rgO h)
theorem ej_list {xs : List D} (h : EvB ta Γ xs) : Ei (iAnyR K ta) Γ xs := ei_l (eia_list h)
theorem ej_tup {xs : List D} (h : Ev ta Γ (.tup xs)) : Ei (iAnyR K ta) Γ xs := ei_l (eia_tup h)
theorem ej_str (h : Ev ta Γ (.str x)) : Ei (iAnyR K ta) Γ (signs x) := ei_l (eia_str h)
theorem dj_list {Q : List D → Gam → Prop} (h : Dl ta Γ fun d Γ1 => ∃ xs, d = .lst xs ∧ Q xs Γ1) : Di (iAnyR K ta) Γ Q := di_l (dia_list h)
/-! ### first, *rest = xs -/
theorem unpack_star1 {prog : Program} {w : World} {A : Around} {E : Value → Shared → Prop} {s : Shared} {l : Addr} {b : Value} {its : List Value} {Q : List Value → Shared → Prop} (hl : s.heap.IsList l (b :: its).toArray) (hh : A.handled = none)
    (hz : its.length ≤ 16000) (h : ∀ (h1 : Heap) (tk : Nat), (∀ c o, s.heap.get? c = some o → h1.get? c = some o) → Q [b, .ref h1.objs.size] { s with heap := h1.push { cls := .type "list", data := .seq its.toArray }, toks := tk }) :
    wpAny (model prog w) A (unpackItems (.ref l) 2 (some 1)) Q E s := by
  have lt : l < s.heap.objs.size := by obtain ⟨o, ho, _⟩ := hl; exact Heap.lt_size ho
  have ne : l ≠ s.heap.objs.size := Nat.ne_of_lt lt
  unfold unpackItems notIterableAtAll
  refine wpAny_bind (wpAny_bind (wpAny_specialOf hl.typeIs slot_list_iter.lookup (wpAny_pure ?_)))
  simp only [Bool.false_eq_true, if_false]
  refine wpAny_bind (wpAny_holding (wpAny_pyIter_list hl ?_))
  refine wpAny_bind (wpAny_holding (PySem.W.kun_draw ne 1 0 _ _ ⟨_, Heap.get?_push_size _ rfl, rfl, rfl⟩ (hl.push _) (by simp) fun ha hit hs => ?_))
  have hla : ha.IsList l (b :: its).toArray := (hl.push _).extBut hs.extBut ne
  rw [Nat.zero_add] at hit
  obtain ⟨oi, hoi, _⟩ := id hit
  obtain ⟨ol, hol, _⟩ := id hla
  rw [if_neg (show ¬ (((b :: its).toArray.toList.drop 0).take 1).length < 1 by simp)]
  refine wpAny_bind (wpAny_holding (PySem.W.kun_collect (s := { s with heap := ha }) (T := "list_iterator") (.inr (.inr (.inl rfl))) (Walks.list (A := A.in1) hh s.heap.objs.size l ne _) (fun j u st => st.1.typeIs) (k := 1) (by simp) ⟨hit, hla⟩
    (Heap.lt_size hoi) (Heap.lt_size hol) (fun hb tk kp => ?_) (by rw [sizeLine_eq]; simp; omega)))
  show wpAny _ _ (if its.length < 0 then _ else _) _ _ _
  rw [if_neg (Nat.not_lt_zero _)]
  show wpAny _ _ (newList (its.take (its.length - 0)) >>= fun d => pure ([b] ++ [d] ++ its.drop (its.length - 0))) _ _ _
  rw [Nat.sub_zero, List.take_length, List.drop_length]
  have k2 : ∀ c o, s.heap.get? c = some o → hb.get? c = some o := fun c o e => kp c o (Nat.ne_of_lt (Heap.lt_size e)) (hs.extBut c o (Nat.ne_of_lt (Heap.lt_size e)) (Heap.get?_push_of_some _ e))
  unfold newList
  refine wpAny_bind (wpAny_newObj_type (wpAny_pure ?_) (by show its.toArray.size ≤ sizeLine; rw [sizeLine_eq, List.size_toArray]; omega))
  exact h hb tk k2
def gStar1 (K : PySem.W.Frag) (g1 g2 : TG) : TG := fun v σ H Q => ∃ a z zs, v = .ref a ∧ SqL K H a (z :: zs) ∧ zs.length ≤ 16000 ∧ ∀ p, H p = none → g1 z σ (upd H p (.lst zs)) fun σ1 H1 => g2 (.ref p) σ1 H1 Q
theorem pg_star1 (hc : X.calm = true) {e1 e2 : Expr} {g1 g2 : TG} {k : Nat} {pos sp : Pos} (h1 : PG X e1 g1) (h2 : PG X e2 g2) (hlen : (assignEach [e1, .Starred e2 sp] X.env).length = 2 := by rfl)
    (hst : (assignEach [e1, .Starred e2 sp] X.env).findIdx? (·.1) = some 1 := by rfl) (hm : (assignEach [e1, .Starred e2 sp] X.env).map (·.2) = [assign e1 X.env, assign e2 X.env] := by rfl) :
    PG X (.Tuple [e1, .Starred e2 sp] k pos) (gStar1 X.K g1 g2) := by
  refine ⟨fun pins s σ H v u Q I r hw => ?_⟩
  obtain ⟨a, z, zs, ev, hq, hl, hw⟩ := hw
  subst ev
  cases r
  obtain ⟨its, rv, pl, hz⟩ := I.list hq
  cases rv with
  | cons rz rr =>
    rename_i b l
    rw [assign_Tuple]
    refine wpAny_bind (wpAny_standAt ?_)
    unfold unpack
    rw [hlen, hst, hm]
    refine wpAny_bind (wpAny_holding (unpack_star1 pl.isList (I.ok.hd hc) (by rw [← rr.length]; exact hl) fun ha tk kp => ?_))
    have I1 : Inv X pins σ H { s with heap := ha, toks := tk } := I.kept kp
    have I2 := I1.laid (t' := tk) (o := .lst zs) (h' := ha.push { cls := .type "list", data := .seq l.toArray }) (fun c o e => Heap.get?_push_of_some _ e) (Nat.le_refl _)
      ⟨by have hz' : zs.length + 1 ≤ sizeLine := hz
          omega, l, 0, rr, Heap.get?_push_size _ rfl⟩
    refine assignInOrder_cons (thn (h1.run pins _ σ _ z b _ I2 rz (hw _ (I1.hok.fresh (Nat.le_refl _)))) fun _ s3 ⟨σ3, H3, I3, q3⟩ => ?_)
    exact assignInOrder_cons (thn (h2.run pins s3 σ3 H3 (.ref ha.objs.size) _ Q I3 rfl q3) fun _ s4 ⟨σ4, H4, I4, q4⟩ => assignInOrder_nil ⟨σ4, H4, I4, q4⟩)
end
end Dw

/-! enumerate of a tuple. -/
namespace Dw
open PySem PySem.Spec PyProof.Rows L2
variable [Tabs0]
end Dw

/-! for i, x in enumerate(a tuple). -/
namespace Dw
open PySem PySem.Spec PyProof.Rows L2
variable [Tabs0]
theorem zipA (K : PySem.W.Frag) {X : Cx} {e e2 : Expr} {ta : TA} {p pos tpos : Pos} {elts : List Expr} {kk : Nat} (hg : Gl X "zip") (hm : X.mg "zip" = none) (ha : PA X [e, e2] ta) (hK : X.K = K := by rfl)
    (hs : starEach [e, e2] X.env = (false, eval e X.env) :: starEach [e2] X.env := by rfl) (hpl : (backTo pos (starEach [e2] X.env)).any (·.1) = false := by rfl) :
    PI X (.Tuple elts kk tpos) (.Call (.Name "zip" p) [e, e2] [] pos) (RZ.iZipA K ta) := hK ▸ RZ.pi_zipA hg hm ha hs hpl
/-! ### over data -/
section
variable {K : PySem.W.Frag} {Γ : Gam} {ta : TE} {xs ys : List D}
end
end Dw

/-! zip, slices, fields, isinstance, over data. -/
namespace Dw
open PySem PySem.Spec PyProof.Rows L2
variable [Tabs0]
def zipD (xs ys : List D) : List D := (xs.zip ys).map fun p => .tup [p.1, p.2]
theorem zipD_get {xs ys : List D} {i : Nat} {d : D} (h : (zipD xs ys)[i]? = some d) : ∃ x y, xs[i]? = some x ∧ ys[i]? = some y ∧ d = .tup [x, y] := by
  unfold zipD at h
  rw [List.getElem?_map] at h
  cases q : (xs.zip ys)[i]? with
  | none => rw [q] at h; cases h
  | some p =>
    rw [q] at h
    rw [List.getElem?_zip_eq_some] at q
    exact ⟨p.1, p.2, q.1, q.2, (Option.some.inj h).symm⟩
theorem zipD_length (xs ys : List D) : (zipD xs ys).length = min xs.length ys.length := by simp [zipD]
section
variable {K : PySem.W.Frag} {Γ : Gam} {ta tb te : TE} {xs ys ds : List D} {d : D}
theorem ei_zipT (h1 : Ev ta Γ (.tup xs)) (h2 : Ev tb Γ (.tup ys)) : Ei (RZ.iZipA K (tCons ta (tCons tb tNil))) Γ (zipD xs ys) := fun F σ W R g k => h1 F σ W _ g fun v H s ⟨a, vs, ev, ha, nu, l⟩ => h2 F σ (W.at H) _ (g.same s) fun u H' s' ⟨b, ws, eu, hb, nu', l'⟩ => by
  subst ev; subst eu
  have ha' := ha.same s'
  refine ⟨a, b, vs, ws, rfl, .inr ⟨ha'.sq, hb.sq, k (RZ.ItzT K a b) H' (Same.trans s s') ⟨fun W2 i x dm s2 ku pu hx => ?_, fun H2 s2 => ?_⟩⟩⟩
  · obtain ⟨x, y, hx1, hy, rfl⟩ := zipD_get hx
    obtain ⟨v, hv, rv⟩ := (RepL.same (W := W.at H) s' l).get hx1
    obtain ⟨u, hu, ru⟩ := l'.get hy
    have a2 := ha'.same s2
    have b2 := hb.same s2
    refine ⟨⟨vs, ws, v, u, a2.sq, b2.sq, hv, hu⟩, fun z H3 ⟨T, p, q, ez, hT, eH, hp, hq⟩ => ?_⟩
    subst ez; subst eH
    have e1 := hp vs a2.sq
    have e2 := hq ws b2.sq
    rw [hv] at e1; cases e1
    rw [hu] at e2; cases e2
    have mv : ∀ {d v}, Rep (W.at H') d v → Rep W2 d v := fun {d v} r => Rep.mono (W := W.at H') (W' := W2) (fun b u e n => ⟨s2 b u e, ku b u e n⟩) (fun b z => by rw [pu]; exact z) d v r
    exact ⟨same_upd hT, rep_new_tup dm hT ⟨_, _, rfl, mv rv, _, _, rfl, mv ru, rfl⟩⟩
  · refine ⟨vs, ws, (ha'.same s2).sq, (hb.same s2).sq, ?_⟩
    rw [zipD_length, ← l.length, ← l'.length]
    omega
/-! ### slices -/
def Eo (t : TO) (Γ : Gam) (o : Option Int) : Prop := ∀ (F : Addr → Prop) (σ : L2.St) (W : Wd) (Q : Option Int → Hp → Prop), SR F Γ σ W → (∀ H, Same W.H H → Q o H) → t σ W.H Q
theorem eo_none : Eo tNoPart Γ none := fun F σ W Q g k => k W.H (Same.refl _)
theorem eo_some {i : Int} (h : Ev te Γ (.int i)) : Eo (tPart te) Γ (some i) := fun F σ W Q g k => h F σ W _ g fun v H s r => ⟨i, r, k H s⟩
/-- xs[lo:hi] -/
def cutD (xs : List D) (lo hi : Option Int) : List D := (xs.drop (HT.sIx xs.length 0 lo)).take (HT.sIx xs.length xs.length hi - HT.sIx xs.length 0 lo)
theorem repL_cut {W : Wd} {vs : List V} {lo hi : Option Int} (l : RepL W ds vs) : RepL W (cutD ds lo hi) (cutV vs lo hi) := by
  unfold cutD cutV
  rw [l.length]
  exact (l.drop _).take _
/-! ### fields -/
theorem ev_fld {C : Addr} {ns : List Str} {f : Str} (cl : Cls K C) (na : NoAttr K C f) (h : Ev ta Γ (.obj C ns ds)) (hl : (ns.zip ds).lookup f = some d) : Ev (tFld K ta f) Γ d := fun F σ W Q g k => h F σ W _ g fun v H s ⟨a, dx, vs, ev, e, nu, l, r⟩ => by
  subst ev
  have key : ∀ (ns : List Str) (ds : List D) (vs : List V), RepL (W.at H) ds vs → (ns.zip ds).lookup f = some d → ∃ v, (ns.zip vs).lookup f = some v ∧ Rep (W.at H) d v := by
    intro ns
    induction ns with
    | nil => intro ds vs _ q; simp at q
    | cons n ns ih =>
      intro ds vs r q
      cases ds with
      | nil => simp at q
      | cons e ds =>
        obtain ⟨v, rr, rfl, r1, r2⟩ := r
        rw [List.zip_cons_cons, List.lookup_cons] at q ⊢
        cases hb : f == n with
        | true =>
          rw [hb] at q
          exact ⟨v, rfl, by rw [← Option.some.inj q]; exact r1⟩
        | false =>
          rw [hb] at q
          exact ih ds rr r2 q
  obtain ⟨v, hv, rv⟩ := key ns ds vs r hl
  exact ⟨a, C, dx, _, v, rfl, e, cl, na, hv, k v H s rv⟩
/-! ### isinstance with one class -/
/-- a value's type, as the fragment's deciders take it -/
def tyD : D → Value
  | .non => .type "NoneType" | .bl _ => .type "bool" | .int _ => .type "int" | .str _ => .type "str" | .tup _ => .type "tuple" | .tupN _ => .type "tuple" | .lst _ => .type "list" | .dct _ _ => .type "dict" | .obj C _ _ => .ref C | _ => .none
structure InsOk (K : PySem.W.Frag) (C : Addr) : Prop where
  cl : Cls K C
  ha : PySem.W.findIn K (.ref C) "__class__" = some (some (.builtin "object.__class__"))
  hn : PySem.W.specialIn K (.builtin "object.__class__") "__get__" = some (some (.builtin "getset_descriptor.__get__"))
  ht : PySem.W.takesIn K (.builtin "object.__class__") = some true
  hm : PySem.W.mroIn K C (.type "object") = some true
def hasTy : D → Bool
  | .raw _ => false | .purse => false | .rng _ _ => false | .obj _ _ _ => false | .scr _ _ => false | .tag _ => false | .tupN _ => false | _ => true
theorem ty_of {W : Wd} {v : V} (r : Rep W d v) (h : hasTy d = true ∨ ∃ C ns ds, d = .obj C ns ds ∧ InsOk K C) : TyX K W.H v (tyD d) := by
  cases d with
  | non => rw [show v = V.non from r]; exact .base .non
  | bl b => rw [show v = V.bl b from r]; exact .base (.bl b)
  | int b => rw [show v = V.int b from r]; exact .base (.int b)
  | str b => rw [show v = V.str b from r]; exact .base (.str b)
  | tup ds =>
    obtain ⟨a, vs, ev, e, _⟩ := r
    rw [ev]
    exact e.elim (fun e => .base (.tup e)) fun ⟨o, e⟩ => .fTuple e
  | tupN ds => obtain ⟨a, vs, ev, ⟨o, e, _⟩, _⟩ := r; rw [ev]; exact .fTuple e
  | lst ds => obtain ⟨a, vs, ev, e, _⟩ := r; rw [ev]; exact .base (.lst e)
  | dct ks ds => obtain ⟨a, vs, ev, e, _⟩ := r; rw [ev]; exact .base (.dK e)
  | obj C ns ds =>
    obtain ⟨a, dx, vs, ev, e, _⟩ := r
    rcases h with h | ⟨C', ns', ds', q, o⟩
    · cases h
    · cases q; rw [ev]; exact .base (.ins e o.cl o.ha o.hn o.ht o.hm)
  | raw _ => rcases h with h | ⟨_, _, _, q, _⟩ <;> first | cases h | cases q
  | scr _ _ => rcases h with h | ⟨_, _, _, q, _⟩ <;> first | cases h | cases q
  | tag _ => rcases h with h | ⟨_, _, _, q, _⟩ <;> first | cases h | cases q
  | purse => rcases h with h | ⟨_, _, _, q, _⟩ <;> first | cases h | cases q
  | rng _ _ => rcases h with h | ⟨_, _, _, q, _⟩ <;> first | cases h | cases q
theorem ev_isi {c : V} {u : Value} {b : Bool} (h : Ev ta Γ d) (hc : Ev tb Γ (.raw c)) (hd : hasTy d = true ∨ ∃ C ns ds, d = .obj C ns ds ∧ InsOk K C) (hv : ClsV c u) (hk : PySem.W.kitOne K (tyD d) u = some b) : Ev (tCB (rIsi K) (tCons ta (tCons tb tNil))) Γ (.bl b) := fun F σ W Q g k =>
  h F σ W _ g fun v H s r => hc F σ (W.at H) _ (g.same s) fun w H' s' rc => ⟨v, c, tyD d, u, b, by rw [show w = c from rc], hv, ty_of (Rep.same (W := W.at H) s' r) hd, hk, k _ H' (Same.trans s s') rfl⟩
end
end Dw
namespace Dw
open PySem PySem.Spec PyProof.Rows L2
variable [Tabs0]
theorem tupA (K : PySem.W.Frag) (n : Nat) {X : Cx} {pos : Pos} {es : List Expr} {k : Nat} {t : TGs} (hc : X.calm = true) (h : PGs X es t) (hK : X.K = K := by rfl)
    (hn : (assignEach es X.env).length = n := by rfl) (hst : (assignEach es X.env).findIdx? (·.1) = none := by rfl) : PG X (.Tuple es k pos) (gTup K n t) := hK ▸ pg_tup hc h hn hst
/-- a purse is drawn from -/
theorem purse_step {F : Addr → Prop} {W : Wd} {a : Addr} {x y : Int} (ok : WOk F W) (hp : W.P a) (nn : Tabs0.nm a = none) (hx : 0 ≤ x) (hy : 0 ≤ y) (hy2 : y < 2147483647) :
    Stp F W (W.at (upd W.H a (.lst [.int x, .int y]))) ∧ WOk F (W.at (upd W.H a (.lst [.int x, .int y]))) := by
  obtain ⟨u, f, oa⟩ := ok.pu a hp
  obtain ⟨_, _, _, _, _, ha⟩ := oa.purse nn
  have up : ∀ b, b ≠ a → (upd W.H a (.lst [.int x, .int y])) b = W.H b := fun b hb => upd_ne hb
  refine ⟨⟨fun b o e n => ⟨?_, n⟩, rfl, fun b h => up b fun z => f (by rw [← z]; exact h)⟩, ⟨fun b h z => ?_, ok.fu, fun b h => ?_⟩⟩
  · show (upd W.H a _) b = _
    rw [up b fun z => n (by rw [z]; exact u)]
    exact e
  · have z : (upd W.H a (.lst [.int x, .int y])) b = none := z
    by_cases hb : b = a
    · rw [hb, upd_same] at z; cases z
    · rw [up b hb] at z; exact ok.dom b h z
  · obtain ⟨u', f', o⟩ := ok.pu b h
    refine ⟨u', f', ?_⟩
    by_cases hb : b = a
    · rw [hb]; exact .of ⟨x, y, hx, hy, hy2, upd_same⟩ nn
    · exact o.upd (no_ext ha) hb
end Dw

/-! Joined texts as codes; a written dict that is asked at once. -/
namespace Dw
open PySem PySem.Spec PyProof.Rows L2
variable [Tabs0]
theorem joinL_nil : ∀ ls : List (List Nat), TL.joinL [] ls = ls.flatten
  | [] => rfl
  | [p] => by simp [TL.joinL]
  | p :: q :: r => by
    show p ++ ([] ++ TL.joinL [] (q :: r)) = _
    rw [List.nil_append, joinL_nil (q :: r)]; rfl
theorem join_tx (a : List Nat) (ys : List (List Nat)) : Txt.join (tx a) (ys.map tx) = tx (TL.joinL a ys) := SX.join_S a ys
theorem flat_chs (l : List Nat) : (l.map fun c => [c]).flatten = l := by
  induction l with
  | nil => rfl
  | cons c l ih => rw [List.map_cons, List.flatten_cons, ih]; rfl
theorem join_chs (l : List Nat) : Txt.join (Str.ofString "") (l.map ch) = tx l := by
  have e : l.map ch = (l.map fun c => [c]).map tx := by rw [List.map_map]; rfl
  have e0 : Str.ofString "" = tx [] := by decide +kernel
  rw [e, e0, join_tx, joinL_nil, flat_chs]
theorem chs_len (l : List Nat) : ((l.map ch).map (·.length)).sum = l.length := by
  induction l with
  | nil => rfl
  | cons c l ih =>
    rw [List.map_cons, List.map_cons, List.sum_cons, ih, List.length_cons]
    show 1 + l.length = _
    omega
section
variable {Γ : Gam} {K : PySem.W.Frag} {ty : TE} {x y : Str}
def dispP (kvs : List (Str × Str)) : List (TE × TE) := kvs.map fun p => (tC (.str p.1), tC (.str p.2))
theorem tPairs_disp (σ : L2.St) (H : Hp) : ∀ (kvs : List (Str × Str)) (Q : List (V × V) → Hp → Prop), Q (kvs.map fun p => (V.str p.1, V.str p.2)) H → tPairs (dispP kvs) σ H Q
  | [], Q, h => h
  | (a, b) :: kvs, Q, h => tPairs_disp σ H kvs (fun ps H3 => Q ((V.str a, V.str b) :: ps) H3) h
theorem ev_dget {trs : List (TE × TE)} (kvs : List (Str × Str)) (ht : trs = dispP kvs) (hl : kvs.length ≤ 15) (h : Ev ty Γ (.str x))
    (hv : valV (mergeK [] (kvs.map fun p => ((Sum.inr p.1 : Key), V.str p.2))) (Sum.inr x) = some (.str y)) : Ev (tDGet (tDisp trs) ty) Γ (.str y) := fun F σ W Q g k => by
  subst ht
  refine fun p hp => tPairs_disp σ _ kvs _ ⟨upd_same, kvs.map fun p => ((Sum.inr p.1 : Key), V.str p.2), by rw [List.map_map]; rfl, by rw [List.length_map]; exact hl, ?_⟩
  rw [upd_upd]
  have sm : Same W.H (upd W.H p (.dK (mergeK [] (kvs.map fun p => ((Sum.inr p.1 : Key), V.str p.2))))) := same_upd hp
  refine h F σ (W.at _) _ (g.same sm) fun v H2 s2 r => ⟨p, .str y, rfl, ?_, k _ H2 (Same.trans sm s2) rfl⟩
  rw [show v = V.str x from r, ← hv]
  exact DGet.k (k := Sum.inr x) (s2 _ _ upd_same)
end
end Dw

/-! Chains of comparisons, dicts of the module, properties, texts cut, objects made. -/
namespace Dw
open PySem PySem.Spec PyProof.Rows L2
variable [Tabs0]
section
variable {Γ : Gam} {K : PySem.W.Frag} {w : World} {ta tb tc te tv : TE} {t : TA} {x y z d : D} {ds : List D} {a b : Str} {C ad : Addr} {E : XK} {s : Spc}
theorem ev_chain {r r' : R2} {p q : Bool} (ha : Ev ta Γ x) (hb : Ev tb Γ y) (hc : p = true → Ev tc Γ z) (h1 : DR2 r x y (.bl p)) (h2 : p = true → DR2 r' y z (.bl q)) : Ev (tChain r r' ta tb tc) Γ (.bl (p && q)) := fun F σ W Q g k =>
  ha F σ W _ g fun u H s ru => hb F σ (W.at H) _ (g.same s) fun v H1 s1 rv => by
    refine h1 (W.at H1) u v _ ((g.same s).same s1).ok.dom (ru.same (W := W.at H) s1) rv fun o H2 s2 ro => ⟨p, ro, ?_⟩
    have s02 : Same W.H H2 := Same.trans s (Same.trans s1 s2)
    cases p with
    | false => exact ite2 (fun h => nomatch h) fun _ => k _ H2 s02 rfl
    | true =>
      refine ite2 (fun _ => ?_) fun h => absurd rfl h
      refine hc rfl F σ (W.at H2) _ (g.same s02) fun e H3 s3 re => ?_
      exact h2 rfl (W.at H3) v e _ ((g.same s02).same (W := W.at H2) s3).ok.dom ((rv.same (W := W.at H1) s2).same (W := W.at H2) s3) re fun o' H4 s4 ro' => k _ H4 (Same.trans s02 (Same.trans s3 s4)) ro'
theorem evt_chain {r r' : R2} {p q : Bool} (ha : Ev ta Γ x) (hb : Ev tb Γ y) (hc : p = true → Ev tc Γ z) (h1 : DR2 r x y (.bl p)) (h2 : p = true → DR2 r' y z (.bl q)) : EvT (tTest (tChain r r' ta tb tc)) Γ (p && q) := evt_test (ev_chain ha hb hc h1 h2)
/-- a property of an object -/
theorem ev_prop {x : s.ty} {ns : List Str} (h : Ev ta Γ (.obj C ns ds)) (ha : s.args x = [.obj C ns ds]) (np : noPs (s.args x) = true) (ok : s.ok x) (hd : ∀ d', s.rel x d' → d' = d) : Ev (tProp C (toSp s) [] E ta) Γ d := fun F σ W R g k => h F σ W _ g fun v H st r => by
  obtain ⟨a, dx, vs, ev, e, nu, l, rl⟩ := r
  refine ⟨a, dx, _, ev, e, ?_⟩
  have rr : RepL (W.at H) (s.args x) [v] := by rw [ha]; exact RepL.one ⟨a, dx, vs, ev, e, nu, l, rl⟩
  rw [← ev]
  exact pure_call (W := W.at H) (g.same st) (fun _ z => z) (RepL.delP _ _ np rr) ok fun d' v H' hd' s' r' => by
    rw [hd d' hd'] at r'
    exact k v H' (Same.trans st s') (Rep.addP (W := W) r')
theorem evn_split (ha : Ev ta Γ (.str a)) (hb : Ev tb Γ (.str b)) (hn : (b.length == 0) = false) (hz : a.length + 2 ≤ sizeLine) :
    EvN (tM1 (fun x xs H Q => ∃ a b, x = .str a ∧ xs = [.str b] ∧ (b.length == 0) = false ∧ a.length + 2 ≤ sizeLine ∧ rNewStrs (Txt.split a b) H Q) ta tb) Γ ((Txt.split a b).map D.str) := fun F σ W Q g k =>
  ha F σ W _ g fun v H s r => ⟨⟨a, r⟩, hb F σ (W.at H) _ (g.same s) fun u H1 s1 r1 => ⟨a, b, r, by rw [show u = V.str b from r1], hn, hz, fun p hp =>
    k p _ _ (Same.trans (Same.trans s s1) (same_upd hp)) ((Same.trans s s1).free hp) upd_same (RepL.strs.mpr rfl)⟩⟩
theorem ev_partition (ha : Ev ta Γ (.str a)) (hb : Ev tb Γ (.str b)) (hn : (b.length == 0) = false) (hz : a.length ≤ sizeLine) :
    Ev (tM1 (fun x xs H Q => ∃ a b, x = .str a ∧ xs = [.str b] ∧ (b.length == 0) = false ∧ a.length ≤ sizeLine ∧
      ∀ p, H p = none → Q (.ref p) (upd H p (.tup [.str (Txt.partition a b).1, .str (Txt.partition a b).2.1, .str (Txt.partition a b).2.2]))) ta tb) Γ (.tup [.str (Txt.partition a b).1, .str (Txt.partition a b).2.1, .str (Txt.partition a b).2.2]) := fun F σ W Q g k =>
  ha F σ W _ g fun v H s r => ⟨⟨a, r⟩, hb F σ (W.at H) _ (g.same s) fun u H1 s1 r1 => ⟨a, b, r, by rw [show u = V.str b from r1], hn, hz, fun p hp =>
    k _ _ (Same.trans (Same.trans s s1) (same_upd hp)) (rep_new_tup (W := W.at H1) ((g.same s).same (W := W.at H) s1).ok.dom hp ⟨_, _, rfl, rfl, _, _, rfl, rfl, _, _, rfl, rfl, rfl⟩)⟩⟩
end
end Dw

/-! Objects made: the promise of an __init__, its rules, the call of the class. -/
namespace Dw
open PySem PySem.Spec PyProof.Rows L2
variable [Tabs0]
abbrev rIsNone : R2 := fun x y H Q => y = .non ∧ Q (.bl (decide (x = .non))) H
theorem dr2_isN {d : D} {b : Bool} (h : ∀ (W : Wd) v, Rep W d v → decide (v = V.non) = b) : DR2 rIsNone d .non (.bl b) := dr2_flat fun W u v Q r1 r2 k => ⟨r2, by rw [h W u r1]; exact k _ rfl⟩
/-- an __init__'s promise: the object gets ns and ds, where rel x (.tup ds) -/
def toIn (C : Addr) (ns : List Str) (s : Spc) : Sp := fun vs H Q _ => ∃ (x : s.ty) (F : Addr → Prop) (W : Wd) (a dx : Addr) (us : List V), vs = .ref a :: us ∧ W.H = H ∧ WOk F W ∧ W.U a ∧ ¬ F a ∧ ¬ W.P a ∧ W.H a = some (.ins C dx []) ∧ RepL W (s.args x) us ∧ s.ok x ∧
  ∀ ds zs W', s.rel x (.tup ds) → Stp F W W' → WOk F W' → W'.U a → W'.H a = some (.ins C dx (ns.zip zs)) → ns.length = zs.length → RepL W' ds zs → Q .non W'.H
section
variable {Γ : Gam} {K : PySem.W.Frag} {te tv ta : TE} {t u : TS} {x y d : D} {C : Addr} {s : Spc}
/-- a statement of an __init__ whose object stands at a, with the fields ns so far -/
def DI (C a : Addr) (t : TS) (Γ : Gam) (ns : List Str) (ds : List D) (R : Gam → List Str → List D → Prop) : Prop := ∀ (F : Addr → Prop) (σ : L2.St) (W : Wd) (Dr : Ends) (dx : Addr) (us : List V), SR (Fp F a) Γ σ W → ¬ F a → W.H a = some (.ins C dx (ns.zip us)) → ns.length = us.length → RepL W ds us →
  (∀ σ' Γ' ns' ds' us' W', Stp F W W' → SR (Fp F a) Γ' σ' W' → W'.H a = some (.ins C dx (ns'.zip us')) → ns'.length = us'.length → RepL W' ds' us' → R Γ' ns' ds' → Dr.nx σ' W'.H) → t Dr σ W.H
theorem di_seq {a : Addr} {ns : List Str} {ds : List D} {R : Gam → List Str → List D → Prop} (h : DI C a t Γ ns ds fun Γ' ns' ds' => DI C a u Γ' ns' ds' R) : DI C a (tSeq t u) Γ ns ds R := fun F σ W Dr dx us g nf e l r k =>
  h F σ W { Dr with nx := u Dr } dx us g nf e l r fun σ' Γ' ns' ds' us' W' st g' e' l' r' hR => hR F σ' W' Dr dx us' g' nf e' l' r' fun σ2 Γ2 ns2 ds2 us2 W2 st2 => k σ2 Γ2 ns2 ds2 us2 W2 (st.trans st2)
theorem di_of {a : Addr} {ns : List Str} {ds : List D} {R : Gam → List Str → List D → Prop} (h : Ds t Γ ⟨fun Γ' => R Γ' ns ds, fun _ => False, fun _ => False, fun _ => False⟩) : DI C a t Γ ns ds R := fun F σ W Dr dx us g nf e l r k =>
  h (Fp F a) σ W Dr g ⟨fun σ' W' Γ' st g' hR => k σ' Γ' ns ds us W' (st.sub fun _ z => .inl z) g' ((st.fr a (.inr rfl)).trans e) l (r.stp st) hR, fun _ _ _ _ _ _ h => h.elim, fun _ _ _ _ _ h => h.elim, fun _ _ _ _ _ h => h.elim⟩
theorem putF_new {f : Str} {v : V} : ∀ {ns : List Str} {us : List V}, f ∉ ns → ns.length = us.length → putF f v (ns.zip us) = (ns ++ [f]).zip (us ++ [v])
  | [], [], _, _ => rfl
  | n :: ns, u :: us, h, l => by
    show (if n = f then _ else (n, u) :: putF f v (ns.zip us)) = _
    rw [if_neg (fun z => h (by rw [z]; exact List.mem_cons_self)), putF_new (fun z => h (List.mem_cons_of_mem _ z)) (Nat.succ.inj l)]
    rfl
theorem zip_len {ns : List Str} {us : List V} (l : ns.length = us.length) : (ns.zip us).length = ns.length := by rw [List.length_zip, ← l]; omega
theorem di_fld {a : Addr} {ns : List Str} {ds : List D} {f : Str} {R : Gam → List Str → List D → Prop} (cl : Cls K C) (na : NoAttr K C f) (hn : f ∉ ns) (hz : ns.length < 1000) (ha : Ev ta Γ (.raw (.ref a))) (hv : Ev tv Γ d) (h : R Γ (ns ++ [f]) (ds ++ [d])) :
    DI C a (sFld K ta tv f) Γ ns ds R := fun F σ W Dr dx us g nf e l r k => hv _ σ W _ g fun v H s rv => ha _ σ (W.at H) _ (g.same s) fun z H1 s1 rz => by
  have g1 := (g.same s).same (W := W.at H) s1
  have s01 := Same.trans s s1
  refine ⟨a, C, dx, ns.zip us, rz, s01 _ _ e, cl, na, by rw [zip_len l]; exact hz, ?_⟩
  rw [putF_new hn l]
  obtain ⟨st, g2⟩ := g1.poke (o := .ins C dx ((ns ++ [f]).zip (us ++ [v]))) nf (no_extI (s01 _ _ e))
  have st1 : Stp F W (W.at H1) := (Stp.of_same g.ok s01).sub fun _ z => .inl z
  exact k σ Γ (ns ++ [f]) (ds ++ [d]) (us ++ [v]) _ (st1.trans st) g2 upd_same (by rw [List.length_append, List.length_append, l]; rfl) (((r.same s01).append (RepL.one (rv.same (W := W.at H) s1))).stp st) h
theorem di_fld2 {a : Addr} {ns : List Str} {ds : List D} {f f2 : Str} {R : Gam → List Str → List D → Prop} (cl : Cls K C) (na : NoAttr K C f) (na2 : NoAttr K C f2) (hn : f ∉ ns) (hn2 : f2 ∉ ns ++ [f]) (hz : ns.length < 900) (ha : Ev ta Γ (.raw (.ref a))) (hv : Ev tv Γ (.tup [x, y]))
    (h : R Γ ((ns ++ [f]) ++ [f2]) ((ds ++ [x]) ++ [y])) :
    DI C a (tAsg tv (gTup K 2 (gCons (gFld K ta f) (gCons (gFld K ta f2) gNil)))) Γ ns ds R := fun F σ W Dr dx us g nf e l r k => hv _ σ W _ g fun v H s rv => by
  obtain ⟨p, vs, ev, hp, nu, v1, _, rfl, r1, v2, _, rfl, r2, rfl⟩ := rv
  refine ⟨p, [v1, v2], ev, hp.sq, rfl, v1, [v2], rfl, ha _ σ (W.at H) _ (g.same s) fun z H1 s1 rz => ?_⟩
  have g1 := (g.same s).same (W := W.at H) s1
  have s01 := Same.trans s s1
  refine ⟨a, C, dx, ns.zip us, rz, s01 _ _ e, cl, na, by rw [zip_len l]; omega, ?_⟩
  rw [putF_new hn l]
  obtain ⟨st, g2⟩ := g1.poke (o := .ins C dx ((ns ++ [f]).zip (us ++ [v1]))) nf (no_extI (s01 _ _ e))
  have st1 : Stp F W (W.at H1) := (Stp.of_same g.ok s01).sub fun _ z => .inl z
  have l1 : (ns ++ [f]).length = (us ++ [v1]).length := by rw [List.length_append, List.length_append, l]; rfl
  have rr1 := ((r.same s01).append (RepL.one (r1.same (W := W.at H) s1))).stp st
  have r2' := (r2.same (W := W.at H) s1).stp st
  refine ⟨v2, [], rfl, ha _ σ _ _ g2 fun z' H2 s2 rz' => ?_⟩
  refine ⟨a, C, dx, (ns ++ [f]).zip (us ++ [v1]), rz', s2 _ _ upd_same, cl, na2, by rw [zip_len l1, List.length_append]; show ns.length + 1 < 1000; omega, rfl, ?_⟩
  rw [putF_new hn2 l1]
  obtain ⟨st2, g3⟩ := (g2.same s2).poke (o := .ins C dx (((ns ++ [f]) ++ [f2]).zip ((us ++ [v1]) ++ [v2]))) nf (no_extI (s2 _ _ upd_same))
  have sto : Stp F (W.at (upd H1 a (.ins C dx ((ns ++ [f]).zip (us ++ [v1]))))) (W.at H2) := (Stp.of_same g2.ok s2).sub fun _ z => .inl z
  exact k σ Γ _ ((ds ++ [x]) ++ [y]) ((us ++ [v1]) ++ [v2]) _ (st1.trans (st.trans (sto.trans st2))) g3 upd_same (by simp [l]) (((rr1.stp sto).append (RepL.one (r2'.stp sto))).stp st2) h
section
variable {P : Program} {w : World} {mg : Str → Option Value} {base : Heap}
theorem in_ok {x qual : Str} {st : Stmt} {f : Addr} {fd : FuncData} {N ps : List Str} {k : Nat} {ns : List Str} (F : Fun K x qual st f fd) (S : FnScope N ps (defScope st)) (len : ∀ x, (s.args x).length + 1 = ps.length)
    (hbody : ∀ (cdv : Value) (A : Around) (outer : List Env) (s' : Shared) (H : Hp) (E : XK), Room k (A.deeper (envOfC qual (defScope st) s'.heap.objs.size f cdv)) →
      ∃ t, PSs (cxOf CX0 P w K mg base N qual (defScope st) f cdv A outer s' H E).nox (defBody st) t ∧ ∀ x, s.ok x → ∀ a, DI C a t (Gz0 N.length (.raw (.ref a) :: s.args x)) [] [] fun _ ns' ds' => ns' = ns ∧ s.rel x (.tup ds')) :
    FnOk P w K mg base CX0 (k + 1) f fd ps (toIn C ns s) :=
  F.ok S (fun vs H Q E ⟨x, F, W, a, dx, us, e, _, _, _, _, _, _, r, _⟩ => by rw [e, List.length_cons, ← r.length]; exact len x) fun cdv A outer s' H vs Q E hr h => by
    obtain ⟨t, p, hb⟩ := hbody cdv A outer s' H E hr
    refine ⟨t, p, ?_⟩
    obtain ⟨x, F, W, a, dx, us, rfl, rfl, ok, hu, nf, np, ha, r, hx, q⟩ := h
    have ok' : WOk (Fp F a) W := ⟨ok.dom, fun b z => z.elim (ok.fu b) fun z => by rw [z]; exact hu, fun b z => let ⟨u, f, pp⟩ := ok.pu b z; ⟨u, fun y => y.elim f fun y => np (by rw [← y]; exact z), pp⟩⟩
    refine hb x hx a F _ W _ dx [] (sr_start ok' (ds := .raw (.ref a) :: s.args x) ⟨_, us, rfl, rfl, r⟩) nf ha rfl rfl fun σ' Γ' ns' ds' us' W' st g' e' l' r' hR => ?_
    obtain ⟨rfl, hrel⟩ := hR
    exact q ds' us' W' hrel st ⟨g'.ok.dom, fun b z => g'.ok.fu b (.inl z), fun b z => let ⟨u, f, pp⟩ := g'.ok.pu b z; ⟨u, fun y => f (.inl y), pp⟩⟩ (g'.ok.fu a (.inr rfl)) e' l' r'
end
/-- C(..) -/
theorem dl_make {ns : List Str} {t : TA} {E : XK} {Q : D → Gam → Prop} (h : DlA t Γ fun ds Γ1 => ∃ x, ds = s.args x ∧ s.ok x ∧ ∀ es, s.rel x (.tup es) → Q (.obj C ns es) Γ1) : Dl (tMake C (toIn C ns s) [] E t) Γ Q := fun F σ W R g k => h F σ W _ g fun vs W1 ds Γ1 st g1 r ⟨x, e, ok, q⟩ => by
  subst e
  intro b dx hb hdx ne
  rw [List.append_nil]
  have sm : Same W1.H (upd (upd W1.H dx (.own b)) b (.ins C dx [])) := Same.trans (same_upd hdx) (same_upd ((upd_ne (Ne.symm ne)).trans hb))
  obtain ⟨stp, gp, no, nf, np⟩ := g1.plus (H := upd (upd W1.H dx (.own b)) b (.ins C dx [])) (a := b) sm hb (by rw [upd_same]; exact fun z => nomatch z)
  refine ⟨x, _, W1.plus _ b, b, dx, vs, rfl, rfl, gp.callOk, .inr rfl, fun z => z.elim nf no, np, upd_same, r.stp stp, ok, fun ds zs W' hd st' ok' hu hH hl rr => ⟨rfl, ?_⟩⟩
  have g2 := gp.call st' ok'
  have np' : ¬ W'.P b := by rw [st'.pur]; exact np
  obtain ⟨st3, g3⟩ := (g2.frame hu np' no).land nf
  exact k (.ref b) ⟨W'.H, fun c => W'.U c ∧ c ≠ b, W'.P⟩ (.obj C ns ds) Γ1 (st.trans (stp.trans ((st'.sub fun _ z => .inl z).trans st3))) g3 ⟨b, dx, zs, rfl, hH, fun z => z.2 rfl, hl, rr.stp st3⟩ (q ds hd)
end
end Dw

/-! all() over a pure comprehension; one sign within a text; comparisons with their answers. -/
namespace Dw
open PySem PySem.Spec PyProof.Rows L2
variable [Tabs0]
section
variable {Γ : Gam} {K : PySem.W.Frag} {wi : TI} {g : TG} {tt : TT} {te : TE} {vs : List Nat}
theorem ev_all_lc {α : Type} {xs : List α} {c : α → D} {b : α → Bool} (h : Ei wi Γ (xs.map c)) (hz : xs.length ≤ 1000000)
    (he : ∀ x ∈ xs, ∃ is Γ2, DG g is (c x) (wipeG Γ vs) Γ2 ∧ (∀ i ∈ is, i ∈ vs) ∧ EvT tt Γ2 true ∧ Ev te Γ2 (.bl (b x))) : Ev (tCB (rAll K) (tCons (tLc wi g tt te vs) tNil)) Γ (.bl (xs.all b)) := by
  have e := evn_lc (p := fun _ => true) (f := fun x => D.bl (b x)) h hz fun x hx => by
    obtain ⟨is, Γ2, h1, h2, h3, h4⟩ := he x hx
    exact ⟨is, Γ2, h1, h2, h3, fun _ => h4⟩
  rw [List.filter_eq_self.mpr (fun _ _ => rfl)] at e
  have e2 : xs.map (fun x => D.bl (b x)) = (xs.map b).map D.bl := by rw [List.map_map]; rfl
  rw [e2] at e
  have r := ev_all (K := K) e.b
  rw [List.all_map] at r
  exact r
/-- a pure comprehension without a test -/
theorem evn_lc1 {α : Type} {xs : List α} {c f : α → D} (h : Ei wi Γ (xs.map c)) (hz : xs.length ≤ 1000000)
    (he : ∀ x ∈ xs, ∃ is Γ2, DG g is (c x) (wipeG Γ vs) Γ2 ∧ (∀ i ∈ is, i ∈ vs) ∧ EvT tt Γ2 true ∧ Ev te Γ2 (f x)) : EvN (tLc wi g tt te vs) Γ (xs.map f) := by
  have e := evn_lc (p := fun _ => true) (f := f) h hz fun x hx => by
    obtain ⟨is, Γ2, h1, h2, h3, h4⟩ := he x hx
    exact ⟨is, Γ2, h1, h2, h3, fun _ => h4⟩
  rw [List.filter_eq_self.mpr (fun _ _ => rfl)] at e
  exact e
end
theorem in_code {K : PySem.W.Frag} {l : List Nat} {c : Nat} : DR2 (rOr (rIn K false) rInS) (.str (ch c)) (.str (tx l)) (.bl (decide (c ∈ l))) := by
  have e := in_str' (K := K) (x := ch c) (y := tx l)
  rw [show (Builtin.Str.occurrences (tx l) (ch c) 0 (tx l).length 1).isEmpty = !decide (c ∈ l) from by rw [← Bool.not_not (Builtin.Str.occurrences (tx l) (ch c) 0 (tx l).length 1).isEmpty]; exact congrArg _ (SX.in_one l c), Bool.not_not] at e
  exact e
theorem nin_code {K : PySem.W.Frag} {l : List Nat} {c : Nat} : DR2 (rOr (rIn K true) rNinS) (.str (ch c)) (.str (tx l)) (.bl (!decide (c ∈ l))) := by
  refine dr2_r (dr2_flat fun W u v Q a b k => ⟨ch c, tx l, a, b, ?_⟩)
  rw [show (Builtin.Str.occurrences (tx l) (ch c) 0 (tx l).length 1).isEmpty = !decide (c ∈ l) from by rw [← Bool.not_not (Builtin.Str.occurrences (tx l) (ch c) 0 (tx l).length 1).isEmpty]; exact congrArg _ (SX.in_one l c), Bool.not_not]
  exact k _ rfl
section
variable {K : PySem.W.Frag} {i j : Int} {b : Bool} {x y : Str}
theorem ge_b (h : decide (j ≤ i) = b) : DR2 (rI0 fun i j => .bl (decide (j ≤ i))) (.int i) (.int j) (.bl b) := h ▸ dr2_ge
theorem gt_b (h : decide (j < i) = b) : DR2 (rI0 fun i j => .bl (decide (j < i))) (.int i) (.int j) (.bl b) := h ▸ dr2_gt
theorem lt_b (h : decide (i < j) = b) : DR2 (rOr (rI0 fun i j => .bl (decide (i < j))) rLtS) (.int i) (.int j) (.bl b) := h ▸ lt_int'
theorem lt_tx {l m : List Nat} : DR2 (rOr (rI0 fun i j => .bl (decide (i < j))) rLtS) (.str (tx l)) (.str (tx m)) (.bl (decide (l < m))) := by
  have e := lt_str' (x := tx l) (y := tx m)
  rw [tx_cps, tx_cps] at e
  exact e
theorem eq_ib (h : decide (i = j) = b) : DR2 (rEqX K) (.int i) (.int j) (.bl b) := h ▸ eq_int'
theorem eq_sb (h : decide (x = y) = b) : DR2 (rEqX K) (.str x) (.str y) (.bl b) := h ▸ eq_str'
theorem ne_sb (h : (!decide (x = y)) = b) : DR2 (rNeX K) (.str x) (.str y) (.bl b) := h ▸ ne_str'
end
/-- a and b, both true -/
theorem small {n : Nat} (h : n ≤ 100000) : n ≤ sizeLine := Nat.le_trans h (by decide)
end Dw

/-! Methods of lists with K named: within blocks X.K speaks of the block. -/
namespace Dw
open PySem PySem.Spec PyProof.Rows L2
variable [Tabs0]
variable {X : Cx} {o e : Expr} {es : List Expr} {to : TE} {t : TA} {name : Str} {apos cpos : Pos} {T id : String} {r : V → List V → Hp → VK → Prop}
theorem bmA (K : PySem.W.Frag) (pa : PlainAttrs T) (slot : Slot T name id) (hty : typeOf (.builtin id) = pure (.type "method_descriptor")) (hm : MtR X id r) (ho : PE X o to) (ha : PA X (e :: es) t) (hK : X.K = K := by rfl)
    (hbase : attributeBase o name X.env (eval o X.env) = eval o X.env := by rfl)
    (hfew : ((backTo cpos (starEach (e :: es) X.env)).all (fun x => !x.1) && (backToKw cpos (keywordEach [] X.env)).all (fun x => x.1.isSome)
      && decide ((e :: es).length + ([] : List Keyword).length + (if ([] : List Keyword).isEmpty then 0 else 1) < 30)) = true := by rfl)
    (hline : (apos.endLine == cpos.line) = true := by rfl) (hs : starEach (e :: es) X.env = (false, eval e X.env) :: starEach es X.env := by rfl) (hplain : (backTo cpos (starEach es X.env)).any (·.1) = false := by rfl) :
    PE X (.Call (.Attribute o name apos) (e :: es) [] cpos) (tBM K T r to t) := hK ▸ pe_bm pa slot hty hm ho ha hbase hfew hline hs hplain
end Dw

/-! The script (a list that the head gives), and a purse that is made and at once given on. -/
namespace Dw
open PySem PySem.Spec PyProof.Rows L2
variable [Tabs0]
section
variable {Γ : Gam} {K : PySem.W.Frag} {ta tb : TE} {vs : List V} {d : D} {i : Int}
theorem scr_sq {W : Wd} {v : V} (r : Rep W (.scr K vs) v) : ∃ a, v = .ref a ∧ SqL K W.H a vs := by
  obtain ⟨a, e, q, _⟩ := r
  refine ⟨a, e, ?_⟩
  rcases q with ⟨u, h, n, q⟩ | q
  · rcases q with rfl | ⟨o, rfl⟩
    · exact .inl (.inl h)
    · exact .inl (.inr ⟨o, h⟩)
  · exact .inr q
theorem ev_lenX (h : Ev ta Γ (.scr K vs)) : Ev (tCB (rLen K) (tCons ta tNil)) Γ (.int vs.length) := fun F σ W Q g k => h F σ W _ g fun v H s r => by
  obtain ⟨a, e, q⟩ := scr_sq r
  exact .inl ⟨a, vs, by rw [e], .inl q, k _ H s rfl⟩
theorem ev_ixX {z : Int} (h : Ev ta Γ (.scr K vs)) (hb : Ev tb Γ (.int i)) (hz : atI vs i = some (.int z)) : Ev (tOp (rIx K) ta tb) Γ (.int z) := fun F σ W Q g k => h F σ W _ g fun v H s r => hb F σ (W.at H) _ (g.same s) fun u H' s' r' => by
  obtain ⟨a, e, q⟩ := scr_sq (r.same (W := W.at H) s')
  exact .inl ⟨a, vs, i, .int z, e, r', q, hz, k _ H' (Same.trans s s') rfl⟩
end
end Dw
namespace Dw
open PySem PySem.Spec PyProof.Rows L2
variable [Tabs0]
section
variable {Γ : Gam} {K : PySem.W.Frag} {ta tb te : TE} {ns : List Int} {d : D} {i : Int} {s : Spc} {E : XK}
def intD (ns : List Int) : List D := ns.map D.int
def cutI (ns : List Int) (lo hi : Option Int) : List Int := (ns.drop (HT.sIx ns.length 0 lo)).take (HT.sIx ns.length ns.length hi - HT.sIx ns.length 0 lo)
theorem ev_int1 (h : Ev ta Γ (.int i)) : Ev (tCB (fun xs H Q => (∃ i, xs = [.int i] ∧ Q (.int i) H) ∨ ∃ k, xs = [.bl k] ∧ Q (.int (if k then 1 else 0)) H) (tCons ta tNil)) Γ (.int i) :=
  ev_cb (eva_cons h eva_nil) fun W us Q dom r k => by
    obtain ⟨v, _, rfl, rv, rfl⟩ := r
    exact .inl ⟨i, by rw [show v = V.int i from rv], k _ _ (Same.refl _) rfl⟩
theorem ev_abs (h : Ev ta Γ (.int i)) : Ev (tCB (fun xs H Q => ∃ i, xs = [.int i] ∧ Q (.int (if i < 0 then -i else i)) H) (tCons ta tNil)) Γ (.int (if i < 0 then -i else i)) :=
  ev_cb (eva_cons h eva_nil) fun W us Q dom r k => by
    obtain ⟨v, _, rfl, rv, rfl⟩ := r
    exact ⟨i, by rw [show v = V.int i from rv], k _ _ (Same.refl _) rfl⟩
theorem ev_max2 {j : Int} (h : Ev ta Γ (.int i)) (h' : Ev tb Γ (.int j)) : Ev (tCB (fun xs H Q => ∃ i j, xs = [.int i, .int j] ∧ Q (.int (if j > i then j else i)) H) (tCons ta (tCons tb tNil))) Γ (.int (if j > i then j else i)) :=
  ev_cb (eva_cons h (eva_cons h' eva_nil)) fun W us Q dom r k => by
    obtain ⟨v, _, rfl, rv, v', _, rfl, rv', rfl⟩ := r
    exact ⟨i, j, by rw [show v = V.int i from rv, show v' = V.int j from rv'], k _ _ (Same.refl _) rfl⟩
theorem ev_min2 {j : Int} (h : Ev ta Γ (.int i)) (h' : Ev tb Γ (.int j)) : Ev (tCB (fun xs H Q => ∃ i j, xs = [.int i, .int j] ∧ Q (.int (if j < i then j else i)) H) (tCons ta (tCons tb tNil))) Γ (.int (if j < i then j else i)) :=
  ev_cb (eva_cons h (eva_cons h' eva_nil)) fun W us Q dom r k => by
    obtain ⟨v, _, rfl, rv, v', _, rfl, rv', rfl⟩ := r
    exact ⟨i, j, by rw [show v = V.int i from rv, show v' = V.int j from rv'], k _ _ (Same.refl _) rfl⟩
/-- a def that makes a purse from the script -/
def toPurse (K : PySem.W.Frag) : Sp := fun vs H Q _ => ∃ (F : Addr → Prop) (W : Wd) (ns : List Int) (spot : Nat), W.H = H ∧ WOk F W ∧ RepL W [.scr K (ns.map V.int), .int spot] vs ∧ ns.length ≤ 63 ∧ spot ≤ 1000 ∧ (∀ z ∈ ns, Builtin.Int.intBits z ≤ 1048576) ∧
  ∀ (a : Addr) (x y : Int) (W' : Wd) (H' : Hp), Stp F W W' → WOk F W' → Same W'.H H' → W'.H a = none → H' a = some (.lst [.int x, .int y]) → 0 ≤ x → 0 ≤ y → y < 2147483647 → Q (.ref a) H'
/-- right(purse(script, spot)) -/
theorem dl_purse {E2 : XK} {Q : D → Gam → Prop} {x : s.ty} {spot : Nat} (ha : s.args x = [.purse]) (ok : s.ok x) (hr : ∀ d, s.rel x d → d = .bl true) (h1 : Ev ta Γ (.scr K (ns.map V.int))) (h2 : Ev tb Γ (.int spot)) (hz : ns.length ≤ 63) (hs : spot ≤ 1000) (hbit : ∀ z ∈ ns, Builtin.Int.intBits z ≤ 1048576) (q : Q (.bl true) Γ) :
    Dl (tCall (toSp s) [] E (tCons (tCall (toPurse K) [] E2 (tCons ta (tCons tb tNil))) tNil)) Γ Q := fun F σ W R g k => by
  show tCons ta (tCons tb tNil) σ W.H (fun vs H1 => toPurse K (vs ++ []) H1 (fun v H2 => toSp s ([v] ++ []) H2 R E) E2)
  refine (eva_cons h1 (eva_cons h2 eva_nil)) F σ W _ g fun vs H s1 r => ?_
  have g1 := g.same s1
  rw [List.append_nil]
  refine ⟨_, W.at H, ns, spot, rfl, g1.callOk, r, hz, hs, hbit, fun a x' y W' H' st ok' sm hn ha' h0 h0' h0y => ?_⟩
  have g2 := g1.call st ok'
  have okc := g2.callOk
  have nu : ¬ W'.U a := g2.ok.new hn
  have tb : ∀ p q, Tabs0.nm p = some q → W'.P p := fun p q z => by
    obtain ⟨v0, r0, e0, hr0, _⟩ := r
    obtain ⟨_, _, _, t0⟩ := hr0
    have := t0 p q z
    rw [st.pur]
    exact this
  have nn : Tabs0.nm a = none := by
    cases z : Tabs0.nm a with
    | none => rfl
    | some q => exact absurd hn ((okc.pu a (tb a q z)).2.2.some)
  refine ⟨x, _, ⟨H', fun b => W'.U b ∨ b = a, fun b => W'.P b ∨ b = a⟩, rfl, ⟨fun b z => ?_, fun b z => .inl (okc.fu b z), fun b z => ?_⟩, ?_, ok, fun d v W2 hd st2 ok2 r2 => ?_⟩
  · rcases z with z | rfl
    · exact fun e => okc.dom b z (sm.free e)
    · show H' b ≠ none
      rw [ha']; exact fun e => nomatch e
  · rcases z with z | rfl
    · obtain ⟨u, f, o⟩ := okc.pu b z
      exact ⟨.inl u, f, o.same sm⟩
    · exact ⟨.inr rfl, fun z => nu (okc.fu b z), .of ⟨x', y, h0, h0', h0y, ha'⟩ nn⟩
  · rw [ha]
    exact RepL.one ⟨a, rfl, .inr rfl, nn, fun p q z => .inl (tb p q z)⟩
  · have hd' := hr d hd
    subst hd'
    have stc : Stp (fun b => F b ∨ ownA Γ σ b) W' ⟨W2.H, W2.U, W'.P⟩ := ⟨fun b u e n => by
        have nb : b ≠ a := fun z => by rw [z, hn] at e; cases e
        obtain ⟨e2, n2⟩ := st2.keep b u (sm _ _ e) fun z => z.elim n nb
        exact ⟨e2, n2⟩, rfl, fun b z => by
        refine (st2.fr b z).trans ?_
        show H' b = W'.H b
        cases q : W'.H b with
        | none => exact absurd q (okc.dom b (okc.fu b z))
        | some u => exact sm _ _ q⟩
    have okc2 : WOk (fun b => F b ∨ ownA Γ σ b) ⟨W2.H, W2.U, W'.P⟩ := ⟨ok2.dom, ok2.fu, fun b z => by
      have := ok2.pu b (by rw [st2.pur]; exact .inl z)
      exact this⟩
    have st0 : Stp F W ⟨W2.H, W2.U, W'.P⟩ := (Stp.of_same g.ok s1).trans (((st.trans stc)).sub fun _ z => .inl z)
    exact k v ⟨W2.H, W2.U, W'.P⟩ (.bl true) Γ st0 (g2.call stc okc2) r2 q
end
end Dw

/-! sorted(a tuple of ints), xs[::k]. -/
namespace Dw
open PySem PySem.Spec PyProof.Rows L2
section
variable {prog : Program} {w : World} {A : Around} {E : Value → Shared → Prop} {s : Shared}
end
/-! ### xs[::k] -/
/-! ### text * int -/
end Dw

/-! while, xs[::k], sorted of a tuple, equality of nested data. -/
namespace Dw
open PySem PySem.Spec PyProof.Rows L2
variable [Tabs0]
section
variable {K : PySem.W.Frag} {Γ : Gam} {ta tb te tk : TE} {De : DE} {ds es : List D} {d : D}
end
/-! ### nested data: what may be compared -/
mutual
def dOk : Nat → D → Bool
  | _, .non => true | _, .bl _ => true | _, .int _ => true | _, .str x => PyData.strOk x
  | 0, _ => false
  | k + 1, .tup ds => dOks k ds | k + 1, .lst ds => dOks k ds | k + 1, .tupN ds => dOks k ds
  | _ + 1, .obj _ _ _ => false | _ + 1, .raw _ => false | _ + 1, .purse => false | _ + 1, .rng _ _ => false | _ + 1, .dct _ _ => false | _ + 1, .scr _ _ => false | _ + 1, .tag _ => false
def dOks : Nat → List D → Bool
  | _, [] => true
  | k, d :: ds => dOk k d && dOks k ds
end
mutual
theorem dOk_py : ∀ (k : Nat) (d : D), dOk k d = true → isPy d = true ∧ PyData.canLay0 (py d) = true ∧ PyData.depth (py d) ≤ k
  | k, .non, _ => ⟨rfl, rfl, Nat.zero_le _⟩
  | k, .bl _, _ => ⟨rfl, rfl, Nat.zero_le _⟩
  | k, .int _, _ => ⟨rfl, rfl, Nat.zero_le _⟩
  | k, .str x, h => ⟨rfl, by cases k <;> exact h, Nat.zero_le _⟩
  | k + 1, .tup ds, h => by
    obtain ⟨h1, h2, h3⟩ := dOks_py k ds h
    exact ⟨h1, h2, Nat.succ_le_succ h3⟩
  | k + 1, .lst ds, h => by
    obtain ⟨h1, h2, h3⟩ := dOks_py k ds h
    exact ⟨h1, h2, Nat.succ_le_succ h3⟩
  | k + 1, .tupN ds, h => by
    obtain ⟨h1, h2, h3⟩ := dOks_py k ds h
    exact ⟨h1, h2, Nat.succ_le_succ h3⟩
  | 0, .tupN _, h => nomatch h
  | 0, .tup _, h => nomatch h
  | 0, .lst _, h => nomatch h
  | 0, .obj _ _ _, h => nomatch h
  | 0, .raw _, h => nomatch h
  | 0, .purse, h => nomatch h
  | 0, .rng _ _, h => nomatch h
  | 0, .dct _ _, h => nomatch h
  | 0, .scr _ _, h => nomatch h
  | 0, .tag _, h => nomatch h
  | _ + 1, .obj _ _ _, h => nomatch h
  | _ + 1, .raw _, h => nomatch h
  | _ + 1, .purse, h => nomatch h
  | _ + 1, .rng _ _, h => nomatch h
  | _ + 1, .dct _ _, h => nomatch h
  | _ + 1, .scr _ _, h => nomatch h
  | _ + 1, .tag _, h => nomatch h
theorem dOks_py : ∀ (k : Nat) (ds : List D), dOks k ds = true → isPys ds = true ∧ PyData.canLayAll0 (pys ds) = true ∧ PyData.depthAll (pys ds) ≤ k
  | k, [], _ => ⟨rfl, rfl, Nat.zero_le _⟩
  | k, d :: ds, h => by
    have h : (dOk k d && dOks k ds) = true := by cases k <;> exact h
    rw [Bool.and_eq_true] at h
    obtain ⟨a1, a2, a3⟩ := dOk_py k d h.1
    obtain ⟨b1, b2, b3⟩ := dOks_py k ds h.2
    exact ⟨by show (isPy d && isPys ds) = true; rw [a1, b1]; rfl, by show (PyData.canLay0 (py d) && PyData.canLayAll0 (pys ds)) = true; rw [a2, b2]; rfl, Nat.max_le.mpr ⟨a3, b3⟩⟩
end
theorem dOk_shaped {k : Nat} {d : D} (h : dOk k d = true) (hk : k ≤ 64) : isPy d = true ∧ SeqAt.shaped (py d) = true := by
  obtain ⟨h1, h2, h3⟩ := dOk_py k d h
  refine ⟨h1, ?_⟩
  show (PyData.canLay0 (py d) && decide (PyData.depth (py d) ≤ 64)) = true
  rw [h2, decide_eq_true (Nat.le_trans h3 hk)]; rfl
theorem dOks_map {α : Type} {k : Nat} {f : α → D} : ∀ {l : List α}, (∀ x ∈ l, dOk k (f x) = true) → dOks k (l.map f) = true
  | [], _ => by cases k <;> rfl
  | x :: l, h => by
    have e : dOks k ((x :: l).map f) = (dOk k (f x) && dOks k (l.map f)) := by cases k <;> rfl
    rw [e, h x List.mem_cons_self, dOks_map fun y hy => h y (List.mem_cons_of_mem _ hy)]; rfl
section
variable {K : PySem.W.Frag} {d : D} {ds es : List D} {k : Nat}
theorem eq_self (h : dOk k d = true) (hk : k ≤ 64) : DR2 (rEqX K) d d (.bl true) := by
  obtain ⟨h1, h2⟩ := dOk_shaped h hk
  have := eq_deep (K := K) h1 h1 h2 h2
  rw [SeqAt.eqv_refl _ (dOk_py k d h).2.1] at this
  exact this
theorem ne_self (h : dOk k d = true) (hk : k ≤ 64) : DR2 (rNeX K) d d (.bl false) := by
  obtain ⟨h1, h2⟩ := dOk_shaped h hk
  have := ne_deep (K := K) h1 h1 h2 h2
  rw [SeqAt.eqv_refl _ (dOk_py k d h).2.1] at this
  exact this
end
section
variable {K : PySem.W.Frag} {Γ : Gam} {ta tb : TE}
/-- whole numbers in a list -/
def ordN (o : List Nat) : List D := o.map fun (k : Nat) => D.int k
end
end Dw

/-! sorted(set(t)), t a tuple of ints. -/
namespace Dw
open PySem PySem.Spec PyProof.Rows L2
variable [Tabs0]
section
variable {K : PySem.W.Frag} {w : World} {Γ : Gam} {ta : TE}
end
section
variable {K : PySem.W.Frag} {Γ : Gam} {ta : TE} {xs : List D}
end
end Dw

/-! repr of data: it asks that no other repr is under way (guards), so the defs that call it have a promise of their own. -/
namespace Dw
open PySem PySem.Spec PyProof.Rows L2
variable [Tabs0]
/-- as FnOk, but only where no repr is under way -/
def FnG (P : Program) (w : World) (K : PySem.W.Frag) (mg : Str → Option Value) (base : Heap) (k : Nat) (f : Addr) (fd : FuncData) (ps : List Str) (s : Spc) : Prop :=
  (∀ x, (s.args x).length = ps.length) ∧ ∀ (A : Around) (outer : List Env) (sh : Shared) (H : Hp) (args : Args) (us : List Value) (vs : List V) (Q : VK) (E : XK), Room k A → A.guards = some [] → Env0 P w K mg base A outer sh H → BindsTo sh fd args (ps.zip us) → Vals vs us → toSp s vs H Q E → codeAny (model P w) A (.call (.ref f) args) (CR CX0 outer P w H sh Q E) sh
section
variable {P : Program} {w : World} {K : PySem.W.Frag} {mg : Str → Option Value} {base : Heap}
theorem cells_in {N ps : List Str} {sc : Scope} {n : Nat} (S : FnScope N ps sc) (us : List Value) : ∀ y ∈ ps.zip us, sc.names.lookup y.1 = some .local ∨ (sc.names.lookup y.1 = some .cell ∧ ((cellsFrom n sc.names []).lookup y.1).isSome = true) := by
  rintro ⟨a, b⟩ hy
  exact (S.par a (List.of_mem_zip hy).1).imp id fun q => ⟨q, PySem.W.cellsFrom_some _ _ _ (.inl q)⟩
theorem fnG_ok {x qual : Str} {st : Stmt} {f : Addr} {fd : FuncData} {N ps : List Str} {k : Nat} {s : Spc} (F : Fun K x qual st f fd) (S : FnScope N ps (defScope st)) (len : ∀ x, (s.args x).length = ps.length)
    (hbody : ∀ (cdv : Value) (A : Around) (outer : List Env) (s' : Shared) (H : Hp) (E : XK), Room k (A.deeper (envOfC qual (defScope st) s'.heap.objs.size f cdv)) → (A.deeper (envOfC qual (defScope st) s'.heap.objs.size f cdv)).guards = some [] →
      ∃ t, PSs (cxOf CX0 P w K mg base N qual (defScope st) f cdv A outer s' H E).nox (defBody st) t ∧ ∀ x, s.ok x → Ds t (Gz0 N.length (s.args x)) ⟨fun _ => s.rel x .non, s.rel x, fun _ => False, fun _ => False⟩) : FnG P w K mg base (k + 1) f fd ps s := by
  obtain ⟨oc, od, kV, doc, pm, an, cdv, ct, osl, rfl, lk, hcd⟩ := F.ex
  refine ⟨len, fun A outer sh H args us vs Q E hr hg e0 hb r hsp => ?_⟩
  obtain ⟨t, p, hd⟩ := hbody cdv A outer sh H E (hr.deeper _) hg
  have old : ∀ b o, base.get? b = some o → sh.heap.get? b = some o := fun b o e => (e0.bs b o e).1
  have KX := e0.mod.kin.keeps old
  refine codeAny_call_function hr.depth (KX _ _ lk) rfl S.co S.gen rfl (PySem.W.codeRec_of KX hcd) (hb _ _ _ _ (wpAny_newFunctionEnv_cells S.kind (cells_in S us) ?_))
  rintro env rfl s1 x1
  refine ⟨(e0.mod.nolimit.keeps old).keeps x1.toInCall.keep, codeAny_func (wpAny_mono (p.nox.run [] s1 _ H _ (inv_start S hr.hd e0 (spc_len len _ _ _ _ hsp) r x1) (body_of hsp hd)) (fun fl s' hs => ?_) fun _ _ z => z)⟩
  have done : ∀ {σ' : L2.St} {H' : Hp} {v : V} {u : Value}, Inv (cxOf CX0 P w K mg base N qual (defScope st) f cdv A outer sh H E) [] σ' H' s' → RelV v u → Q v H' → CE outer P w H sh Q u s' := fun {_ H' v _} J rv q => ⟨v, H', J.os, J.bare, J.base, J.hok, rv, q⟩
  match fl, hs with
  | .ret _, ⟨_, _, _, J, rv, q⟩ => exact done J rv q
  | .next, ⟨_, _, J, q⟩ => exact done (v := .non) (u := .none) J rfl q
  | .brk, ⟨_, _, _, q⟩ => exact q.elim
  | .cont, ⟨_, _, _, q⟩ => exact q.elim
section
variable {X : Cx} {k : Nat} {f : Addr} {fd : FuncData} {ps : List Str} {s : Spc} {E : XK} {x : Str} {p pos : Pos} {e : Expr} {es : List Expr} {t : TA}
theorem pe_callG (F : FnG X.prog X.w X.K X.mg X.base k f fd ps s) (hr : Room k X.A) (hG : X.A.guards = some []) (hg : Gl X x) (hm : X.mg x = some (.ref f)) (hk : PySem.W.keepIn X.K (.ref f) = true) (hb : Binds X.K fd ps []) (ha : PA X (e :: es) t)
    (hdb : (x == ("__debug__" : Str)) = false := by decide) (he : starEach (e :: es) X.env = (false, eval e X.env) :: starEach es X.env := by rfl) (hpl : (backTo pos (starEach es X.env)).any (·.1) = false := by rfl) : PE X (.Call (.Name x p) (e :: es) [] pos) (tCall (toSp s) [] E t) := by
  refine ⟨fun pins s1 σ H Q I h => wpAny_Call_Name_kw (ld_glob I hg hm (PySem.W.callWith_K (h₀ := X.base) I.ok.mod.kin hk (thn (ha.run pos pins s1 σ H _ I h) fun us s2 ⟨vs, H1, I1, r, q⟩ => ⟨I1.kIn, ?_⟩) he hpl) hdb)⟩
  have q : toSp s vs H1 Q E := by rw [← List.append_nil vs]; exact q
  have hb := hb s2 us I1.kIn (by rw [List.append_nil, ← r.length]; exact spc_len F.1 _ _ _ _ q)
  rw [List.append_nil] at hb
  refine wpAny_call (codeAny_mono (F.2 X.A X.stack s2 H1 ⟨us, []⟩ us vs Q E hr hG I1.env0 hb r q) fun res s3 hq => ?_)
  match res, hq with
  | .error _, hq => exact (show False from hq).elim
  | .ok (.ret _), hq => exact I1.after hq
  | .ok .next, hq => exact (show False from hq).elim
  | .ok .brk, hq => exact (show False from hq).elim
  | .ok .cont, hq => exact (show False from hq).elim
end
end
/-! ### repr -/
mutual
/-- what can be shown -/
def shOk : D → Bool
  | .non => true | .bl _ => true | .int i => PyData.showable (.int i) | .str x => PyData.showable (.str x)
  | .tup ds => shOks ds | .lst ds => shOks ds | .tupN ds => shOks ds | _ => false
def shOks : List D → Bool
  | [] => true
  | d :: ds => shOk d && shOks ds
end
mutual
theorem shOk_py : ∀ d : D, shOk d = true → PyData.showable (py d) = true ∧ PyData.hasDict (py d) = false
  | .non, _ => ⟨rfl, rfl⟩
  | .bl _, _ => ⟨rfl, rfl⟩
  | .int _, h => ⟨h, rfl⟩
  | .str _, h => ⟨h, rfl⟩
  | .tup ds, h => shOks_py ds h
  | .lst ds, h => shOks_py ds h
  | .tupN ds, h => shOks_py ds h
  | .obj _ _ _, h => nomatch h
  | .raw _, h => nomatch h
  | .purse, h => nomatch h
  | .rng _ _, h => nomatch h
  | .dct _ _, h => nomatch h
  | .scr _ _, h => nomatch h
  | .tag _, h => nomatch h
theorem shOks_py : ∀ ds : List D, shOks ds = true → PyData.showableAll (pys ds) = true ∧ PyData.hasDictAll (pys ds) = false
  | [], _ => ⟨rfl, rfl⟩
  | d :: ds, h => by
    have h : (shOk d && shOks ds) = true := h
    rw [Bool.and_eq_true] at h
    obtain ⟨a1, a2⟩ := shOk_py d h.1
    obtain ⟨b1, b2⟩ := shOks_py ds h.2
    exact ⟨by show (PyData.showable (py d) && PyData.showableAll (pys ds)) = true; rw [a1, b1]; rfl, by show (PyData.hasDict (py d) || PyData.hasDictAll (pys ds)) = false; rw [a2, b2]; rfl⟩
end
section
variable {K : PySem.W.Frag} {Γ : Gam} {ta : TE} {ds : List D} {k : Nat}
end
/-! ### the head, where the law's def has such a promise -/
section
variable {P : Program} {w : World} {K : PySem.W.Frag} {mg mb : Str → Option Value} {k : Nat} {fa a : Addr} {fd : FuncData} {x : Str} {s1 : Shared} {vs : List Value} {ns : List Int} {sp : Spc}
/-- what is tracked at the head: the script, unless the module has it -/
def headH (K : PySem.W.Frag) (a : Addr) (vs : List Value) (ns : List Int) : Hp := fun b => if b = a ∧ K.lookup a = none then some (.frz { cls := .type "list", data := .seq vs.toArray } (.lst (ns.map V.int))) else none
theorem headH_none {b : Addr} (h : b ≠ a) : headH K a vs ns b = none := if_neg fun z => h z.1
end
end Dw

/-! Bits, sums, xs[k] = v, x |= y, reversed(range(n)). -/
namespace Dw
open PySem PySem.Spec PyProof.Rows L2
variable [Tabs0]
section
variable {K : PySem.W.Frag} {Γ : Gam} {ta tb te tk : TE} {De : DE} {ds : List D} {d : D}
theorem repL_rep {W : Wd} {vs : List V} (l : RepL W ds vs) : ∀ n : Nat, RepL W (List.replicate n ds).flatten (List.replicate n vs).flatten
  | 0 => rfl
  | n + 1 => by
    rw [List.replicate_succ, List.replicate_succ, List.flatten_cons, List.flatten_cons]
    exact l.append (repL_rep l n)
/-- xs * n, a new list -/
theorem evn_rep {n : Nat} (h : EvB ta Γ ds) (hn : Ev tb Γ (.int n)) (hz : ds.length * n ≤ sizeLine) (hb : n < 2 ^ 63) : EvN (tOp rTimes ta tb) Γ (List.replicate n ds).flatten := fun F σ W Q g k =>
  h F σ W _ g fun a vs H s e l => hn F σ (W.at H) _ (g.same s) fun u H2 s2 r => .inr ⟨a, n, vs, rfl, r, s2 _ _ e, by omega, by omega, by rw [← l.length, Int.toNat_natCast]; exact hz, fun p hp => by
    rw [Int.toNat_natCast]
    exact k p _ _ (Same.trans s (Same.trans s2 (same_upd hp))) (s.free (s2.free hp)) upd_same (RepL.plus (W := W.at H2) hp (same_upd hp) (repL_rep (RepL.same (W := W.at H) s2 l) n))⟩
end
end Dw

/-! for i, c in enumerate(a text). -/
namespace Dw
open PySem PySem.Spec PyProof.Rows L2
variable [Tabs0]
section
variable {K : PySem.W.Frag} {Γ : Gam} {ta : TE}
end
end Dw

/-! *xs in a display, o.m(..). -/
namespace Dw
open PySem PySem.Spec PyProof.Rows L2
variable [Tabs0]
section
variable {K : PySem.W.Frag} {Γ : Gam} {ta te : TE} {t : TA} {ds es : List D} {d : D} {C : Addr} {s : Spc} {E : XK}
theorem eva_star (h : Ev te Γ (.tup ds)) (hr : EvA t Γ es) : EvA (StX.tStar K te t) Γ (ds ++ es) := fun F σ W Q g k =>
  h F σ W _ g fun v H s1 ⟨a, vs, ev, e, nu, l⟩ => ⟨a, vs, ev, .inl (e.sq), hr F σ (W.at H) _ (g.same s1) fun ws H2 s2 r2 => k (vs ++ ws) H2 (Same.trans s1 s2) ((RepL.same (W := W.at H) s2 l).append r2)⟩
theorem starA {X : Cx} {e : Expr} {es : List Expr} {p : Pos} (K : PySem.W.Frag) (he : PE X e te) (hr : PA X es t) (hK : X.K = K := by rfl) (hs : starEach (.Starred e p :: es) X.env = (true, eval e X.env) :: starEach es X.env := by rfl) : PA X (.Starred e p :: es) (StX.tStar K te t) := hK ▸ StX.pa_star he hr hs
theorem ev_cast_eva {es' : List D} (h : ds ++ es = es') (e : EvA t Γ (ds ++ es)) : EvA t Γ es' := h ▸ e
theorem zip_none {ns : List Str} {m : Str} (h : m ∉ ns) : ∀ vs : List V, (ns.zip vs).lookup m = none := by
  induction ns with
  | nil => intro vs; rfl
  | cons n ns ih =>
    intro vs
    cases vs with
    | nil => rfl
    | cons v vs =>
      have hn : (m == n) = false := by
        cases q : m == n with
        | false => rfl
        | true => exact absurd (by rw [eq_of_beq q]; exact List.mem_cons_self) h
      show ((n, v) :: ns.zip vs).lookup m = none
      rw [List.lookup_cons, hn]
      exact ih (fun z => h (List.mem_cons_of_mem _ z)) vs
/-- a method of an object, that draws nothing -/
theorem ev_meth {x : s.ty} {ns : List Str} {m : Str} (h : Ev ta Γ (.obj C ns ds)) (h2 : EvA t Γ es) (ha : s.args x = .obj C ns ds :: es) (np : noPs (s.args x) = true) (ok : s.ok x) (hm : m ∉ ns) (hd : ∀ d', s.rel x d' → d' = d) : Ev (tMeth C m (toSp s) [] E ta t) Γ d := fun F σ W R g k =>
  h F σ W _ g fun v H st ⟨a, dx, vs, ev, e, nu, l, rl⟩ => by
    subst ev
    refine ⟨a, dx, _, rfl, e, zip_none hm vs, h2 F σ (W.at H) _ (g.same st) fun us H2 st2 ru => ?_⟩
    have rr : RepL (W.at H2) (s.args x) (V.ref a :: us) := by
      rw [ha]
      exact ⟨V.ref a, us, rfl, Rep.same (W := W.at H) st2 ⟨a, dx, vs, rfl, e, nu, l, rl⟩, ru⟩
    rw [List.append_nil]
    exact pure_call (W := (W.at H).at H2) ((g.same st).same st2) (fun _ z => z) (RepL.delP _ _ np rr) ok fun d' v H' hd' s' r' => by
      rw [hd d' hd'] at r'
      exact k v H' (Same.trans st (Same.trans st2 s')) (Rep.addP (W := W) r')
end
end Dw

/-! a, b, c = x, y, z. -/
namespace Dw
open PySem PySem.Spec PyProof.Rows L2
variable [Tabs0]
end Dw

/-! enumerate of a list that draws go on beside, not, sign * n. -/
namespace Dw
open PySem PySem.Spec PyProof.Rows L2
variable [Tabs0]
section
variable {K : PySem.W.Frag} {Γ : Gam} {ta t : TE}
/-! equality of lists of whole numbers, deep -/
theorem eqv_ints : ∀ a b : List Nat, PyData.eqvAll (pys (ordN a)) (pys (ordN b)) = decide (a = b)
  | [], [] => rfl
  | [], y :: ys => by
    show false = _
    simp
  | x :: xs, [] => by
    show false = _
    simp
  | x :: xs, y :: ys => by
    show ((((x : Nat) : Int) == ((y : Nat) : Int)) && PyData.eqvAll (pys (ordN xs)) (pys (ordN ys))) = _
    rw [eqv_ints xs ys, Bool.eq_iff_iff]
    simp
    intro _
    omega
end
end Dw

/-! first, *rest = a tuple; t[::-1]; t[a:b] of any bounds; x in a dict of the module; the head with the bits of the script. -/
namespace Dw
open PySem PySem.Spec PyProof.Rows L2
variable [Tabs0]
/-! ### first, *rest = t -/
theorem unpack_star1T {prog : Program} {w : World} {A : Around} {E : Value → Shared → Prop} {s : Shared} {l : Addr} {b : Value} {its : List Value} {Q : List Value → Shared → Prop} (hl : IsTup s.heap l (b :: its).toArray) (hh : A.handled = none)
    (hz : its.length ≤ 16000) (h : ∀ (h1 : Heap) (tk : Nat), (∀ c o, s.heap.get? c = some o → h1.get? c = some o) → Q [b, .ref h1.objs.size] { s with heap := h1.push { cls := .type "list", data := .seq its.toArray }, toks := tk }) :
    wpAny (model prog w) A (unpackItems (.ref l) 2 (some 1)) Q E s := by
  have lt : l < s.heap.objs.size := by obtain ⟨o, ho, _⟩ := hl; exact Heap.lt_size ho
  have ne : l ≠ s.heap.objs.size := Nat.ne_of_lt lt
  unfold unpackItems notIterableAtAll
  refine wpAny_bind (wpAny_bind (wpAny_specialOf hl.typeIs slot_tuple_iter.lookup (wpAny_pure ?_)))
  simp only [Bool.false_eq_true, if_false]
  refine wpAny_bind (wpAny_holding (iter_tuple hl ?_))
  refine wpAny_bind (wpAny_holding (draw_tuple ne 1 0 _ _ ⟨_, Heap.get?_push_size _ rfl, rfl, rfl⟩ (hl.push _) (by simp) fun ha hit hs => ?_))
  have hla : IsTup ha l (b :: its).toArray := (hl.push _).extBut hs.extBut ne
  rw [Nat.zero_add] at hit
  obtain ⟨oi, hoi, _⟩ := id hit
  obtain ⟨ol, hol, _⟩ := id hla
  rw [if_neg (show ¬ (((b :: its).toArray.toList.drop 0).take 1).length < 1 by simp)]
  refine wpAny_bind (wpAny_holding (PySem.W.kun_collect (s := { s with heap := ha }) (T := "tuple_iterator") (.inr (.inr (.inr rfl))) (Walks.tuple (A := A.in1) hh s.heap.objs.size l ne _) (fun j u st => st.1.typeIs) (k := 1) (by simp) ⟨hit, hla⟩
    (Heap.lt_size hoi) (Heap.lt_size hol) (fun hb tk kp => ?_) (by rw [sizeLine_eq]; simp; omega)))
  show wpAny _ _ (if its.length < 0 then _ else _) _ _ _
  rw [if_neg (Nat.not_lt_zero _)]
  show wpAny _ _ (newList (its.take (its.length - 0)) >>= fun d => pure ([b] ++ [d] ++ its.drop (its.length - 0))) _ _ _
  rw [Nat.sub_zero, List.take_length, List.drop_length]
  have k2 : ∀ c o, s.heap.get? c = some o → hb.get? c = some o := fun c o e => kp c o (Nat.ne_of_lt (Heap.lt_size e)) (hs.extBut c o (Nat.ne_of_lt (Heap.lt_size e)) (Heap.get?_push_of_some _ e))
  unfold newList
  refine wpAny_bind (wpAny_newObj_type (wpAny_pure ?_) (by show its.toArray.size ≤ sizeLine; rw [sizeLine_eq, List.size_toArray]; omega))
  exact h hb tk k2
/-- from a list or a tuple -/
def gStar1X (K : PySem.W.Frag) (g1 g2 : TG) : TG := fun v σ H Q => ∃ a z zs, v = .ref a ∧ (SqL K H a (z :: zs) ∨ SqT K H a (z :: zs)) ∧ zs.length ≤ 16000 ∧ ∀ p, H p = none → g1 z σ (upd H p (.lst zs)) fun σ1 H1 => g2 (.ref p) σ1 H1 Q
theorem pg_star1X {X : Cx} (hc : X.calm = true) {e1 e2 : Expr} {g1 g2 : TG} {k : Nat} {pos sp : Pos} (h1 : PG X e1 g1) (h2 : PG X e2 g2) (hlen : (assignEach [e1, .Starred e2 sp] X.env).length = 2 := by rfl)
    (hst : (assignEach [e1, .Starred e2 sp] X.env).findIdx? (·.1) = some 1 := by rfl) (hm : (assignEach [e1, .Starred e2 sp] X.env).map (·.2) = [assign e1 X.env, assign e2 X.env] := by rfl) :
    PG X (.Tuple [e1, .Starred e2 sp] k pos) (gStar1X X.K g1 g2) := by
  refine ⟨fun pins s σ H v u Q I r hw => ?_⟩
  obtain ⟨a, z, zs, ev, hq, hl, hw⟩ := hw
  rcases hq with hq | hq
  · exact (pg_star1 hc h1 h2 hlen hst hm).run pins s σ H v u Q I r ⟨a, z, zs, ev, hq, hl, hw⟩
  subst ev
  cases r
  obtain ⟨its, rv, pl, hz⟩ := I.tuple hq
  cases rv with
  | cons rz rr =>
    rename_i b l
    rw [assign_Tuple]
    refine wpAny_bind (wpAny_standAt ?_)
    unfold unpack
    rw [hlen, hst, hm]
    refine wpAny_bind (wpAny_holding (unpack_star1T pl (I.ok.hd hc) (by rw [← rr.length]; exact hl) fun ha tk kp => ?_))
    have I1 : Inv X pins σ H { s with heap := ha, toks := tk } := I.kept kp
    have I2 := I1.laid (t' := tk) (o := .lst zs) (h' := ha.push { cls := .type "list", data := .seq l.toArray }) (fun c o e => Heap.get?_push_of_some _ e) (Nat.le_refl _)
      ⟨by have hz' : zs.length + 1 ≤ sizeLine := hz
          omega, l, 0, rr, Heap.get?_push_size _ rfl⟩
    refine assignInOrder_cons (thn (h1.run pins _ σ _ z b _ I2 rz (hw _ (I1.hok.fresh (Nat.le_refl _)))) fun _ s3 ⟨σ3, H3, I3, q3⟩ => ?_)
    exact assignInOrder_cons (thn (h2.run pins s3 σ3 H3 (.ref ha.objs.size) _ Q I3 rfl q3) fun _ s4 ⟨σ4, H4, I4, q4⟩ => assignInOrder_nil ⟨σ4, H4, I4, q4⟩)
theorem star1XA (K : PySem.W.Frag) {X : Cx} (hc : X.calm = true) {e1 e2 : Expr} {g1 g2 : TG} {k : Nat} {pos sp : Pos} (h1 : PG X e1 g1) (h2 : PG X e2 g2) (hK : X.K = K := by rfl) (hlen : (assignEach [e1, .Starred e2 sp] X.env).length = 2 := by rfl)
    (hst : (assignEach [e1, .Starred e2 sp] X.env).findIdx? (·.1) = some 1 := by rfl) (hm : (assignEach [e1, .Starred e2 sp] X.env).map (·.2) = [assign e1 X.env, assign e2 X.env] := by rfl) :
    PG X (.Tuple [e1, .Starred e2 sp] k pos) (gStar1X K g1 g2) := hK ▸ pg_star1X hc h1 h2 hlen hst hm
section
variable {K : PySem.W.Frag} {Γ : Gam}
theorem ds_starL {te : TE} {De : DE} {a b : Nat} (h : Dl te Γ fun d Γ1 => ∃ d0 ds, (d = .lst (d0 :: ds) ∨ d = .tup (d0 :: ds)) ∧ ds.length ≤ 16000 ∧ De.nx ((Γ1.set a (.val d0)).set b (.val (.lst ds)))) : Ds (tAsg te (gStar1X K (gName a) (gName b))) Γ De := fun F σ W Dr s l => h F σ W _ s fun v W1 d Γ1 st g1 r ⟨d0, ds, e, hz, q⟩ => by
  rcases e with e | e
  · subst e
    obtain ⟨p, vs, rfl, hp, nu, z, zs, rfl, r0, r1⟩ := r
    refine ⟨p, z, zs, rfl, .inl (.of hp), by rw [← r1.length]; exact hz, fun n hn => ?_⟩
    have sm : Same W1.H (upd W1.H n (.lst zs)) := same_upd hn
    exact l.nx _ (W1.at _) _ (st.trans (Stp.of_same g1.ok sm)) (((g1.same sm).set (r0.same sm)).set (rep_new_lst g1.ok.dom hn r1)) q
  · subst e
    obtain ⟨p, vs, rfl, hp, nu, z, zs, rfl, r0, r1⟩ := r
    refine ⟨p, z, zs, rfl, .inr (hp.sq), by rw [← r1.length]; exact hz, fun n hn => ?_⟩
    have sm : Same W1.H (upd W1.H n (.lst zs)) := same_upd hn
    exact l.nx _ (W1.at _) _ (st.trans (Stp.of_same g1.ok sm)) (((g1.same sm).set (r0.same sm)).set (rep_new_lst g1.ok.dom hn r1)) q
end
/-! ### t[a:b] -/
abbrev rSlX (K : PySem.W.Frag) : V → Option Int → Option Int → Hp → VK → Prop := fun x lo hi H Q => rSlL K x lo hi H Q ∨ rSlA K x lo hi H Q
theorem slXA {X : Cx} (K : PySem.W.Frag) (hK : X.K = K := by rfl) : SlR X (rSlX K) := hK ▸ sl_list.or sl_tupA
section
variable {K : PySem.W.Frag} {Γ : Gam} {te : TE} {ds : List D}
theorem evn_sliceY {tl th : TO} {lo hi : Option Int} (h : EvB te Γ ds) (h1 : Eo tl Γ lo) (h2 : Eo th Γ hi) : EvN (tSl (rSlX K) te tl th) Γ (cutD ds lo hi) := fun F σ W Q g k => h F σ W _ g fun a vs H s e l => h1 F σ (W.at H) _ (g.same s) fun H1 s1 => h2 F σ ((W.at H).at H1) _ ((g.same s).same s1) fun H2 s2 => by
  have sm : Same H H2 := Same.trans s1 s2
  exact .inl ⟨a, vs, rfl, .of (sm _ _ e), fun p hp => k p _ _ (Same.trans s (Same.trans sm (same_upd hp))) (s.free (sm.free hp)) upd_same (RepL.plus (W := W.at H2) hp (same_upd hp) (repL_cut (RepL.same (W := W.at H) sm l)))⟩
theorem cut_whole {α : Type} (xs : List α) (n : Nat) (lo hi : Option Int) (hn : n = xs.length) (h : HT.sIx n 0 lo = 0 ∧ HT.sIx n n hi = n) : (xs.drop (HT.sIx n 0 lo)).take (HT.sIx n n hi - HT.sIx n 0 lo) = xs := by
  rw [h.1, h.2, List.drop_zero, Nat.sub_zero, hn, List.take_length]
theorem ev_sliceTY {tl th : TO} {lo hi : Option Int} (h : Ev te Γ (.tup ds)) (h1 : Eo tl Γ lo) (h2 : Eo th Γ hi) : Ev (tSl (rSlX K) te tl th) Γ (.tup (cutD ds lo hi)) := fun F σ W Q g k => h F σ W _ g fun v H s ⟨a, vs, ev, e, nu, l⟩ => h1 F σ (W.at H) _ (g.same s) fun H1 s1 => h2 F σ ((W.at H).at H1) _ ((g.same s).same s1) fun H2 s2 => by
  have sm : Same H H2 := Same.trans s1 s2
  subst ev
  refine .inr ⟨a, vs, rfl, (e.same sm).sq, fun hw => ?_, fun hw p hp => k _ _ (Same.trans s (Same.trans sm (same_upd hp))) (rep_new_tup (W := W.at H2) (((g.same s).same s1).same s2).ok.dom hp (repL_cut (RepL.same (W := W.at H) sm l)))⟩
  have e1 : cutD ds lo hi = ds := cut_whole ds ds.length lo hi rfl (by rw [l.length]; exact hw)
  rw [e1] at k
  exact k _ H2 (Same.trans s sm) ⟨a, vs, rfl, e.same sm, nu, RepL.same (W := W.at H) sm l⟩
end
/-! ### x in a written dict -/
section
variable {K : PySem.W.Frag} {w : World} {Γ : Gam} {ta tb : TE} {x : Str}
end
/-! ### the head, with the script's bits -/
end Dw

/-! xs[::-1] of lists and tuples, *xs in a list, written dicts as values. -/
namespace Dw
open PySem PySem.Spec PyProof.Rows L2 HT
variable [Tabs0]
section
variable {prog : Program} {w : World} {A : Around} {E : Value → Shared → Prop} {s : Shared}
end
section
variable {K : PySem.W.Frag} {Γ : Gam} {ta tk te : TE} {ds es : List D} {t : TA}
/-! ### {}, {'a': 1} -/
theorem ev_dnew : Ev tDNewK Γ (.dct [] []) := fun F σ W Q g k => fun p hp => k _ _ (same_upd hp) ⟨p, [], rfl, upd_same, fun u => g.ok.dom p u hp, rfl, rfl⟩
end
end Dw

/-! t != (), a, b, c = [], x, y, tuple(xs) with draws, cuts of the script. -/
namespace Dw
open PySem PySem.Spec PyProof.Rows L2 HT
variable [Tabs0]
section
variable {K : PySem.W.Frag} {Γ : Gam} {ta te : TE}
theorem evn_sliceXY {tl th : TO} {ns : List Int} {lo hi : Option Int} (h : Ev te Γ (.scr K (ns.map V.int))) (h1 : Eo tl Γ lo) (h2 : Eo th Γ hi) : EvN (tSl (rSlX K) te tl th) Γ (intD (cutI ns lo hi)) := fun F σ W Q g k => h F σ W _ g fun v H s r => h1 F σ (W.at H) _ (g.same s) fun H1 s1 => h2 F σ ((W.at H).at H1) _ ((g.same s).same s1) fun H2 s2 => by
  have sm : Same H H2 := Same.trans s1 s2
  obtain ⟨a, e, q⟩ := scr_sq (r.same (W := W.at H) sm)
  refine .inl ⟨a, _, e, q, fun p hp => k p _ _ (Same.trans s (Same.trans sm (same_upd hp))) (s.free (sm.free hp)) upd_same (RepL.ints.mpr ?_)⟩
  unfold cutI L2.cutV
  simp [List.map_take, List.map_drop]
end
theorem cut_take (ds : List D) (j : Nat) : Dw.cutD ds none (some (j : Int)) = ds.take j := by
  unfold Dw.cutD
  rw [sIx_none, sIx_nat, List.drop_zero, Nat.sub_zero]
  by_cases h : j ≤ ds.length
  · rw [Nat.min_eq_left h]
  · rw [Nat.min_eq_right (by omega), List.take_length, List.take_of_length_le (by omega)]
theorem cut_drop (ds : List D) (j : Nat) : Dw.cutD ds (some (j : Int)) none = ds.drop j := by
  unfold Dw.cutD
  rw [sIx_none, sIx_nat]
  by_cases h : j ≤ ds.length
  · rw [Nat.min_eq_left h, List.take_of_length_le (by rw [List.length_drop]; exact Nat.le_refl _)]
  · rw [Nat.min_eq_right (by omega), Nat.sub_self, List.take_zero, List.drop_eq_nil_of_le (by omega)]
theorem cut_drop1 (ds : List D) (j : Nat) : Dw.cutD ds (some ((j : Int) + 1)) none = ds.drop (j + 1) := by
  rw [show ((j : Int) + 1) = ((j + 1 : Nat) : Int) by omega, cut_drop]
end Dw

/-! tuple(range(n)), x not in a list of signs. -/
namespace Dw
open PySem PySem.Spec PyProof.Rows L2
variable [Tabs0]
section
variable {K : PySem.W.Frag} {Γ : Gam} {ta : TE}
end
end Dw

/-! cuts of texts, x is not False, t == (). -/
namespace Dw
open PySem PySem.Spec PyProof.Rows L2 HT
variable [Tabs0]
section
variable {K : PySem.W.Frag} {Γ : Gam} {ta te : TE} {x : Str}
end
end Dw

/-! xs != [] of any list. -/
namespace Dw
open PySem PySem.Spec PyProof.Rows L2 HT
variable [Tabs0]
end Dw

/-! a, b = a list; {i: x, j: y}.get(k, z). -/
namespace Dw
open PySem PySem.Spec PyProof.Rows L2 HT
variable [Tabs0]
section
variable {Γ : Gam} {td ty : TE}
end
end Dw

/-! [b for a in xs for b in a]; a value not in a list; repr of a tuple. -/
namespace Dw
open PySem PySem.Spec PyProof.Rows L2 HT
variable [Tabs0]
/-! a tuple of whole numbers, not in a list of such -/
end Dw

/-! dicts whose keys are tuples of whole numbers, made and walked by one def. -/
namespace Dw
open PySem PySem.Spec PyProof.Rows L2 HT
variable [Tabs0]
/-! worlds without a frame and without a purse: U holds the dicts -/
abbrev NoF : Addr → Prop := fun _ => False
def PW (H : Hp) (U : Addr → Prop) : Wd := ⟨H, U, fun _ => False⟩
def NO (Γ : Gam) : Prop := ∀ (i : Nat) (ds : Ow), Γ[i]? ≠ some (.ownX ds)
theorem NO.set {Γ : Gam} (h : NO Γ) (i : Nat) (d : D) : NO (Γ.set i (.val d)) := fun j ds e => by
  by_cases hij : i = j
  · subst hij
    by_cases hl : i < Γ.length
    · rw [List.getElem?_set_self hl] at e; cases e
    · rw [List.getElem?_eq_none (by rw [List.length_set]; omega)] at e; cases e
  · rw [List.getElem?_set_ne hij] at e; exact h j ds e
abbrev SP (Γ : Gam) (σ : L2.St) (H : Hp) (U : Addr → Prop) : Prop := SR NoF Γ σ (PW H U)
/-! for over a range; for over a dict with tuple keys -/
end Dw

/-! How long a repr may be. -/
namespace Dw
open PySem PySem.Spec PyProof.Rows L2 HT
variable [Tabs0]
/-! ### the length of a repr -/
mutual
def shB : D → Nat
  | .int i => (PyData.shown (.int i)).length | .str x => 10 * x.length + 2
  | .tup ds => shBs ds + 4 | .lst ds => shBs ds + 4 | .tupN ds => shBs ds + 4
  | _ => 5
def shBs : List D → Nat
  | [] => 0
  | d :: ds => shB d + 2 + shBs ds
end
theorem listText_le (ts : List Str) : (listText ts).length ≤ piled ts + 4 := by
  cases ts with
  | nil => decide
  | cons t r =>
    have h := textFrom_length_pos r 1 (("[" : Str) ++ (if (0 : Nat) > 0 then ", " else "" : String) ++ t) (Nat.succ_pos 0)
    have e : ((("[" : Str) ++ (if (0 : Nat) > 0 then ", " else "" : String) ++ t)).length = 1 + t.length := by
      rw [strLen_append, strLen_append]; rfl
    have hX : (listText (t :: r)).length = (textFrom 1 (("[" : Str) ++ (if (0 : Nat) > 0 then ", " else "" : String) ++ t) r).length + 1 := by
      unfold listText
      rw [strLen_append]; rfl
    rw [hX, h, e, piled_cons]
    omega
theorem tupleText_le (ts : List Str) : (tupleText ts).length ≤ piled ts + 4 := by
  unfold tupleText
  rw [strLen_append, strLen_append]
  have e1 : ((("(" : String) : Str)).length = 1 := rfl
  have e3 : (((if ts.length == 1 then ",)" else ")" : String) : Str)).length ≤ 2 := by split <;> decide
  rw [e1]
  by_cases h : ts = []
  · subst h
    have : (Str.join ", " []).length = 0 := rfl
    omega
  · have := join_length_add ts h
    omega
mutual
theorem shB_le : ∀ (k : Nat) (d : D), dOk k d = true → (PyData.shown (py d)).length ≤ shB d
  | _, .non, _ => by show (("None" : String) : Str).length ≤ 5; decide
  | _, .bl b, _ => by cases b <;> (show (PyData.shown (.bool _)).length ≤ 5) <;> decide
  | _, .int i, _ => Nat.le_refl _
  | k, .str x, h => by
    have e : dOk k (.str x) = PyData.strOk x := by cases k <;> rfl
    rw [e] at h
    have a' : x.cps.all (fun c => decide (c < 1114112)) = true := h
    rw [← Array.all_toList, List.all_eq_true] at a'
    exact PySem.StrLaws.reprText_len x fun c hc => Nat.lt_of_lt_of_le (of_decide_eq_true (a' c hc)) (by decide)
  | k + 1, .tup ds, h => by
    have ih := shBs_le k ds h
    show (tupleText (PyData.shownAll (pys ds))).length ≤ shBs ds + 4
    have := tupleText_le (PyData.shownAll (pys ds))
    omega
  | k + 1, .lst ds, h => by
    have ih := shBs_le k ds h
    show (listText (PyData.shownAll (pys ds))).length ≤ shBs ds + 4
    have := listText_le (PyData.shownAll (pys ds))
    omega
  | k + 1, .tupN ds, h => by
    have ih := shBs_le k ds h
    show (tupleText (PyData.shownAll (pys ds))).length ≤ shBs ds + 4
    have := tupleText_le (PyData.shownAll (pys ds))
    omega
  | 0, .tup _, h => nomatch h
  | 0, .lst _, h => nomatch h
  | 0, .tupN _, h => nomatch h
  | k, .obj _ _ _, h => by cases k <;> exact nomatch h
  | k, .raw _, h => by cases k <;> exact nomatch h
  | k, .purse, h => by cases k <;> exact nomatch h
  | k, .rng _ _, h => by cases k <;> exact nomatch h
  | k, .dct _ _, h => by cases k <;> exact nomatch h
  | k, .scr _ _, h => by cases k <;> exact nomatch h
  | k, .tag _, h => by cases k <;> exact nomatch h
theorem shBs_le : ∀ (k : Nat) (ds : List D), dOks k ds = true → piled (PyData.shownAll (pys ds)) ≤ shBs ds
  | _, [], _ => Nat.zero_le _
  | k, d :: ds, h => by
    have e : dOks k (d :: ds) = (dOk k d && dOks k ds) := by cases k <;> rfl
    rw [e, Bool.and_eq_true] at h
    have h1 := shB_le k d h.1
    have h2 := shBs_le k ds h.2
    show piled (PyData.shown (py d) :: PyData.shownAll (pys ds)) ≤ shB d + 2 + shBs ds
    rw [piled_cons]
    omega
end
end Dw
namespace Dw
open PySem PySem.Spec PyProof.Rows L2 HT
variable [Tabs0]
end Dw

/-! Tuples that are known to have no dict of their own: displays, sums, tuple(xs); t.index(x). -/
namespace Dw
open PySem PySem.Spec PyProof.Rows L2 HT
variable [Tabs0]
theorem Dl.weak {t : TE} {Γ : Gam} {Q : D → Gam → Prop} (h : Dl t Γ fun d Γ1 => Q (weakD d) Γ1) : Dl t Γ Q := fun F σ W R g k => h F σ W R g fun v W' d Γ' s r' l q => k v W' (weakD d) Γ' s r' (Rep.weak d v l) q
section
variable {X : Cx} {pins : List (Addr × Obj)} {σ : L2.St} {H : Hp} {s : Shared}
end
/-! ### (x, y) -/
section
variable {Γ : Gam} {t : TA} {ds : List D}
end
/-! ### t + (x,) -/
/-! ### tuple(xs) -/
/-! ### t.m(x) of such a tuple -/
section
variable {X : Cx} {o e : Expr} {es : List Expr} {to : TE} {t : TA} {nm : Str} {p1 p2 : Pos} {id : String} {r : V → List V → Hp → VK → Prop}
end
section
variable {K : PySem.W.Frag} {Γ : Gam} {ta tb : TE}
theorem idx_not {α : Type} [DecidableEq α] {o : List α} {c : α} {m : Nat} (h : m < o.idxOf c) (hm : m < o.length) : o[m] ≠ c := fun e => by
  have h2 : m < o.findIdx (· == c) := h
  have := List.not_of_lt_findIdx h2
  simp [e] at this
end
end Dw
namespace Dw
open PySem PySem.Spec PyProof.Rows L2 HT
variable [Tabs0]
/-! ### a new tuple, by its cell -/
section
variable {K : PySem.W.Frag} {Γ : Gam} {t : TA} {ta : TE} {ds : List D}
end
end Dw
namespace Dw
open PySem PySem.Spec PyProof.Rows L2 HT
variable [Tabs0]
end Dw

/-! {k: v for x in xs if ..}, k in d, d[k]; a call of a local name that holds a def. -/
namespace Dw
open PySem PySem.Spec PyProof.Rows L2 HT
variable [Tabs0]
section
variable {K : PySem.W.Frag} {Γ : Gam} {wi : TI} {g : TG} {tt : TT} {tk tv ta td ty : TE} {vs : List Nat}
/-! ### a call of a local name that holds a def -/
end
end Dw

/-! xs, y = [], e with a cell among them; xs.index(x) of texts. -/
namespace Dw
open PySem PySem.Spec PyProof.Rows L2 HT
variable [Tabs0]
section
variable {K : PySem.W.Frag} {Γ : Gam} {ta tb : TE}
end
end Dw

/-! an own list, lent for the time of one expression whose answer is a tuple of numbers. -/
namespace Dw
open PySem PySem.Spec PyProof.Rows L2 HT
variable [Tabs0]
end Dw

/-! list(d.values()). -/
namespace Dw
open PySem PySem.Spec PyProof.Rows L2 HT
variable [Tabs0]
section
variable {X : Cx} {e : Expr} {te : TE} {p apos cpos pos : Pos}
variable {Γ : Gam} {td : TE}
end
end Dw

/-! xs == [] of any list. -/
namespace Dw
open PySem PySem.Spec PyProof.Rows L2 HT
variable [Tabs0]
/-! ### texts, >= -/
/-! ### range(a, b) -/
end Dw

/-! {"a": 1, ..}, d.get(k, z); cuts and sums of tuples whose cells are known. -/
namespace Dw
open PySem PySem.Spec PyProof.Rows L2 HT
variable [Tabs0]
section
variable {Γ : Gam} {td ty : TE}
end
/-! ### t[a:b], its cell known -/
section
variable {K : PySem.W.Frag} {Γ : Gam} {te : TE} {ds : List D}
end
/-! ### t == () -/
/-! ### a text's count -/
end Dw

/-! min(xs); xs.extend(ys) of an own list; a purse that is made of a number. -/
namespace Dw
open PySem PySem.Spec PyProof.Rows L2 HT
variable [Tabs0]
section
variable {K : PySem.W.Frag} {Γ : Gam} {ta tb : TE}
end
section
variable {s : Spc} {E : XK} {Γ : Gam} {ta : TE}
end
end Dw

/-! x, ys = e, [] with a cell among them. -/
namespace Dw
open PySem PySem.Spec PyProof.Rows L2 HT
variable [Tabs0]
section
variable {s : Spc} {E : XK} {Γ : Gam} {ta : TE}
end
end Dw

/-! tuple("abc"); == of truth values. -/
namespace Dw
open PySem PySem.Spec PyProof.Rows L2 HT
variable [Tabs0]
section
variable {K : PySem.W.Frag} {Γ : Gam} {ta : TE}
end
end Dw

/-! ways[i] += e, of an own list of numbers. -/
namespace Dw
open PySem PySem.Spec PyProof.Rows L2
variable [Tabs0]
section
variable {K : PySem.W.Frag} {Γ : Gam} {De : DE} {te tk : TE}
end
end Dw

/-! A lambda made, with the very heap: all but its maker's table stays. -/
namespace Dw
open PySem PySem.Spec PyProof.Rows L2 LamX
/-- what a lambda's making may have done: nothing, or the maker's table at P is longer and a code object is new -/
def Chg (P : Addr) (q : Str) (H H1 : Hp) : Prop := H1 = H ∨ ∃ (c : Addr) (ps more : Array Value), H P = some (.tbl ps) ∧ H c = none ∧ H1 = upd (upd H P (.tbl (ps ++ more))) c (CodeO c q)
theorem Chg.ne {P : Addr} {q : Str} {H H1 : Hp} (h : Chg P q H H1) {b : Addr} {u : HO} (hb : b ≠ P) (e : H b = some u) : H1 b = some u := by
  rcases h with rfl | ⟨c, ps, more, _, hc, rfl⟩
  · exact e
  · rw [upd_ne (ne_of_none e hc), upd_ne hb]
    exact e
theorem Chg.ext {P : Addr} {q : Str} {H H1 : Hp} (h : Chg P q H H1) : ExtN H H1 := by
  rcases h with rfl | ⟨c, ps, more, hP, hc, rfl⟩
  · exact ExtN.refl _
  · intro b o e n
    rw [upd_ne (ne_of_none e hc), upd_ne (fun z => n ps (Option.some.inj (e.symm.trans (by rw [z]; exact hP))))]
    exact e
section
variable {X : Cx} {pins : List (Addr × Obj)} {σ : L2.St} {H : Hp} {s : Shared}
/-- the tables go on telling the truth -/
theorem tabs_grow {T : List (Addr × Str)} {P c' : Addr} {q : Str} {ps : Array Value} {pos : Pos} (hT : Tabs T H) (hu : ∀ p ∈ T, p.1 = P → p.2 = q) (hP : H P = some (.tbl ps)) (ht : TriplesOk ps.toList)
    (ha : ∀ (pos : Pos) (cv : Value), codeAmong pos ps.toList = some cv → ∃ c, cv = .ref c ∧ H c = some (CodeO c q)) (nC : H c' = none) :
    Tabs T (upd (upd H P (.tbl (ps ++ #[rawInt pos.line, rawInt pos.col, .ref c']))) c' (CodeO c' q)) := by
  have eE : ∀ b o, H b = some o → (∀ ps, o ≠ .tbl ps) → upd (upd H P (.tbl (ps ++ #[rawInt pos.line, rawInt pos.col, .ref c']))) c' (CodeO c' q) b = some o :=
    (Chg.ext (q := q) (.inr ⟨c', ps, _, hP, nC, rfl⟩))
  have eL : (ps ++ #[rawInt pos.line, rawInt pos.col, .ref c']).toList = ps.toList ++ [rawInt pos.line, rawInt pos.col, .ref c'] := by simp
  intro p hp
  by_cases hb : p.1 = P
  · rw [hu p hp hb, hb]
    refine ⟨_, by rw [upd_ne (ne_of_none hP nC), upd_same], by rw [eL]; exact PySem.TriplesOk_snoc _ _ _ _ ht, fun p' cv hcv => ?_⟩
    rw [eL] at hcv
    rcases among_app _ ht hcv with z | z
    · obtain ⟨c0, e1, e2⟩ := ha p' cv z
      exact ⟨c0, e1, eE _ _ e2 codeO_ne⟩
    · exact ⟨c', z, upd_same⟩
  · obtain ⟨ps', a1, a2, a3⟩ := hT p hp
    refine ⟨ps', by rw [upd_ne (ne_of_none a1 nC), upd_ne hb]; exact a1, a2, fun p' cv hcv => ?_⟩
    obtain ⟨c0, e1, e2⟩ := a3 p' cv hcv
    exact ⟨c0, e1, eE _ _ e2 codeO_ne⟩
/-- the lambda is made; what its making did is told -/
theorem lam_make3 {T : List (Addr × Str)} {c P : Addr} {params : Arguments} {body : Expr} {scope : Scope} {pos : Pos} {E Q : Value → Shared → Prop} (I : Inv X pins σ H s) (TB : TabB X.base X.mg c P) (hcode : X.env.code = .ref c)
    (hm : (P, X.env.qual ++ "<lambda>") ∈ T) (hu : ∀ p ∈ T, p.1 = P → p.2 = X.env.qual ++ "<lambda>") (hT : Tabs T H) (hdef : defaultsOf params X.env = ([], [])) (hfree : ∀ y ∈ scope.names, y.2 = .free → ∃ c, X.env.cells.lookup y.1 = some c)
    (h : ∀ (f c' : Addr) (pm ctv : Value) (H1 : Hp) (s' : Shared), Inv X pins σ H1 s' → Chg P (X.env.qual ++ "<lambda>") H H1 → Tabs T H1 →
      s'.heap.get? f = some (PySem.W.kla_obj "<lambda>" (X.env.qual ++ "<lambda>") params body scope (cloFrom X.env.cells scope.names []) pm c' ctv) → H1 f = none → f ∉ frs X.stack → H1 c' = some (CodeO c' (X.env.qual ++ "<lambda>")) → Q (.ref f) s') :
    wpAny (model X.prog X.w) X.A (eval (.Lambda params body scope pos) X.env) Q E s := by
  obtain ⟨ps, hP, ht, ha⟩ := hT _ hm
  have nofr : ∀ f, s.heap.objs.size ≤ f → f ∉ frs X.stack := fun f hf z => by
    rcases List.mem_cons.mp (I.stkSub _ z) with e | e
    · have := I.lt
      rw [← e] at this
      exact Nat.lt_irrefl _ (Nat.lt_of_lt_of_le this hf)
    · exact I.nofs hf e
  have hP' : s.heap.get? P = some { cls := .none, data := .fields ps } := I.hok P _ hP
  have bP := TB.bm.keeps I.bk
  refine PySem.W.kla_eval hdef ?_
  cases hc : codeAmong pos ps.toList with
  | some cv =>
    obtain ⟨c', rfl, hco⟩ := ha pos cv hc
    refine PySem.W.kla_makeFunctionHit (mg := X.mg) (c := c) (P := P) (ps := ps) (closure_ok hfree) I.ok.glob (I.mod.glob.keeps I.bk) hcode (TB.code.keeps I.bk) hP' ht hc bP fun ctv h' tk hx hsz => ?_
    exact h h'.objs.size c' _ ctv H _ (I.kept (t' := tk) fun b o e => Heap.get?_push_of_some _ (hx b o e)) (.inl rfl) hT (Heap.get?_push_size _ rfl) (I.hok.fresh hsz) (nofr _ hsz) hco
  | none =>
    refine PySem.W.kla_makeFunction (mg := X.mg) (c := c) (P := P) (ps := ps) (closure_ok hfree) I.ok.glob (I.mod.glob.keeps I.bk) hcode (TB.code.keeps I.bk) hP' ht hc TB.gP bP fun c' ctv h' tk hx hge hlt hrec htb => ?_
    obtain ⟨c2, oc, vs, t, e2, hoc, hd, hv⟩ := hrec
    cases e2
    have nC : H c' = none := I.hok.fresh hge
    have hsz : s.heap.objs.size ≤ h'.objs.size := Nat.le_trans hge (Nat.le_of_lt hlt)
    have I1 := inv_table (t' := tk) (more := #[rawInt pos.line, rawInt pos.col, .ref c']) (h' := h'.push (PySem.W.kla_obj "<lambda>" (X.env.qual ++ "<lambda>") params body scope (cloFrom X.env.cells scope.names []) ((X.mg "__name__").getD .none) c' ctv)) I hP
      (fun b o hb e => Heap.get?_push_of_some _ (hx b o hb e)) (Heap.get?_push_of_some _ htb) hge ⟨oc, vs, t, Heap.get?_push_of_some _ hoc, hd, hv⟩
    refine h h'.objs.size c' _ ctv _ _ I1 (.inr ⟨c', ps, _, hP, nC, rfl⟩) (tabs_grow hT hu hP ht ha nC) (Heap.get?_push_size _ rfl) ?_ (nofr _ hsz) upd_same
    rw [upd_ne (Nat.ne_of_gt hlt), upd_ne (Nat.ne_of_gt (Nat.lt_of_lt_of_le (Heap.lt_size hP') hsz))]
    exact I.hok.fresh hsz
end
/-! ### the lambda handed to a def -/
def tLam3 (T : List (Addr × Str)) (P : Addr) (q : Str) (TT : (XK → Hp → VK → Prop) → Hp → VK → Prop) (t : XK → TE) : TE := fun σ H Q => Tabs T H ∧ ∀ H1, Chg P q H H1 → Tabs T H1 → TT (fun E H' Q' => t E σ H' Q') H1 Q
section
variable {X : Cx}
theorem pe_lamcall3 {T : List (Addr × Str)} {TT : (XK → Hp → VK → Prop) → Hp → VK → Prop} {x a : Str} {g c P : Addr} {k : Nat} {pg : Arguments} {bg : List Stmt} {sg : Scope} {dV kV doc pm cdv ct oc : Value} {an od : Option Addr} {osl : Array (Option Value)} {Ng : List Str}
    {params : Arguments} {body : Expr} {scope : Scope} {t : XK → TE} {p lpos pos : Pos} (hg : Gl X x) (hm : X.mg x = some (.ref g)) (hk : PySem.W.keepIn X.K (.ref g) = true)
    (lk : X.K.lookup g = some ⟨oc, od, .func (PySem.W.fnOf x x pg bg sg dV kV doc pm an cdv ct), osl⟩) (hcg : PySem.W.codeIn X.K cdv x = true) (hb : L2.Binds X.K (PySem.W.fnOf x x pg bg sg dV kV doc pm an cdv ct) [a] []) (Sg : FnScope Ng [a] sg) (hNg : Ng[0]? = some a) (hva : Vis sg a)
    (hG : GivesTo X Ng x sg g cdv bg a (X.env.qual ++ "<lambda>") TT)
    (TB : TabB X.base X.mg c P) (hcode : X.env.code = .ref c) (hmT : (P, X.env.qual ++ "<lambda>") ∈ T) (hu : ∀ p ∈ T, p.1 = P → p.2 = X.env.qual ++ "<lambda>") (hr : Room (k + 2) X.A) (L : LamS X.env.scope scope) (hdef : defaultsOf params X.env = ([], []))
    (hbind : ∀ (q : Str) (cl : List (Str × Addr)) (pm cv ctv : Value), bindArgs (PySem.W.kla_fn "<lambda>" q params body scope cl pm cv ctv) ⟨[], []⟩ = pure [])
    (hbody : ∀ (A : Around) (outer : List Env) (s : Shared) (H : Hp) (E : XK) (f c' : Addr), Room k (A.deeper (lamEnv X scope s.heap.objs.size f c')) → PE (lamCx X A outer s H E scope f c') body (t E))
    (hdb : (x == ("__debug__" : Str)) = false := by decide) (hd : (a == ("__debug__" : Str)) = false := by decide) (hcd : (a == ("__classdict__" : Str)) = false := by decide) :
    PE X (.Call (.Name x p) [.Lambda params body scope lpos] [] pos) (tLam3 T P (X.env.qual ++ "<lambda>") TT t) := by
  refine ⟨fun pins s σ H Q I h => ?_⟩
  obtain ⟨hT, h⟩ := h
  refine wpAny_Call_Name_kw (ld_glob I hg hm (PySem.W.callWith_K (h₀ := X.base) I.ok.mod.kin hk ?_ (by rfl) (by rfl)) hdb)
  show wpAny _ _ (spliced ((false, eval (.Lambda params body scope lpos) X.env) :: backTo pos (starEach [] X.env))) _ _ s
  refine Calls.spliced_cons (lam_make3 I TB hcode hmT hu hT hdef (L.has I.ok) fun f c' pm' ctv H1 s' I1 eN T1 hf hfn hfr hco => Calls.spliced_nil ⟨I1.kIn, ?_⟩)
  have rc : codeAny (model X.prog X.w) X.A (.call (.ref g) ⟨[.ref f], []⟩) (CR C8.CX0 X.stack X.prog X.w H1 s' Q C8.E0) s' :=
    run_ofS (N := Ng) (ps := [a]) (us := [.ref f]) (vs := [.ref f]) lk hcg Sg hr I1.env0 (hb s' [.ref f] I1.kIn rfl) (.cons rfl .nil) rfl fun hr' =>
      let ⟨t', ht', hq'⟩ := hG f c' s' H1 Q (fun E H' Q' => t E σ H' Q') (fun W pn xe E p1 p2 tk hW => pe_act (i := 0) I1 L hf hfn hfr (hbind _ _ _ _ _) tk hW hr' (fun A outer s H hr2 => hbody A outer s H E f c' hr2) hNg hva hd hcd) hco (h H1 eN T1)
      ⟨t', ht'.nox, hq'⟩
  refine wpAny_call (codeAny_mono rc fun r s2 hq => ?_)
  match r, hq with
  | .error e, hq => exact (show False from hq).elim
  | .ok .next, hq => exact (show False from hq).elim
  | .ok .brk, hq => exact (show False from hq).elim
  | .ok .cont, hq => exact (show False from hq).elim
  | .ok (.ret u), hq => exact I1.after hq
end
end Dw

/-! except (A, B) as e: one clause for two classes, that takes all that comes. -/
namespace Dw
open PySem PySem.Spec PyProof.Rows L2 HotX
/-- what flies goes on flying where all is kept -/
theorem flyZ_keeps {B h h' : Heap} {l : List Env} {a : Addr} {Z : Obj → Prop} (R : HandSPX.FlyingZ B l a Z h) (k : ∀ b o, h.get? b = some o → h'.get? b = some o) : HandSPX.FlyingZ B l a Z h' := by
  obtain ⟨f1, f2, f3, oe, vs, T, oT, ts, he, hz, hd, h1, hn, hne, hT, hdT, h3⟩ := R
  exact ⟨fun b o q => k b o (f1 b o q), f2, f3.of_keeps fun b o q _ => ⟨o, k b o q, rfl⟩, oe, vs, T, oT, ts, k _ _ he, hz, hd, h1, hn, hne, k _ _ hT, hdT, h3⟩
/-- the suite behind it, for what either class takes -/
def wAs2 (K : PySem.W.Frag) (c1 c2 : Value) (i : Nat) (ts : Addr → Value → Option Addr → TS) (D : Ends) : WX := fun cls d σ H =>
  PySem.W.exmAny K cls [c1, c2] = some true ∧ ∀ a, H a = none → ts a cls d { nx := fun σ' H' => D.nx (σ'.set i none) H', rt := D.rt, bk := fun σ' H' => D.bk (σ'.set i none) H', ct := fun σ' H' => D.ct (σ'.set i none) H' } (σ.set i (some (.ref a))) H
section
variable {X : Cx} {x1 x2 n : Str} {c1 c2 : Value} {i kk : Nat} {body suite : List Stmt} {b₀ : Stmt} {p1 p2 tpos pos pos' : Pos} {tb : WX → TS} {ts : Addr → Value → Option Addr → TS}
theorem ps_try_as2 (hs : X.stack = X.env :: X.outer) (hf : X.env.frame = some X.env.locals) (hN : X.N.Nodup) (hi : X.N[i]? = some n) (hln : X.env.kindOf n = some .local) (hc1 : Names X x1 c1) (hc2 : Names X x2 c2)
    (hb : ∀ (W : WX) (pn : List (Addr × Obj)) (xe : Value → Shared → Prop), Takes (X.tr pn xe) W → PassesOwn (model X.prog X.w) X.A X.env xe → PSs (X.tr pn xe) body (tb W))
    (hsu : ∀ (a : Addr) (oe : Obj) (cls : Value) (d : Option Addr) (pn : List (Addr × Obj)), Zc cls d oe → (∃ vs, oe.data = .fields vs) → PSs (X.suite a ((a, oe) :: pn)) (b₀ :: suite) (ts a cls d)) :
    PS X (.Try body [.ExceptHandler (some (.Tuple [.Name x1 p1, .Name x2 p2] kk tpos)) (some n) (b₀ :: suite) pos'] [] [] pos) (fun D σ H => tb (wAs2 X.K c1 c2 i ts D) D σ H) := by
  refine ⟨fun pins s σ H D I h => ?_⟩
  have ok := I.ok
  have hfr : X.A.frames = some (X.env :: X.outer) := by rw [ok.frames, hs]
  refine wpAny_Try_except ?_
  refine wpAny_mono ((hb (wAs2 X.K c1 c2 i ts D) (X.pn ++ pins) (fun e s₁ => wpAny (model X.prog X.w) X.A (noteFrame e X.env) (fun _ s₂ => wpAny (model X.prog X.w) X.A (setFlight e none) (fun _ s₃ =>
    wpAny (model X.prog X.w) X.A (handleBy e X.env [.ExceptHandler (some (.Tuple [.Name x1 p1, .Name x2 p2] kk tpos)) (some n) (b₀ :: suite) pos']) (L2.SP X pins D) X.xe s₃) X.xe s₂) X.xe s₁) (fun u s' xx => ?_) PassesOwn.looking).run [] s σ H D (I.toTry _) h) (fun f s1 hsp => ?_) (fun e s1 he => he)
  · obtain ⟨a, B, sI, pins', σ', H', cls, d, rfl, J', nb, up, sky, na, os, ag, hb1, hyes⟩ := xx
    have J : Inv X pins σ' H' sI := J'.ofTry ok
    rw [hs] at sky
    show wpAny (model X.prog X.w) X.A (noteFrame (.ref a) X.env) _ _ _
    refine Sky.land Zc.steady hfr hf sky fun h3 fl3 up3 => ?_
    have J3 : Inv X pins σ' H' { s' with heap := h3 } := J.landed nb fl3.1 (up.trans up3) os ag
    obtain ⟨oe3, vs3, he3, hz3, hd3⟩ := fl3.there
    have nfr : a ∉ frs (X.env :: X.outer) := fun hm => by
      obtain ⟨_, o', e', hnf⟩ := fl3.2.2.1.mem hm
      rw [he3] at e'; cases e'
      exact hnf _ hd3
    have nL : a ≠ X.env.locals := fun z => nfr (List.mem_filterMap.mpr ⟨X.env, List.mem_cons_self, by rw [hf, z]⟩)
    have nF : a ∉ X.fs := fun hm => by
      obtain ⟨e, he, q⟩ := List.mem_filterMap.mp hm
      exact nfr (List.mem_filterMap.mpr ⟨e, List.mem_cons_of_mem _ he, q⟩)
    have S3 := J3.suite he3 hd3 na nL nF
    have test : ∀ {x : Str} {c : Value} {np : Pos} {Q E : Value → Shared → Prop}, Names X x c → Q c { s' with heap := h3 } → wpAny (model X.prog X.w) (X.A.mark (some (.ref a))) (eval (.Name x np) X.env) Q E { s' with heap := h3 } := fun {x c np Q E} hc q => by
      obtain ⟨hg, hdbg, hm | ⟨hm, hv, hnn⟩⟩ := hc
      · exact ld_glob (X := X.suite a ((a, oe3) :: (X.pn ++ pins))) S3 hg hm q hdbg
      · exact ld_blt (X := X.suite a ((a, oe3) :: (X.pn ++ pins))) S3 hg hm hv q hnn hdbg
    refine wpAny_handleBy_cons (codeAny_handlers_test ?_) (by intro q; cases q)
    refine wpAny_Tuple (wpAny_items_cons (test hc1 (wpAny_items_cons (test hc2 (wpAny_items_nil ⟨by size_fits, ?_⟩)))))
    have kp : ∀ b o, h3.get? b = some o → (h3.push { cls := .type "tuple", data := .seq [c1, c2].toArray }).get? b = some o := fun b o e => Heap.get?_push_of_some _ e
    have LT : PySem.W.Looks (model X.prog X.w) (h3.push { cls := .type "tuple", data := .seq [c1, c2].toArray }) (typeOf (.ref a)) cls := fun A Q E s k q => wpAny_typeOf_ref (k _ _ (kp _ _ he3)) (by rw [hz3.1]; exact q)
    refine (PySem.W.exm_tup2 (M := model X.prog X.w) (J3.kIn.keeps kp) LT (Heap.get?_push_size h3 rfl) hb1).here ?_
    refine codeAny_handlers_suite_as ?_
    refine HandSPX.lands_againZ (flyZ_keeps fl3 kp) fun h4 fl4 up4 => ?_
    have J4 : Inv X pins σ' H' { s' with heap := h4 } := J.landed nb fl4.1 (((up.trans up3).trans (Heap.UpToSlots.of_keeps kp)).trans up4) os ag
    obtain ⟨oe4, vs4, he4, hz4, hd4⟩ := fl4.there
    refine store_ok (X := X.suite a ((a, oe4) :: (X.pn ++ pins))) (v := .ref a) (J4.suite he4 hd4 na nL nF) hN hi (.inl hln) rfl (fun s5 S5 => ?_) (.inr hln)
    refine wpAny_mono ((hsu a oe4 cls d (X.pn ++ pins) hz4 ⟨_, hd4⟩).run [] s5 _ H' _ S5 (hyes a na)) (fun f s6 hsp => ?_) (fun _ _ z => False.elim z)
    have end_ : ∀ {σ6 : L2.St} {H6 : Hp} {Q : Shared → Prop}, Inv (X.suite a ((a, oe4) :: (X.pn ++ pins))) [] σ6 H6 s6 → (∀ s7, Inv X pins (σ6.set i none) H6 s7 → Q s7) →
        wpAny (model X.prog X.w) X.A (do bindName X.env n .none; unbindBehindTheSuite X.env n pos') (fun _ s7 => Q s7) X.xe s6 := fun {σ6 H6 Q} S6 hq => gone_ok (S6.unsuite ok) hN hi hln hq
    match f, hsp with
    | .next, ⟨_, _, S6, q6⟩ => exact end_ S6 fun s7 J7 => ⟨_, _, J7, q6⟩
    | .brk, ⟨_, _, S6, q6⟩ => exact end_ S6 fun s7 J7 => ⟨_, _, J7, q6⟩
    | .cont, ⟨_, _, S6, q6⟩ => exact end_ S6 fun s7 J7 => ⟨_, _, J7, q6⟩
    | .ret u, ⟨_, _, _, S6, r6, q6⟩ => exact end_ S6 fun s7 J7 => ⟨_, _, _, J7, r6, q6⟩
  · match f, hsp with
    | .next, ⟨_, _, J', q⟩ => exact wpAny_execs_nil ⟨_, _, J'.ofTry ok, q⟩
    | .brk, ⟨_, _, J', q⟩ => exact ⟨_, _, J'.ofTry ok, q⟩
    | .cont, ⟨_, _, J', q⟩ => exact ⟨_, _, J'.ofTry ok, q⟩
    | .ret u, ⟨_, _, _, J', r, q⟩ => exact ⟨_, _, _, J'.ofTry ok, r, q⟩
end
end Dw

/-! The exception that is held, within a def that the suite calls. -/
namespace Dw
open PySem PySem.Spec PyProof.Rows L2
variable [Tabs0]
section
variable {X : Cx} {a D : Addr} {oe : Obj}
theorem inst_none {h : Heap} (hz : Zc (.ref D) none oe) (hf : ∃ vs, oe.data = .fields vs) (hget : h.get? a = some oe) : PySem.W.InstAt h a oe D none := by
  obtain ⟨vs, hv⟩ := hf
  obtain ⟨oc, od, oda, osl⟩ := oe
  obtain ⟨h1, h2⟩ := hz
  dsimp only at h1 h2 hv
  subst h1 h2 hv
  exact ⟨hget, rfl, rfl, trivial⟩
theorem inst_some {h : Heap} {dd : Addr} {od : Obj} (hz : Zc (.ref D) (some dd) oe) (hf : ∃ vs, oe.data = .fields vs) (hget : h.get? a = some oe) (ho : h.get? dd = some od) : PySem.W.InstAt h a oe D (some od) := by
  obtain ⟨vs, hv⟩ := hf
  exact ⟨hget, hz.1, by unfold PySem.W.notCls; rw [hv] <;> rfl, by rw [hz.2]; exact ho⟩
end
/-! ### promises of defs that may raise: the one that returns, and the one that raises, side by side -/
section
variable {P : Program} {w : World} {K : PySem.W.Frag} {mg : Str → Option Value} {base : Heap} {k : Nat} {f : Addr} {fd : FuncData} {ps : List Str} {sp sp' : Sp}
/-- one of two promises -/
def spOr (sp sp' : Sp) : Sp := fun vs H Q E => sp vs H Q E ∨ sp' vs H Q E
/-- a def that raises: the class, and no dict -/
structure SpcE where
  ty : Type
  args : ty → List D
  ok : ty → Prop
  cls : Addr
end
end Dw

/-! Defs that an except suite calls, and that neither raise nor loop: nothing is asked of the held exception's context. -/
namespace Dw
open PySem PySem.Spec PyProof.Rows L2
open L2H (RoomH PinOk cxH inv_startH)
variable [Tabs0]
section
variable {P : Program} {w : World} {K : PySem.W.Frag} {mg : Str → Option Value} {base : Heap} {k : Nat} {f : Addr} {fd : FuncData} {ps : List Str} {sp : Addr × Obj → Sp}
/-- the promise of a def f while p is held -/
structure FnS (P : Program) (w : World) (K : PySem.W.Frag) (mg : Str → Option Value) (base : Heap) (k : Nat) (f : Addr) (fd : FuncData) (ps : List Str) (sp : Addr × Obj → Sp) : Prop where
  len : ∀ p vs H Q E, sp p vs H Q E → vs.length = ps.length
  run : ∀ (A : Around) (outer : List Env) (s : Shared) (H : Hp) (args : Args) (us : List Value) (vs : List V) (Q : VK) (E : XK) (p : Addr × Obj), RoomH k A → A.guards = some [] → PinOk outer H s p → Env0 P w K mg base A outer s H → BindsTo s fd args (ps.zip us) → Vals vs us → sp p vs H Q E →
    codeAny (model P w) A (.call (.ref f) args) (CR CX0 outer P w H s Q E) s
theorem fn_ofS {name qual : Str} {params : Arguments} {body : List Stmt} {scope : Scope} {dV kV doc pm cdv ct oc : Value} {an od : Option Addr} {osl : Array (Option Value)} {N : List Str}
    (lk : K.lookup f = some ⟨oc, od, .func (PySem.W.fnOf name qual params body scope dV kV doc pm an cdv ct), osl⟩) (hcd : PySem.W.codeIn K cdv qual = true) (S : FnScope N ps scope) (len : ∀ p vs H Q E, sp p vs H Q E → vs.length = ps.length)
    (hbody : ∀ (A : Around) (outer : List Env) (s : Shared) (H : Hp) (vs : List V) (Q : VK) (E : XK) (p : Addr × Obj), RoomH k (A.deeper (envOfC qual scope s.heap.objs.size f cdv)) → (A.deeper (envOfC qual scope s.heap.objs.size f cdv)).guards = some [] → sp p vs H Q E →
      ∃ t, PSs (cxH CX0 P w K mg base N qual scope f cdv A outer s H E p) body t ∧ t { nx := fun _ H' => Q .non H', rt := Q } (L2.start N vs) H) :
    FnS P w K mg base (k + 1) f (PySem.W.fnOf name qual params body scope dV kV doc pm an cdv ct) ps sp := by
  refine ⟨len, fun A outer s H args us vs Q E p hr hG hpin e0 hb r hsp => ?_⟩
  have hl := len _ _ _ _ _ hsp
  have KX : K.In s.heap := e0.mod.kin.keeps fun b o e => (e0.bs b o e).1
  have lim : s.heap.NoLimit := e0.mod.nolimit.keeps fun b o e => (e0.bs b o e).1
  have hkind : ∀ y ∈ ps.zip us, scope.names.lookup y.1 = some .local ∨ (scope.names.lookup y.1 = some .cell ∧ ((cellsFrom (s.heap.objs.size + 1) scope.names []).lookup y.1).isSome = true) := fun ⟨n, v⟩ hy =>
    (S.par n (List.of_mem_zip hy).1).elim .inl fun q => .inr ⟨q, PySem.W.cellsFrom_some _ _ _ (.inl q)⟩
  refine codeAny_call_function hr.depth (KX _ _ lk) rfl S.co S.gen rfl (PySem.W.codeRec_of KX hcd) (hb _ _ _ _ ?_)
  refine wpAny_newFunctionEnv_cells S.kind hkind fun env he s1 x => ?_
  subst he
  obtain ⟨t, ht, hq⟩ := hbody A outer s H vs Q E p (hr.deeper _) hG hsp
  have I := inv_startH (CX := CX0) (P := P) (w := w) (K := K) (mg := mg) (base := base) (qual := qual) (f := f) (cd := cdv) (A := A) (E := E) S hpin e0 hl r x
  refine ⟨lim.keeps x.toInCall.keep, codeAny_func (wpAny_mono (ht.run [] s1 (L2.start N vs) H _ I hq) (fun fl s' hs => ?_) fun e s' hs => hs)⟩
  match fl, hs with
  | .ret u, ⟨v, _, H', J, rv, q⟩ => exact ⟨v, H', J.os, J.bare, J.base, J.hok, rv, q⟩
  | .next, ⟨_, H', J, q⟩ => exact ⟨V.non, H', J.os, J.bare, J.base, J.hok, rfl, q⟩
  | .brk, ⟨_, _, _, q⟩ => exact False.elim q
  | .cont, ⟨_, _, _, q⟩ => exact False.elim q
end
section
variable {X : Cx} {k : Nat} {f : Addr} {fd : FuncData} {ps : List Str} {sp : Addr × Obj → Sp} {E : L2.St → XK} {x : Str} {q pos : Pos} {e : Expr} {es : List Expr} {t : TA} {p : Addr × Obj}
end
end Dw

/-! try: g = a() / except (A, B) as e: suite; return ("returned", g). -/
namespace Dw
open PySem PySem.Spec PyProof.Rows L2 LamX
variable [Tabs0]
/-- what flies comes with all of the maker's slots -/
theorem takes_len {X : Cx} {W : WX} (t : Takes X W) : Takes X (fun cls d σ H => σ.length = X.N.length → W cls d σ H) := fun u s' ⟨a, B, sI, pins, σ, H, cls, d, e, I, nb, up, sky, na, os, ag, w⟩ =>
  t u s' ⟨a, B, sI, pins, σ, H, cls, d, e, I, nb, up, sky, na, os, ag, w I.len⟩
def TTold3 (K : PySem.W.Frag) (c1 c2 : Value) (n ie : Nat) (wd : Str) (ts : Addr → Value → Option Addr → TS) : (XK → Hp → VK → Prop) → Hp → VK → Prop := fun tl H Q => ∀ Qc : VK, (∀ v H', (∀ t, H' t = none → Q (.ref t) (upd H' t (.tup [.str wd, v]))) → Qc v H') →
  tl (fun cls d H' => PySem.W.exmAny K cls [c1, c2] = some true ∧ ∀ (σ : L2.St) (a : Addr) (D : Ends), σ.length = n → H' a = none → D.rt = Q → ts a cls d D (σ.set ie (some (.ref a))) H') H Qc
theorem told_gives3 {X : Cx} {Ng : List Str} {x a gv e x1 x2 q wd : Str} {sg : Scope} {g : Addr} {cdg c1 c2 : Value} {j kk k3 ig ie : Nat} {p1 p2 p3 p4 p5 p6 p7 p8 p9 pr pt tpos pos pos' : Pos} {b₀ : Stmt} {suite : List Stmt} {ts : Addr → Value → Option Addr → TS}
    (hN : Ng.Nodup) (hig : Ng[ig]? = some gv) (hlg : sg.names.lookup gv = some .local) (hie : Ng[ie]? = some e) (hle : (envOfC x sg 0 g cdg).kindOf e = some .local) (hge : sg.names.lookup x1 = some .globalImplicit) (hge2 : sg.names.lookup x2 = some .globalImplicit)
    (hm1 : X.mg x1 = some c1) (hm2 : X.mg x2 = some c2) (hd1 : (x1 == ("__debug__" : Str)) = false) (hd2 : (x2 == ("__debug__" : Str)) = false) (h0 : ∀ f : Addr, (L2.start Ng [V.ref f])[0]? = some (some (V.ref f))) (hl0 : ∀ f : Addr, (L2.start Ng [V.ref f]).length = Ng.length) (hgl : ig < Ng.length)
    (hd3 : (gv == ("__debug__" : Str)) = false) (hd4 : (gv == ("__classdict__" : Str)) = false)
    (hsu : ∀ (s : Shared) (H : Hp) (a : Addr) (oe : Obj) (cls : Value) (d : Option Addr) (pn : List (Addr × Obj)), Zc cls d oe → (∃ vs, oe.data = .fields vs) →
      PSs ((cxOf C8.CX0 X.prog X.w X.K X.mg X.base Ng x sg g cdg X.A X.stack s H C8.E0).nox.suite a ((a, oe) :: pn)) (b₀ :: suite) (ts a cls d)) :
    GivesTo X Ng x sg g cdg [.Try [.Assign [.Name gv p1] (.Call (.Name a p2) [] [] p3) p4] [.ExceptHandler (some (.Tuple [.Name x1 p5, .Name x2 p6] kk tpos)) (some e) (b₀ :: suite) pos'] [] [] pos, .Return (some (.Tuple [.Constant (.str wd) j p7, .Name gv p8] k3 p9)) pr] a q (TTold3 X.K c1 c2 Ng.length ie wd ts) := by
  intro f c' s H Q tl act hc h
  refine ⟨_, pss_cons (ps_try_as2 (X := (cxOf C8.CX0 X.prog X.w X.K X.mg X.base Ng x sg g cdg X.A X.stack s H C8.E0).nox) (c1 := c1) (c2 := c2) (i := ie)
      (tb := fun W D σ H => ∃ Ech : XK, (∀ cls d σ' H', Ech cls d H' → σ'.length = Ng.length → W cls d σ' H') ∧ σ[0]? = some (some (.ref f)) ∧ H c' = some (CodeO c' q) ∧ tl Ech H fun v H' => D.nx (σ.set ig (some v)) H')
      rfl rfl hN hie hle ⟨hge, hd1, .inl hm1⟩ ⟨hge2, hd2, .inl hm2⟩ (fun W pn xe tk _ => ?_) (hsu s H)) (pss_one (ps_ret (pe_tup (pa_cons pe_str (pa_cons (pe_var (i := ig) hig (.inl hlg) hd3 hd4) pa_nil))))), ?_⟩
  · refine ⟨fun pins s' σ H' D I h' => ?_⟩
    obtain ⟨Ech, hW, h1, h2, h3⟩ := h'
    have hp := act _ pn xe Ech p2 p3 (takes_len tk) hW
    have hq := pss_one (ps_set (pos := p4) (pos' := p1) (i := ig) hN hig (.inl hlg) hp)
    exact hq.run pins s' σ H' D I ⟨h1, h2, h3⟩
  · refine ⟨_, fun cls d σ' H' hE hl => ⟨hE.1, fun a na => hE.2 σ' a _ hl na rfl⟩, h0 f, hc, h _ fun v H' hv => ?_⟩
    have hl : ig < (L2.start Ng [V.ref f]).length := by rw [hl0]; exact hgl
    refine ⟨v, List.getElem?_set_self hl, ?_⟩
    exact ⟨small (show 2 ≤ 100000 by decide), hv⟩
end Dw

/-! told(lambda: body), by data. -/
namespace Dw
open PySem PySem.Spec PyProof.Rows L2 LamX
variable [Tabs0]
/-- the tables that a law knows: all there are -/
structure TabsOk (Tt : List (Addr × Str)) : Prop where
  sound : ∀ p ∈ Tt, Tabs0.nm p.1 = some p.2
  all : ∀ p q, Tabs0.nm p = some q → (p, q) ∈ Tt
theorem tabs_of {F : Addr → Prop} {W : Wd} {Tt : List (Addr × Str)} (ok : WOk F W) (T : TabsOk Tt) (tb : ∀ p q, Tabs0.nm p = some q → W.P p) : Tabs Tt W.H := fun p hp => (ok.pu p.1 (tb _ _ (T.sound p hp))).2.2.tab (T.sound p hp)
/-- a lambda is made: all that is known stays known -/
theorem SR.chg {F : Addr → Prop} {Γ : Gam} {σ : L2.St} {W : Wd} {Tt : List (Addr × Str)} {P : Addr} {q : Str} {H1 : Hp} (g : SR F Γ σ W) (T : TabsOk Tt) (hP : (P, q) ∈ Tt) (tb : ∀ p q, Tabs0.nm p = some q → W.P p) (c : Chg P q W.H H1) (T1 : Tabs Tt H1) :
    Stp F W (W.at H1) ∧ SR F Γ σ (W.at H1) := by
  have pP : W.P P := tb P q (T.sound _ hP)
  obtain ⟨uP, fP, _⟩ := g.ok.pu P pP
  have st : Stp F W (W.at H1) := ⟨fun a u e n => ⟨c.ne (fun z => n (by rw [z]; exact uP)) e, n⟩, rfl, fun a h => by
    cases e : W.H a with
    | none => exact absurd e (g.ok.dom a (g.ok.fu a h))
    | some u => exact c.ne (fun z => fP (by rw [← z]; exact h)) e⟩
  refine ⟨st, ⟨⟨fun a h z => ?_, g.ok.fu, fun a h => ?_⟩, g.len, fun i d e => ?_, fun i ds e => ?_, g.apartX⟩⟩
  · have z : H1 a = none := z
    by_cases hb : a = P
    · obtain ⟨ps, e, _⟩ := T1 _ hP
      rw [hb, show H1 P = _ from e] at z; cases z
    · cases e : W.H a with
      | none => exact g.ok.dom a h e
      | some u => rw [c.ne hb e] at z; cases z
  · obtain ⟨u, f, o⟩ := g.ok.pu a h
    refine ⟨u, f, ?_⟩
    cases n : Tabs0.nm a with
    | some q' =>
      have := T1 _ (T.all a q' n)
      unfold OwnAt
      rw [n]
      exact this
    | none =>
      obtain ⟨x, y, h1, h2, h3, e⟩ := o.purse n
      refine .of ⟨x, y, h1, h2, h3, c.ne (fun z => ?_) e⟩ n
      have := T.sound _ hP
      rw [← show a = P from z, n] at this; cases this
  · obtain ⟨v, e1, r⟩ := g.val i d e
    exact ⟨v, e1, r.stp st⟩
  · obtain ⟨a, vs, e1, u, f, p, e2, r⟩ := g.ownX i ds e
    exact ⟨a, vs, e1, u, f, p, c.ne (fun z => p (by rw [z]; exact pP)) e2, r.stp st⟩
section
variable {K : PySem.W.Frag} {Γ : Gam} {Tt : List (Addr × Str)} {P : Addr} {q wd : Str} {c1 c2 : Value} {n ie i : Nat} {ts : Addr → Value → Option Addr → TS} {t : XK → TE} {d : D} {Q : D → Gam → Prop}
end
/-! ### calls of defs that return, or raise -/
section
variable {Γ : Gam} {s : Spc} {se : SpcE} {sp : Sp} {ta : TA} {E : XK} {d : D}
end
end Dw

/-! Defs that return or raise, by data. -/
namespace Dw
open PySem PySem.Spec PyProof.Rows L2 LamX
variable [Tabs0]
/-! ### raise C() -/
section
variable {X : Cx} {C : Addr} {bmB : List Value} {B newId initId : String}
end
/-! ### what is raised -/
/-- the class, and the fields (none: no dict) -/
structure Exn where
  C : Addr
  fs : List (Str × D)
/-- its dict, as it stands in W -/
def ExHeld (W : Wd) (x : Exn) (ed : Option Addr) : Prop := match x.fs with
  | [] => ed = none
  | f :: fs => ∃ (dd : Addr) (vs : List V), ed = some dd ∧ ¬ W.U dd ∧ W.H dd = some (.xd (((f :: fs).map fun z => z.1).zip vs)) ∧ RepL W ((f :: fs).map fun z => z.2) vs
theorem ExHeld.mono {W W' : Wd} {x : Exn} {ed : Option Addr} (k : ∀ a u, W.H a = some u → ¬ W.U a → W'.H a = some u ∧ ¬ W'.U a) (p : ∀ a, W.P a → W'.P a) (h : ExHeld W x ed) : ExHeld W' x ed := by
  obtain ⟨C, fs⟩ := x
  cases fs with
  | nil => exact h
  | cons f fs =>
    obtain ⟨dd, vs, e, nu, hd, r⟩ := h
    obtain ⟨h1, h2⟩ := k _ _ hd nu
    exact ⟨dd, vs, e, h2, h1, RepL.mono k p _ _ r⟩
theorem ExHeld.same {W : Wd} {H : Hp} {x : Exn} {ed : Option Addr} (s : Same W.H H) (h : ExHeld W x ed) : ExHeld (W.at H) x ed := ExHeld.mono (W := W) (W' := W.at H) (fun a u e n => ⟨s a u e, n⟩) (fun _ z => z) h
/-- raised in W, where the heap was H0 before -/
def ExAt (H0 : Hp) (W : Wd) (x : Exn) (ed : Option Addr) : Prop := (∀ dd, ed = some dd → H0 dd = none) ∧ ExHeld W x ed
/-- an expression that raises x, and leaves what is known -/
def ErT (t : TE) (Γ : Gam) (x : Exn) (R : Option Addr → Hp → Prop) : Prop := ∀ (F : Addr → Prop) (σ : L2.St) (W : Wd) (Q : VK), SR F Γ σ W → (∀ ed H', Same W.H H' → ExAt W.H (W.at H') x ed → R ed H') → t σ W.H Q
/-- .. a statement -/
def ErS (t : TS) (Γ : Gam) (x : Exn) (R : Option Addr → Hp → Prop) : Prop := ∀ (F : Addr → Prop) (σ : L2.St) (W : Wd) (Dr : Ends), SR F Γ σ W → (∀ ed H', Same W.H H' → ExAt W.H (W.at H') x ed → R ed H') → t Dr σ W.H
/-- a statement that leaves what is known -/
def PuS (t : TS) (Γ Γ' : Gam) : Prop := ∀ (F : Addr → Prop) (σ : L2.St) (W : Wd) (Dr : Ends), SR F Γ σ W → (∀ σ' H', Same W.H H' → SR F Γ' σ' (W.at H') → Dr.nx σ' H') → t Dr σ W.H
theorem exAt_back {H0 H1 : Hp} {W : Wd} {x : Exn} {ed : Option Addr} (s : Same H0 H1) (h : ExAt H1 W x ed) : ExAt H0 W x ed := ⟨fun dd e => by
  cases q : H0 dd with
  | none => rfl
  | some u => exact absurd (s dd u q) (by rw [h.1 dd e]; exact fun z => nomatch z), h.2⟩
section
variable {Γ Γ' : Gam} {x : Exn} {R : Option Addr → Hp → Prop} {t u : TS} {te : TE} {c : TT} {d : D} {i : Nat} {g : TG}
theorem ers_first (h : ErS t Γ x R) : ErS (tSeq t u) Γ x R := fun F σ W Dr gg k => h F σ W _ gg k
theorem ers_seq (h : PuS t Γ Γ') (h' : ErS u Γ' x R) : ErS (tSeq t u) Γ x R := fun F σ W Dr gg k => h F σ W _ gg fun σ' H1 s1 g1 => h' F σ' (W.at H1) Dr g1 fun ed H' s' a => k ed H' (Same.trans s1 s') (exAt_back s1 a)
theorem ers_ifT (hc : EvT c Γ true) (h : ErS t Γ x R) : ErS (tIfS c t u) Γ x R := fun F σ W Dr gg k => hc F σ W _ gg fun H1 s1 => h F σ (W.at H1) Dr (gg.same s1) fun ed H' s' a => k ed H' (Same.trans s1 s') (exAt_back s1 a)
theorem pus_drop (h : Ev te Γ d) : PuS (tDrop te) Γ Γ := fun F σ W Dr gg k => h F σ W _ gg fun v H s r => k σ H s (gg.same s)
theorem pus_asg (h : Ev te Γ d) : PuS (tAsg te (gName i)) Γ (Γ.set i (.val d)) := fun F σ W Dr gg k => h F σ W _ gg fun v H s r => k _ H s ((gg.same s).set r)
theorem pus_next : PuS tNext Γ Γ := fun F σ W Dr gg k => k σ W.H (Same.refl _) gg
theorem pus_ifF (hc : EvT c Γ false) (h : PuS u Γ Γ') : PuS (tIfS c t u) Γ Γ' := fun F σ W Dr gg k => hc F σ W _ gg fun H1 s1 => h F σ (W.at H1) Dr (gg.same s1) fun σ' H' s' g' => k σ' H' (Same.trans s1 s') g'
end
/-! ### a def that raises -/
structure SpcX where
  ty : Type
  args : ty → List D
  ok : ty → Prop
  ex : ty → Exn
def toSpX (s : SpcX) : Sp := fun vs H _ E => ∃ (x : s.ty) (F : Addr → Prop) (W : Wd), W.H = H ∧ WOk F W ∧ RepL W (s.args x) vs ∧ s.ok x ∧ ∀ ed H', Same W.H H' → ExAt W.H (W.at H') (s.ex x) ed → E (.ref (s.ex x).C) ed H'
/-- both promises -/
abbrev spRX (s : Spc) (sx : SpcX) : Sp := spOr (toSp s) (toSpX sx)
section
variable {P : Program} {w : World} {K : PySem.W.Frag} {mg : Str → Option Value} {base : Heap}
theorem fn_okX {x qual : Str} {st : Stmt} {f : Addr} {fd : FuncData} {N ps : List Str} {k : Nat} {s : Spc} {sx : SpcX} (F : Fun K x qual st f fd) (S : FnScope N ps (defScope st)) (len : ∀ x, (s.args x).length = ps.length) (lenX : ∀ x, (sx.args x).length = ps.length)
    (hbody : ∀ (cdv : Value) (A : Around) (outer : List Env) (s' : Shared) (H : Hp) (E : XK), Room k (A.deeper (envOfC qual (defScope st) s'.heap.objs.size f cdv)) →
      ∃ t, PSs (cxOf (L2.CX P w) P w K mg base N qual (defScope st) f cdv A outer s' H E) (defBody st) t ∧ (∀ x, s.ok x → Ds t (Gz0 N.length (s.args x)) ⟨fun _ => s.rel x .non, s.rel x, fun _ => False, fun _ => False⟩) ∧ ∀ x, sx.ok x → ErS t (Gz0 N.length (sx.args x)) (sx.ex x) fun ed H' => E (.ref (sx.ex x).C) ed H') :
    FnOk P w K mg base (L2.CX P w) (k + 1) f fd ps (spRX s sx) := by
  obtain ⟨oc, od, kV, doc, pm, an, cdv, ct, osl, rfl, lk, hcd⟩ := F.ex
  refine fn_of lk hcd S (fun vs H Q E h => ?_) fun A outer s' H vs Q E hr h => ?_
  · rcases h with h | ⟨x, F, W, _, _, r, _⟩
    · exact spc_len len vs H Q E h
    · rw [← r.length]; exact lenX x
  · obtain ⟨t, p, hb, hx⟩ := hbody cdv A outer s' H E hr
    refine ⟨t, p, ?_⟩
    rcases h with h | ⟨x, F, W, rfl, ok, r, ho, hE⟩
    · exact body_of h hb
    · exact hx x ho F _ W _ (sr_start ok r) hE
end
section
variable {Γ : Gam} {s : Spc} {sx : SpcX} {sp : Sp} {ta tk : TA} {E : XK} {d : D} {ds es : List D} {R : Option Addr → Hp → Prop}
end
end Dw

/-! The suite of told, by data: defs that it calls while an exception is held. -/
namespace L2H
theorem RoomH.units {k : Nat} {A : PySem.Around} (r : RoomH k A) : A.units + 64 < PySem.cLine := by have := r.un; omega
end L2H
namespace Dw
open PySem PySem.Spec PyProof.Rows L2 LamX
open L2H (RoomH PinOk cxH inv_startH)
variable [Tabs0]
/-! ### pure readings, where x is held with the dict ed -/
def EvH (t : TE) (Γ : Gam) (x : Exn) (ed : Option Addr) (d : D) : Prop := ∀ (F : Addr → Prop) (σ : L2.St) (W : Wd) (Q : VK), SR F Γ σ W → ExHeld W x ed → (∀ v H, Same W.H H → Rep (W.at H) d v → Q v H) → t σ W.H Q
/-- statements that return d -/
def RtS (t : TS) (Γ : Gam) (x : Exn) (ed : Option Addr) (d : D) : Prop := ∀ (F : Addr → Prop) (σ : L2.St) (W : Wd) (Dr : Ends), SR F Γ σ W → ExHeld W x ed → (∀ v H, Same W.H H → Rep (W.at H) d v → Dr.rt v H) → t Dr σ W.H
section
variable {Γ Γ' : Gam} {x : Exn} {ed : Option Addr} {t u : TS} {te ta tb : TE} {c : TT} {d : D} {i : Nat} {K : PySem.W.Frag}
theorem Ev.held (h : Ev te Γ d) : EvH te Γ x ed d := fun F σ W Q g hx k => h F σ W Q g k
theorem rts_seq (h : PuS t Γ Γ') (h' : RtS u Γ' x ed d) : RtS (tSeq t u) Γ x ed d := fun F σ W Dr g hx k => h F σ W _ g fun σ' H1 s1 g1 => h' F σ' (W.at H1) Dr g1 (hx.same s1) fun v H s r => k v H (Same.trans s1 s) r
theorem rts_first (h : RtS t Γ x ed d) : RtS (tSeq t u) Γ x ed d := fun F σ W Dr g hx k => h F σ W _ g hx k
theorem rts_ifT (hc : EvT c Γ true) (h : RtS t Γ x ed d) : RtS (tIfS c t u) Γ x ed d := fun F σ W Dr g hx k => hc F σ W _ g fun H1 s1 => h F σ (W.at H1) Dr (g.same s1) (hx.same s1) fun v H s r => k v H (Same.trans s1 s) r
theorem rts_ret (h : EvH te Γ x ed d) : RtS (tRet te) Γ x ed d := fun F σ W Dr g hx k => h F σ W _ g hx k
theorem evx_ifT (hc : EvT c Γ true) (h : EvH ta Γ x ed d) : EvH (tIf c ta tb) Γ x ed d := fun F σ W Q g hx k => hc F σ W _ g fun H1 s1 => h F σ (W.at H1) Q (g.same s1) (hx.same s1) fun v H s r => k v H (Same.trans s1 s) r
theorem evx_ifF (hc : EvT c Γ false) (h : EvH tb Γ x ed d) : EvH (tIf c ta tb) Γ x ed d := fun F σ W Q g hx k => hc F σ W _ g fun H1 s1 => h F σ (W.at H1) Q (g.same s1) (hx.same s1) fun v H s r => k v H (Same.trans s1 s) r
end
/-! ### their promise -/
structure SpcS where
  ty : Type
  args : ty → List D
  ok : ty → Prop
  ex : ty → Exn
  out : ty → D
def toSpH (s : SpcS) (a : Addr) (cls : Value) (ed : Option Addr) : Sp := fun vs H Q _ => ∃ (x : s.ty) (F : Addr → Prop) (W : Wd), W.H = H ∧ WOk F W ∧ cls = .ref (s.ex x).C ∧ ExHeld W (s.ex x) ed ∧ RepL W (.raw (.ref a) :: s.args x) vs ∧ s.ok x ∧ ∀ v H', Same W.H H' → Rep (W.at H') (s.out x) v → Q v H'
def toSpS (s : SpcS) : Addr × Obj → Sp := fun p vs H Q E => (∃ vs, p.2.data = .fields vs) ∧ toSpH s p.1 p.2.cls p.2.dict vs H Q E
section
variable {P : Program} {w : World} {K : PySem.W.Frag} {mg : Str → Option Value} {base : Heap}
theorem fnS_ok {x qual : Str} {st : Stmt} {f : Addr} {fd : FuncData} {N ps : List Str} {k : Nat} {s : SpcS} (F : Fun K x qual st f fd) (S : FnScope N ps (defScope st)) (len : ∀ x, (s.args x).length + 1 = ps.length)
    (hbody : ∀ (cdv : Value) (A : Around) (outer : List Env) (s' : Shared) (H : Hp) (E : XK) (p : Addr × Obj) (x : s.ty), RoomH k (A.deeper (envOfC qual (defScope st) s'.heap.objs.size f cdv)) → (A.deeper (envOfC qual (defScope st) s'.heap.objs.size f cdv)).guards = some [] → s.ok x → Zc (.ref (s.ex x).C) p.2.dict p.2 → (∃ vs, p.2.data = .fields vs) → ((s.ex x).fs = [] → p.2.dict = none) →
      ∃ t, PSs (cxH CX0 P w K mg base N qual (defScope st) f cdv A outer s' H E p) (defBody st) t ∧ RtS t (Gz0 N.length (.raw (.ref p.1) :: s.args x)) (s.ex x) p.2.dict (s.out x)) : FnS P w K mg base (k + 1) f fd ps (toSpS s) := by
  obtain ⟨oc, od, kV, doc, pm, an, cdv, ct, osl, rfl, lk, hcd⟩ := F.ex
  refine fn_ofS lk hcd S (fun p vs H Q E ⟨_, x, F, W, _, _, _, _, r, _⟩ => by rw [← r.length]; exact len x) fun A outer s' H vs Q E p hr hG ⟨hf, x, F, W, e, ok, hc, hx, r, ho, hq⟩ => ?_
  subst e
  obtain ⟨t, ht, hd⟩ := hbody cdv A outer s' W.H E p x hr hG ho ⟨hc, rfl⟩ hf fun z => by
    unfold ExHeld at hx
    rw [z] at hx
    exact hx
  exact ⟨t, ht, hd F _ W _ (sr_start ok r) hx hq⟩
end
section
variable {X : Cx} {k : Nat} {f : Addr} {fd : FuncData} {ps : List Str} {s : SpcS} {E : XK} {n : Str} {q pos : Pos} {e : Expr} {es : List Expr} {t : TA} {a : Addr} {oe : Obj} {cls : Value} {ed : Option Addr}
/-- f(e, ..) in the suite that holds oe -/
theorem pe_callH (hz : Zc cls ed oe) (hf : ∃ vs, oe.data = .fields vs) (F : FnS X.prog X.w X.K X.mg X.base k f fd ps (toSpS s)) (hr : RoomH k X.A) (hG : X.A.guards = some []) (hp : (a, oe) ∈ X.pn) (hg : Gl X n) (hm : X.mg n = some (.ref f)) (hk : PySem.W.keepIn X.K (.ref f) = true) (hb : Binds X.K fd ps [])
    (ha : PA X (e :: es) t) (hdb : (n == ("__debug__" : Str)) = false := by decide) (he : starEach (e :: es) X.env = (false, eval e X.env) :: starEach es X.env := by rfl) (hpl : (backTo pos (starEach es X.env)).any (·.1) = false := by rfl) :
    PE X (.Call (.Name n q) (e :: es) [] pos) (fun σ H Q => t σ H fun vs H1 => toSpH s a cls ed vs H1 Q E0) := by
  refine ⟨fun pins s0 σ H Q I h => ?_⟩
  refine wpAny_Call_Name_kw (ld_glob I hg hm (PySem.W.callWith_K (h₀ := X.base) I.ok.mod.kin hk (thn (ha.run pos pins s0 σ H _ I h) fun us s1 ⟨vs, H1, I1, r, hq0⟩ => ⟨I1.kIn, ?_⟩) he hpl) hdb)
  have hq : toSpS s (a, oe) vs H1 Q E0 := by
    obtain ⟨h1, h2⟩ := hz
    subst h1 h2
    exact ⟨hf, hq0⟩
  have hl : us.length = ps.length := by rw [← r.length]; exact F.len _ _ _ _ _ hq
  have b := hb s1 us I1.kIn (by rw [List.append_nil]; exact hl)
  rw [List.append_nil] at b
  have P1 := I1.pin (a, oe) (List.mem_append_left _ hp)
  have hpin : PinOk X.stack H1 s1 (a, oe) := ⟨P1.1, P1.2.1, fun hm => (List.mem_cons.mp (I1.stkSub a hm)).elim P1.2.2.1 P1.2.2.2.1, P1.2.2.2.2⟩
  refine wpAny_call (codeAny_mono (F.run X.A X.stack s1 H1 ⟨us, []⟩ us vs Q E0 (a, oe) hr hG hpin I1.env0 b r hq) fun r s' hq => ?_)
  match r, hq with
  | .error e, hq => exact (show False from hq).elim
  | .ok .next, hq => exact (show False from hq).elim
  | .ok .brk, hq => exact (show False from hq).elim
  | .ok .cont, hq => exact (show False from hq).elim
  | .ok (.ret u), hq => exact I1.after hq
end
section
variable {Γ : Gam} {s : SpcS} {t : TA} {u : TS} {te ta tb : TE} {x : s.ty} {y : Exn} {a : Addr} {ed : Option Addr} {E : XK} {d d1 d2 : D} {i : Nat}
theorem evh_call (h : EvA t Γ (.raw (.ref a) :: s.args x)) (ok : s.ok x) : EvH (fun σ H Q => t σ H fun vs H1 => toSpH s a (.ref (s.ex x).C) ed vs H1 Q E) Γ (s.ex x) ed (s.out x) := fun F σ W Q g hx k => h F σ W _ g fun vs H st r =>
  ⟨x, _, W.at H, rfl, (g.same st).callOk, rfl, hx.same st, r, ok, fun v H' s' r' => k v H' (Same.trans st s') r'⟩
theorem rts_asg (h : EvH te Γ y ed d1) (h' : RtS u (Γ.set i (.val d1)) y ed d) : RtS (tSeq (tAsg te (gName i)) u) Γ y ed d := fun F σ W Dr g hx k => h F σ W _ g hx fun v H1 s1 r1 => h' F _ (W.at H1) Dr ((g.same s1).set r1) (hx.same s1) fun v H s r => k v H (Same.trans s1 s) r
theorem evh_pair (h : EvH ta Γ y ed d1) (h' : EvH tb Γ y ed d2) : EvH (tTup (tCons ta (tCons tb tNil))) Γ y ed (.tup [d1, d2]) := fun F σ W Q g hx k => h F σ W _ g hx fun v1 H1 s1 r1 => h' F σ (W.at H1) _ (g.same s1) (hx.same s1) fun v2 H2 s2 r2 =>
  ⟨small (show 2 ≤ 100000 by decide), fun p hp => k _ _ (Same.trans s1 (Same.trans s2 (same_upd hp))) (rep_new_tup (W := W.at H2) (SR.same (W := W.at H1) s2 (g.same s1)).ok.dom hp ⟨v1, _, rfl, Rep.same (W := W.at H1) s2 r1, v2, _, rfl, r2, rfl⟩)⟩
theorem sr_unset {F : Addr → Prop} {W : Wd} (ok : WOk F W) : ∀ σ : L2.St, SR F (List.replicate σ.length .unset) σ W := fun σ =>
  have no : ∀ (i : Nat) (z : Sl), (List.replicate σ.length Sl.unset)[i]? = some z → z = .unset := fun i z h => List.eq_of_mem_replicate (List.mem_of_getElem? h)
  ⟨ok, by simp, fun i d h => (nomatch no i _ h), fun i d h => (nomatch no i _ h), fun i j a ds es h => (nomatch no i _ h)⟩
end
/-! ### counting truth values -/
section
variable {K : PySem.W.Frag} {Γ : Gam} {ta tb : TE} {bs : List Bool}
theorem flat_bs : ∀ bs : List Bool, (bs.map V.bl).all flatV = true
  | [] => rfl
  | b :: bs => by rw [List.map_cons, List.all_cons, flat_bs bs]; rfl
theorem eq_bl (a b : Bool) : eqV (.bl a) (.bl b) = (a == b) := by cases a <;> cases b <;> rfl
theorem count_bs : ∀ bs : List Bool, (bs.map V.bl).countP (fun z => eqV z (.bl true)) = bs.countP id
  | [] => rfl
  | b :: bs => by
    rw [List.map_cons, List.countP_cons, List.countP_cons, count_bs bs, eq_bl]
    cases b <;> rfl
theorem ev_countB (h : EvB ta Γ (bs.map D.bl)) (hb : Ev tb Γ (.bl true)) : Ev (tBM K "list" (rCnt K) ta (tCons tb tNil)) Γ (.int (bs.countP id : Nat)) := fun F σ W Q g k =>
  h F σ W _ g fun a vs H s e l => by
    refine ⟨tyV_lst e, hb F σ (W.at H) _ (g.same s) fun v H' s' r => ?_⟩
    rw [RepL.bls.mp l] at e
    rw [show v = .bl true from r]
    refine ⟨a, bs.map V.bl, .bl true, rfl, rfl, .of (s' _ _ e), rfl, flat_bs bs, ?_⟩
    rw [count_bs]
    exact k _ H' (Same.trans s s') rfl
theorem ev_idxB (h : EvB ta Γ (bs.map D.bl)) (hb : Ev tb Γ (.bl true)) (hm : true ∈ bs) : Ev (tBM K "list" (rIndex K) ta (tCons tb tNil)) Γ (.int (bs.idxOf true : Nat)) := fun F σ W Q g k =>
  h F σ W _ g fun a vs H s e l => by
    refine ⟨tyV_lst e, hb F σ (W.at H) _ (g.same s) fun v H' s' r => ?_⟩
    rw [RepL.bls.mp l] at e
    rw [show v = .bl true from r]
    have hlt : bs.idxOf true < bs.length := List.idxOf_lt_length_iff.mpr hm
    refine ⟨a, bs.map V.bl, .bl true, bs.idxOf true, .bl true, rfl, rfl, .of (s' _ _ e), rfl, flat_bs bs, ?_, rfl, fun m z hmj hz => ?_, k _ H' (Same.trans s s') rfl⟩
    · rw [List.getElem?_map, List.getElem?_eq_getElem hlt, List.getElem_idxOf hlt]; rfl
    · rw [List.getElem?_map] at hz
      have hml : m < bs.length := Nat.lt_trans hmj hlt
      rw [List.getElem?_eq_getElem hml] at hz
      have ez : z = .bl bs[m] := (Option.some.inj hz).symm
      rw [ez, eq_bl]
      have := idx_not hmj hml
      cases q : bs[m] with
      | false => rfl
      | true => exact absurd q this
end
/-! ### told(lambda: ..), where x is raised -/
section
variable {K : PySem.W.Frag} {Γ : Gam} {Tt : List (Addr × Str)} {P : Addr} {q wd : Str} {c1 c2 : Value} {n ie i : Nat} {ts : Addr → Value → Option Addr → TS} {t : XK → TE} {d : D} {Q : D → Gam → Prop} {x : Exn}
/-- the suite's reading: it returns d -/
def SuitX (ts : Addr → Value → Option Addr → TS) (n ie : Nat) (x : Exn) (d : D) : Prop := ∀ (F : Addr → Prop) (W : Wd) (σ : L2.St) (a : Addr) (Dr : Ends) (ed : Option Addr), WOk F W → σ.length = n → W.H a = none → ExHeld W x ed → (∀ v H', Same W.H H' → Rep (W.at H') d v → Dr.rt v H') → ts a (.ref x.C) ed Dr (σ.set ie (some (.ref a))) W.H
theorem dl_told_excX (T : TabsOk Tt) (hP : (P, q) ∈ Tt) (h0 : Γ[i]? = some (.val .purse)) (hb : ∀ E : XK, ErT (t E) Γ x fun ed H' => E (.ref x.C) ed H') (hx : PySem.W.exmAny K (.ref x.C) [c1, c2] = some true) (hs : SuitX ts n ie x d) (hq : Q d Γ) :
    Dl (tLam3 Tt P q (TTold3 K c1 c2 n ie wd ts) t) Γ Q := fun F σ W R g k => by
  obtain ⟨v0, e0, a, ev, hp, nn, tb⟩ := g.val i .purse h0
  refine ⟨tabs_of g.ok T tb, fun H1 c T1 => ?_⟩
  obtain ⟨st, g1⟩ := g.chg T hP tb c T1
  intro Qc hQ
  refine hb _ F σ (W.at H1) Qc g1 fun ed H' s' ex => ⟨hx, fun σ2 a2 Dr hl na hD => ?_⟩
  have g2 : SR F Γ σ (W.at H') := SR.same (W := W.at H1) s' g1
  refine hs F (W.at H') σ2 a2 Dr ed g2.ok hl na ex.2 fun v H2 s2 r => ?_
  have g3 : SR F Γ σ (W.at H2) := SR.same (W := W.at H') s2 g2
  rw [hD]
  exact k v (W.at H2) d Γ ((st.trans (Stp.of_same g1.ok s')).trans (Stp.of_same (W := W.at H') g2.ok s2)) g3 r hq
end
end Dw

/-! Defs that make lambdas: their code object is known. The head with tables of code objects. -/
namespace Dw
open PySem PySem.Spec PyProof.Rows L2 LamX
variable [Tabs0]
/-- a def of the text, with the address of its code object -/
structure FunC (K : PySem.W.Frag) (x qual : Str) (st : Stmt) (f : Addr) (fd : FuncData) (c : Addr) : Prop where
  ex : ∃ (oc : Value) (od : Option Addr) (kV doc pm : Value) (an : Option Addr) (ct : Value) (osl : Array (Option Value)), fd = PySem.W.fnOf x qual (defArgs st) (defBody st) (defScope st) .none kV doc pm an (.ref c) ct ∧ K.lookup f = some ⟨oc, od, .func fd, osl⟩ ∧ PySem.W.codeIn K (.ref c) qual = true
section
variable {P : Program} {w : World} {K : PySem.W.Frag} {mg : Str → Option Value} {base : Heap}
theorem fnGC_ok {x qual : Str} {st : Stmt} {f c : Addr} {fd : FuncData} {N ps : List Str} {k : Nat} {s : Spc} (F : FunC K x qual st f fd c) (S : FnScope N ps (defScope st)) (len : ∀ x, (s.args x).length = ps.length)
    (hbody : ∀ (A : Around) (outer : List Env) (s' : Shared) (H : Hp) (E : XK), Room k (A.deeper (envOfC qual (defScope st) s'.heap.objs.size f (.ref c))) → (A.deeper (envOfC qual (defScope st) s'.heap.objs.size f (.ref c))).guards = some [] →
      ∃ t, PSs (cxOf CX0 P w K mg base N qual (defScope st) f (.ref c) A outer s' H E).nox (defBody st) t ∧ ∀ x, s.ok x → Ds t (Gz0 N.length (s.args x)) ⟨fun _ => s.rel x .non, s.rel x, fun _ => False, fun _ => False⟩) : FnG P w K mg base (k + 1) f fd ps s := by
  obtain ⟨oc, od, kV, doc, pm, an, ct, osl, rfl, lk, hcd⟩ := F.ex
  refine ⟨len, fun A outer sh H args us vs Q E hr hg e0 hb r hsp => ?_⟩
  obtain ⟨t, p, hd⟩ := hbody A outer sh H E (hr.deeper _) hg
  have old : ∀ b o, base.get? b = some o → sh.heap.get? b = some o := fun b o e => (e0.bs b o e).1
  have KX := e0.mod.kin.keeps old
  refine codeAny_call_function hr.depth (KX _ _ lk) rfl S.co S.gen rfl (PySem.W.codeRec_of KX hcd) (hb _ _ _ _ (wpAny_newFunctionEnv_cells S.kind (cells_in S us) ?_))
  rintro env rfl s1 x1
  refine ⟨(e0.mod.nolimit.keeps old).keeps x1.toInCall.keep, codeAny_func (wpAny_mono (p.nox.run [] s1 _ H _ (inv_start S hr.hd e0 (spc_len len _ _ _ _ hsp) r x1) (body_of hsp hd)) (fun fl s' hs => ?_) fun _ _ z => z)⟩
  have done : ∀ {σ' : L2.St} {H' : Hp} {v : V} {u : Value}, Inv (cxOf CX0 P w K mg base N qual (defScope st) f (.ref c) A outer sh H E) [] σ' H' s' → RelV v u → Q v H' → CE outer P w H sh Q u s' := fun {_ H' v _} J rv q => ⟨v, H', J.os, J.bare, J.base, J.hok, rv, q⟩
  match fl, hs with
  | .ret _, ⟨_, _, _, J, rv, q⟩ => exact done J rv q
  | .next, ⟨_, _, J, q⟩ => exact done (v := .non) (u := .none) J rfl q
  | .brk, ⟨_, _, _, q⟩ => exact q.elim
  | .cont, ⟨_, _, _, q⟩ => exact q.elim
end
/-! ### the head -/
section
variable {P : Program} {w : World} {K : PySem.W.Frag} {mg mb : Str → Option Value} {k : Nat} {fa a : Addr} {fd : FuncData} {x : Str} {s1 : Shared} {vs : List Value} {ns : List Int} {sp : Spc}
/-- the script, and the tables, empty -/
def headT (K : PySem.W.Frag) (a : Addr) (vs : List Value) (ns : List Int) (ts : List Addr) : Hp := fun b => if b ∈ ts then some (.tbl #[]) else headH K a vs ns b
theorem headT_in {b : Addr} {ts : List Addr} (h : b ∈ ts) : headT K a vs ns ts b = some (.tbl #[]) := if_pos h
theorem headT_out {b : Addr} {ts : List Addr} (h : b ∉ ts) : headT K a vs ns ts b = headH K a vs ns b := if_neg h
theorem head_callT (cs : List (Addr × Addr × Str)) (T : TabsOk (cs.map fun p => (p.2.1, p.2.2)))
    (KX : K.In s1.heap) (hns : s1.heap.Ns mainGlobals mg) (hb : s1.heap.Ns builtinsNs mb) (hbb : ∀ x : Str, x ≠ "__name__" → mb x = bootBuiltins x) (hlim : s1.heap.NoLimit) (hg : s1.gens = #[]) (ha : s1.heap.get? a = some { cls := .type "list", data := .seq vs.toArray }) (hi : IntsAre vs ns) (hl : ns.length ≤ sizeLine) (hr : Room k callerA)
    (hT : ∀ p ∈ cs, s1.heap.get? p.2.1 = some { cls := .none, data := .fields #[] }) (nT : ∀ p ∈ cs, K.lookup p.2.1 = none) (hC : ∀ p ∈ cs, PySem.W.CodeHd s1.heap p.1 p.2.1)
    (hbm : ∃ (bm : Addr) (ob : Obj), mg "__builtins__" = some (.ref bm) ∧ bm ≠ builtinsNs ∧ s1.heap.get? bm = some ob ∧ ob.cls = .type "module" ∧ ob.dict = some builtinsNs ∧ ob.data = .plain)
    (F : ∀ base : Heap, (∀ p ∈ cs, TabB base mg p.1 p.2.1) → FnG P w K mg base k fa fd [x] sp) (hbind : ∀ (s : Shared) (u : Value), BindsTo s fd ⟨[u], []⟩ [(x, u)]) (hx : ∃ y : sp.ty, sp.args y = [.scr K (ns.map V.int)] ∧ sp.ok y ∧ ∀ d, sp.rel y d → d = .bl true) :
    codeAny (model P w) callerA (.call (.ref fa) ⟨[.ref a], []⟩) (fun r s' => r = .ok (.ret (.bool true)) ∧ OldK s1.heap s'.heap ∧ s'.os = s1.os ∧ AllBare s'.gens) s1 := by
  obtain ⟨ts, ets⟩ : ∃ ts : List Addr, ts = cs.map fun p => p.2.1 := ⟨_, rfl⟩
  have memT : ∀ p ∈ cs, p.2.1 ∈ ts := fun p hp => by rw [ets]; exact List.mem_map.mpr ⟨p, hp, rfl⟩
  have ofT : ∀ b ∈ ts, ∃ p ∈ cs, p.2.1 = b := fun b hb => by rw [ets] at hb; exact List.mem_map.mp hb
  have rv := vals_ints hi
  have tabO : ∀ b ∈ ts, s1.heap.get? b = some { cls := .none, data := .fields #[] } := fun b hb => by
    obtain ⟨p, hp, e⟩ := ofT b hb
    rw [← e]; exact hT p hp
  have aT : a ∉ ts := fun z => by
    have q := tabO a z
    rw [ha] at q
    cases (show Data.seq vs.toArray _ = Data.fields #[] from congrArg Obj.data (Option.some.inj q))
  -- what is neither the script nor a table stands in the ground
  have grd : ∀ {b : Addr} {o : Obj}, s1.heap.get? b = some o → (∀ vs n, o.data ≠ .seq vs n) → o.data ≠ .fields #[] → (hidT s1.heap (headT K a vs ns ts)).get? b = some o := fun {b o} e h1 h2 => by
    have nb : b ∉ ts := fun z => by
      rw [tabO b z] at e; cases e
      exact h2 rfl
    refine hidT_get e ?_
    rw [headT_out nb]
    refine headH_none fun z => ?_
    rw [z, ha] at e; cases e
    exact h1 _ _ rfl
  have dictG : ∀ {b : Addr} {o : Obj} {es : Array DictEntry} {ep : Nat}, s1.heap.get? b = some o → o.data = .dict es ep → (hidT s1.heap (headT K a vs ns ts)).get? b = some o := fun e d =>
    grd e (fun _ _ z => by rw [d] at z; cases z) (fun z => by rw [d] at z; cases z)
  have nsK : ∀ {b : Addr} {m : Str → Option Value}, s1.heap.Ns b m → (hidT s1.heap (headT K a vs ns ts)).Ns b m := fun ⟨o, es, ep, e, d, r⟩ => ⟨o, es, ep, dictG e d, d, r⟩
  have nK : ∀ b ∈ ts, K.lookup b = none := fun b hb => by
    obtain ⟨p, hp, e⟩ := ofT b hb
    rw [← e]; exact nT p hp
  have kin : K.In (hidT s1.heap (headT K a vs ns ts)) := fun b o e => hidT_get (KX b o e) (by
    have nb : b ∉ ts := fun z => by rw [nK b z] at e; cases e
    rw [headT_out nb]
    exact if_neg fun z => by rw [z.1, z.2] at e; cases e)
  have hS : SqL K (headT K a vs ns ts) a (ns.map V.int) := by
    cases q : K.lookup a with
    | none => exact .inl (.inr ⟨_, (headT_out aT).trans (if_pos ⟨rfl, q⟩)⟩)
    | some o =>
      have e := KX a o q
      rw [ha] at e; cases e
      exact .inr ⟨_, vs.toArray, _, q, rfl, rfl, rfl, by rw [List.size_toArray, hi.length]; exact hl, by simpa using rv⟩
  have hok : HOk P w (headT K a vs ns ts) s1.heap := fun b u z => by
    by_cases hb : b ∈ ts
    · rw [headT_in hb] at z; cases z
      exact tabO b hb
    · rw [headT_out hb] at z
      by_cases q : b = a ∧ K.lookup a = none
      · have z' := (if_pos q).symm.trans z
        cases z'
        rw [q.1]
        exact ⟨ha, by rw [List.length_map]; exact hl, vs, _, rv, ha⟩
      · cases (if_neg q).symm.trans z
  have hM : Mod K mg (hidT s1.heap (headT K a vs ns ts)) := ⟨kin, nsK hns, ⟨mb, nsK hb, hbb⟩, hlim.imp fun mc h => ⟨nsK h.1, h.2⟩⟩
  have TB : ∀ p ∈ cs, TabB (hidT s1.heap (headT K a vs ns ts)) mg p.1 p.2.1 := fun p hp => by
    have hTp := hT p hp
    refine ⟨?_, ?_, fun z => ?_⟩
    · obtain ⟨o, us, file, tf, flags, tg, inF, text, tt, e1, r1, r2, r3, r⟩ := hC p hp
      refine ⟨o, us, file, tf, flags, tg, inF, text, tt, grd e1 (fun _ _ z => ?_) (fun z => ?_), r1, r2, r3, r⟩
      · rw [r2] at z; cases z
      · rw [r2] at z; cases z
        simp at r3
    · obtain ⟨bm, ob, b1, b2, b3, b4, b5, b6⟩ := hbm
      refine ⟨bm, ob, b1, b2, fun q => ?_, fun q => ?_, grd b3 (fun _ _ z => ?_) (fun z => ?_), b4, b5, b6⟩
      · obtain ⟨o, es, ep, e, hd, _⟩ := hns
        rw [q, e] at b3; cases b3
        rw [hd] at b6; cases b6
      · rw [q, hTp] at b3; cases b3
        cases b6
      · rw [b6] at z; cases z
      · rw [b6] at z; cases z
    · obtain ⟨o, es, ep, e, hd, _⟩ := hns
      rw [z, hTp] at e; cases e
      cases hd
  obtain ⟨y, e1, o1, r1⟩ := hx
  have tabI : ∀ p q, Tabs0.nm p = some q → p ∈ ts := fun p q z => by
    obtain ⟨c, hc, e⟩ := List.mem_map.mp (T.all p q z)
    cases e
    exact memT c hc
  have rS : Rep ⟨headT K a vs ns ts, fun b => b ∈ ts, fun b => b ∈ ts⟩ (.scr K (ns.map V.int)) (.ref a) := by
    refine ⟨a, rfl, ?_, tabI⟩
    rcases hS with (h | ⟨o, h⟩) | q
    · exact .inl ⟨_, h, aT, .inl rfl⟩
    · exact .inl ⟨_, h, aT, .inr ⟨o, rfl⟩⟩
    · exact .inr q
  have hsp : toSp sp [.ref a] (headT K a vs ns ts) (fun v _ => v = .bl true) (fun _ _ _ => False) := by
    refine ⟨y, fun _ => False, ⟨headT K a vs ns ts, fun b => b ∈ ts, fun b => b ∈ ts⟩, rfl, ⟨fun b h z => ?_, fun b h => h.elim, fun b h => ⟨h, fun z => z, ?_⟩⟩, by rw [e1]; exact RepL.one rS, o1, fun d v W' h _ _ rp => by rw [r1 d h] at rp; exact rp⟩
    · have z : headT K a vs ns ts b = none := z
      rw [headT_in h] at z; cases z
    · obtain ⟨p, hp, e⟩ := ofT b h
      have nm : Tabs0.nm b = some p.2.2 := by
        rw [← e]; exact T.sound (p.2.1, p.2.2) (List.mem_map.mpr ⟨p, hp, rfl⟩)
      unfold OwnAt
      rw [nm]
      exact TabS.nil (headT_in h)
  refine codeAny_mono ((F _ TB).2 callerA [] s1 _ ⟨[.ref a], []⟩ [.ref a] [.ref a] _ _ hr rfl ⟨rfl, hM, fun b o e => of_hidT e, Nat.le_of_eq (hidT_size _ _), trivial, fun b hb => absurd (show b ∈ ([] : List Addr) from hb) (by simp), hok, .of_eq hg⟩ (hbind s1 (.ref a)) (.cons rfl .nil) hsp) fun r s' h => ?_
  match r, h with
  | .error _, h => exact (show False from h).elim
  | .ok .next, h => exact (show False from h).elim
  | .ok .brk, h => exact (show False from h).elim
  | .ok .cont, h => exact (show False from h).elim
  | .ok (.ret u), ⟨v, H', os, bare, un, hok', r', q⟩ =>
    have q' : v = .bl true := q
    subst q'
    obtain rfl : u = Value.bool true := r'
    have key : ∀ b o, b ∉ ts → s1.heap.get? b = some o → s'.heap.get? b = some o := fun b o nb e => by
      by_cases c : b = a ∧ K.lookup a = none
      · have z : headT K a vs ns ts b = _ := (headT_out nb).trans (if_pos c)
        have e3 := (hok b _ z).1
        rw [e] at e3; cases e3
        exact (hok' b _ (un.frzs b _ _ z)).1
      · exact un.keep b o e ((headT_out nb).trans (if_neg c)) (by intro z; exact absurd (show b ∈ ([] : List Addr) from z) (by simp)) (by simp)
    have grown : ∀ b ∈ ts, ∃ more : Array Value, s'.heap.get? b = some { cls := .none, data := .fields more } := fun b hb => by
      obtain ⟨more, z⟩ := un.tbls b #[] (headT_in hb)
      exact ⟨_, hok' b _ z⟩
    refine ⟨rfl, ⟨fun b o e => ?_, fun b o e => ?_⟩, os, bare⟩
    · by_cases hb : b ∈ ts
      · obtain ⟨more, hm⟩ := grown b hb
        rw [tabO b hb] at e; cases e
        obtain ⟨p, hp, ep⟩ := ofT b hb
        have CT := (hC p hp).tab (hT p hp)
        rw [ep] at CT
        exact .inr (.inl ⟨CT.isCodeTable, rfl, #[], more, rfl, by rw [Array.empty_append]; exact hm⟩)
      · exact .inl (key b o hb e)
    · by_cases hb : b ∈ ts
      · obtain ⟨more, hm⟩ := grown b hb
        exact ⟨_, hm⟩
      · exact ⟨o, key b o hb e⟩
end
/-- the table of a def of the law's text is empty, its code object stands -/
def TabOf (K : PySem.W.Frag) (f : Addr) (h : Heap) : Prop := ∀ (c P : Addr) (o : Obj) (fd : FuncData) (e : Value) (dd : Option Addr) (vs : Array Value) (sl : Array (Option Value)), K.lookup f = some o → o.data = .func fd → fd.code = .ref c → K.lookup c = some ⟨e, dd, .fields vs, sl⟩ → vs[11]? = some (.ref P) →
  h.get? P = some { cls := .none, data := .fields #[] } ∧ PySem.W.CodeHd h c P
end Dw

/-! The end of a law with tables of code objects. -/
namespace Dw
open PySem PySem.Spec PyProof.Rows L2 LamX
/-- what the end must bring -/
def EndT (l : PySem.W.OpenLaw) (w : World) (K : PySem.W.Frag) (mg : Str → Option Value) (k : Nat) (fa : Addr) (x : Str) (h : Heap) (sp : Spc) : Prop :=
  ∃ (fd : FuncData) (I : Tabs0) (cs : List (Addr × Addr × Str)), (∀ (s : Shared) (u : Value), BindsTo s fd ⟨[u], []⟩ [(x, u)]) ∧ @TabsOk I (cs.map fun p => (p.2.1, p.2.2)) ∧ (∀ p ∈ cs, h.get? p.2.1 = some { cls := .none, data := .fields #[] }) ∧ (∀ p ∈ cs, K.lookup p.2.1 = none) ∧ (∀ p ∈ cs, PySem.W.CodeHd h p.1 p.2.1) ∧
    ∀ base : Heap, (∀ p ∈ cs, TabB base mg p.1 p.2.1) → @FnG I l.prog w K mg base k fa fd [x] sp
theorem walk_GT {l : PySem.W.OpenLaw} {k : Nat} {x : Str} {q : Program} {loose : List Str} {XP : (Str → Option Value) → Heap → Prop} {YP : World → Heap → Prop} {d : DefRec} {K : Params → PySem.W.Frag} {sp : PySem.W.Frag → Spc} (hn : l.most = some 63) (hdf : d.params.defaults = []) (hr : Room k callerA)
    (hY : ∀ (w : World) (h : Heap), YP w h → (K w.params).In h) (hsp : ∀ (K : PySem.W.Frag) (ns : List Int), ns.length ≤ 63 → (∀ z ∈ ns, Builtin.Int.intBits z ≤ 1048576) → ∃ y : (sp K).ty, (sp K).args y = [.scr K (ns.map V.int)] ∧ (sp K).ok y ∧ ∀ d, (sp K).rel y d → d = .bl true)
    (F : ∀ (w : World) (mg : Str → Option Value) (fa : Addr) (h : Heap), (K w.params).In h → h.Ns mainGlobals mg → mg d.name = some (.ref fa) → (∀ (y : Str) (f : Addr), ((recsOf q).any fun e => e.name == y) = true → mg y = some (.ref f) → TabOf (K w.params) f h) → EndT l w (K w.params) mg k fa x h (sp (K w.params))) :
    PySem.W.WalkO q loose XP YP l.row.toRowW d [] (fun f vs => PySem.call f vs) := by
  refine Att.attach_callB hn hdf fun w _ s1 mg mb fa _ _ _ _ a _ ns G Y _ _ _ hmg hobj hints hlen hbits hg => ?_
  have KX := hY w _ Y
  obtain ⟨fd, I, cs, hb, T, hT, nT, hC, hF⟩ := F w mg fa _ KX G.T.g hmg fun y f hy hm c P o1 fd1 e dd vs1 sl k1 k2 k3 k4 k5 => by
    obtain ⟨dL, hm1, hn1⟩ := List.any_eq_true.mp hy
    have hn2 : dL.name = y := beq_iff_eq.mp hn1
    obtain ⟨a', o', fd', c', P', h1, h2, h3, h4, h5, h6⟩ := G.T.tab dL hm1
    rw [hn2, hm] at h1; cases h1
    have g1 := KX _ _ k1
    rw [g1] at h2; cases h2
    rw [k2] at h3; cases h3
    rw [k3] at h4; cases h4
    have CH := PySem.W.CodeHd.of h5 h6
    obtain ⟨⟨oc, vc, e1, _, e3, e4⟩, hP⟩ := h6
    have g2 := KX _ _ k4
    rw [g2] at e1; cases e1
    cases e3
    rw [k5] at e4; cases e4
    exact ⟨hP, CH⟩
  exact @head_callT I _ _ _ _ _ _ _ _ _ _ _ _ _ _ cs T KX G.T.g G.T.b G.T.builtins G.T.nolimit hg hobj hints (Nat.le_trans hlen (by decide)) hr hT nT hC G.T.bmain hF hb (hsp _ ns hlen hbits)
end Dw

/-! What is told of an error's class, by a row of truth values. -/
namespace Dw
open PySem PySem.Spec PyProof.Rows L2 LamX
/-- the answers of isinstance for a row of classes -/
def KitRow (K : PySem.W.Frag) (D0 : Addr) : List Addr → List Bool → Prop
  | [], [] => True
  | c :: cs, b :: bs => PySem.W.kitOne K (.ref D0) (.ref c) = some b ∧ KitRow K D0 cs bs
  | _, _ => False
theorem TabsOk.uniq [Tabs0] {Tt : List (Addr × Str)} (T : TabsOk Tt) {P : Addr} {q : Str} (h : (P, q) ∈ Tt) : ∀ p ∈ Tt, p.1 = P → p.2 = q := fun p hp e => by
  have h1 := T.sound p hp
  have h2 := T.sound (P, q) h
  rw [e] at h1
  rw [h1] at h2
  exact Option.some.inj h2
def sortWords : List Str := ["InvalidText", "InvalidNumber", "InvalidName", "InvalidIndex", "InvalidClaim", "InvalidRow", "InvalidRanking", "InvalidRule", "UnknownName", "NotABook", "NotACase", "NotACourt", "InvalidLot", "InvalidOffers", "InvalidCases", "NoRanking", "TooMany", "Broken", "InUse", "NothingToUndo"]
/-- the word, by the row of twenty classes and the two bases -/
def sortW (bs : List Bool) : Str :=
  if (bs.take 20).countP id = 1 ∧ (bs.drop 20).countP id = 1 ∧ (bs.drop 20).idxOf true = (if (bs.take 20).idxOf true < 15 then 0 else 1) then sortWords.getD ((bs.take 20).idxOf true) "other" else "other"
end Dw

/-! [f for a in xs if p for b in ys if q]; all of whole numbers. -/
namespace Dw
open PySem PySem.Spec PyProof.Rows L2
variable [Tabs0]
/-- what is walked stands out of the reach of what changes -/
structure ItK (W : Wd) (J : It) (xs : List D) : Prop where
  go : ∀ (W1 : Wd) (i : Nat) (x : D), (∀ a u, W.H a = some u → ¬ W.U a → W1.H a = some u ∧ ¬ W1.U a) → W1.P = W.P → xs[i]? = some x → J.go i W1.H ∧ ∀ v H', J.yld i W1.H v H' → Same W1.H H' ∧ Rep (W1.at H') x v
  stop : ∀ (W1 : Wd), (∀ a u, W.H a = some u → ¬ W.U a → W1.H a = some u ∧ ¬ W1.U a) → J.stop xs.length W1.H
section
variable {K : PySem.W.Frag} {Γ : Gam} {t : TE} {ta : TA} {xs : List D}
end
section
variable {Γ : Gam} {wi wi1 : TI} {g g1 : TG} {tt tt1 : TT} {te : TE} {vs vs1 : List Nat}
end

/-! ### all of whole numbers -/
/-! ### xs = [e, ..], a list of one's own that is drawn -/
end Dw

/-! max of a list; sorted of a tuple of whole numbers. -/
namespace Dw
open PySem PySem.Spec PyProof.Rows L2
variable [Tabs0]
section
variable {K : PySem.W.Frag} {Γ : Gam} {ta tb : TE}
end
end Dw

/-! Errors with a field: made, asked for their class and their field, shown. -/
namespace Dw
open PySem PySem.Spec PyProof.Rows L2 LamX
variable [Tabs0]
/-! ### X(given), where X's __init__ stores it -/
/-- the promise of such an __init__ -/
def spXI (C : Addr) (f : Str) : Sp := fun vs H Q _ => ∃ (a : Addr) (y : V), vs = [.ref a, y] ∧ H a = some (exo a C none) ∧ ∀ dx, H dx = none → dx ≠ a → Q .non (upd (upd H dx (exd dx [(f, y)])) a (exo a C (some dx)))
section
variable {P : Program} {w : World} {K : PySem.W.Frag} {mg : Str → Option Value} {base : Heap}
end
/-! ### raise X(e) -/
theorem ers_raiseF {Γ : Gam} {C : Addr} {f : Str} {ta : TA} {d : D} {E : XK} {x : Exn} (hx : x = ⟨C, [(f, d)]⟩) (h : EvA ta Γ [d]) : ErS (fun _ σ H => tMkO C (spXI C f) [] ta σ H fun cls ed H' => E cls ed H') Γ x (fun ed H' => E (.ref C) ed H') := fun F σ W Dr g k => h F σ W _ g fun vs H1 s1 r => by
  subst hx
  obtain ⟨v, _, rfl, rv, rfl⟩ := r
  refine ⟨by show 1 ≤ 1000; decide, fun a ha => ⟨a, v, rfl, upd_same, fun dx hd hne => ⟨rfl, dx, [(f, v)], upd_same, ?_, ?_, ?_⟩⟩⟩
  · rw [upd_ne hne, upd_same]
  · rw [upd_ne hne] at hd
    exact hd
  · have hd1 : H1 dx = none := by rw [upd_ne hne] at hd; exact hd
    have sm : Same H1 (upd (L2.del (upd (upd (upd H1 a (exo a C none)) dx (exd dx [(f, v)])) a (exo a C (some dx))) a) dx (.xd [(f, v)])) := fun b u e => by
      have nb : b ≠ dx := fun z => by rw [z, hd1] at e; cases e
      have na : b ≠ a := fun z => by rw [z, ha] at e; cases e
      rw [upd_ne nb, L2.del_ne na, upd_ne na, upd_ne nb, upd_ne na]
      exact e
    refine k (some dx) _ (Same.trans s1 sm) ⟨fun dd e => ?_, dx, [v], rfl, ?_, upd_same, v, [], rfl, ?_, rfl⟩
    · cases e
      exact s1.free hd1
    · exact fun u => g.ok.dom dx u (s1.free hd1)
    · exact Rep.same (W := W.at H1) sm rv
/-! ### asking the held error -/
def rIsX (K : PySem.W.Frag) (D0 a : Addr) (ed : Option Addr) : List V → Hp → VK → Prop := fun xs H Q => ∃ (c : V) (cv : Value) (b : Bool), xs = [.ref a, c] ∧ (∀ u, RelV c u → u = cv) ∧ PySem.W.kitOne K (.ref D0) cv = some b ∧ (ed = none ∨ ∃ dd fs, ed = some dd ∧ H dd = some (.xd fs)) ∧ Q (.bl b) H
section
variable {X : Cx} {a D0 : Addr} {oe : Obj} {ed : Option Addr}
theorem call_isX (hp : (a, oe) ∈ X.pn) (C : ExcC X.K D0) (hz : Zc (.ref D0) ed oe) (hf : ∃ vs, oe.data = .fields vs) : CallR X (.builtin "isinstance") (rIsX X.K D0 a ed) := by
  intro pins s σ H xs us Q I r h
  obtain ⟨c, cv, b, rfl, hcv, e, hd, q⟩ := h
  match us, r with
  | [_, t], .cons rx (.cons rt .nil) =>
    cases rx
    have ec := hcv _ rt
    subst ec
    obtain ⟨hget, _⟩ := I.pin (a, oe) (List.mem_append_left _ hp)
    rcases hd with hd | ⟨dd, fs, hd, hx⟩
    · rw [hd] at hz
      exact PySem.W.kia_one (PySem.W.handS_kitx_exc C.hg C.hk C.hs C.hd C.ha C.hn C.ht C.hm) I.kIn (inst_none hz hf hget) e (fun z => nomatch z) fun tk => ⟨.bl b, H, I.kept (t' := tk) fun _ _ z => z, rfl, q⟩
    · rw [hd] at hz
      have hx : ObjOk X.prog X.w H s.heap dd (.xd fs) := I.hok dd _ hx
      obtain ⟨mA, hns, _⟩ := hx
      obtain ⟨od, ho, _⟩ := lookIn_ns hns
      obtain ⟨cd, hcd, _⟩ := PySem.W.any_some C.hd
      exact PySem.W.kia_one (PySem.W.kitx_exc (od := some od) (by rw [hcd]; rfl) C.hg C.hk C.hs C.ha C.hn C.ht C.hm) I.kIn (inst_some hz hf hget ho) e (fun z => nomatch z) fun tk => ⟨.bl b, H, I.kept (t' := tk) fun _ _ z => z, rfl, q⟩
/-- e.f, e pinned -/
theorem pe_xfP {e : Expr} {te : TE} {pos : Pos} {n : Str} (hp : (a, oe) ∈ X.pn) (T : XfC X.K D0) (hno : PySem.W.findIn X.K (.ref D0) n = some none) (hz : Zc (.ref D0) ed oe) (hf : ∃ vs, oe.data = .fields vs) (he : PE X e te)
    (hb : attributeBase e n X.env (eval e X.env) = eval e X.env := by rfl) :
    PE X (.Attribute e n pos) (tXf a (.ref D0) ed D0 n te) := by
  refine ⟨fun pins s σ H Q I h => ?_⟩
  refine attr_of hb (thn (he.run pins s σ H _ I h) fun u s1 ⟨x, H1, I1, rx, ex, ec, dd, fs, v, edd, ea, l, q⟩ => ?_)
  subst ex edd
  obtain rfl : u = Value.ref a := rx
  have hget := (I1.pin (a, oe) (List.mem_append_left _ hp)).1
  have hx : ObjOk X.prog X.w H1 s1.heap dd (.xd fs) := I1.hok dd _ ea
  obtain ⟨mA, hns, hr⟩ := hx
  obtain ⟨od, ho, hl⟩ := lookIn_ns hns
  have hn := hr n
  rw [l] at hn
  obtain ⟨w', hw, rw'⟩ := RelO.some_of hn
  exact HandSPX.exc_get I1.kIn (inst_some hz hf hget ho) T.ga T.gg T.exC (PySem.W.findObj_own T.hdC hno rfl (by rw [hl, hw])) (handed_of rw') ⟨v, H1, I1.tok _, rw', q⟩
end
end Dw

/-! Errors with fields, as told's suite reads them; repr of any data. -/
namespace Dw
open PySem PySem.Spec PyProof.Rows L2 LamX
variable [Tabs0]
/-! ### repr of any data -/
def rReprX (K : PySem.W.Frag) : List V → Hp → VK → Prop := fun xs H Q => ∃ (v : V) (d : PyData), xs = [v] ∧ Dp K H v d ∧ d.showable = true ∧ d.hasDict = false ∧ d.depth ≤ 64 ∧ d.shown.length ≤ sizeLine ∧ Q (.str d.shown) H
theorem cr_reprX {X : Cx} (hu : X.A.units + 66 < PySem.cLine) (hG : X.A.guards = some []) : CallR X (.builtin "repr") (rReprX X.K) := by
  intro pins s σ H xs us Q I r h
  obtain ⟨v, d, rfl, hd, h1, h2, h3, h4, q⟩ := h
  obtain ⟨u, rfl, ru⟩ := vals1 r
  cases d with
  | none =>
    cases hd
    obtain rfl : u = Value.none := ru
    exact P.repr_of_none ⟨.str _, H, I.tok _, ⟨_, rfl⟩, q⟩
  | bool b =>
    cases hd
    obtain rfl : u = Value.bool b := ru
    cases b
    · exact P.repr_of_bool ⟨.str _, H, I.tok _, ⟨_, rfl⟩, q⟩
    · exact P.repr_of_bool ⟨.str _, H, I.tok _, ⟨_, rfl⟩, q⟩
  | int i =>
    cases hd
    obtain ⟨t, rfl⟩ := ru
    exact P.repr_of_int (of_decide_eq_true h1) ⟨.str _, H, I.tok _, ⟨_, rfl⟩, q⟩
  | str x =>
    cases hd
    obtain ⟨t, rfl⟩ := ru
    exact P.repr_of_str ⟨.str _, H, I.tok _, ⟨_, rfl⟩, q⟩ h4
  | list ds =>
    cases hd with | lst e l => ?_
    cases ru
    obtain ⟨as, r1⟩ := Dp.reads I (.list ds) _ _ (.lst e l) rfl
    exact repr_of_reads' r1 h1 (PyData.noDict_hsm h2) hG (by omega) (fun _ _ e => e) (fun h' u tk hk => ⟨.str _, H, I.kept (t' := tk) hk, ⟨_, rfl⟩, q⟩) h4
  | tuple ds =>
    cases hd with | tup e l => ?_
    cases ru
    obtain ⟨as, r1⟩ := Dp.reads I (.tuple ds) _ _ (.tup e l) rfl
    exact repr_of_reads' r1 h1 (PyData.noDict_hsm h2) hG (by omega) (fun _ _ e => e) (fun h' u tk hk => ⟨.str _, H, I.kept (t' := tk) hk, ⟨_, rfl⟩, q⟩) h4
  | dict kv => cases hd
/-! ### held readings -/
def EvHA (t : TA) (Γ : Gam) (x : Exn) (ed : Option Addr) (ds : List D) : Prop := ∀ (F : Addr → Prop) (σ : L2.St) (W : Wd) (Q : List V → Hp → Prop), SR F Γ σ W → ExHeld W x ed → (∀ vs H, Same W.H H → RepL (W.at H) ds vs → Q vs H) → t σ W.H Q
section
variable {Γ : Gam} {x : Exn} {ed : Option Addr} {t tr : TA} {te ta tb : TE} {d : D} {ds es : List D} {K : PySem.W.Frag}
theorem evha_nil : EvHA tNil Γ x ed [] := fun F σ W Q g hx k => k [] W.H (Same.refl _) rfl
theorem evha_cons (h : EvH te Γ x ed d) (hr : EvHA tr Γ x ed ds) : EvHA (tCons te tr) Γ x ed (d :: ds) := fun F σ W Q g hx k =>
  h F σ W _ g hx fun v H s r => hr F σ (W.at H) _ (g.same s) (hx.same s) fun vs H' s' l => k (v :: vs) H' (Same.trans s s') ⟨v, vs, rfl, Rep.same (W := W.at H) s' r, l⟩
theorem evh_lst (h : EvHA t Γ x ed ds) (hz : ds.length ≤ sizeLine) : EvH (tLst t) Γ x ed (.lst ds) := fun F σ W Q g hx k => h F σ W _ g hx fun vs H s l => ⟨by rw [← l.length]; exact hz, fun p hp =>
  k _ _ (Same.trans s (same_upd hp)) (rep_new_lst (W := W.at H) (g.same s).ok.dom hp l)⟩
theorem evh_op {r : R2} {d1 d2 : D} (ha : EvH ta Γ x ed d1) (hb : EvH tb Γ x ed d2) (hr : DR2 r d1 d2 d) : EvH (tOp r ta tb) Γ x ed d := fun F σ W Q g hx k =>
  ha F σ W _ g hx fun u H s l => hb F σ (W.at H) _ (g.same s) (hx.same s) fun v H' s' l' => hr (W.at H') u v Q ((g.same s).same s').ok.dom (Rep.same (W := W.at H) s' l) l' fun z H'' s'' q => k z H'' (Same.trans s (Same.trans s' s'')) q
theorem held_dict {W : Wd} (h : ExHeld W x ed) : ed = none ∨ ∃ dd fs, ed = some dd ∧ W.H dd = some (.xd fs) := by
  obtain ⟨C, fs⟩ := x
  cases fs with
  | nil => exact .inl h
  | cons f fs =>
    obtain ⟨dd, vs, e, _, hd, _⟩ := h
    exact .inr ⟨dd, _, e, hd⟩
/-- isinstance(e, C), e with its fields -/
theorem evh_isX {a : Addr} {c : V} {cv : Value} {b : Bool} {D0 : Addr} (h : Ev ta Γ (.raw (.ref a))) (hc : Ev tb Γ (.raw c)) (hv : ∀ u, RelV c u → u = cv) (hk : PySem.W.kitOne K (.ref D0) cv = some b) : EvH (tCB (rIsX K D0 a ed) (tCons ta (tCons tb tNil))) Γ x ed (.bl b) := fun F σ W Q g hx k =>
  h F σ W _ g fun v H s r => hc F σ (W.at H) _ (g.same s) fun w H' s' rc => ⟨c, cv, b, by rw [show v = .ref a from r, show w = c from rc], hv, hk, held_dict (W := W.at H') (hx.same (Same.trans s s')), k _ H' (Same.trans s s') rfl⟩
theorem fs_look {W : Wd} {f : Str} {d : D} : ∀ {fs : List (Str × D)} {vs : List V}, fs.lookup f = some d → RepL W (fs.map fun z => z.2) vs → ∃ v, ((fs.map fun z => z.1).zip vs).lookup f = some v ∧ Rep W d v
  | [], _, h, _ => by cases h
  | (g, e) :: fs, vs, h, r => by
    obtain ⟨v, ws, rfl, rv, rw'⟩ := r
    simp only [List.map_cons, List.zip_cons_cons, List.lookup_cons] at h ⊢
    cases q : f == g with
    | true =>
      rw [q] at h
      cases h
      exact ⟨v, rfl, rv⟩
    | false =>
      rw [q] at h
      exact fs_look h rw'
/-- e.f -/
theorem evh_xf {a : Addr} {f : Str} (h : Ev te Γ (.raw (.ref a))) (hf : x.fs.lookup f = some d) : EvH (tXf a (.ref x.C) ed x.C f te) Γ x ed d := fun F σ W Q g hx k =>
  h F σ W _ g fun v H s r => by
    have hx' : ExHeld (W.at H) x ed := hx.same s
    obtain ⟨C, fs⟩ := x
    cases fs with
    | nil => cases hf
    | cons f0 fs =>
      obtain ⟨dd, vs, e, _, hd, r2⟩ := hx'
      obtain ⟨v1, l, rv⟩ := fs_look hf r2
      exact ⟨r, rfl, dd, _, v1, e, hd, l, k v1 H s rv⟩
theorem rep_reprX {W : Wd} {k : Nat} {v : V} {Q : VK} (r : Rep W d v) (h1 : dOk k d = true) (hk : k ≤ 64) (h2 : shOk d = true) (h3 : shB d ≤ sizeLine) (q : Q (.str (PyData.shown (py d))) W.H) : rReprX K [v] W.H Q := by
  obtain ⟨p1, _, p3⟩ := dOk_py k _ h1
  obtain ⟨s1, s2⟩ := shOk_py _ h2
  exact ⟨v, _, rfl, dp_of d v p1 r, s1, s2, Nat.le_trans p3 hk, Nat.le_trans (shB_le k d h1) h3, q⟩
end
end Dw

/-! x -= e; a = b = e. -/
namespace Dw
open PySem PySem.Spec PyProof.Rows L2
variable [Tabs0]
section
variable {Γ : Gam} {te : TE} {De : DE} {d : D}
end
end Dw

/-! A tuple of whole numbers in a list of such: in, index. -/
namespace Dw
open PySem PySem.Spec PyProof.Rows L2
variable [Tabs0]
theorem plain_ordN : ∀ o : List Nat, PyData.plainAll (pys (ordN o)) = true
  | [] => rfl
  | k :: o => by
    show (PyData.plain (.int k) && PyData.plainAll (pys (ordN o))) = true
    rw [plain_ordN o]; rfl
@[reducible] def dtT : PySem.W.Datum (List Nat) where
  toD o := py (.tup (ordN o))
  plain o := plain_ordN o
  eqv a b := eqv_ints a b
  depth := 1
  depth_le o := (dOk_py 1 (.tup (ordN o)) (dOks_map fun _ _ => rfl)).2.2
end Dw

/-! sorted of a list of tuples of whole numbers that stands in order; an expression read in one of two ways. -/
namespace Dw
open PySem PySem.Spec PyProof.Rows L2
variable [Tabs0]
end Dw

/-! x, ys, zs = e, [..], [..] where ys and zs are one's own. -/
namespace Dw
open PySem PySem.Spec PyProof.Rows L2
variable [Tabs0]
end Dw

/-! sorted of alike data; sorted(xs, key=lambda x: (len(x), x)) of tuples of whole numbers. -/
namespace Dw
open PySem PySem.Spec PyProof.Rows L2 LamX
section
variable {X : Cx} {pins : List (Addr × Obj)} {σ : L2.St} {H : Hp} {s : Shared} {β : Type}
end
/-! ### key=lambda x: (len(x), x) -/
section
variable {X : Cx} {pins : List (Addr × Obj)} {σ : L2.St} {H : Hp} {s : Shared}
end

end Dw

/-! Tagged data (what stands beside it: all tables may change); sorted lots by data. -/
namespace Dw
open PySem PySem.Spec PyProof.Rows L2 LamX
variable [Tabs0]
/-! ### tags -/
section
variable {Γ : Gam} {t : TE} {d e : D} {i : Nat} {Q : D → Gam → Prop}
def TabIn (W : Wd) : Prop := ∀ p q, Tabs0.nm p = some q → W.P p
/-- a slot that knows of the tables -/
def TgS (s : Sl) : Prop := s = .val .purse ∨ ∃ d, s = .val (.tag d)
theorem TgS.purse : TgS (.val .purse) := .inl rfl
theorem TgS.tag {d : D} : TgS (.val (.tag d)) := .inr ⟨d, rfl⟩
theorem SR.tabs {F : Addr → Prop} {Γ : Gam} {σ : L2.St} {W : Wd} {s : Sl} (g : SR F Γ σ W) (h : Γ[i]? = some s) (ht : TgS s) : TabIn W := by
  rcases ht with rfl | ⟨d, rfl⟩
  · obtain ⟨_, _, _, _, _, _, t⟩ := g.val i .purse h
    exact t
  · obtain ⟨_, _, _, t⟩ := g.val i (.tag d) h
    exact t
end
/-! ### the order of lots -/
/-! ### what is sorted, as data -/
section
variable {K : PySem.W.Frag} {Γ : Gam} {Tt : List (Addr × Str)} {P : Addr} {q : Str} {i : Nat} {te : TE} {l : List (List Nat)} {Q : D → Gam → Prop}
end
/-! ### sorted of alike data -/
end Dw

/-! A def that makes a lambda for sorted. -/
namespace Dw
open PySem PySem.Spec PyProof.Rows L2 LamX
variable [Tabs0]
section
variable {P : Program} {w : World} {K : PySem.W.Frag} {mg : Str → Option Value} {base : Heap}
end
end Dw
namespace Dw
open PySem PySem.Spec PyProof.Rows L2
variable [Tabs0]
end Dw
namespace Dw
open PySem PySem.Spec PyProof.Rows L2
variable [Tabs0]
end Dw

/-! told of what changes tables; several tables. -/
namespace Dw
open PySem PySem.Spec PyProof.Rows L2 LamX
variable [Tabs0]
section
variable {K : PySem.W.Frag} {Γ : Gam} {Tt : List (Addr × Str)} {P : Addr} {q wd : Str} {c1 c2 : Value} {n ie i : Nat} {ts : Addr → Value → Option Addr → TS} {t : XK → TE} {Q Q1 : D → Gam → Prop}
theorem dl_told_dl (T : TabsOk Tt) (hP : (P, q) ∈ Tt) (h0 : Γ[i]? = some (.val .purse)) (hb : ∀ E, Dl (t E) Γ Q1) (hq : ∀ d Γ', Q1 d Γ' → Q (.tup [.str wd, d]) Γ') : Dl (tLam3 Tt P q (TTold3 K c1 c2 n ie wd ts) t) Γ Q := fun F σ W R g k => by
  obtain ⟨v0, e0, a, ev, hp, nn, tb⟩ := g.val i .purse h0
  refine ⟨tabs_of g.ok T tb, fun H1 c T1 => ?_⟩
  obtain ⟨st, g1⟩ := g.chg T hP tb c T1
  intro Qc hQ
  refine hb _ F σ (W.at H1) Qc g1 fun v W2 d Γ' s' g2 r q1 => hQ v W2.H fun tt ht => ?_
  have sm : Same W2.H (upd W2.H tt (.tup [.str wd, v])) := same_upd ht
  have g3 : SR F Γ' σ (W2.at (upd W2.H tt (.tup [.str wd, v]))) := g2.same sm
  have st3 : Stp F W (W2.at (upd W2.H tt (.tup [.str wd, v]))) := (st.trans s').trans (Stp.of_same g2.ok sm)
  exact k (.ref tt) (W2.at (upd W2.H tt (.tup [.str wd, v]))) (.tup [.str wd, d]) Γ' st3 g3 (rep_new_tup (W := W2) g2.ok.dom ht ⟨_, _, rfl, rfl, v, [], rfl, r, rfl⟩) (hq d Γ' q1)
end
section
variable {Γ : Gam} {s : Spc} {sp : Sp} {ta tk : TA} {E : XK} {ds es : List D} {Q : D → Gam → Prop}
end
end Dw
namespace Dw
open PySem
theorem mem_lk {p : Addr} {q : Str} : ∀ {l : List (Addr × Str)}, l.lookup p = some q → (p, q) ∈ l
  | [], h => by cases h
  | a :: l, h => by
    cases e : p == a.1 with
    | true =>
      rw [List.lookup, e] at h
      have h : some a.2 = some q := h
      have e1 : p = a.1 := by simpa using e
      rw [e1, ← Option.some.inj h]
      exact List.mem_cons_self
    | false =>
      rw [List.lookup, e] at h
      exact List.mem_cons_of_mem _ (mem_lk h)
/-- tables by their list -/
theorem tabsOk_of {l : List (Addr × Str)} (nd : (l.map (·.1)).Nodup) : @TabsOk ⟨fun a => l.lookup a⟩ l := by
  refine @TabsOk.mk ⟨fun a => l.lookup a⟩ l (fun p hp => ?_) fun p q z => mem_lk z
  show l.lookup p.1 = some p.2
  induction l with
  | nil => cases hp
  | cons a l ih =>
    obtain ⟨n1, n2⟩ := List.nodup_cons.mp nd
    rcases List.mem_cons.mp hp with rfl | hp
    · simp [List.lookup]
    · have : p.1 ≠ a.1 := fun z => n1 (List.mem_map.mpr ⟨p, hp, z⟩)
      have e : (p.1 == a.1) = false := by simpa using this
      rw [List.lookup, e]
      exact ih n2 hp
theorem f_cons {α : Type} {P : α → Prop} {a : α} {l : List α} (h : P a) (t : ∀ p ∈ l, P p) : ∀ p ∈ a :: l, P p := fun p hp => (List.mem_cons.mp hp).elim (fun e => e ▸ h) (t p)
theorem f_nil {α : Type} {P : α → Prop} : ∀ p ∈ ([] : List α), P p := fun _ h => absurd h (by simp)
end Dw

/-! sorted(set(xs)), xs a list of whole numbers. -/
namespace Dw
open PySem PySem.Spec PyProof.Rows L2
variable [Tabs0]
section
variable {P : Program} {w : World} {A : Around} {E : Value → Shared → Prop} {s : Shared}
end
end Dw

/-! own dicts: d = {}, d[k] = v, d[k] -/
namespace Dw
open PySem PySem.Spec PyProof.Rows L2
variable [Tabs0]
section
variable {K : PySem.W.Frag} {Γ : Gam} {ta tb te tk ty : TE} {De : DE} {ds : List D} {d : D}
end
end Dw

/-! str, repr, bool, == and != of objects whose class has its own __str__, __repr__, __eq__ (and no __bool__, __len__, __ne__). -/
namespace Dw
open PySem PySem.Spec PyProof.Rows L2
section
variable {X : Cx}
/-- a def of the text, called somewhere below the running body -/
theorem run_below {k : Nat} {f : Addr} {fd : FuncData} {ps : List Str} {sp : Sp} (F : FnOk X.prog X.w X.K X.mg X.base CX0 k f fd ps sp) {A : Around} (hr : Room k A) (fr : A.frames = X.A.frames) (hb : Binds X.K fd ps [])
    {pins : List (Addr × Obj)} {σ : L2.St} {H : Hp} {s : Shared} {us : List Value} {vs : List V} {Q : VK} {E1 : Value → Shared → Prop} (I : Inv X pins σ H s) (r : Vals vs us) (hsp : sp vs H Q E0) {R : Value → Shared → Prop}
    (hR : ∀ u s', EP X pins σ Q u s' → R u s') : wpAny (model X.prog X.w) A (call (.ref f) us) R E1 s := by
  have e0 : Env0 X.prog X.w X.K X.mg X.base A X.stack s H := by
    have e := I.env0
    exact ⟨by rw [fr]; exact e.frames, e.mod, e.bs, e.bsz, e.funs, e.frf, e.hok, e.bare⟩
  have hl : us.length = ps.length := by rw [← r.length]; exact F.len _ _ _ _ hsp
  have b := hb s us I.kIn (by rw [List.append_nil]; exact hl)
  rw [List.append_nil] at b
  refine wpAny_call (codeAny_mono (F.run A X.stack s H ⟨us, []⟩ us vs Q E0 hr e0 b r hsp) fun r s' hq => ?_)
  match r, hq with
  | .error e, hq => exact (show False from hq).elim
  | .ok .next, hq => exact (show False from hq).elim
  | .ok .brk, hq => exact (show False from hq).elim
  | .ok .cont, hq => exact (show False from hq).elim
  | .ok (.ret u), hq => exact hR _ _ (I.after hq)
/-- str(x), repr(x): the own def gives a text -/
def rOwn1 (C : Addr) (sp : Sp) : List V → Hp → VK → Prop := fun xs H Q => ∃ (a dx : Addr) (fs : List (Str × V)), xs = [.ref a] ∧ H a = some (.ins C dx fs) ∧ sp [.ref a] H (fun v H' => (∃ x, v = .str x) ∧ Q v H') E0
theorem str_back {pins : List (Addr × Obj)} {σ : L2.St} {Q : VK} {u : Value} {s' : Shared} (h : EP X pins σ (fun v H' => (∃ x, v = .str x) ∧ Q v H') u s') : PySem.W.StrBack (EP X pins σ Q) u s' := by
  obtain ⟨v, H', I', r, ⟨x, rfl⟩, q⟩ := h
  obtain ⟨t, rfl⟩ := r
  exact ⟨.str x, H', I', ⟨t, rfl⟩, q⟩
variable {C f : Addr} {fd : FuncData} {p : Str} {n : Nat} {sp : Sp}
theorem cr_strOwn (F : FnOk X.prog X.w X.K X.mg X.base CX0 n f fd [p] sp) (hr : Room (n + 2) X.A) (hs : PySem.W.findIn X.K (.ref C) "__str__" = some (some (.ref f))) (hf : PySem.W.isFn X.K (.ref f) = true) (hb : Binds X.K fd [p] []) : CallR X (.type "str") (rOwn1 C sp) := by
  intro pins s σ H xs us Q I r h
  obtain ⟨a, dx, fs, rfl, ha, hsp⟩ := h
  obtain ⟨u, rfl, ru⟩ := vals1 r
  cases ru
  obtain ⟨mA, J, _⟩ := ins_get I.hok ha
  obtain ⟨od, J, _⟩ := J.look
  refine PySem.W.kso_call (by have := hr.un; show X.A.units + 1 + 1 < cLine; omega) I.kIn J hs hf ?_
  exact run_below F hr.in1.in1 rfl hb I (vs := [V.ref a]) (us := [Value.ref a]) (.cons rfl .nil) hsp fun u s' h => str_back h
theorem cr_reprOwn (F : FnOk X.prog X.w X.K X.mg X.base CX0 n f fd [p] sp) (hr : Room (n + 1) X.A) (hs : PySem.W.findIn X.K (.ref C) "__repr__" = some (some (.ref f))) (hf : PySem.W.isFn X.K (.ref f) = true) (hb : Binds X.K fd [p] []) : CallR X (.builtin "repr") (rOwn1 C sp) := by
  intro pins s σ H xs us Q I r h
  obtain ⟨a, dx, fs, rfl, ha, hsp⟩ := h
  obtain ⟨u, rfl, ru⟩ := vals1 r
  cases ru
  obtain ⟨mA, J, _⟩ := ins_get I.hok ha
  obtain ⟨od, J, _⟩ := J.look
  obtain ⟨m, hF⟩ := I.fr
  refine PySem.W.repr_K (by have := hr.un; show X.A.units + 1 < cLine; omega) hF I.ok.mod.kin J hs hf ?_
  exact run_below F hr.in1 rfl hb I (vs := [V.ref a]) (us := [Value.ref a]) (.cons rfl .nil) hsp fun u s' h => str_back h
/-! ### == and != -/
/-- what stands on the right -/
def Right (K : PySem.W.Frag) (C : Addr) (H : Hp) (y : V) : Prop := y = .non ∨ (∃ b, y = .bl b) ∨ (∃ i, y = .int i) ∨ (∃ x, y = .str x) ∨ ∃ b, y = .ref b ∧ ((∃ xs, SqL K H b xs) ∨ (∃ xs, SqT K H b xs) ∨ (∃ kvs, H b = some (.dK kvs)) ∨ ∃ dx fs, H b = some (.ins C dx fs))
theorem nf_type {K : PySem.W.Frag} {C : Addr} : ∀ T ∈ (["NoneType", "bool", "int", "str", "list", "tuple", "dict"] : List String), PySem.W.notFirst K C (.type T) = true := by
  intro T hT
  simp only [List.mem_cons, List.not_mem_nil, or_false] at hT
  rcases hT with rfl | rfl | rfl | rfl | rfl | rfl | rfl <;> rfl
theorem looks_cls {h : Heap} {a : Addr} {o : Obj} {c : Value} (he : h.get? a = some o) (hc : o.cls = c) : PySem.W.Looks (model X.prog X.w) h (typeOf (.ref a)) c := fun A Q E s k q => wpAny_typeOf_ref (k _ _ he) (by rw [hc]; exact q)
theorem right_type {pins : List (Addr × Obj)} {σ : L2.St} {H : Hp} {s : Shared} {y : V} {v : Value} (I : Inv X pins σ H s) (hy : Right X.K C H y) (ry : RelV y v) : ∃ tb, PySem.W.Looks (model X.prog X.w) s.heap (typeOf v) tb ∧ PySem.W.notFirst X.K C tb = true := by
  rcases hy with rfl | ⟨b, rfl⟩ | ⟨i, rfl⟩ | ⟨x, rfl⟩ | ⟨b, rfl, h⟩
  · cases ry
    exact ⟨_, PySem.W.Looks.of_pure rfl, nf_type "NoneType" (by simp)⟩
  · cases ry
    exact ⟨_, PySem.W.Looks.of_pure rfl, nf_type "bool" (by simp)⟩
  · obtain ⟨t, rfl⟩ := ry
    exact ⟨_, PySem.W.Looks.of_pure rfl, nf_type "int" (by simp)⟩
  · obtain ⟨t, rfl⟩ := ry
    exact ⟨_, PySem.W.Looks.of_pure rfl, nf_type "str" (by simp)⟩
  · cases ry
    rcases h with ⟨xs, hq⟩ | ⟨xs, hq⟩ | ⟨kvs, hq⟩ | ⟨dx, fs, hq⟩
    · obtain ⟨its, rv, pl, hz⟩ := I.list hq
      obtain ⟨o, he, hc, _⟩ := pl.isList
      exact ⟨_, looks_cls he hc, nf_type "list" (by simp)⟩
    · obtain ⟨its, rv, e, hz⟩ := I.tuple hq
      obtain ⟨o, he, hc, _⟩ := e
      exact ⟨_, looks_cls he hc, nf_type "tuple" (by simp)⟩
    · obtain ⟨_, _, vs, _, o, es, ep, he, hx, _⟩ := (show ObjOk X.prog X.w H s.heap b (.dK kvs) from I.hok b _ hq)
      exact ⟨_, looks_cls he hx.1, nf_type "dict" (by simp)⟩
    · obtain ⟨mA, J, _⟩ := ins_get I.hok hq
      obtain ⟨od, J, _⟩ := J.look
      exact ⟨_, J.type, by simp [PySem.W.notFirst]⟩
/-- x == y: the own def gives a truth value -/
def rEqOwn (K : PySem.W.Frag) (C : Addr) (sp : Sp) : R2 := fun x y H Q => ∃ (a dx : Addr) (fs : List (Str × V)), x = .ref a ∧ H a = some (.ins C dx fs) ∧ Right K C H y ∧ sp [.ref a, y] H (fun v H' => (∃ b, v = .bl b) ∧ Q v H') E0
variable {p2 : Str}
theorem op_eqOwn (F : FnOk X.prog X.w X.K X.mg X.base CX0 n f fd [p, p2] sp) (hr : Room n X.A) (hs : PySem.W.findIn X.K (.ref C) "__eq__" = some (some (.ref f))) (hf : PySem.W.isFn X.K (.ref f) = true) (hb : Binds X.K fd [p, p2] []) : OpR X (compareOp .Eq) (rEqOwn X.K C sp) := by
  intro pins s σ H x y u v Q I rx ry h
  obtain ⟨a, dx, fs, rfl, ha, hy, hsp⟩ := h
  cases rx
  obtain ⟨tb, LT, nf⟩ := right_type I hy ry
  obtain ⟨mA, J, _⟩ := ins_get I.hok ha
  obtain ⟨od, J, _⟩ := J.look
  obtain ⟨m, hF⟩ := I.fr
  show wpAny (model X.prog X.w) X.A (richCompare .Eq (.ref a) v) (EP X pins σ Q) X.xe s
  refine PySem.W.cmp_K (op := .Eq) hr.units0 hF I.ok.mod.kin J LT nf hs hf ?_
  refine run_below F hr rfl hb I (vs := [V.ref a, y]) (us := [Value.ref a, v]) (.cons rfl (.cons ry .nil)) hsp fun u s' hq => ?_
  obtain ⟨z, H', I', r, ⟨b, rfl⟩, q⟩ := hq
  cases r
  exact ⟨.bl b, H', I', rfl, q⟩
open Builtin in
theorem ifBound_B {M : Model} {A : Around} {E : Value → Shared → Prop} {s : Shared} {K : PySem.W.Frag} {x C : Addr} {ox : Obj} {od : Option Obj} {name : Str} {id : String} {args : List Value} {Q : Option Value → Shared → Prop} (X : K.In s.heap) (I : PySem.W.InstAt s.heap x ox C od)
    (hs : PySem.W.findIn K (.ref C) name = some (some (.builtin id))) (hb : ∀ self, bindSpecial (.builtin id) self = pure (.builtin id, [self])) (h : wpAny M A (call (.builtin id) (.ref x :: args)) (fun v => Q (some v)) E s) : wpAny M A (callSpecialIfBound? (.ref x) name args) Q E s := by
  simp only [callSpecialIfBound?, bindSpecialIfBound?]
  refine wpAny_holding (wpAny_bind (wpAny_bind (wpAny_bind (I.type.here ((PySem.W.looks_findIn X hs).here ?_)))))
  refine wpAny_bind (wpAny_askSetting (wpAny_ite ?_))
  have fin : wpAny M A (call (.builtin id) ([.ref x] ++ args) >>= fun v => pure (some v)) Q E s := wpAny_bind (wpAny_mono h (fun v s' h' => wpAny_pure h') fun _ _ h' => h')
  split
  · exact wpAny_bind ((PySem.W.Looks.of_pure (hb _)).here (wpAny_pure (by exact fin)))
  · exact wpAny_tryCatch (wpAny_bind ((PySem.W.Looks.of_pure (hb _)).here (wpAny_pure (by exact fin))))
open Builtin in
/-- != of a class with an own == and no own !=: the opposite -/
theorem ne_K {prog : Program} {w : World} {A : Around} {E : Value → Shared → Prop} {s : Shared} {K : PySem.W.Frag} {x C f L : Addr} {h₀ : Heap} {m : Str → Option Value} {ox : Obj} {od : Option Obj} {b tb : Value} {Q : Value → Shared → Prop} (hu : A.units + 1 < cLine)
    (F : Fr h₀ L s.heap m) (X₀ : K.In h₀) (I : PySem.W.InstAt s.heap x ox C od) (hb : PySem.W.Looks (model prog w) s.heap (typeOf b) tb) (hn : PySem.W.notFirst K C tb = true) (hm : PySem.W.mroIn K C (.type "object") = some true)
    (hs : PySem.W.findIn K (.ref C) "__ne__" = some (some (.builtin "object.__ne__"))) (he : PySem.W.findIn K (.ref C) "__eq__" = some (some (.ref f))) (hf : PySem.W.isFn K (.ref f) = true)
    (h : wpAny (model prog w) A.in1 (call (.ref f) [.ref x, b]) (fun v s' => ∃ r, v = .bool r ∧ Q (.bool (!r)) s') E s) : wpAny (model prog w) A (richCompare .NotEq (.ref x) b) Q E s := by
  have X := X₀.keeps F.keep
  have one : wpAny (model prog w) A (tryCompare (.ref x) "__ne__" b) (fun r s' => ∃ v, r = some v ∧ Q v s') E s := by
    unfold tryCompare
    refine wpAny_bind (ifBound_B X I hs PySem.F.cmp_object.ne.bind (wpAny_call (codeAny_call_builtin PySem.F.cmp_object.ne.plain PySem.F.cmpEntry_ne (PySem.W.check_slot (i := "object.__ne__") (owner := "object") (n := "__ne__") (by decide +kernel) (by decide +kernel) (I.type.andThen (PySem.W.looks_mroIn X hm)) (PySem.F.cmpArgs_ne _ _) ?_))))
    unfold Builtin.«object.__ne__»
    refine wpAny_bind (m := slotArgs "__ne__" 1 _) (wpAny_pure ?_)
    refine wpAny_bind (m := cRoomFor _ _) (wpAny_cRoomFor (show A.units + 1 < cLine from hu) ?_)
    refine wpAny_bind (m := callSpecialIfBound? (.ref x) (Str.ofString "__eq__") [b]) (PySem.W.ifBound_K X I he hf (wpAny_mono h (fun r s' hr => ?_) fun _ _ y => y))
    obtain ⟨r, rfl, hq⟩ := hr
    exact wpAny_bind (wpAny_truthy_bool (wpAny_pure (wpAny_pure ⟨_, rfl, hq⟩)))
  unfold richCompare
  simp only [oneThing_ref]
  refine wpAny_holding (wpAny_bind (wpAny_cRoomFor (by omega) ?_))
  refine wpAny_bind (I.type.here (wpAny_bind (hb.here ?_)))
  split
  · rename_i q
    have e : PySem.W.subIn K tb (.ref C) = some false := by
      rcases Bool.or_eq_true_iff.mp hn with e | e
      · rw [beq_iff_eq.mp e] at q; simp at q
      · exact beq_iff_eq.mp e
    refine wpAny_bind ((PySem.W.looks_subIn X e).here ?_)
    simp only [Bool.false_eq_true, if_false]
    refine wpAny_bind (wpAny_mono one (fun r s' z => ?_) fun _ _ e => e)
    obtain ⟨v, rfl, hq⟩ := z
    exact wpAny_pure hq
  · refine wpAny_bind (wpAny_pure ?_)
    simp only [Bool.false_eq_true, if_false]
    refine wpAny_bind (wpAny_mono one (fun r s' z => ?_) fun _ _ e => e)
    obtain ⟨v, rfl, hq⟩ := z
    exact wpAny_pure hq
/-- x != y -/
theorem op_neOwn (F : FnOk X.prog X.w X.K X.mg X.base CX0 n f fd [p, p2] sp) (hr : Room (n + 1) X.A) (hm : PySem.W.mroIn X.K C (.type "object") = some true) (hn : PySem.W.findIn X.K (.ref C) "__ne__" = some (some (.builtin "object.__ne__"))) (hs : PySem.W.findIn X.K (.ref C) "__eq__" = some (some (.ref f))) (hf : PySem.W.isFn X.K (.ref f) = true) (hb : Binds X.K fd [p, p2] []) :
    OpR X (compareOp .NotEq) (fun x y H Q => rEqOwn X.K C sp x y H fun v H' => ∃ b, v = .bl b ∧ Q (.bl (!b)) H') := by
  intro pins s σ H x y u v Q I rx ry h
  obtain ⟨a, dx, fs, rfl, ha, hy, hsp⟩ := h
  cases rx
  obtain ⟨tb, LT, nf⟩ := right_type I hy ry
  obtain ⟨mA, J, _⟩ := ins_get I.hok ha
  obtain ⟨od, J, _⟩ := J.look
  obtain ⟨m, hF⟩ := I.fr
  show wpAny (model X.prog X.w) X.A (richCompare .NotEq (.ref a) v) (EP X pins σ Q) X.xe s
  refine ne_K (by have := hr.un; omega) hF I.ok.mod.kin J LT nf hm hn hs hf ?_
  refine run_below F hr.in1 rfl hb I (vs := [V.ref a, y]) (us := [Value.ref a, v]) (.cons rfl (.cons ry .nil)) hsp fun u s' hq => ?_
  obtain ⟨z, H', I', r, _, b, rfl, q⟩ := hq
  cases r
  exact ⟨b, rfl, .bl (!b), H', I', rfl, q⟩
/-! ### bool(x) -/
theorem truthy_own {M : Model} {A : Around} {E : Value → Shared → Prop} {s : Shared} {K : PySem.W.Frag} {x C : Addr} {ox : Obj} {od : Option Obj} {Q : Bool → Shared → Prop} (X : K.In s.heap) (I : PySem.W.InstAt s.heap x ox C od) (hs : PySem.W.findIn K (.ref C) "__bool__" = some none) (hl : PySem.W.findIn K (.ref C) "__len__" = some none) (h : Q true s) : wpAny M A (truthy (.ref x)) Q E s := by
  unfold truthy
  refine wpAny_bind (m := callSpecial? (.ref x) (Str.ofString "__bool__")) (wpAny_bind (wpAny_bind (I.type.here ((PySem.W.looks_findIn X hs).here (wpAny_pure ?_)))))
  refine wpAny_bind (wpAny_bind (I.type.here ((PySem.W.looks_findIn X hl).here ?_)))
  exact wpAny_pure h
theorem meets_bool_own {K : PySem.W.Frag} {x C : Addr} {ox : Obj} {od : Option Obj} (h1 : PySem.W.findIn K (.ref C) "__bool__" = some none) (h2 : PySem.W.findIn K (.ref C) "__len__" = some none) :
    Meets (Builtin.«bool.__new__» ⟨[.type "bool", .ref x], []⟩) (fun _ R s => (K.In s.heap ∧ PySem.W.InstAt s.heap x ox C od) ∧ R (.ok (.ret (.bool true))) s) :=
  Meets.of_wp fun prog w A R s hs => by
    obtain ⟨⟨hX, hI⟩, hs⟩ := hs
    have f1 := PySem.F.conv_sub_bool
    repeat (any_goals (first | assumption | (with_reducible refine truthy_own hX hI h1 h2 ?_) | wp_step))
    all_goals first | exact ⟨_, rfl, hs⟩ | exact hs | skip
theorem cr_boolOwn (h1 : PySem.W.findIn X.K (.ref C) "__bool__" = some none) (h2 : PySem.W.findIn X.K (.ref C) "__len__" = some none) : CallR X (.type "bool") (fun xs H Q => ∃ (a dx : Addr) (fs : List (Str × V)), xs = [.ref a] ∧ H a = some (.ins C dx fs) ∧ Q (.bl true) H) := by
  intro pins s σ H xs us Q I r h
  obtain ⟨a, dx, fs, rfl, ha, q⟩ := h
  obtain ⟨u, rfl, ru⟩ := vals1 r
  cases ru
  obtain ⟨mA, J, _⟩ := ins_get I.hok ha
  obtain ⟨od, J, _⟩ := J.look
  exact call_bool_1 (meets_bool_own h1 h2) ⟨⟨I.kIn, J⟩, rfl, .bl true, H, I, rfl, q⟩
end
end Dw

/-! try .. except C: suite, within a def, by data. -/
namespace Dw
open PySem PySem.Spec PyProof.Rows L2
variable [Tabs0]
section
variable {K : PySem.W.Frag} {c : Value} {ts : Addr → Value → Option Addr → TS} {tb : WX → TS} {Γ : Gam} {De : DE} {x : Exn} {d : D}
end
end Dw

/-! An __init__ that stores its fields, or raises; str, repr, bool, == and != of objects, by data. -/
namespace Dw
open PySem PySem.Spec PyProof.Rows L2 LamX
variable [Tabs0]
section
variable {P : Program} {w : World} {K : PySem.W.Frag} {mg : Str → Option Value} {base : Heap} {C : Addr} {s : Spc} {sx : SpcX}
end
section
variable {Γ : Gam} {s : Spc} {sx : SpcX} {sp : Sp} {C : Addr} {ta : TA} {E : XK} {ns : List Str} {R : Option Addr → Hp → Prop}
end
/-! ### str(x), repr(x), bool(x), x == y, x != y -/
section
variable {Γ : Gam} {s : Spc} {C : Addr} {ta tb : TE} {K : PySem.W.Frag} {ns : List Str} {ds : List D} {dy : D} {b : Bool} {z : Str}
theorem ev_own1 {x : s.ty} (h : Ev ta Γ (.obj C ns ds)) (ha : s.args x = [.obj C ns ds]) (np : noPs (s.args x) = true) (ok : s.ok x) (hd : ∀ d', s.rel x d' → d' = .str z) : Ev (tCB (rOwn1 C (toSp s)) (tCons ta tNil)) Γ (.str z) := fun F σ W Q g k => h F σ W _ g fun v H st r => by
  obtain ⟨a, dx, vs, rfl, hH, nu, l, rr⟩ := r
  refine ⟨a, dx, _, rfl, hH, ?_⟩
  have r0 : RepL (W.at H) (s.args x) [.ref a] := by rw [ha]; exact RepL.one ⟨a, dx, vs, rfl, hH, nu, l, rr⟩
  exact pure_call (W := W.at H) (g.same st) (fun _ z => z) (RepL.delP _ _ np r0) ok fun d' v H' hd' s' r' => by
    rw [hd d' hd'] at r'
    exact ⟨⟨z, r'⟩, k v H' (Same.trans st s') (Rep.addP (W := W) r')⟩
theorem ev_boolOwn (h : Ev ta Γ (.obj C ns ds)) : Ev (tCB (fun xs H Q => ∃ (a dx : Addr) (fs : List (Str × V)), xs = [.ref a] ∧ H a = some (.ins C dx fs) ∧ Q (.bl true) H) (tCons ta tNil)) Γ (.bl true) := fun F σ W Q g k => h F σ W _ g fun v H st r => by
  obtain ⟨a, dx, vs, rfl, hH, nu, l, rr⟩ := r
  exact ⟨a, dx, _, rfl, hH, k _ H st rfl⟩
def rightD (C : Addr) : D → Prop
  | .non => True | .bl _ => True | .int _ => True | .str _ => True | .lst _ => True | .tup _ => True | .dct _ _ => True | .obj C' _ _ => C' = C
  | _ => False
theorem right_rep {W : Wd} {v : V} : ∀ {d : D}, rightD C d → Rep W d v → Right K C W.H v
  | .non, _, r => .inl r
  | .bl b, _, r => .inr (.inl ⟨b, r⟩)
  | .int i, _, r => .inr (.inr (.inl ⟨i, r⟩))
  | .str x, _, r => .inr (.inr (.inr (.inl ⟨x, r⟩)))
  | .lst ds, _, ⟨a, vs, e, h, _, _⟩ => .inr (.inr (.inr (.inr ⟨a, e, .inl ⟨vs, .of h⟩⟩)))
  | .tup ds, _, ⟨a, vs, e, h, _, _⟩ => .inr (.inr (.inr (.inr ⟨a, e, .inr (.inl ⟨vs, h.sq⟩)⟩)))
  | .dct ks ds, _, ⟨a, vs, e, h, _, _, _⟩ => .inr (.inr (.inr (.inr ⟨a, e, .inr (.inr (.inl ⟨_, h⟩))⟩)))
  | .obj C' ns ds, hc, ⟨a, dx, vs, e, h, _, _, _⟩ => .inr (.inr (.inr (.inr ⟨a, e, .inr (.inr (.inr ⟨dx, ns.zip vs, (show C' = C from hc) ▸ h⟩))⟩)))
theorem ev_eqOwn {x : s.ty} (h : Ev ta Γ (.obj C ns ds)) (h' : Ev tb Γ dy) (hy : rightD C dy) (ha : s.args x = [.obj C ns ds, dy]) (np : noPs (s.args x) = true) (ok : s.ok x) (hd : ∀ d', s.rel x d' → d' = .bl b) : Ev (tOp (rEqOwn K C (toSp s)) ta tb) Γ (.bl b) := fun F σ W Q g k => h F σ W _ g fun v H st r => h' F σ (W.at H) _ (g.same st) fun u H2 st2 r2 => by
  obtain ⟨a, dx, vs, rfl, hH, nu, l, rr⟩ := Rep.same (W := W.at H) st2 r
  refine ⟨a, dx, _, rfl, hH, right_rep hy r2, ?_⟩
  have r0 : RepL (W.at H2) (s.args x) [.ref a, u] := by rw [ha]; exact ⟨_, _, rfl, ⟨a, dx, vs, rfl, hH, nu, l, rr⟩, RepL.one r2⟩
  exact pure_call (W := W.at H2) ((g.same st).same (W := W.at H) st2) (fun _ z => z) (RepL.delP _ _ np r0) ok fun d' v H' hd' s' r' => by
    rw [hd d' hd'] at r'
    exact ⟨⟨b, r'⟩, k v H' (Same.trans st (Same.trans st2 s')) (Rep.addP (W := W) r')⟩
abbrev rNeOwn (K : PySem.W.Frag) (C : Addr) (sp : Sp) : R2 := fun x y H Q => rEqOwn K C sp x y H fun v H' => ∃ b, v = .bl b ∧ Q (.bl (!b)) H'
theorem ev_neOwn {x : s.ty} (h : Ev ta Γ (.obj C ns ds)) (h' : Ev tb Γ dy) (hy : rightD C dy) (ha : s.args x = [.obj C ns ds, dy]) (np : noPs (s.args x) = true) (ok : s.ok x) (hd : ∀ d', s.rel x d' → d' = .bl b) : Ev (tOp (rNeOwn K C (toSp s)) ta tb) Γ (.bl (!b)) := fun F σ W Q g k => h F σ W _ g fun v H st r => h' F σ (W.at H) _ (g.same st) fun u H2 st2 r2 => by
  obtain ⟨a, dx, vs, rfl, hH, nu, l, rr⟩ := Rep.same (W := W.at H) st2 r
  refine ⟨a, dx, _, rfl, hH, right_rep hy r2, ?_⟩
  have r0 : RepL (W.at H2) (s.args x) [.ref a, u] := by rw [ha]; exact ⟨_, _, rfl, ⟨a, dx, vs, rfl, hH, nu, l, rr⟩, RepL.one r2⟩
  exact pure_call (W := W.at H2) ((g.same st).same (W := W.at H) st2) (fun _ z => z) (RepL.delP _ _ np r0) ok fun d' v H' hd' s' r' => by
    rw [hd d' hd'] at r'
    have r' : v = .bl b := r'
    exact ⟨⟨b, r'⟩, b, r', k (.bl (!b)) H' (Same.trans st (Same.trans st2 s')) rfl⟩
end
end Dw

/-! repr of any data, and of {}. -/
namespace Dw
open PySem PySem.Spec PyProof.Rows L2 LamX
def rReprE : List V → Hp → VK → Prop := fun xs H Q => ∃ a : Addr, xs = [.ref a] ∧ H a = some (.dK []) ∧ Q (.str "{}") H
theorem cr_reprE {X : Cx} (hu : X.A.units + 66 < PySem.cLine) (hG : X.A.guards = some []) : CallR X (.builtin "repr") rReprE := by
  intro pins s σ H xs us Q I r h
  obtain ⟨a, rfl, ha, q⟩ := h
  obtain ⟨u, rfl, ru⟩ := vals1 r
  cases ru
  obtain ⟨_, hsys, vs, hv, o, es, ep, he, hx, hd, _, hp, _⟩ := (show ObjOk X.prog X.w H s.heap a (.dK []) from I.hok a _ ha)
  have e0 : vs = [] := by cases hv; rfl
  subst e0
  have e1 : es.toList = [] := by cases q : es.toList with
    | nil => rfl
    | cons x l => rw [q] at hp; cases hp
  have rd : Reads s.heap (.ref a) (.dict []) (a :: [] ++ []) := .dict he hx.1 hd (by rw [e1]; exact .nil) (by rw [e1]; exact .nil)
  refine repr_of_reads' rd rfl (fun _ hm => ?_) hG (by have d1 : PyData.depth (.dict []) ≤ 1 := (by decide); omega) (fun _ _ e => e) (fun h' u tk hk => ⟨.str "{}", H, I.kept (t' := tk) hk, ⟨_, rfl⟩, q⟩) (by decide)
  rw [List.append_nil] at hm
  have := List.mem_singleton.mp hm
  rw [← this, beq_self_eq_true] at hsys
  cases hsys
variable [Tabs0]
def rReprY (K : PySem.W.Frag) : List V → Hp → VK → Prop := fun xs H Q => rReprX K xs H Q ∨ rReprE xs H Q
theorem cr_reprY {X : Cx} (hu : X.A.units + 66 < PySem.cLine) (hG : X.A.guards = some []) : CallR X (.builtin "repr") (rReprY X.K) := fun pins s σ H xs us Q I r h => h.elim (cr_reprX hu hG pins s σ H xs us Q I r) (cr_reprE hu hG pins s σ H xs us Q I r)
theorem reprY {X : Cx} {k : Nat} (K : PySem.W.Frag) (hr : Room k X.A) (hG : X.A.guards = some []) (hK : X.K = K := by rfl) : CallR X (.builtin "repr") (rReprY K) := hK ▸ cr_reprY (by have := hr.un; omega) hG
/-- the text that repr gives of a datum -/
def RpD (d : D) (z : Str) : Prop := (∃ k, k ≤ 64 ∧ dOk k d = true ∧ shOk d = true ∧ shB d ≤ sizeLine ∧ z = PyData.shown (py d)) ∨ (d = .dct [] [] ∧ z = "{}")
theorem rep_reprY {K : PySem.W.Frag} {W : Wd} {v : V} {d : D} {z : Str} {Q : VK} (r : Rep W d v) (h : RpD d z) (q : Q (.str z) W.H) : rReprY K [v] W.H Q := by
  rcases h with ⟨k, hk, h1, h2, h3, rfl⟩ | ⟨rfl, rfl⟩
  · exact .inl (rep_reprX r h1 hk h2 h3 q)
  · obtain ⟨a, vs, rfl, h, _⟩ := r
    exact .inr ⟨a, rfl, h, q⟩
section
variable {K : PySem.W.Frag} {Γ : Gam} {te : TE} {d : D} {z : Str} {x : Exn} {ed : Option Addr}
theorem ev_reprY (h : Ev te Γ d) (hz : RpD d z) : Ev (tCB (rReprY K) (tCons te tNil)) Γ (.str z) := fun F σ W Q g q => h F σ W _ g fun v H s r => rep_reprY (W := W.at H) r hz (q _ H s rfl)
end
end Dw

/-! f(lambda: body, y): a def that calls what it got, in a try, and reads its second argument where it catches. -/
namespace Dw
open PySem PySem.Spec PyProof.Rows L2 LamX
section
variable {X : Cx} {pins : List (Addr × Obj)} {σ : L2.St} {H : Hp} {s : Shared}
end
section
variable {X : Cx} {pins : List (Addr × Obj)} {σ : L2.St} {H : Hp} {s : Shared}
end
section
variable {X : Cx}
end
end Dw

/-! f(lambda: body, y): try: return a() / except C as e: suite, that reads e and y. -/
namespace Dw
open PySem PySem.Spec PyProof.Rows L2 LamX
variable [Tabs0]
section
variable {K : PySem.W.Frag} {Γ : Gam} {Tt : List (Addr × Str)} {P : Addr} {q : Str} {c1 : Value} {ie i j : Nat} {Ng : List Str} {sl : Sl} {ts : Addr → Value → Option Addr → TS} {t : XK → TE} {Q : D → Gam → Prop} {d dj : D} {x : Exn}
end
end Dw

/-! C(name=value), f'..{i}..', x == C(..), xs[k], xs[j] = xs[j], xs[k]. -/
namespace Dw
open PySem PySem.Spec PyProof.Rows L2 LamX HT
variable [Tabs0]
section
variable {Γ : Gam} {s : Spc} {sp : Sp} {C : Addr} {tk : TA} {E : XK} {ns : List Str} {e : D}
end
/-- f'a{i}b' -/
theorem ev_fstrI {Γ : Gam} {te : TE} {i : Int} {a b : Str} (h : Ev te Γ (.int i)) (hz : i.natAbs.log2 < 1920) (h1 : (Str.empty ++ a).length ≤ sizeLine) (h2 : (Str.empty ++ a ++ Str.ofString (toString i)).length ≤ sizeLine) (h3 : (Str.empty ++ a ++ Str.ofString (toString i) ++ b).length ≤ sizeLine) :
    Ev (fun σ H Q => tJs [tC (.str a), tFmt te, tC (.str b)] Str.empty σ H fun out H1 => Q (.str out) H1) Γ (.str (Str.empty ++ a ++ Str.ofString (toString i) ++ b)) := fun F σ W Q g k => by
  refine ⟨a, rfl, h1, h F σ W _ g fun v H s r => ?_⟩
  have r : v = .int i := r
  exact .inr ⟨i, r, hz, _, rfl, h2, b, rfl, h3, k _ H s rfl⟩
section
variable {Γ : Gam} {s : Spc} {C : Addr} {ta tb : TE} {K : PySem.W.Frag} {ns : List Str} {ds : List D} {b : Bool}
end
end Dw
namespace Dw
open PySem PySem.Spec PyProof.Rows L2
variable [Tabs0]
/-- str(text) -/
theorem ev_strS {Γ : Gam} {ta : TE} {a : Str} (h : Ev ta Γ (.str a)) : Ev (tCB (fun xs H Q => ∃ a, xs = [.str a] ∧ Q (.str a) H) (tCons ta tNil)) Γ (.str a) := fun F σ W Q g k => h F σ W _ g fun v H s r => ⟨a, by rw [show v = V.str a from r], k _ H s rfl⟩
end Dw

/-! x == y, where y may be of another own class; not in a tuple of pairs; readings of one kind or the other. -/
namespace Dw
open PySem PySem.Spec PyProof.Rows L2
section
variable {X : Cx}
variable {C f : Addr} {fd : FuncData} {p p2 : Str} {n : Nat} {sp : Sp}
end
variable [Tabs0]
section
variable {Γ : Gam} {t u : TE} {r r' : R2} {x y d : D}
end
section
variable {Γ : Gam} {s : Spc} {C : Addr} {ta tb : TE} {K : PySem.W.Frag} {ns : List Str} {ds : List D} {dy : D} {b : Bool}
end
end Dw

/-! str(C(..)): of an object that is made, or not. -/
namespace Dw
open PySem PySem.Spec PyProof.Rows L2 LamX
variable [Tabs0]
section
variable {Γ : Gam} {s : Spc} {C : Addr} {ta : TE} {x : Exn} {R : Option Addr → Hp → Prop} {r : List V → Hp → VK → Prop}
/-- str(x), repr(x), x made -/
theorem dl_own1 {Q : D → Gam → Prop} (h : Dl ta Γ fun d Γ1 => ∃ ns ds x z, d = .obj C ns ds ∧ s.args x = [.obj C ns ds] ∧ noPs (s.args x) = true ∧ s.ok x ∧ (∀ d', s.rel x d' → d' = .str z) ∧ Q (.str z) Γ1) : Dl (tCB (rOwn1 C (toSp s)) (tCons ta tNil)) Γ Q := fun F σ W R g k => h F σ W _ g fun v W1 d Γ1 st g1 r ⟨ns, ds, x, z, e, ha, np, ok, hd, q⟩ => by
  subst e
  obtain ⟨a, dx, vs, rfl, hH, nu, l, rr⟩ := r
  refine ⟨a, dx, _, rfl, hH, ?_⟩
  have r0 : RepL W1 (s.args x) [.ref a] := by rw [ha]; exact RepL.one ⟨a, dx, vs, rfl, hH, nu, l, rr⟩
  exact pure_call (W := W1) g1 (fun _ z => z) (RepL.delP _ _ np r0) ok fun d' v H' hd' s' r' => by
    rw [hd d' hd'] at r'
    have r' : v = .str z := r'
    exact ⟨⟨z, r'⟩, k v (W1.at H') (.str z) Γ1 (st.trans (Stp.of_same g1.ok s')) (g1.same s') r' q⟩
/-- f(e), where e raises -/
theorem ert_cb1 (h : ErT ta Γ x R) : ErT (tCB r (tCons ta tNil)) Γ x R := fun F σ W Q g k => h F σ W _ g k
end
end Dw

/-! e.replace of written texts in a list, behind an item that gives a token out. -/
namespace Dw
open PySem PySem.Spec PyProof.Rows L2 CwR
section
variable {X : Cx} {e f : Expr} {es : List Expr} {ta tb : TE} {tr : TA} {pos : Pos}
end
variable [Tabs0]
end Dw

/-! set(xs), sorted(set(xs)), len(set(xs)) of a list of texts. -/
namespace Dw
open PySem PySem.Spec PyProof.Rows L2 PySem.Froz
variable [Tabs0]
/-- the set at a holds the texts l -/
def TxS (P : Program) (w : World) (h : Heap) (a : Addr) (l : List Str) : Prop :=
  ∃ D : SD, h.get? a = some (sObj "set" D) ∧ TxOk P w D l ∧ l.Nodup ∧ Ris D.2.2.place.toList ∧ (w.params.followText "set-order" = true ∨ D.2.2.led = true)
section
variable {P : Program} {w : World} {A : Around} {E : Value → Shared → Prop} {s : Shared}
theorem TxS.at {h h' : Heap} {a : Addr} {l : List Str} (R : TxS P w h a l) (k : ∀ o, h.get? a = some o → h'.get? a = some o) : TxS P w h' a l := by
  obtain ⟨D, e, r⟩ := R
  exact ⟨D, k _ e, r⟩
end
end Dw

/-! repr([x]), repr((x,)): x an object of an own class with its own __repr__. -/
namespace Dw
open PySem PySem.Spec PyProof.Rows L2
open Builtin Builtin.List
section
variable {P : Program} {w : World} {A : Around} {E : Value → Shared → Prop} {s : Shared} {K : PySem.W.Frag} {C f : Addr}
/-- an own object within a container's repr -/
theorem under_own {n : Nat} {x : Addr} {ox : Obj} {od : Option Obj} {Q : Str → Shared → Prop} (hn : n ≤ sizeLine) (hu : A.units < cLine) (X : K.In s.heap) (I : PySem.W.InstAt s.heap x ox C od) (hs : PySem.W.findIn K (.ref C) "__repr__" = some (some (.ref f))) (hf : PySem.W.isFn K (.ref f) = true)
    (h : wpAny (model P w) A (call (.ref f) [.ref x]) (fun v z => ∃ t u, v = .str t u ∧ Q t z) E s) : wpAny (model P w) A (pyReprUnder n (.ref x)) Q E s := by
  refine wpAny_pyReprUnder_ref hn ?_
  unfold pyReprObjUnder pyReprObjBy
  refine wpAny_bind (wpAny_cRoomFor hu ?_)
  refine wpAny_bind (wpAny_bind (I.type.here ((PySem.W.looks_findIn X hs).here ?_)))
  show wpAny _ _ (if (some (Value.ref f)).isNone = true then _ else _) _ _ _
  rw [if_neg (by simp)]
  have fin : wpAny (model P w) A (call (.ref f) ([.ref x] ++ []) >>= fun v => pure (some v)) (fun r z => ∃ t u, r = some (Value.str t u) ∧ Q t z) E s :=
    wpAny_bind (wpAny_mono h (fun v z ⟨t, u, e, q⟩ => wpAny_pure ⟨t, u, congrArg some e, q⟩) fun _ _ y => y)
  refine wpAny_bind (m := callSpecialIfBoundBy? _ (.ref x) (Str.ofString "__repr__")) (wpAny_mono (Q := fun r z => ∃ t u, r = some (Value.str t u) ∧ Q t z) ?_ (fun r z ⟨t, u, e, q⟩ => ?_) fun _ _ y => y)
  · simp only [callSpecialIfBoundBy?, bindSpecialIfBound?]
    refine wpAny_holding (wpAny_bind (wpAny_bind (wpAny_bind (I.type.here ((PySem.W.looks_findIn X hs).here ?_)))))
    refine wpAny_bind (wpAny_askSetting (wpAny_ite ?_))
    split
    · exact wpAny_bind ((PySem.W.bind_fn X _ (beq_iff_eq.mp hf)).here (wpAny_pure (by exact fin)))
    · exact wpAny_tryCatch (wpAny_bind ((PySem.W.bind_fn X _ (beq_iff_eq.mp hf)).here (wpAny_pure (by exact fin))))
  · subst e
    refine wpAny_bind (wpAny_isInstance (typeIs_str _ _ _) isSubtype_str_str ?_)
    first
      | exact wpAny_pure ⟨_, _, rfl, q⟩
      | (simp only [if_true]; exact wpAny_pure ⟨_, _, rfl, q⟩)
abbrev emptyO : Obj := { cls := .type "list", data := .seq ([] : List Value).toArray }
/-- what the one item gives: whatever stands around, its text; R holds behind it, and the container stays -/
def OneItem (P : Program) (w : World) (A : Around) (E : Value → Shared → Prop) (x : Value) (t : Str) (s1 : Shared) (R : Shared → Prop) : Prop :=
  ∀ (A' : Around) (n : Nat) (Q' : Str → Shared → Prop), A'.handled = A.handled → A'.frames = A.frames → A'.depth ≤ A.depth + 3 → A'.units ≤ A.units + 3 → n ≤ sizeLine → (∀ z, R z → Q' t z) → wpAny (model P w) A' (pyReprUnder n x) Q' E s1
theorem wt_loop (args : Args) : (Code.builtin "list.__repr__.loop" args).weight = 1 := by kernel_rfl
theorem wt_tup (args : Args) : (Code.builtin "tuple.__repr__" args).weight = 1 := by kernel_rfl
theorem listText1 (t : Str) : listText [t] = ("[" : Str) ++ ("" : String) ++ t ++ "]" := rfl
theorem list_one {a : Addr} {oa : Obj} {na : Nat} {x : Value} {t : Str} {R : Shared → Prop} {Q : Value → Shared → Prop} (hg : A.guards = some []) (hu : A.units + 10 < cLine) (ha : s.heap.get? a = some oa) (hc : oa.cls = .type "list") (hd : oa.data = .seq #[x] na) (hz : (listText [t]).length ≤ 100000)
    (item : OneItem P w A E x t { s with heap := s.heap.push emptyO } R) (hR : ∀ z, R z → (∃ (o : Obj) (n : Nat) (y : Value), z.heap.get? a = some o ∧ o.data = .seq #[y] n) ∧ z.heap.get? s.heap.objs.size = some emptyO)
    (k : ∀ z g u tk, R z → (∀ b o, b ≠ s.heap.objs.size → z.heap.get? b = some o → g.get? b = some o) → Q (.str (listText [t]) u) { z with heap := g, toks := tk }) : wpAny (model P w) A (call (.builtin "repr") [.ref a]) Q E s := by
  have sz : sizeLine = 16777216 := sizeLine_eq
  have ht : t.length ≤ 100000 := by
    have := piled_le_listText [t]
    rw [piled_cons, piled_nil] at this; omega
  have ty : s.TypeIs (.ref a) "list" := ⟨oa, ha, hc⟩
  refine Calls.call_function_entry PySem.F.kind_repr PySem.F.plain_repr PySem.F.entry_repr (PySem.F.args_repr1 _) ?_
  unfold Builtin.«repr»
  refine wpAny_bind (m := oneArg "repr" _) (wpAny_pure ?_)
  refine wpAny_bind (wpAny_cRoomFor (by show A.units + 1 < cLine; omega) ?_)
  refine wpAny_bind (wpAny_specialOf (name := Str.ofString "__repr__") ty F.slot_list_repr.lookup ?_)
  refine wpAny_bind (m := callSpecialIfBound? (.ref a) (Str.ofString "__repr__")) (wpAny_callSpecialIfBound?_slot (name := Str.ofString "__repr__") ty F.slot_list_repr (wpAny_mono (Q := fun v z => ∃ u, v = Value.str (listText [t]) u ∧ Q v z) ?_ (fun v z ⟨u, e, q⟩ => ?ps) fun _ _ y => y))
  case ps =>
    subst e
    refine wpAny_bind (wpAny_isInstance (typeIs_str _ _ _) isSubtype_str_str ?_)
    first
      | exact wpAny_pure ⟨_, rfl, q⟩
      | (simp only [if_true]; exact wpAny_pure ⟨_, rfl, q⟩)
  refine wpAny_call (codeAny_call_builtin F.slot_list_repr.plain F.entry_list_repr (F.slot_list_repr.check _ _ _ _ _ _ _ _ ty (F.args_list_repr_1 _) ?_))
  refine wpAny_list_repr_head (b := 0) (g := []) (l := []) hg (fun _ _ _ m => nomatch m) ha hd ?_
  refine wpAny_bind (wpAny_newList ?_ (by decide))
  have o1 : (s.heap.push emptyO).get? a = some oa := Heap.get?_push_of_some _ ha
  refine wpAny_pure ⟨F.quiet_list_repr_loop _, codeAny_builtin F.entry_list_repr_loop ?_⟩
  show wpAny _ _ («list.__repr__.loop» ⟨[.ref a, .int ((0 : Nat) : Int) 0, .ref s.heap.objs.size, .int ((0 : Nat) : Int) 0], []⟩) _ _ _
  rw [repr_loop_tree]
  refine wpAny_bind (wpAny_listItems o1 hd ?_)
  simp only [Int.toNat_natCast]
  show wpAny _ _ (do let v ← holding [x] (pyReprUnder (0 + 1) x); _) _ _ _
  refine wpAny_bind (wpAny_holding (wpAny_mono (item _ 1 (fun v z => v = t ∧ R z) (by first | rfl | simp [Around.under]) (by first | rfl | simp [Around.under, Code.envs, pushEnvs]) (by show A.in1.in1.depth + _ ≤ _; rw [wt_loop]; simp) (Nat.le_trans (Nat.le_of_eq (units_under_list_loop _ _)) (by simp; try omega)) (by rw [sz]; omega) fun z r => ⟨rfl, r⟩) (fun v z ⟨ev, r⟩ => ?_) fun _ _ y => y))
  have ev := ev.symm
  subst ev
  obtain ⟨⟨o2, n2, y2, h1, hd2⟩, h2⟩ := hR z r
  refine wpAny_bind (wpAny_mkStr ?_ (by rw [sz]; omega))
  refine wpAny_bind ?_
  show wpAny _ _ (updateSeq s.heap.objs.size _) _ _ _
  refine wpAny_updateSeq h2 rfl (wpAny_pure ⟨F.quiet_list_repr_loop _, codeAny_builtin F.entry_list_repr_loop ?_⟩) (by decide)
  have na2 : s.heap.objs.size ≠ a := fun e => absurd (Heap.lt_size ha) (by rw [e]; exact Nat.lt_irrefl _)
  have g2 := Heap.get?_update_self (Obj.mapSeq (·.push (Value.str t z.toks))) h2 rfl
  show wpAny _ _ («list.__repr__.loop» ⟨[.ref a, .int ((0 : Nat) + 1 : Int) 0, .ref s.heap.objs.size, .int (((0 : Nat) : Int).toNat + (t.length + 2) : Nat) 0], []⟩) _ _ _
  rw [repr_loop_tree]
  refine wpAny_bind (wpAny_listItems ((Heap.get?_update_other _ _ na2).trans h1) hd2 ?_)
  show wpAny _ _ (reprEnd (.ref s.heap.objs.size)) _ _ _
  unfold reprEnd
  refine wpAny_bind (wpAny_listItems g2 rfl ?_)
  have fold := repr_fold [(t, z.toks)] 0 "["
  have fold' : (forIn (((([] : List Value).toArray).push (Value.str t z.toks)).toList.zipIdx) ("[" : Str) reprBody : Sem Str) = pure (textFrom 0 "[" [t]) := fold
  rw [fold']
  refine wpAny_bind (wpAny_pure ?_)
  exact wpAny_bind (wpAny_mkStr (wpAny_pure ⟨_, rfl, k z _ _ _ r fun b o nb e => (Heap.get?_update_other _ _ (Ne.symm nb)).trans e⟩) (by show (listText [t]).length ≤ sizeLine; omega))
theorem tup_one {a : Addr} {oa : Obj} {na : Nat} {x : Value} {t : Str} {R : Shared → Prop} {Q : Value → Shared → Prop} (hg : A.guards = some []) (hu : A.units + 10 < cLine) (ha : s.heap.get? a = some oa) (hc : oa.cls = .type "tuple") (hd : oa.data = .seq #[x] na) (hz : (tupleText [t]).length ≤ 100000)
    (item : OneItem P w A E x t s R) (k : ∀ z u tk, R z → Q (.str (tupleText [t]) u) { z with toks := tk }) : wpAny (model P w) A (call (.builtin "repr") [.ref a]) Q E s := by
  have sz : sizeLine = 16777216 := sizeLine_eq
  have ty : s.TypeIs (.ref a) "tuple" := ⟨oa, ha, hc⟩
  refine Calls.call_function_entry PySem.F.kind_repr PySem.F.plain_repr PySem.F.entry_repr (PySem.F.args_repr1 _) ?_
  unfold Builtin.«repr»
  refine wpAny_bind (m := oneArg "repr" _) (wpAny_pure ?_)
  refine wpAny_bind (wpAny_cRoomFor (by show A.units + 1 < cLine; omega) ?_)
  refine wpAny_bind (wpAny_specialOf (name := Str.ofString "__repr__") ty F.slot_tuple_repr.lookup ?_)
  refine wpAny_bind (m := callSpecialIfBound? (.ref a) (Str.ofString "__repr__")) (wpAny_callSpecialIfBound?_slotG (name := Str.ofString "__repr__") ty F.slot_tuple_repr (wpAny_mono (Q := fun v z => ∃ u, v = Value.str (tupleText [t]) u ∧ Q v z) ?_ (fun v z ⟨u, e, q⟩ => ?ps) fun _ _ y => y))
  case ps =>
    subst e
    refine wpAny_bind (wpAny_isInstance (typeIs_str _ _ _) isSubtype_str_str ?_)
    first
      | exact wpAny_pure ⟨_, rfl, q⟩
      | (simp only [if_true]; exact wpAny_pure ⟨_, rfl, q⟩)
  refine wpAny_call (codeAny_call_builtin_own (Code.quiet_builtin _ (by decide +kernel)) F.entry_tuple_repr (F.slot_tuple_repr.check _ _ _ _ _ _ _ _ ty (F.args_tuple_repr_1 _) ?_))
  show wpOwn _ _ _ (Builtin.tupleReprAt 0 ⟨[.ref a], []⟩) _ _ _
  rw [tuple_repr_tree, tupleReprUnderWay_eq]
  refine wpOwn_bind (wpOwn_stackTailAny (g := []) hg (tupGuardF_off _) (tupGuardF_pos _) ?_)
  refine wpOwn_of_wpAny ?_
  show wpAny _ _ (if false = true then _ else _) _ _ _
  rw [if_neg Bool.false_ne_true]
  unfold tupleReprRest Builtin.Tuple.tupleItemsOf
  refine wpAny_bind (wpAny_bind (wpAny_seqItems ha hd (wpAny_pure ?_)))
  rw [← Array.forIn_toList]
  show wpAny _ _ (forIn [x] _ tupBody >>= _) _ _ _
  rw [List.forIn_cons]
  refine wpAny_bind (wpAny_bind (wpAny_bind (wpAny_mono (item _ 1 (fun v z => v = t ∧ R z) (by first | rfl | simp [Around.under]) (by first | rfl | simp [Around.under, Code.envs, pushEnvs]) (by show A.in1.depth + _ ≤ _; rw [wt_tup]; show A.depth + 1 ≤ _; omega) (Nat.le_trans (Nat.le_of_eq (units_under_tuple_repr _ _)) (by simp; try omega)) (by rw [sz]; omega) fun z r => ⟨rfl, r⟩) (fun v z ⟨ev, r⟩ => ?_) fun _ _ y => y)))
  have ev := ev.symm
  subst ev
  refine wpAny_pure ?_
  show wpAny _ _ (forIn ([] : List Value) _ tupBody) _ _ _
  rw [List.forIn_nil]
  refine wpAny_pure ?_
  exact wpAny_bind (wpAny_mkStr (wpAny_pure ⟨_, rfl, k z _ _ r⟩) (by show (tupleText [t]).length ≤ sizeLine; omega))
end
abbrev rOr1 (r r' : List V → Hp → VK → Prop) : List V → Hp → VK → Prop := fun xs H Q => r xs H Q ∨ r' xs H Q
/-- repr([x]), repr((x,)) -/
def rReprO (K : PySem.W.Frag) (C : Addr) (sp : Sp) : List V → Hp → VK → Prop := fun xs H Q => ∃ (l a dx : Addr) (fs : List (Str × V)) (t : Str), xs = [.ref l] ∧ H a = some (.ins C dx fs) ∧ t.length ≤ 1000 ∧
  ((SqL K H l [.ref a] ∧ sp [.ref a] H (fun v H' => v = .str t ∧ SqL K H' l [.ref a] ∧ Q (.str (listText [t])) H') E0) ∨ (SqT K H l [.ref a] ∧ sp [.ref a] H (fun v H' => v = .str t ∧ Q (.str (tupleText [t])) H') E0))
/-- what calls the def below the running body -/
abbrev Runs (X : Cx) (f : Addr) (sp : Sp) : Prop := ∀ (A : Around) (pins : List (Addr × Obj)) (σ : L2.St) (H : Hp) (s : Shared) (us : List Value) (vs : List V) (Q : VK) (E1 : Value → Shared → Prop) (R : Value → Shared → Prop), A.handled = X.A.handled → A.frames = X.A.frames → A.depth ≤ X.A.depth + 3 → A.units ≤ X.A.units + 3 →
  Inv X pins σ H s → Vals vs us → sp vs H Q E0 → (∀ u s', EP X pins σ Q u s' → R u s') → wpAny (model X.prog X.w) A (call (.ref f) us) R E1 s
theorem one_its {vs : List Value} {a : Addr} (r : Vals [V.ref a] vs) : vs = [.ref a] := by
  cases r with
  | cons r1 r2 => cases r2; cases r1; rfl
theorem text1_len {t : Str} (h : t.length ≤ 1000) : (listText [t]).length ≤ 100000 ∧ (tupleText [t]).length ≤ 100000 := by
  constructor
  · rw [listText1, strLen_append, strLen_append, strLen_append]
    have e1 : ((("[" : String) : Str)).length = 1 := rfl
    have e2 : ((("" : String) : Str)).length = 0 := rfl
    have e3 : ((("]" : String) : Str)).length = 1 := rfl
    omega
  · show ((("(" : Str) ++ t) ++ (",)" : Str)).length ≤ _
    rw [strLen_append, strLen_append]
    have e1 : ((("(" : String) : Str)).length = 1 := rfl
    have e2 : (((",)" : String) : Str)).length = 2 := rfl
    omega
theorem cr_reprO_of {X : Cx} {C f : Addr} {sp : Sp} (run : Runs X f sp) (hG : X.A.guards = some []) (hu : X.A.units + 10 < PySem.cLine) (hs : PySem.W.findIn X.K (.ref C) "__repr__" = some (some (.ref f))) (hf : PySem.W.isFn X.K (.ref f) = true) : CallR X (.builtin "repr") (rReprO X.K C sp) := by
  intro pins s σ H xs us Q I r h
  obtain ⟨l, a, dx, fs, t, rfl, ha, ht, h⟩ := h
  obtain ⟨u, rfl, ru⟩ := vals1 r
  cases ru
  obtain ⟨z1, z2⟩ := text1_len ht
  rcases h with ⟨hl, hsp⟩ | ⟨hl, hsp⟩
  · obtain ⟨its, rv, pl, _⟩ := I.list hl
    have ei := one_its rv
    subst ei
    obtain ⟨o, ho, hc, nn, hd⟩ := pl.isList
    have np : H s.heap.objs.size = none := I.hok.fresh (Nat.le_refl _)
    have fp : FpOk X pins H s.heap.objs.size := I.fpOk (Nat.le_refl _) np
    have I1 : Inv X pins σ H { s with heap := s.heap.push emptyO } := I.kept (t' := s.toks) fun b u e => Heap.get?_push_of_some _ e
    have I2 : Inv X ((s.heap.objs.size, emptyO) :: pins) σ H { s with heap := s.heap.push emptyO } := I1.pins_of fun p hp => by
      rcases List.mem_cons.mp hp with rfl | hp
      · exact ⟨Heap.get?_push_size _ rfl, np, fp.2.1, fp.2.2.1, fun v e => by cases e⟩
      · exact I1.pin p (List.mem_append_right _ hp)
    refine list_one (R := fun z => ∃ H', Inv X ((s.heap.objs.size, emptyO) :: pins) σ H' z ∧ SqL X.K H' l [.ref a] ∧ Q (.str (listText [t])) H') hG hu ho hc hd z1 (fun A' n Q' h1 h2 h3 h4 hn hQ => ?_) (fun z ⟨H', I', hs', _⟩ => ?_) fun z g u tk ⟨H', I', hs', q⟩ kp => ?_
    · obtain ⟨mA, J, _⟩ := ins_get I2.hok ha
      obtain ⟨od, J, _⟩ := J.look
      refine under_own hn (by omega) I2.kIn J hs hf (run A' _ σ H _ [.ref a] [.ref a] _ _ _ h1 h2 h3 h4 I2 (.cons rfl .nil) hsp fun v z ⟨x, H', I', rv', ex, hs', q⟩ => ?_)
      subst ex
      obtain ⟨tk, rfl⟩ := rv'
      exact ⟨t, tk, rfl, hQ z ⟨H', I', hs', q⟩⟩
    · obtain ⟨its', rv', pl', _⟩ := I'.list hs'
      have ei := one_its rv'
      subst ei
      obtain ⟨o', ho', _, n', hd'⟩ := pl'.isList
      exact ⟨⟨o', n', .ref a, ho', hd'⟩, (I'.pin _ (List.mem_append_right _ List.mem_cons_self)).1⟩
    · have np' := (I'.pin _ (List.mem_append_right _ List.mem_cons_self)).2.1
      have I3 : Inv X pins σ H' z := I'.pins_of fun p hp => I'.pin p (List.mem_append_right _ (List.mem_cons_of_mem _ hp))
      exact ⟨.str _, H', I3.turned (t' := tk) kp np' fp.2.1 fp.2.2.2.1 fp.2.2.2.2.1 fp.2.2.2.2.2, ⟨_, rfl⟩, q⟩
  · obtain ⟨its, rv, pt, _⟩ := I.tuple hl
    have ei := one_its rv
    subst ei
    obtain ⟨o, ho, hc, nn, hd⟩ := pt
    refine tup_one (R := fun z => ∃ H', Inv X pins σ H' z ∧ Q (.str (tupleText [t])) H') hG hu ho hc hd z2 (fun A' n Q' h1 h2 h3 h4 hn hQ => ?_) fun z u tk ⟨H', I', q⟩ => ?_
    · obtain ⟨mA, J, _⟩ := ins_get I.hok ha
      obtain ⟨od, J, _⟩ := J.look
      refine under_own hn (by omega) I.kIn J hs hf (run A' _ σ H _ [.ref a] [.ref a] _ _ _ h1 h2 h3 h4 I (.cons rfl .nil) hsp fun v z ⟨x, H', I', rv', ex, q⟩ => ?_)
      subst ex
      obtain ⟨tk, rfl⟩ := rv'
      exact ⟨t, tk, rfl, hQ z ⟨H', I', q⟩⟩
    · exact ⟨.str _, H', I'.tok tk, ⟨_, rfl⟩, q⟩
variable [Tabs0]
end Dw

/-! repr([x]), repr((x,)) while an error is held; what they say of data; a body's end that is never reached. -/
namespace Dw
open PySem PySem.Spec PyProof.Rows L2
open L2H (RoomH PinOk cxH inv_startH)
variable [Tabs0]
section
variable {P : Program} {w : World} {K : PySem.W.Frag} {mg : Str → Option Value} {base : Heap} {k : Nat} {f : Addr} {fd : FuncData} {ps : List Str}
/-- the promise of a def that asks nothing of what is held, nor of what is guarded -/
structure FnT (P : Program) (w : World) (K : PySem.W.Frag) (mg : Str → Option Value) (base : Heap) (k : Nat) (f : Addr) (fd : FuncData) (ps : List Str) (sp : Sp) : Prop where
  len : ∀ vs H Q E, sp vs H Q E → vs.length = ps.length
  run : ∀ (A : Around) (outer : List Env) (s : Shared) (H : Hp) (args : Args) (us : List Value) (vs : List V) (Q : VK) (E : XK) (p : Addr × Obj), RoomH k A → PinOk outer H s p → Env0 P w K mg base A outer s H → BindsTo s fd args (ps.zip us) → Vals vs us → sp vs H Q E →
    codeAny (model P w) A (.call (.ref f) args) (CR CX0 outer P w H s Q E) s
theorem fn_ofT {sp : Sp} {name qual : Str} {params : Arguments} {body : List Stmt} {scope : Scope} {dV kV doc pm cdv ct oc : Value} {an od : Option Addr} {osl : Array (Option Value)} {N : List Str}
    (lk : K.lookup f = some ⟨oc, od, .func (PySem.W.fnOf name qual params body scope dV kV doc pm an cdv ct), osl⟩) (hcd : PySem.W.codeIn K cdv qual = true) (S : FnScope N ps scope) (len : ∀ vs H Q E, sp vs H Q E → vs.length = ps.length)
    (hbody : ∀ (A : Around) (outer : List Env) (s : Shared) (H : Hp) (vs : List V) (Q : VK) (E : XK) (p : Addr × Obj), RoomH k (A.deeper (envOfC qual scope s.heap.objs.size f cdv)) → sp vs H Q E →
      ∃ t, PSs (cxH CX0 P w K mg base N qual scope f cdv A outer s H E p) body t ∧ t { nx := fun _ H' => Q .non H', rt := Q } (L2.start N vs) H) :
    FnT P w K mg base (k + 1) f (PySem.W.fnOf name qual params body scope dV kV doc pm an cdv ct) ps sp := by
  refine ⟨len, fun A outer s H args us vs Q E p hr hpin e0 hb r hsp => ?_⟩
  have hl := len _ _ _ _ hsp
  have KX : K.In s.heap := e0.mod.kin.keeps fun b o e => (e0.bs b o e).1
  have lim : s.heap.NoLimit := e0.mod.nolimit.keeps fun b o e => (e0.bs b o e).1
  have hkind : ∀ y ∈ ps.zip us, scope.names.lookup y.1 = some .local ∨ (scope.names.lookup y.1 = some .cell ∧ ((cellsFrom (s.heap.objs.size + 1) scope.names []).lookup y.1).isSome = true) := fun ⟨n, v⟩ hy =>
    (S.par n (List.of_mem_zip hy).1).elim .inl fun q => .inr ⟨q, PySem.W.cellsFrom_some _ _ _ (.inl q)⟩
  refine codeAny_call_function hr.depth (KX _ _ lk) rfl S.co S.gen rfl (PySem.W.codeRec_of KX hcd) (hb _ _ _ _ ?_)
  refine wpAny_newFunctionEnv_cells S.kind hkind fun env he s1 x => ?_
  subst he
  obtain ⟨t, ht, hq⟩ := hbody A outer s H vs Q E p (hr.deeper _) hsp
  have I := inv_startH (CX := CX0) (P := P) (w := w) (K := K) (mg := mg) (base := base) (qual := qual) (f := f) (cd := cdv) (A := A) (E := E) S hpin e0 hl r x
  refine ⟨lim.keeps x.toInCall.keep, codeAny_func (wpAny_mono (ht.run [] s1 (L2.start N vs) H _ I hq) (fun fl s' hs => ?_) fun e s' hs => hs)⟩
  match fl, hs with
  | .ret u, ⟨v, _, H', J, rv, q⟩ => exact ⟨v, H', J.os, J.bare, J.base, J.hok, rv, q⟩
  | .next, ⟨_, H', J, q⟩ => exact ⟨V.non, H', J.os, J.bare, J.base, J.hok, rfl, q⟩
  | .brk, ⟨_, _, _, q⟩ => exact False.elim q
  | .cont, ⟨_, _, _, q⟩ => exact False.elim q
theorem fnT_ok {x qual : Str} {st : Stmt} {N : List Str} {s : Spc} (F : Fun K x qual st f fd) (S : FnScope N ps (defScope st)) (len : ∀ x, (s.args x).length = ps.length)
    (hbody : ∀ (cdv : Value) (A : Around) (outer : List Env) (s' : Shared) (H : Hp) (E : XK) (p : Addr × Obj), RoomH k (A.deeper (envOfC qual (defScope st) s'.heap.objs.size f cdv)) →
      ∃ t, PSs (cxH CX0 P w K mg base N qual (defScope st) f cdv A outer s' H E p) (defBody st) t ∧ ∀ x, s.ok x → Ds t (Gz0 N.length (s.args x)) ⟨fun _ => s.rel x .non, s.rel x, fun _ => False, fun _ => False⟩) : FnT P w K mg base (k + 1) f fd ps (toSp s) := by
  obtain ⟨oc, od, kV, doc, pm, an, cdv, ct, osl, rfl, lk, hcd⟩ := F.ex
  refine fn_ofT lk hcd S (spc_len len) fun A outer s' H vs Q E p hr h => ?_
  obtain ⟨t, ht, hb⟩ := hbody cdv A outer s' H E p hr
  exact ⟨t, ht, body_of h hb⟩
end
theorem runs_held {X : Cx} {f : Addr} {fd : FuncData} {q : Str} {n : Nat} {sp : Sp} {p : Addr × Obj} (F : FnT X.prog X.w X.K X.mg X.base n f fd [q] sp) (hr : RoomH (n + 1) X.A) (hp : p ∈ X.pn) (hb : Binds X.K fd [q] []) : Runs X f sp := fun A pins σ H s us vs Q E1 R h1 h2 h3 h4 I r hsp hR => by
  have e0 : Env0 X.prog X.w X.K X.mg X.base A X.stack s H := by
    have e := I.env0
    exact ⟨by rw [h2]; exact e.frames, e.mod, e.bs, e.bsz, e.funs, e.frf, e.hok, e.bare⟩
  have hl : us.length = [q].length := by rw [← r.length]; exact F.len _ _ _ _ hsp
  have b := hb s us I.kIn (by rw [List.append_nil]; exact hl)
  rw [List.append_nil] at b
  have P1 := I.pin p (List.mem_append_left _ hp)
  have hpin : PinOk X.stack H s p := ⟨P1.1, P1.2.1, fun hm => (List.mem_cons.mp (I.stkSub p.1 hm)).elim P1.2.2.1 P1.2.2.2.1, P1.2.2.2.2⟩
  refine wpAny_call (codeAny_mono (F.run A X.stack s H ⟨us, []⟩ us vs Q E0 p ⟨by have := hr.dp; omega, by have := hr.un; omega⟩ hpin e0 b r hsp) fun r s' hq => ?_)
  match r, hq with
  | .error e, hq => exact (show False from hq).elim
  | .ok .next, hq => exact (show False from hq).elim
  | .ok .brk, hq => exact (show False from hq).elim
  | .ok .cont, hq => exact (show False from hq).elim
  | .ok (.ret u), hq => exact hR _ _ (I.after hq)
theorem cr_reprOH {X : Cx} {C f : Addr} {fd : FuncData} {q : Str} {n : Nat} {sp : Sp} {p : Addr × Obj} (F : FnT X.prog X.w X.K X.mg X.base n f fd [q] sp) (hr : RoomH (n + 1) X.A) (hG : X.A.guards = some []) (hp : p ∈ X.pn) (hs : PySem.W.findIn X.K (.ref C) "__repr__" = some (some (.ref f))) (hf : PySem.W.isFn X.K (.ref f) = true) (hb : Binds X.K fd [q] []) :
    CallR X (.builtin "repr") (rOr1 (rReprY X.K) (rReprO X.K C sp)) := fun pins s σ H xs us Q I r h => h.elim (cr_reprY (by have := hr.un; omega) hG pins s σ H xs us Q I r) (cr_reprO_of (runs_held F hr hp hb) hG (by have := hr.un; omega) hs hf pins s σ H xs us Q I r)
/-! ### of data -/
section
variable {K : PySem.W.Frag} {C : Addr} {sp : Spc} {Γ : Gam} {te : TE} {ns : List Str} {ds : List D} {t : Str} {x : sp.ty} {F : Addr → Prop} {σ : L2.St} {W : Wd}
theorem rep_reprOL {v : V} {Q : VK} (g : SR F Γ σ W) (r : Rep W (.lst [.obj C ns ds]) v) (ha : sp.args x = [.obj C ns ds]) (np : noPs (sp.args x) = true) (ok : sp.ok x) (hd : ∀ d, sp.rel x d → d = .str t) (ht : t.length ≤ 1000) (q : ∀ H, Same W.H H → Q (.str (listText [t])) H) : rReprO K C (toSp sp) [v] W.H Q := by
  obtain ⟨p, vs, rfl, e, nu, u, _, rfl, r1, rfl⟩ := r
  obtain ⟨a, dx, ws, rfl, hH, nu1, l1, rr⟩ := r1
  refine ⟨p, a, dx, _, t, rfl, hH, ht, .inl ⟨.of e, ?_⟩⟩
  have r0 : RepL W (sp.args x) [.ref a] := by rw [ha]; exact RepL.one ⟨a, dx, ws, rfl, hH, nu1, l1, rr⟩
  exact pure_call g (fun _ z => z) (RepL.delP _ _ np r0) ok fun d' v H' hd' s' r' => by
    rw [hd d' hd'] at r'
    exact ⟨r', .of (s' _ _ e), q H' s'⟩
theorem rep_reprOT {v : V} {Q : VK} (g : SR F Γ σ W) (r : Rep W (.tup [.obj C ns ds]) v) (ha : sp.args x = [.obj C ns ds]) (np : noPs (sp.args x) = true) (ok : sp.ok x) (hd : ∀ d, sp.rel x d → d = .str t) (ht : t.length ≤ 1000) (q : ∀ H, Same W.H H → Q (.str (tupleText [t])) H) : rReprO K C (toSp sp) [v] W.H Q := by
  obtain ⟨p, vs, rfl, e, nu, u, _, rfl, r1, rfl⟩ := r
  obtain ⟨a, dx, ws, rfl, hH, nu1, l1, rr⟩ := r1
  refine ⟨p, a, dx, _, t, rfl, hH, ht, .inr ⟨e.sq, ?_⟩⟩
  have r0 : RepL W (sp.args x) [.ref a] := by rw [ha]; exact RepL.one ⟨a, dx, ws, rfl, hH, nu1, l1, rr⟩
  exact pure_call g (fun _ z => z) (RepL.delP _ _ np r0) ok fun d' v H' hd' s' r' => by
    rw [hd d' hd'] at r'
    exact ⟨r', q H' s'⟩
end
/-- what repr gives: of data, of {}, of [x] and (x,) -/
def RpO (C : Addr) (sp : Spc) (d : D) (z : Str) : Prop := RpD d z ∨ ∃ (x : sp.ty) (ns : List Str) (ds : List D) (t : Str), sp.args x = [.obj C ns ds] ∧ noPs (sp.args x) = true ∧ sp.ok x ∧ (∀ d, sp.rel x d → d = .str t) ∧ t.length ≤ 1000 ∧ ((d = .lst [.obj C ns ds] ∧ z = listText [t]) ∨ (d = .tup [.obj C ns ds] ∧ z = tupleText [t]))
section
variable {K : PySem.W.Frag} {C : Addr} {sp : Spc} {Γ : Gam} {te : TE} {d : D} {z : Str} {x : Exn} {ed : Option Addr}
theorem rep_reprO {F : Addr → Prop} {σ : L2.St} {W : Wd} {v : V} {Q : VK} (g : SR F Γ σ W) (r : Rep W d v) (h : RpO C sp d z) (q : ∀ H, Same W.H H → Q (.str z) H) : rOr1 (rReprY K) (rReprO K C (toSp sp)) [v] W.H Q := by
  rcases h with h | ⟨x, ns, ds, t, ha, np, ok, hd, ht, ⟨rfl, rfl⟩ | ⟨rfl, rfl⟩⟩
  · exact .inl (rep_reprY r h (q _ (Same.refl _)))
  · exact .inr (rep_reprOL g r ha np ok hd ht q)
  · exact .inr (rep_reprOT g r ha np ok hd ht q)
theorem evh_reprO (h : EvH te Γ x ed d) (hz : RpO C sp d z) : EvH (tCB (rOr1 (rReprY K) (rReprO K C (toSp sp))) (tCons te tNil)) Γ x ed (.str z) := fun F σ W Q g hx q => h F σ W _ g hx fun v H s r => rep_reprO (W := W.at H) (g.same s) r hz fun H' s' => q _ H' (Same.trans s s') rfl
end
section
variable {K : PySem.W.Frag} {C : Addr} {sx : SpcX} {sp : Sp} {Γ : Gam} {ta : TE} {t : TA} {ds es : List D} {E : XK} {R : Option Addr → Hp → Prop}
/-- a method that raises -/
theorem ert_meth {x : sx.ty} {ns : List Str} {m : Str} (h : Ev ta Γ (.obj C ns ds)) (h2 : EvA t Γ es) (ha : sx.args x = .obj C ns ds :: es) (ok : sx.ok x) (hm : m ∉ ns) (hR : ∀ ed H', R ed H' → E (.ref (sx.ex x).C) ed H') : ErT (tMeth C m (spOr sp (toSpX sx)) [] E ta t) Γ (sx.ex x) R := fun F σ W Q g k => h F σ W _ g fun v H st ⟨a, dx, vs, ev, e, nu, l, rl⟩ => by
  subst ev
  refine ⟨a, dx, _, rfl, e, zip_none hm vs, h2 F σ (W.at H) _ (g.same st) fun us H2 st2 ru => ?_⟩
  have rr : RepL (W.at H2) (sx.args x) (V.ref a :: us) := by
    rw [ha]
    exact ⟨V.ref a, us, rfl, Rep.same (W := W.at H) st2 ⟨a, dx, vs, rfl, e, nu, l, rl⟩, ru⟩
  rw [List.append_nil]
  have st3 : Same W.H H2 := Same.trans st st2
  exact .inr ⟨x, _, W.at H2, rfl, ((g.same st).same st2).callOk, rr, ok, fun ed H' s' a => hR ed H' (k ed H' (Same.trans st3 s') (exAt_back st3 a))⟩
end
section
open LamX
variable {K : PySem.W.Frag} {Γ : Gam} {Tt : List (Addr × Str)} {P : Addr} {q wd : Str} {c1 c2 : Value} {n ie i : Nat} {sl : Sl} {ts : Addr → Value → Option Addr → TS} {t : XK → TE} {d : D} {Q : D → Gam → Prop} {x : Exn}
end
/-! ### a body's end that is never reached -/
end Dw

/-! list(x), x a text. -/
namespace Dw
open PySem PySem.Spec PyProof.Rows L2
variable [Tabs0]
section
variable {K : PySem.W.Frag} {Γ : Gam} {ta : TE} {ds : List D}
end
end Dw

/-! an own class over ArithmeticError whose __init__ stores its fields -/
namespace PySem
namespace AeX
open PySem.W PySem.Calls PyProof.Rows PySem.HandSPX Builtin Builtin.ObjectAttr
abbrev aeEnd : List Value := [.type "ArithmeticError", .type "Exception", .type "BaseException", .type "object"]
section
variable {prog : Program} {w : World} {A : Around} {R : Result → Shared → Prop} {hp : Heap} {g : Array GenState} {d : Drawn} {t : Nat} {os : OsState}
theorem ae_store {K : W.Frag} {name : Str} {tk : Tok} {v : Value} {x C : Addr} {fv : Array Value} {cd : ClassData}
    (inK : K.In hp) (atx : hp.get? x = some { cls := .ref C, data := .fields fv }) (cdC : W.clsIn K C = some cd) (ov : excOver K C aeEnd = true) (hasD : cd.hasDict = true) (no : W.findIn K (.ref C) name = some none)
    (go : ∀ (h2 : Heap) (tk2 : Nat) (dx : Addr), (∀ b o, b ≠ x → hp.get? b = some o → h2.get? b = some o) → hp.objs.size ≤ dx → dx ≠ x → h2.get? x = some { cls := .ref C, dict := some dx, data := .fields fv } →
      h2.Ns1 dx (fun y => if y = name then some v else none) → R (.ok (.ret .none)) ⟨h2, g, d, tk2, os⟩) : codeAny (model prog w) A (.call (.builtin "object.__setattr__") ⟨[.ref x, .str name tk, v], []⟩) R ⟨hp, g, d, t, os⟩ := by
  have inst : W.InstAt hp x { cls := .ref C, data := .fields fv } C none := ⟨atx, rfl, rfl, trivial⟩
  have far : x ≠ hp.objs.size := Nat.ne_of_lt (Heap.lt_size atx)
  refine osa_openX (r := none) F.store_ArithmeticError inK inst ov (by unfold takerIn; rw [no]; rfl) fun b => ?_
  have looks : W.Looks (model prog w) hp (classData C) cd := W.looks_clsIn inK cdC
  obtain ⟨n0, bs, mr, ns, qn, hd, sn, sb, ab, co, dl⟩ := cd
  replace hasD : hd = true := hasD
  subst hasD
  show wpAny _ _ (storeInOwnDict (.ref x) (.ref C) (.str name tk) name v b) _ _ _
  unfold storeInOwnDict
  unfold ownDictForStores
  repeat (first | with_reducible refine store_in_new ?_ ?_ | with_reducible refine wpAny_loadPart_at atx ?_ | with_reducible refine looks.at ?_ | wp_step)
  · exact ⟨_, #[], _, (Heap.get?_update_ne _ _ _ _ (Ne.symm far)).trans (Heap.get?_push_at rfl rfl), rfl, fun e he => (by simp at he), fun _ => rfl⟩
  · intro h2 tk2 named same
    have old : (hp.push { cls := .type "dict", data := .dict #[] }).get? x = some { cls := .ref C, data := .fields fv } := Heap.get?_push_of_some _ atx
    refine go h2 tk2 hp.objs.size (fun c o hc ho => ?_) (Nat.le_refl _) (Ne.symm far) ((same.2 x far).trans (Heap.get?_update_self _ old rfl)) named
    have before : c ≠ hp.objs.size := Nat.ne_of_lt (Heap.lt_size ho)
    rw [same.2 c before]
    exact (Heap.get?_update_ne _ _ _ _ hc).trans (Heap.get?_push_of_some _ ho)
end
end AeX
end PySem

namespace L2
open PySem PySem.Spec PyProof.Rows PySem.AeX
/-- what is told of such a class -/
structure OaxC (K : PySem.W.Frag) (C : Addr) : Prop where
  def_ : ∃ nm q N bs bm sn sub ab col dd k0 k1 k2 k3 k5, K.lookup C = some (excClassObj nm q C N bs bm true sn sub ab col dd k0 k1 k2 k3 k5 "ArithmeticError.__new__") ∧ PySem.W.excTail aeEnd bm = true
  over : PySem.W.excOver K C aeEnd = true
  puts : PySem.W.findIn K (.ref C) "__setattr__" = some (some (.builtin "object.__setattr__"))
  base : PySem.W.subIn K (.ref C) (.type "BaseException") = some true
  meta_ : PySem.W.typeIn K (.ref C) = some (.type "type")
  kept : PySem.W.keepIn K (.ref C) = true
section
variable {X : Cx} {pins : List (Addr × Obj)} {σ : St} {H : Hp} {s : Shared} {a C dx : Addr} {f : Str} {y : V} {u : Value} {Q : Unit → Shared → Prop} {E : Value → Shared → Prop} {A : Around}
theorem oax_first (T : OaxC X.K C) (I : Inv X pins σ H s) (ea : H a = some (exo a C none)) (none_ : PySem.W.findIn X.K (.ref C) f = some none) (r : RelV y u)
    (go : ∀ dx s2, H dx = none → dx ≠ a → Inv X pins σ (upd (upd H dx (exd dx [(f, y)])) a (exo a C (some dx))) s2 → Q () s2) : wpAny (model X.prog X.w) A (setAttr (.ref a) f u) Q E s := by
  obtain ⟨nm, q, N, bs, bm, sn, sub, ab, col, dd, k0, k1, k2, k3, k5, look, tail⟩ := T.def_
  have cls : PySem.W.clsIn X.K C = some { name := nm, bases := bs, mro := .ref C :: bm, ns := N, qualname := q, hasDict := true, slotNames := sn, subclasses := sub, abstract := ab, collection := col, hasDel := false } := by
    unfold PySem.W.clsIn
    rw [look]
  obtain ⟨t1, obj⟩ := exo_at I.hok ea
  obtain ⟨h0, g, d, t, os⟩ := s
  refine PySem.W.set_plain I.kIn (ox := { cls := .ref C, dict := none, data := .fields #[.ref t1, .none, .none, .none, .bool false, .none] }) (od := none) ⟨obj, rfl, rfl, trivial⟩ T.puts ?_
  refine ae_store I.kIn obj cls T.over rfl none_ fun h2 tk2 dx keep beyond other now named => ?_
  have free : H dx = none := I.hok.fresh beyond
  have ndx : ∀ {b : Addr} {o : Obj}, h0.get? b = some o → b ≠ dx := fun {b o} z => fun e => absurd (Heap.lt_size z) (by rw [e]; exact Nat.not_lt.mpr beyond)
  have nea : ∀ {b : Addr}, H b = none → b ≠ a := fun {b} z e => by rw [e, ea] at z; exact nomatch z
  have step : Un X.fs [] H (upd (upd H dx (exd dx [(f, y)])) a (exo a C (some dx))) h0 h2 := {
    keep := fun b o z n _ _ => keep b o (nea n) z
    slot := fun b o z n _ _ => ⟨_, keep b o (nea n) z⟩
    free := fun b o z n _ => (upd_ne (nea n)).trans ((upd_ne (ndx z)).trans n)
    there := fun b o z _ => if e : b = a then ⟨_, e ▸ now⟩ else ⟨o, keep b o e z⟩
    tups := fun b xs z => (upd_ne (at_ne ea z exo_tup)).trans ((upd_ne (ne_of_none z free)).trans z)
    frzs := fun b o v z => (upd_ne (at_ne ea z exo_frz)).trans ((upd_ne (ne_of_none z free)).trans z)
    tbls := fun b ps z => ⟨#[], ((upd_ne (at_ne ea z exo_tbl)).trans ((upd_ne (ne_of_none z free)).trans z)).trans (by simp)⟩ }
  refine go dx _ free other (I.un (t' := tk2) step fun b o z => ?_)
  by_cases e : b = a
  · rw [e, upd_same] at z
    cases z
    rw [e]
    exact exo_ok now
  · rw [upd_ne e] at z
    by_cases e2 : b = dx
    · rw [e2, upd_same] at z
      cases z
      rw [e2]
      exact exd_ok named (relO_put (fs := []) r fun _ => True.intro)
    · rw [upd_ne e2] at z
      refine (I.hok b o z).stay (fun c v hc old => keep c v ?_ old) (fun c hc => (upd_ne (at_ne ea hc exo_own)).trans ((upd_ne (ne_of_none hc free)).trans hc)) fun c xs hc => (upd_ne (at_ne ea hc exo_tup)).trans ((upd_ne (ne_of_none hc free)).trans hc)
      rcases hc with hc | hc
      · exact fun z2 => e (hc ▸ z2)
      · exact at_ne ea hc exo_own
end
section
variable {X : Cx} {o e : Expr} {es : List Expr} {to te : TE} {ta : TA} {f : Str} {p p' pos : Pos}
/-- self.f = e, f the first and only field -/
def tOaf (K : PySem.W.Frag) (f : Str) (to te : TE) : TS := fun D σ H => te σ H fun y H1 => to σ H1 fun x H2 => ∃ a C : Addr, x = .ref a ∧ OaxC K C ∧ PySem.W.findIn K (.ref C) f = some none ∧
  H2 a = some (exo a C none) ∧ ∀ dx, H2 dx = none → dx ≠ a → D.nx σ (upd (upd H2 dx (exd dx [(f, y)])) a (exo a C (some dx)))
theorem ps_oaf (ho : PE X o to) (he : PE X e te) (hs : swapsWith e (some (.Attribute o f p')) pos.line X.env = pure false := by rfl) : PS X (.Assign [.Attribute o f p'] e pos) (tOaf X.K f to te) :=
  ⟨fun pins s σ H D I h => plainObj_wpAny_Assign_Attribute (thn (he.run pins s σ H _ I h) fun v s1 ⟨y, H1, I1, ry, q1⟩ => thn (ho.run pins s1 σ H1 _ I1 q1) fun u s2 ⟨x, H2, I2, rx, a, C, ex, T, none_, ea, q⟩ => by
    subst ex
    cases rx
    exact oax_first T I2 ea none_ ry fun dx s3 free ne J => ⟨σ, _, J, q dx free ne⟩) hs⟩
theorem pmk_oax {CX : CXT} {x : Str} {C fI : Addr} {k : Nat} {fd : FuncData} {ps : List Str} {sp : Sp} {ds : List Value} {dvs : List V} (T : OaxC X.K C) (ini : PySem.W.findIn X.K (.ref C) "__init__" = some (some (.ref fI)))
    (tyI : PySem.W.typeIn X.K (.ref fI) = some (.type "function")) (Fi : FnOk X.prog X.w X.K X.mg X.base CX k fI fd ps sp) (room : Room (k + 1) X.A) (bi : Binds X.K fd ps ds) (vd : Vals dvs ds) (pass : Passes CX X (fun _ _ _ => False))
    (gl : Gl X x) (mgC : X.mg x = some (.ref C)) (args : PA X (e :: es) ta) (deb : (x == ("__debug__" : Str)) = false := by decide)
    (st : starEach (e :: es) X.env = (false, eval e X.env) :: starEach es X.env := by rfl) (pl : (backTo pos (starEach es X.env)).any (·.1) = false := by rfl) :
    PMk X (.Call (.Name x p) (e :: es) [] pos) (tMkO C sp dvs ta) := fun pins s σ H Q I h => by
  obtain ⟨nm, q, N, bs, bm, sn, sub, ab, col, dd, k0, k1, k2, k3, k5, look, tail⟩ := T.def_
  refine wpAny_Call_Name_kw (ld_glob I gl mgC (PySem.W.callWith_K (h₀ := X.base) I.ok.mod.kin T.kept (thn (args.run pos pins s σ H _ I h) fun us s1 ⟨vs, H1, J, r1, few, made⟩ => ⟨J.kIn, ?_⟩) st pl) deb)
  show wpAny _ _ (PySem.call (Value.ref C) us) _ _ _
  obtain ⟨h1, g, dr, tk, os⟩ := s1
  obtain ⟨at_, eat⟩ : ∃ b, b = h1.objs.size + 1 := ⟨_, rfl⟩
  have above : h1.objs.size ≤ at_ := by rw [eat]; exact Nat.le_succ _
  have free : H1 at_ = none := J.hok.fresh above
  have runs := made at_ free
  obtain ⟨h2, eh2⟩ : ∃ z, z = (h1.push (PySem.W.kdv_tup us)).push (PySem.HandSPX.excO C h1.objs.size) := ⟨_, rfl⟩
  have keep : ∀ b o, h1.get? b = some o → h2.get? b = some o := fun b o z => by rw [eh2]; exact Heap.get?_push_of_some _ (Heap.get?_push_of_some _ z)
  have there : h2.get? at_ = some (PySem.HandSPX.excO C h1.objs.size) := by rw [eh2, eat]; heap_get
  have J2 : Inv X pins σ (upd H1 at_ (exo at_ C none)) ⟨h2, g, dr, tk, os⟩ := J.laid (t' := tk) (a := at_) (o := exo at_ C none) (h' := h2) keep above (exo_ok there)
  have vals : Vals (V.ref at_ :: (vs ++ dvs)) (Value.ref at_ :: (us ++ ds)) := .cons rfl (r1.append vd)
  have long : (Value.ref at_ :: us ++ ds).length = ps.length := (vals.length).symm.trans (Fi.len _ _ _ _ runs)
  have line : us.length ≤ sizeLine := Nat.le_trans (Nat.le_of_eq (Paired.length r1).symm) (by rw [sizeLine_eq]; omega)
  subst eat
  subst eh2
  refine wpAny_call (PySem.HandSPX.call_own PySem.F.excBase_ArithmeticError (fun Y => PySem.W.excTail_contains Y bm tail) (J.kIn _ _ look) (PySem.W.looks_findIn J.kIn ini) (fun self => PySem.W.bind_fn J.kIn self tyI) line
    (codeAny_mono (Fi.run _ X.stack _ _ ⟨Value.ref (h1.objs.size + 1) :: us, []⟩ _ _ _ (fun _ _ _ => False) (room.make C us []) (J2.env0.make C us []) (bi _ (Value.ref (h1.objs.size + 1) :: us) J2.kIn long) vals runs) fun r s2 back => ?_))
  cases r with
  | error er => exact pass pins σ _ _ er s2 J2 back
  | ok fl =>
    cases fl with
    | ret u =>
      obtain ⟨v, H2, os2, bare2, un2, hok2, rv, ev, d, fs, ea, ed, hd1, last⟩ := back
      obtain ⟨h3, g2, d2, t2, os3⟩ := s2
      rw [ev] at rv
      exact ⟨rv, mk_end (raises_own T.base T.meta_) J above keep un2 hok2 os2 bare2 ea ed hd1 last⟩
    | _ => exact False.elim back
end
end L2
namespace Dw
open PySem PySem.Spec PyProof.Rows L2 LamX
variable [Tabs0]
section
variable {P : Program} {w : World} {K : PySem.W.Frag} {mg : Str → Option Value} {base : Heap}
/-- the __init__ of such a class, of one field -/
theorem fn_ainit {qual x f : Str} {st : Stmt} {fa C : Addr} {fd : FuncData} {N ps : List Str} {k : Nat} (F : Fun K x qual st fa fd) (S : FnScope N ps (defScope st)) (two : ps.length = 2) (T : OaxC K C) (none_ : PySem.W.findIn K (.ref C) f = some none) (nN : N.length = 2)
    (body : ∀ (cdv : Value) (A : Around) (outer : List Env) (s1 : Shared) (H : Hp) (E : XK), PSs (cxOf CX0 P w K mg base N qual (defScope st) fa cdv A outer s1 H E).nox (defBody st) (tOaf K f (tVar 0) (tVar 1))) :
    FnOk P w K mg base CX0 (k + 1) fa fd ps (spXI C f) := by
  refine F.ok S (fun vs H Q E ⟨a, y, e, _⟩ => by rw [e, two]; rfl) fun cdv A outer s1 H vs Q E hr ⟨a, y, e, ha, q⟩ => ?_
  subst e
  exact ⟨_, body cdv A outer s1 H E, y, by unfold L2.start; simp, .ref a, by unfold L2.start; simp, a, C, rfl, T, none_, ha, q⟩
end
end Dw

/-! zip of three lists; o.m(k = v); methods that return or raise. -/
namespace RZ
open PySem PySem.Spec PyProof.Rows L2
/-- the lists at a, b and c as they stand at each turn, the items in new triples -/
def Itz3 (K : PySem.W.Frag) (a b c : Addr) : It :=
  ⟨fun i H => ∃ (xs ys zs : List V) (x y z : V), SqL K H a xs ∧ SqL K H b ys ∧ SqL K H c zs ∧ xs[i]? = some x ∧ ys[i]? = some y ∧ zs[i]? = some z,
    fun i H v H' => ∃ T x y z, v = .ref T ∧ H T = none ∧ H' = upd H T (.tup [x, y, z]) ∧ (∀ xs, SqL K H a xs → xs[i]? = some x) ∧ (∀ ys, SqL K H b ys → ys[i]? = some y) ∧ ∀ zs, SqL K H c zs → zs[i]? = some z,
    fun i H => ∃ xs ys zs : List V, SqL K H a xs ∧ SqL K H b ys ∧ SqL K H c zs ∧ xs.length = i ∧ ys.length = i ∧ zs.length = i⟩
theorem turn_zip3 {P : Program} {w : World} {K : PySem.W.Frag} {elts : List Expr} {kk : Nat} {tpos : Pos} {a b c z TI TO i1 i2 i3 : Addr} (D : ZipSep3 z TI TO i1 i2 i3 [i1, a] [i2, b] [i3, c]) :
    Turn P w K (.Tuple elts kk tpos) (Itz3 K a b c) [z, TI, TO, i1, i2, i3] z (fun i h => IsZip h z TI TO .none ∧ IsTupOf3 h TI (.ref i1) (.ref i2) (.ref i3) ∧ (∃ x y u, IsTupOf3 h TO x y u) ∧ h.IsListIter i1 a i ∧ h.IsListIter i2 b i ∧ h.IsListIter i3 c i) where
  mem := by simp
  obj := fun i h st q hq => by
    obtain ⟨hz, hTI, ⟨x, y, u, hTO⟩, ⟨o1, e1, _, d1⟩, ⟨o2, e2, _, d2⟩, ⟨o3, e3, _, d3⟩⟩ := st
    have e' : q = z ∨ q = TI ∨ q = TO ∨ q = i1 ∨ q = i2 ∨ q = i3 := by simpa using hq
    rcases e' with q | q | q | q | q | q
    · rw [q]; exact ⟨_, hz, fun v q => nomatch q⟩
    · rw [q]; exact ⟨_, hTI, fun v q => nomatch q⟩
    · rw [q]; exact ⟨_, hTO, fun v q => nomatch q⟩
    · rw [q]; exact ⟨o1, e1, fun v q => by rw [d1] at q; cases q⟩
    · rw [q]; exact ⟨o2, e2, fun v q => by rw [d2] at q; cases q⟩
    · rw [q]; exact ⟨o3, e3, fun v q => by rw [d3] at q; cases q⟩
  keep := fun i h h' st k => by
    obtain ⟨hz, hTI, ⟨x, y, u, hTO⟩, h1, h2, h3⟩ := st
    exact ⟨k z (by simp) _ hz, k TI (by simp) _ hTI, ⟨x, y, u, k TO (by simp) _ hTO⟩, h1.at fun o q => k i1 (by simp) o q, h2.at fun o q => k i2 (by simp) o q, h3.at fun o q => k i3 (by simp) o q⟩
  item := by
    intro X hP hw hK hc i pins s σ H E I hf st hg
    subst hP hw hK
    obtain ⟨hz, hTI, hTO, h1, h2, h3⟩ := st
    obtain ⟨xs, ys, zs, x, y, u, hqx, hqy, hqz, hx, hy, hu⟩ := hg
    obtain ⟨its, rv, p, _⟩ := I.list hqx
    obtain ⟨its2, rv2, p2, _⟩ := I.list hqy
    obtain ⟨its3, rv3, p3, _⟩ := I.list hqz
    obtain ⟨v1, hv1, ru1⟩ := rv.get hx
    obtain ⟨v2, hv2, ru2⟩ := rv2.get hy
    obtain ⟨v3, hv3, ru3⟩ := rv3.get hu
    have hh : X.A.in1.handled = none := I.ok.hd hc
    have n1 : a ≠ i1 := fun e => by
      obtain ⟨o, ho, hcl, _⟩ := h1
      have := (hf i1 (by simp)).1
      subst e
      obtain ⟨o', ho', hcl', _⟩ := id p.isList
      rw [ho] at ho'; cases ho'
      rw [hcl] at hcl'; injection hcl' with q; exact absurd q (by decide)
    have n2 : b ≠ i2 := fun e => by
      obtain ⟨o, ho, hcl, _⟩ := h2
      subst e
      obtain ⟨o', ho', hcl', _⟩ := id p2.isList
      rw [ho] at ho'; cases ho'
      rw [hcl] at hcl'; injection hcl' with q; exact absurd q (by decide)
    have n3 : c ≠ i3 := fun e => by
      obtain ⟨o, ho, hcl, _⟩ := h3
      subst e
      obtain ⟨o', ho', hcl', _⟩ := id p3.isList
      rw [ho] at ho'; cases ho'
      rw [hcl] at hcl'; injection hcl' with q; exact absurd q (by decide)
    have G := GoesN.zip3 (prog := X.prog) (w := X.w) (A := X.A) (elts := elts) (x1 := kk) (pos := tpos) D (Draws.list hh i1 a n1 its.toArray) (Draws.list hh i2 b n2 its2.toArray) (Draws.list hh i3 c n3 its3.toArray)
    have l1 : i < its.length := (List.getElem?_eq_some_iff.mp hv1).1
    have l2 : i < its2.length := (List.getElem?_eq_some_iff.mp hv2).1
    have l3 : i < its3.length := (List.getElem?_eq_some_iff.mp hv3).1
    refine G.goes i s (fun u s2 => ∃ x H', Inv X pins σ H' s2 ∧ RelV x u ∧ (Itz3 X.K a b c).yld i H x H' ∧ (IsZip s2.heap z TI TO .none ∧ IsTupOf3 s2.heap TI (.ref i1) (.ref i2) (.ref i3) ∧ (∃ x y u, IsTupOf3 s2.heap TO x y u) ∧ s2.heap.IsListIter i1 a (i + 1) ∧ s2.heap.IsListIter i2 b (i + 1) ∧ s2.heap.IsListIter i3 c (i + 1)) ∧ ∀ b ∈ [z, TI, TO, i1, i2, i3], H' b = none) E (by simp; omega) ⟨hz, hTI, hTO, ⟨h1, p.isList⟩, ⟨h2, p2.isList⟩, ⟨h3, p3.isList⟩⟩ fun v h' tk hY st' hk htk => ?_
    obtain ⟨T, w1, w2, w3, rfl, hT, e1, e2, e3, hIT⟩ := hY
    have e1 : its.toArray[i]? = some w1 := e1
    have e2 : its2.toArray[i]? = some w2 := e2
    have e3 : its3.toArray[i]? = some w3 := e3
    rw [List.getElem?_toArray, hv1] at e1; cases e1
    rw [List.getElem?_toArray, hv2] at e2; cases e2
    rw [List.getElem?_toArray, hv3] at e3; cases e3
    obtain ⟨hz', hTI', hTO', ⟨h1', _⟩, ⟨h2', _⟩, ⟨h3', _⟩⟩ := st'
    have new : ObjOk X.prog X.w (upd H T (.tup [x, y, u])) h' T (.tup [x, y, u]) := ⟨by show 3 ≤ sizeLine; decide, [v1, v2, v3], .cons ru1 (.cons ru2 (.cons ru3 .nil)), hIT⟩
    have wr : ∀ q, q ∉ [z, TI, TO, i1, i2, i3] → q ∉ [z, TO, i1, i2, i3] := fun q hq z => hq (by
      simp only [List.mem_cons, List.not_mem_nil, or_false] at z ⊢
      rcases z with z | z | z | z | z <;> simp [z])
    have I1 : Inv X pins σ (upd H T (.tup [x, y, u])) { s with heap := h', toks := tk } :=
      I.turnedNew (t' := tk) (ch := [z, TI, TO, i1, i2, i3]) (fun q o hb e => hk q o (wr q hb) e) hf hT new
    refine ⟨.ref T, _, I1, rfl, ⟨T, x, y, u, rfl, I.hok.fresh hT, rfl, fun l hl => by rw [I.list_inj hl hqx]; exact hx, fun l hl => by rw [I.list_inj hl hqy]; exact hy, fun l hl => by rw [I.list_inj hl hqz]; exact hu⟩, ⟨hz', hTI', hTO', h1', h2', h3'⟩, fun q hqm => ?_⟩
    have hlt : q < s.heap.objs.size := by
      have e' : q = z ∨ q = TI ∨ q = TO ∨ q = i1 ∨ q = i2 ∨ q = i3 := by simpa using hqm
      obtain ⟨x0, y0, u0, hTO⟩ := hTO
      rcases e' with q | q | q | q | q | q
      · rw [q]; exact Heap.lt_size hz
      · rw [q]; exact Heap.lt_size hTI
      · rw [q]; exact Heap.lt_size hTO
      · rw [q]; obtain ⟨_, e1, _⟩ := h1; exact Heap.lt_size e1
      · rw [q]; obtain ⟨_, e2, _⟩ := h2; exact Heap.lt_size e2
      · rw [q]; obtain ⟨_, e3, _⟩ := h3; exact Heap.lt_size e3
    rw [upd_ne (Nat.ne_of_lt (Nat.lt_of_lt_of_le hlt hT))]
    exact (hf q hqm).1
  done := by
    intro X hP hw hK hc i pins s σ H E I hf st hg
    subst hP hw hK
    obtain ⟨hz, hTI, hTO, h1, h2, h3⟩ := st
    obtain ⟨xs, ys, zs, hqx, hqy, hqz, hx, hy, hu⟩ := hg
    obtain ⟨its, rv, p, _⟩ := I.list hqx
    obtain ⟨its2, rv2, p2, _⟩ := I.list hqy
    obtain ⟨its3, rv3, p3, _⟩ := I.list hqz
    have hh : X.A.in1.handled = none := I.ok.hd hc
    have n1 : a ≠ i1 := fun e => by
      obtain ⟨o, ho, hcl, _⟩ := h1
      subst e
      obtain ⟨o', ho', hcl', _⟩ := id p.isList
      rw [ho] at ho'; cases ho'
      rw [hcl] at hcl'; injection hcl' with q; exact absurd q (by decide)
    have n2 : b ≠ i2 := fun e => by
      obtain ⟨o, ho, hcl, _⟩ := h2
      subst e
      obtain ⟨o', ho', hcl', _⟩ := id p2.isList
      rw [ho] at ho'; cases ho'
      rw [hcl] at hcl'; injection hcl' with q; exact absurd q (by decide)
    have n3 : c ≠ i3 := fun e => by
      obtain ⟨o, ho, hcl, _⟩ := h3
      subst e
      obtain ⟨o', ho', hcl', _⟩ := id p3.isList
      rw [ho] at ho'; cases ho'
      rw [hcl] at hcl'; injection hcl' with q; exact absurd q (by decide)
    have G := GoesN.zip3 (prog := X.prog) (w := X.w) (A := X.A) (elts := elts) (x1 := kk) (pos := tpos) D (Draws.list hh i1 a n1 its.toArray) (Draws.list hh i2 b n2 its2.toArray) (Draws.list hh i3 c n3 its3.toArray)
    have l1 := rv.length
    have l2 := rv2.length
    have l3 := rv3.length
    have en : min (min its.toArray.size its2.toArray.size) its3.toArray.size = i := by
      rw [List.size_toArray, List.size_toArray, List.size_toArray, ← l1, ← l2, ← l3, hx, hy, hu]; omega
    rw [en] at G
    refine G.stops s _ E ⟨hz, hTI, hTO, ⟨h1, p.isList⟩, ⟨h2, p2.isList⟩, ⟨h3, p3.isList⟩⟩ fun h' tk hk htk => ?_
    have wr : ∀ q, q ∉ [z, TI, TO, i1, i2, i3] → q ∉ [z, TO, i1, i2, i3] := fun q hq z => hq (by
      simp only [List.mem_cons, List.not_mem_nil, or_false] at z ⊢
      rcases z with z | z | z | z | z <;> simp [z])
    exact I.turnedL (t' := tk) (ch := [z, TI, TO, i1, i2, i3]) (fun q o hb e => hk q o (wr q hb) e) hf
  self := fun A i s Q E st h => wpAny_pyIter_zip st.1 h
def iZip3 (K : PySem.W.Frag) (ta : TA) : TI := fun σ H R => ta σ H fun vs H1 => ∃ a b c xs ys zs, vs = [.ref a, .ref b, .ref c] ∧ SqL K H1 a xs ∧ SqL K H1 b ys ∧ SqL K H1 c zs ∧ R (Itz3 K a b c) H1
theorem pi_zip3 {X : Cx} {e e2 e3 : Expr} {ta : TA} {p pos tpos : Pos} {elts : List Expr} {kk : Nat} (hg : Gl X "zip") (hm : X.mg "zip" = none) (ha : PA X [e, e2, e3] ta)
    (hs : starEach [e, e2, e3] X.env = (false, eval e X.env) :: starEach [e2, e3] X.env := by rfl) (hpl : (backTo pos (starEach [e2, e3] X.env)).any (·.1) = false := by rfl) :
    PI X (.Tuple elts kk tpos) (.Call (.Name "zip" p) [e, e2, e3] [] pos) (iZip3 X.K ta) := by
  refine ⟨fun pins s σ H R I h => ?_⟩
  refine Call_ (ld_blt I hg hm PyProof.Rows.boot_zip (PyProof.Rows.callWith_type1 (thn (ha.run pos pins s σ H _ I h) fun us s1 ⟨vs, H1, I1, r1, q1⟩ => ?_) hs hpl))
  obtain ⟨a, b, c, xs, ys, zs, ex, hqx, hqy, hqz, q⟩ := q1
  subst ex
  cases r1 with
  | cons r rr =>
    cases rr with
    | cons r' rr =>
      cases rr with
      | cons r'' rr =>
        cases rr
        cases r
        cases r'
        cases r''
        have fresh6 : ∀ c, c ∈ [s1.heap.objs.size + 5, s1.heap.objs.size + 3, s1.heap.objs.size + 4, s1.heap.objs.size, s1.heap.objs.size + 1, s1.heap.objs.size + 2] → FpOk X pins H1 c := fun c hcm => by
          have hle : s1.heap.objs.size ≤ c := by
            simp only [List.mem_cons, List.not_mem_nil, or_false] at hcm
            rcases hcm with z | z | z | z | z | z
            · rw [z]; exact Nat.le_add_right _ _
            · rw [z]; exact Nat.le_add_right _ _
            · rw [z]; exact Nat.le_add_right _ _
            · rw [z]; exact Nat.le_refl _
            · rw [z]; exact Nat.le_add_right _ _
            · rw [z]; exact Nat.le_add_right _ _
          exact I1.fpOk hle (I1.hok.fresh hle)
        obtain ⟨its, rv, p1, _⟩ := I1.list hqx
        obtain ⟨its2, rv2, p2, _⟩ := I1.list hqy
        obtain ⟨its3, rv3, p3, _⟩ := I1.list hqz
        refine zip_begins3 (begins_list a its.toArray) (begins_list b its2.toArray) (begins_list c its3.toArray) p1.isList p2.isList p3.isList fun h' hz hTI hTO g1 g2 g3 hsz hk => wpAny_pyIter_zip hz ?_
        have I2 : Inv X pins σ H1 { s1 with heap := h' } := I1.kept (t' := s1.toks) hk
        refine ⟨s1.heap.objs.size + 5, [s1.heap.objs.size + 5, s1.heap.objs.size + 3, s1.heap.objs.size + 4, s1.heap.objs.size, s1.heap.objs.size + 1, s1.heap.objs.size + 2], _, _, H1, rfl, I2, turn_zip3 (a := a) (b := b) (c := c) (zip_sep3 (fun b hb => ?_) (fun b hb => ?_) fun b hb => ?_), ⟨hz, hTI, ⟨_, _, _, hTO⟩, ⟨_, g1, rfl, rfl⟩, ⟨_, g2, rfl, rfl⟩, ⟨_, g3, rfl, rfl⟩⟩, fresh6, q⟩
        · rw [List.mem_singleton.mp hb]; exact p1.lt
        · rw [List.mem_singleton.mp hb]; exact p2.lt
        · rw [List.mem_singleton.mp hb]; exact p3.lt
end RZ
namespace Dw
open PySem PySem.Spec PyProof.Rows L2 LamX
variable [Tabs0]
def zip3D (xs ys zs : List D) : List D := (xs.zip (ys.zip zs)).map fun p => .tup [p.1, p.2.1, p.2.2]
theorem zip3D_get {xs ys zs : List D} {i : Nat} {d : D} (h : (zip3D xs ys zs)[i]? = some d) : ∃ x y z, xs[i]? = some x ∧ ys[i]? = some y ∧ zs[i]? = some z ∧ d = .tup [x, y, z] := by
  unfold zip3D at h
  rw [List.getElem?_map] at h
  cases q : (xs.zip (ys.zip zs))[i]? with
  | none => rw [q] at h; cases h
  | some p =>
    rw [q] at h
    rw [List.getElem?_zip_eq_some, List.getElem?_zip_eq_some] at q
    exact ⟨p.1, p.2.1, p.2.2, q.1, q.2.1, q.2.2, (Option.some.inj h).symm⟩
theorem zip3D_length (xs ys zs : List D) : (zip3D xs ys zs).length = min xs.length (min ys.length zs.length) := by simp [zip3D]
section
variable {K : PySem.W.Frag} {Γ : Gam} {ta tb tc : TE} {xs ys zs : List D} {Q : List D → Gam → Prop}
theorem di_zip3 (h1 : Ev ta Γ (.lst xs)) (h2 : Ev tb Γ (.lst ys)) (h3 : Ev tc Γ (.lst zs)) (l1 : xs.length = ys.length) (l2 : ys.length = zs.length) (q : Q (zip3D xs ys zs) Γ) : Di (RZ.iZip3 K (tCons ta (tCons tb (tCons tc tNil)))) Γ Q := fun F σ W R g k =>
  h1 F σ W _ g fun v1 H1 s1 r1 => h2 F σ (W.at H1) _ (g.same s1) fun v2 H2 s2 r2 => h3 F σ (W.at H2) _ (SR.same (W := W.at H1) s2 (g.same s1)) fun v3 H3 s3 r3 => by
    have r1 : Rep (W.at H3) (.lst xs) v1 := Rep.same (W := W.at H2) s3 (Rep.same (W := W.at H1) s2 r1)
    have r2 : Rep (W.at H3) (.lst ys) v2 := Rep.same (W := W.at H2) s3 r2
    have st : Same W.H H3 := Same.trans s1 (Same.trans s2 s3)
    have g3 : SR F Γ σ (W.at H3) := g.same st
    obtain ⟨a, vs1, rfl, a1, n1, r1⟩ := r1
    obtain ⟨b, vs2, rfl, a2, n2, r2⟩ := r2
    obtain ⟨c, vs3, rfl, a3, n3, r3⟩ := r3
    refine ⟨a, b, c, vs1, vs2, vs3, rfl, .of a1, .of a2, .of a3, k _ (W.at H3) (zip3D xs ys zs) Γ (Stp.of_same g.ok st) g3 ⟨fun W2 i x s2 ok2 hx => ?_, fun W2 s2 ok2 => ?_⟩ q⟩
    · obtain ⟨x1, x2, x3, e1, e2, e3, rfl⟩ := zip3D_get hx
      obtain ⟨v1, f1, q1⟩ := r1.get e1
      obtain ⟨v2, f2, q2⟩ := r2.get e2
      obtain ⟨v3, f3, q3⟩ := r3.get e3
      have b1 := (s2.keep a _ a1 n1).1
      have b2 := (s2.keep b _ a2 n2).1
      have b3 := (s2.keep c _ a3 n3).1
      refine ⟨⟨vs1, vs2, vs3, v1, v2, v3, .of b1, .of b2, .of b3, f1, f2, f3⟩, fun v H' ⟨T, u1, u2, u3, ev, hT, eH, y1, y2, y3⟩ => ?_⟩
      have y1 := y1 vs1 (.of b1)
      have y2 := y2 vs2 (.of b2)
      have y3 := y3 vs3 (.of b3)
      rw [f1] at y1; cases y1
      rw [f2] at y2; cases y2
      rw [f3] at y3; cases y3
      subst ev eH
      have sm : Same W2.H (upd W2.H T (.tup [v1, v2, v3])) := same_upd hT
      exact ⟨sm, T, [v1, v2, v3], rfl, .mk upd_same, ok2.new hT, v1, _, rfl, (q1.stp s2).same sm, v2, _, rfl, (q2.stp s2).same sm, v3, _, rfl, (q3.stp s2).same sm, rfl⟩
    · have e1 := r1.length
      have e2 := r2.length
      have e3 := r3.length
      rw [zip3D_length]
      refine ⟨vs1, vs2, vs3, .of (s2.keep a _ a1 n1).1, .of (s2.keep b _ a2 n2).1, .of (s2.keep c _ a3 n3).1, ?_, ?_, ?_⟩ <;> omega
theorem zip3A (K : PySem.W.Frag) {X : Cx} {e e2 e3 : Expr} {ta : TA} {p pos tpos : Pos} {elts : List Expr} {kk : Nat} (hg : Gl X "zip") (hm : X.mg "zip" = none) (ha : PA X [e, e2, e3] ta) (hK : X.K = K := by rfl)
    (hs : starEach [e, e2, e3] X.env = (false, eval e X.env) :: starEach [e2, e3] X.env := by rfl) (hpl : (backTo pos (starEach [e2, e3] X.env)).any (·.1) = false := by rfl) :
    PI X (.Tuple elts kk tpos) (.Call (.Name "zip" p) [e, e2, e3] [] pos) (RZ.iZip3 K ta) := hK ▸ RZ.pi_zip3 hg hm ha hs hpl
end
end Dw
namespace L2
open PySem PySem.Spec PyProof.Rows
section
variable {X : Cx} {CX : CXT} {k : Nat} {f C : Addr} {fd : FuncData} {ps ks : List Str} {sp : Sp} {E : XK} {m : Str} {pos apos : Pos} {o : Expr} {kws : List Keyword} {ta : TE} {tk : TA} {g : List Value → List Value → List Value} {gV : List V → List V → List V}
/-- o.m(k = v, ..) -/
def tMethK (C : Addr) (m : Str) (n : Nat) (sp : Sp) (gV : List V → List V → List V) (E : XK) (ta : TE) (tk : TA) : TE := fun σ H Q => ta σ H fun x H1 => ∃ a dx fs, x = .ref a ∧ H1 a = some (.ins C dx fs) ∧ fs.lookup m = none ∧
  tk σ H1 fun zs H2 => zs.length = n ∧ sp (gV [x] zs) H2 Q E
theorem pe_methK0 {pl : Sem Bool} (he : PE X o ta) (c : Cls X.K C) (hm : Meth X.K C m f) (F : FnOk X.prog X.w X.K X.mg X.base CX k f fd ps sp) (hr : Room k X.A) (hb : KBn X.K fd ps 1 ks g gV) (hx : Passes CX X E) (hkw : PK X kws tk)
    (hall : (backToKw pos (keywordEach kws X.env)).all (·.1.isSome) = true := by rfl) (hks : (backToKw pos (keywordEach kws X.env)).filterMap (·.1) = ks := by rfl)
    (hpl : ((backTo pos (starEach [] X.env)).any (·.1) || (backToKw pos (keywordEach kws X.env)).any (·.1.isNone)) = false := by rfl)
    (ht : eval (.Call (.Attribute o m apos) [] kws pos) X.env = (do
      let ov ← eval o X.env
      standAt apos.atName
      let (f, first) ← holding [ov] (getMethod ov m pl)
      callWith pos f first (backTo pos (starEach [] X.env)) (backToKw pos (keywordEach kws X.env))) := by rfl) :
    PE X (.Call (.Attribute o m apos) [] kws pos) (tMethK C m ks.length sp gV E ta tk) := by
  refine ⟨fun pins s σ H Q I h => ?_⟩
  refine PySem.W.methodCall_KW (pl := pl) (thn (he.run pins s σ H _ I h) fun u s1 ⟨x, H1, I1, rx, a, dx, fs, ex, ea, l, q⟩ => ?_) ht
  subst ex
  obtain rfl : u = Value.ref a := rx
  refine getmeth_ok I1 ea c hm l ?_
  refine PySem.W.callWith_KW0 (first := [.ref a]) (h₀ := X.base) I.ok.mod.kin hm.kp hall (thn (hkw.run pos pins s1 σ H1 _ I1 q) fun ws s2 ⟨zs, H2, I2, rz, l2, q2⟩ => ⟨I2.kIn, ?_⟩) hpl
  rw [hks]
  have r2 := hb.rel (vs := [V.ref a]) (us := [Value.ref a]) (.cons rfl .nil) rz
  have hl : (g [Value.ref a] ws).length = ps.length := by rw [← r2.length]; exact F.len _ _ _ _ q2
  refine wpAny_call (codeAny_mono (F.run X.A X.stack s2 H2 ⟨[Value.ref a], ks.zip ws⟩ (g [Value.ref a] ws) (gV [V.ref a] zs) Q E hr I2.env0 (hb.to s2 [Value.ref a] ws I2.kIn rfl (rz.length.symm.trans l2)) r2 q2) fun r s' hq => ?_)
  cases r with
  | error e => exact hx pins σ H2 s2 e s' I2 hq
  | ok fl =>
    cases fl with
    | ret u => exact I2.after hq
    | next => exact False.elim hq
    | brk => exact False.elim hq
    | cont => exact False.elim hq
end
end L2
namespace Dw
open PySem PySem.Spec PyProof.Rows L2 LamX
variable [Tabs0]
section
variable {K : PySem.W.Frag} {Γ : Gam} {ta : TE} {t tk : TA} {ds es : List D} {d : D} {C : Addr} {s : Spc} {sx : SpcX} {sp : Sp} {E : XK} {ns : List Str} {m : Str} {gV : List V → List V → List V} {R : Option Addr → Hp → Prop} {Q : D → Gam → Prop}
theorem ev_meth_or {x : s.ty} (h : Ev ta Γ (.obj C ns ds)) (h2 : EvA t Γ es) (ha : s.args x = .obj C ns ds :: es) (np : noPs (s.args x) = true) (ok : s.ok x) (hm : m ∉ ns) (hd : ∀ d', s.rel x d' → d' = d) : Ev (tMeth C m (spOr (toSp s) sp) [] E ta t) Γ d := fun F σ W R g k =>
  h F σ W _ g fun v H st ⟨a, dx, vs, ev, e, nu, l, rl⟩ => by
    subst ev
    refine ⟨a, dx, _, rfl, e, zip_none hm vs, h2 F σ (W.at H) _ (g.same st) fun us H2 st2 ru => ?_⟩
    have rr : RepL (W.at H2) (s.args x) (V.ref a :: us) := by
      rw [ha]
      exact ⟨V.ref a, us, rfl, Rep.same (W := W.at H) st2 ⟨a, dx, vs, rfl, e, nu, l, rl⟩, ru⟩
    rw [List.append_nil]
    exact .inl (pure_call (W := (W.at H).at H2) ((g.same st).same st2) (fun _ z => z) (RepL.delP _ _ np rr) ok fun d' v H' hd' s' r' => by
      rw [hd d' hd'] at r'
      exact k v H' (Same.trans st (Same.trans st2 s')) (Rep.addP (W := W) r'))
theorem ev_methK {x : s.ty} {n : Nat} (h : Ev ta Γ (.obj C ns ds)) (h2 : EvA tk Γ es) (hn : es.length = n) (hg : ∀ (y : V) zs, gV [y] zs = y :: zs) (ha : s.args x = .obj C ns ds :: es) (np : noPs (s.args x) = true) (ok : s.ok x) (hm : m ∉ ns) (hd : ∀ d', s.rel x d' → d' = d) : Ev (tMethK C m n (toSp s) gV E ta tk) Γ d := fun F σ W R g k =>
  h F σ W _ g fun v H st ⟨a, dx, vs, ev, e, nu, l, rl⟩ => by
    subst ev
    refine ⟨a, dx, _, rfl, e, zip_none hm vs, h2 F σ (W.at H) _ (g.same st) fun us H2 st2 ru => ⟨by rw [← hn, ru.length], ?_⟩⟩
    have rr : RepL (W.at H2) (s.args x) (V.ref a :: us) := by
      rw [ha]
      exact ⟨V.ref a, us, rfl, Rep.same (W := W.at H) st2 ⟨a, dx, vs, rfl, e, nu, l, rl⟩, ru⟩
    rw [hg]
    exact pure_call (W := (W.at H).at H2) ((g.same st).same st2) (fun _ z => z) (RepL.delP _ _ np rr) ok fun d' v H' hd' s' r' => by
      rw [hd d' hd'] at r'
      exact k v H' (Same.trans st (Same.trans st2 s')) (Rep.addP (W := W) r')
theorem ev_methK_or {x : s.ty} {n : Nat} (h : Ev ta Γ (.obj C ns ds)) (h2 : EvA tk Γ es) (hn : es.length = n) (hg : ∀ (y : V) zs, gV [y] zs = y :: zs) (ha : s.args x = .obj C ns ds :: es) (np : noPs (s.args x) = true) (ok : s.ok x) (hm : m ∉ ns) (hd : ∀ d', s.rel x d' → d' = d) : Ev (tMethK C m n (spOr (toSp s) sp) gV E ta tk) Γ d := fun F σ W R g k =>
  h F σ W _ g fun v H st ⟨a, dx, vs, ev, e, nu, l, rl⟩ => by
    subst ev
    refine ⟨a, dx, _, rfl, e, zip_none hm vs, h2 F σ (W.at H) _ (g.same st) fun us H2 st2 ru => ⟨by rw [← hn, ru.length], ?_⟩⟩
    have rr : RepL (W.at H2) (s.args x) (V.ref a :: us) := by
      rw [ha]
      exact ⟨V.ref a, us, rfl, Rep.same (W := W.at H) st2 ⟨a, dx, vs, rfl, e, nu, l, rl⟩, ru⟩
    rw [hg]
    exact .inl (pure_call (W := (W.at H).at H2) ((g.same st).same st2) (fun _ z => z) (RepL.delP _ _ np rr) ok fun d' v H' hd' s' r' => by
      rw [hd d' hd'] at r'
      exact k v H' (Same.trans st (Same.trans st2 s')) (Rep.addP (W := W) r'))
theorem ert_methK {x : sx.ty} {n : Nat} (h : Ev ta Γ (.obj C ns ds)) (h2 : EvA tk Γ es) (hn : es.length = n) (hg : ∀ (y : V) zs, gV [y] zs = y :: zs) (ha : sx.args x = .obj C ns ds :: es) (ok : sx.ok x) (hm : m ∉ ns) (hR : ∀ ed H', R ed H' → E (.ref (sx.ex x).C) ed H') : ErT (tMethK C m n (spOr sp (toSpX sx)) gV E ta tk) Γ (sx.ex x) R := fun F σ W Q g k => h F σ W _ g fun v H st ⟨a, dx, vs, ev, e, nu, l, rl⟩ => by
  subst ev
  refine ⟨a, dx, _, rfl, e, zip_none hm vs, h2 F σ (W.at H) _ (g.same st) fun us H2 st2 ru => ⟨by rw [← hn, ru.length], ?_⟩⟩
  have rr : RepL (W.at H2) (sx.args x) (V.ref a :: us) := by
    rw [ha]
    exact ⟨V.ref a, us, rfl, Rep.same (W := W.at H) st2 ⟨a, dx, vs, rfl, e, nu, l, rl⟩, ru⟩
  rw [hg]
  have st3 : Same W.H H2 := Same.trans st st2
  exact .inr ⟨x, _, W.at H2, rfl, ((g.same st).same st2).callOk, rr, ok, fun ed H' s' a => hR ed H' (k ed H' (Same.trans st3 s') (exAt_back st3 a))⟩
/-- C(name = value), of a class whose __init__ raises nothing -/
theorem dl_makeKI {tk : TA} {e : D} {x : s.ty} (hg : ∀ a z, gV [V.ref a] [z] = [V.ref a, z]) (h : EvA tk Γ [e]) (hx : s.args x = [e]) (ok : s.ok x) (hd : ∀ es, s.rel x (.tup es) → Q (.obj C ns es) Γ) : Dl (tMakeK C 0 1 (toIn C ns s) gV E tNil tk) Γ Q := fun F σ W R g k => h F σ W _ g fun zs H st r => by
  obtain ⟨z, zr, rfl, rz, rfl⟩ := r
  refine ⟨rfl, rfl, fun b dx hb hdx ne => ?_⟩
  rw [hg]
  have g1 : SR F Γ σ (W.at H) := g.same st
  have sm : Same H (upd (upd H dx (.own b)) b (.ins C dx [])) := Same.trans (same_upd hdx) (same_upd ((upd_ne (Ne.symm ne)).trans hb))
  obtain ⟨stp, gp, no, nf, np⟩ := g1.plus (H := upd (upd H dx (.own b)) b (.ins C dx [])) (a := b) sm hb (by rw [upd_same]; exact fun z => nomatch z)
  have r1 : RepL (W.at H) (s.args x) [z] := by rw [hx]; exact RepL.one rz
  refine ⟨x, _, (W.at H).plus _ b, b, dx, [z], rfl, rfl, gp.callOk, .inr rfl, fun z => z.elim nf no, np, upd_same, r1.stp stp, ok, fun ds zs W' hd' st' ok' hu hH hl rr => ⟨rfl, ?_⟩⟩
  have g2 := gp.call st' ok'
  have np' : ¬ W'.P b := by rw [st'.pur]; exact np
  obtain ⟨st3, g3⟩ := (g2.frame hu np' no).land nf
  exact k (.ref b) ⟨W'.H, fun c => W'.U c ∧ c ≠ b, W'.P⟩ (.obj C ns ds) Γ ((Stp.of_same g.ok st).trans (stp.trans ((st'.sub fun _ z => .inl z).trans st3))) g3 ⟨b, dx, zs, rfl, hH, fun z => z.2 rfl, hl, rr.stp st3⟩ (hd ds hd')
end
end Dw
namespace Dw
open PySem PySem.Spec PyProof.Rows L2
variable [Tabs0]
section
variable {Γ : Gam} {wi : TI} {g : TG} {tt : TT} {te : TE} {vs : List Nat} {De : DE} {j : Nat}
/-- xs = [.. for ..], drawn, and one's own -/
theorem ds_asg_lcO (h : Di wi Γ fun xs Γ1 => xs.length ≤ 1000000 ∧ ∃ J : Nat → List D → Gam → Prop, J 0 [] (wipeG Γ1 vs) ∧
      (∀ i x acc Γ', xs[i]? = some x → J i acc Γ' → ∃ is Γ2, DG g is x Γ' Γ2 ∧ (∀ i ∈ is, i ∈ vs) ∧ DlT tt Γ2 fun b Γ3 => (b = true → Dl te Γ3 fun d Γ4 => J (i + 1) (acc ++ [d]) (wipeG Γ4 vs)) ∧ (b = false → J (i + 1) acc (wipeG Γ3 vs))) ∧
      ∀ acc Γ', J xs.length acc Γ' → De.nx (Γ'.set j (.own acc))) : Ds (tAsg (tLc wi g tt te vs) (gName j)) Γ De := fun F σ W Dr s k =>
  h F σ W _ s fun I W1 xs Γ1 st1 g1 it ⟨hz, J, h0, hs, hd⟩ => fun Dn hD => by
    obtain ⟨stp, gp, no, nf, np⟩ := g1.plus (H := upd W1.H Dn (.lst [])) (a := Dn) (same_upd hD) hD (by rw [upd_same]; exact fun z => nomatch z)
    have gf := (gp.frame (Or.inr rfl) np no).wipe vs
    refine ⟨fun i m H' => m = xs.length - i ∧ i ≤ xs.length ∧ ∃ W' Γ' acc us, W'.H = H' ∧ Stp F W1 W' ∧ SR (Fp F Dn) Γ' (wipe σ vs) W' ∧ H' Dn = some (.lst us) ∧ RepL W' acc us ∧ acc.length ≤ i ∧ J i acc Γ',
      ⟨_, rfl, Nat.zero_le _, W1.plus (upd W1.H Dn (.lst [])) Dn, _, [], [], rfl, stp, gf, upd_same, rfl, Nat.le_refl _, h0⟩, ?_⟩
    rintro i m H' ⟨rfl, hi, W', Γ', acc, us, rfl, s', g', hus, rus, hl, q⟩
    by_cases hlt : i < xs.length
    · have hx : xs[i]? = some xs[i] := List.getElem?_eq_getElem hlt
      obtain ⟨is, Γ2, hg, his, ht⟩ := hs i xs[i] acc Γ' hx q
      have ok1 : WOk F W' := ⟨g'.ok.dom, fun b z => g'.ok.fu b (Or.inl z), fun b z => let ⟨u, f, p⟩ := g'.ok.pu b z; ⟨u, fun q => f (Or.inl q), p⟩⟩
      obtain ⟨go, yl⟩ := it.go W' i xs[i] s' ok1 hx
      refine .inr ⟨go, fun H2 => ∃ W2 Γ2 acc us, W2.H = H2 ∧ Stp F W1 W2 ∧ SR (Fp F Dn) Γ2 (wipe σ vs) W2 ∧ H2 Dn = some (.lst us) ∧ RepL W2 acc us ∧ acc.length ≤ i + 1 ∧ J (i + 1) acc Γ2, fun H2 q => ⟨xs.length - (i + 1), by omega, rfl, hlt, q⟩, fun v H2 y => ?_⟩
      obtain ⟨sm, rv⟩ := yl v H2 y
      have g2 := g'.same sm
      have s2 : Stp F W1 (W'.at H2) := s'.trans (Stp.of_same ok1 sm)
      refine hg (Fp F Dn) _ (W'.at H2) v _ g2 rv fun σ2 g3 w2 => ?_
      have ew : wipe σ2 vs = wipe σ vs := by rw [w2 vs his, wipe_wipe]
      refine ⟨ew, ht (Fp F Dn) σ2 (W'.at H2) _ g3 fun b W3 Γ3 s3 g4 q => ?_⟩
      have h3 : W3.H Dn = some (.lst us) := (s3.fr Dn (Or.inr rfl)).trans (sm _ _ hus)
      have r3 : RepL W3 acc us := (RepL.same (W := W') sm rus).stp s3
      cases b with
      | false =>
        rw [if_neg Bool.false_ne_true]
        have g5 := g4.wipe vs
        rw [ew] at g5
        exact ⟨W3, _, acc, us, rfl, s2.trans (s3.sub fun _ z => Or.inl z), g5, h3, r3, by omega, q.2 rfl⟩
      | true =>
        rw [if_pos rfl]
        refine q.1 rfl (Fp F Dn) σ2 W3 _ g4 fun z W4 d Γ4 s4 g5 rz qj => ?_
        have h4 : W4.H Dn = some (.lst us) := (s4.fr Dn (Or.inr rfl)).trans h3
        have r4 : RepL W4 acc us := r3.stp s4
        have g6 := g5.wipe vs
        rw [ew] at g6
        obtain ⟨s5, g7⟩ := g6.poke (o := .lst (us ++ [z])) nf (no_ext (by assumption))
        refine ⟨us, h4, ?_, W4.at (upd W4.H Dn (.lst (us ++ [z]))), _, acc ++ [d], us ++ [z], rfl, ((s2.trans (s3.sub fun _ z => Or.inl z)).trans (s4.sub fun _ z => Or.inl z)).trans s5, g7, upd_same, (r4.append (RepL.one rz)).stp s5, by rw [List.length_append, List.length_singleton]; omega, qj⟩
        rw [← r4.length]
        exact Nat.lt_of_le_of_lt (show acc.length ≤ 1000000 by omega) (by decide)
    · have e : i = xs.length := by omega
      subst e
      have ok1 : WOk F W' := ⟨g'.ok.dom, fun b z => g'.ok.fu b (Or.inl z), fun b z => let ⟨u, f, p⟩ := g'.ok.pu b z; ⟨u, fun q => f (Or.inl q), p⟩⟩
      have gu := SR.unwipe g'
      have g2' : SR F Γ' σ W' := ⟨ok1, gu.len, gu.val, fun i ds e => let ⟨b, vs, e1, u, f, p, q, r⟩ := gu.ownX i ds e; ⟨b, vs, e1, u, fun w => f (.inl w), p, q, r⟩, gu.apartX⟩
      have no2 : ¬ ownA Γ' σ Dn := fun ⟨i, ds, e1, e2⟩ => by
        obtain ⟨b, vs, e3, _, f, _⟩ := gu.ownX i ds e1
        rw [e2] at e3; cases e3
        exact f (.inr rfl)
      have p2 : ¬ W'.P Dn := fun z => (gu.ok.pu Dn z).2.1 (.inr rfl)
      have g3 := g2'.adopt (i := j) (gu.ok.fu Dn (.inr rfl)) nf p2 hus rus no2
      exact .inl ⟨it.stop W' s' ok1, k.nx _ W' _ (st1.trans s') g3 (hd acc Γ' q)⟩
end
end Dw
namespace Dw
open PySem PySem.Spec PyProof.Rows L2
section
variable {X : Cx} {C f : Addr} {fd : FuncData} {n : Nat} {p p2 : Str} {sp : Sp}
theorem eqOwnA (K : PySem.W.Frag) (F : FnOk X.prog X.w X.K X.mg X.base CX0 n f fd [p, p2] sp) (hr : Room n X.A) (hs : PySem.W.findIn X.K (.ref C) "__eq__" = some (some (.ref f))) (hf : PySem.W.isFn X.K (.ref f) = true) (hb : Binds X.K fd [p, p2] []) (hK : X.K = K := by rfl) : OpR X (compareOp .Eq) (rEqOwn K C sp) := hK ▸ op_eqOwn F hr hs hf hb
theorem neOwnA (K : PySem.W.Frag) (F : FnOk X.prog X.w X.K X.mg X.base CX0 n f fd [p, p2] sp) (hr : Room (n + 1) X.A) (hm : PySem.W.mroIn X.K C (.type "object") = some true) (hn : PySem.W.findIn X.K (.ref C) "__ne__" = some (some (.builtin "object.__ne__"))) (hs : PySem.W.findIn X.K (.ref C) "__eq__" = some (some (.ref f))) (hf : PySem.W.isFn X.K (.ref f) = true) (hb : Binds X.K fd [p, p2] []) (hK : X.K = K := by rfl) :
    OpR X (compareOp .NotEq) (fun x y H Q => rEqOwn K C sp x y H fun v H' => ∃ b, v = .bl b ∧ Q (.bl (!b)) H') := hK ▸ op_neOwn F hr hm hn hs hf hb
end
end Dw
namespace Dw
open PySem PySem.Spec PyProof.Rows L2
theorem over_of {K : PySem.W.Frag} {C N : Addr} {nm q newId : _} {bs bm sn sub ab col dd k0 k1 k2 k3 k5} {ae : List Value} (look : K.lookup C = some (excClassObj nm q C N bs bm true sn sub ab col dd k0 k1 k2 k3 k5 newId)) (tail : PySem.W.excTail ae bm = true) : PySem.W.excOver K C ae = true := by
  have cls : PySem.W.clsIn K C = some { name := nm, bases := bs, mro := .ref C :: bm, ns := N, qualname := q, hasDict := true, slotNames := sn, subclasses := sub, abstract := ab, collection := col, hasDel := false } := by
    unfold PySem.W.clsIn
    rw [look]
  unfold PySem.W.excOver
  rw [cls]
  show ((C == C) && PySem.W.excTail ae bm) = true
  rw [tail, beq_self_eq_true]; rfl
end Dw

namespace K02
open PySem PySem.Spec PyProof.Rows L2 Dw
variable [Tabs0]
/-! ### the text by places -/
def topS (i : Nat) : Stmt := PySem.Challenge.pw_rankedrules_k02_books_made.main.body.getD i (.Pass ⟨0, 0, 0, 0⟩)
abbrev s_is_name : Stmt := topS 29
abbrev N_is_name : List Str := ["value", "letter"]
theorem sc_is_name : FnScope N_is_name ["value"] (defScope s_is_name) := ⟨rfl, rfl, rfl, by decide +kernel, rfl, by decide +kernel, by decide +kernel⟩
abbrev s_are_names : Stmt := topS 30
abbrev N_are_names : List Str := ["values", "one", "other", "value"]
theorem sc_are_names : FnScope N_are_names ["values"] (defScope s_are_names) := ⟨rfl, rfl, rfl, by decide +kernel, rfl, by decide +kernel, by decide +kernel⟩
abbrev s_is_any_row : Stmt := topS 31
abbrev N_is_any_row : List Str := ["value", "sign"]
theorem sc_is_any_row : FnScope N_is_any_row ["value"] (defScope s_is_any_row) := ⟨rfl, rfl, rfl, by decide +kernel, rfl, by decide +kernel, by decide +kernel⟩
abbrev s_is_row : Stmt := topS 32
abbrev N_is_row : List Str := ["value", "many"]
theorem sc_is_row : FnScope N_is_row ["value", "many"] (defScope s_is_row) := ⟨rfl, rfl, rfl, by decide +kernel, rfl, by decide +kernel, by decide +kernel⟩
abbrev s_is_whole : Stmt := topS 33
abbrev N_is_whole : List Str := ["value"]
theorem sc_is_whole : FnScope N_is_whole ["value"] (defScope s_is_whole) := ⟨rfl, rfl, rfl, by decide +kernel, rfl, by decide +kernel, by decide +kernel⟩
abbrev s_is_index : Stmt := topS 34
abbrev N_is_index : List Str := ["value", "many"]
theorem sc_is_index : FnScope N_is_index ["value", "many"] (defScope s_is_index) := ⟨rfl, rfl, rfl, by decide +kernel, rfl, by decide +kernel, by decide +kernel⟩
abbrev s_check_row : Stmt := topS 35
abbrev N_check_row : List Str := ["row", "many"]
theorem sc_check_row : FnScope N_check_row ["row", "many"] (defScope s_check_row) := ⟨rfl, rfl, rfl, by decide +kernel, rfl, by decide +kernel, by decide +kernel⟩
abbrev s_check_index : Stmt := topS 36
abbrev N_check_index : List Str := ["index", "many"]
theorem sc_check_index : FnScope N_check_index ["index", "many"] (defScope s_check_index) := ⟨rfl, rfl, rfl, by decide +kernel, rfl, by decide +kernel, by decide +kernel⟩
abbrev s_read_book : Stmt := topS 38
abbrev N_read_book : List Str := ["text", "head", "_", "tail", "names", "first", "rows", "row"]
theorem sc_read_book : FnScope N_read_book ["text"] (defScope s_read_book) := ⟨rfl, rfl, rfl, by decide +kernel, rfl, by decide +kernel, by decide +kernel⟩
abbrev s_write_book : Stmt := topS 39
abbrev N_write_book : List Str := ["names", "rows"]
theorem sc_write_book : FnScope N_write_book ["names", "rows"] (defScope s_write_book) := ⟨rfl, rfl, rfl, by decide +kernel, rfl, by decide +kernel, by decide +kernel⟩
abbrev s__law_purse : Stmt := topS 43
abbrev N__law_purse : List Str := ["_law_script", "_law_spot", "_law_cell", "_law_seed", "_law_one"]
theorem sc__law_purse : FnScope N__law_purse ["_law_script", "_law_spot"] (defScope s__law_purse) := ⟨rfl, rfl, rfl, by decide +kernel, rfl, by decide +kernel, by decide +kernel⟩
abbrev s__law_draw : Stmt := topS 44
abbrev N__law_draw : List Str := ["_law_purse_here", "_law_many", "_law_digit"]
theorem sc__law_draw : FnScope N__law_draw ["_law_purse_here", "_law_many"] (defScope s__law_draw) := ⟨rfl, rfl, rfl, by decide +kernel, rfl, by decide +kernel, by decide +kernel⟩
abbrev s__law_sort : Stmt := topS 46
abbrev N__law_sort : List Str := ["_law_e", "_law_words", "_law_flags", "_law_bases", "_law_at"]
theorem sc__law_sort : FnScope N__law_sort ["_law_e"] (defScope s__law_sort) := ⟨rfl, rfl, rfl, by decide +kernel, rfl, by decide +kernel, by decide +kernel⟩
abbrev s_Book___repr__ : Stmt := inClass (topS 41) 8
abbrev N_Book___repr__ : List Str := ["self"]
theorem sc_Book___repr__ : FnScope N_Book___repr__ ["self"] (defScope s_Book___repr__) := ⟨rfl, rfl, rfl, by decide +kernel, rfl, by decide +kernel, by decide +kernel⟩
abbrev s__law_attribute : Stmt := topS 47
abbrev N__law_attribute : List Str := ["_law_e", "_law_word_here", "_law_by_index"]
theorem sc__law_attribute : FnScope N__law_attribute ["_law_e", "_law_word_here"] (defScope s__law_attribute) := ⟨rfl, rfl, rfl, by decide +kernel, rfl, by decide +kernel, by decide +kernel⟩
abbrev s__law_told : Stmt := topS 45
abbrev N__law_told : List Str := ["_law_job", "_law_gave", "_law_e", "_law_word_here"]
theorem sc__law_told : FnScope N__law_told ["_law_job"] (defScope s__law_told) := ⟨rfl, rfl, rfl, by decide +kernel, rfl, by decide +kernel, by decide +kernel⟩
abbrev s__law_labels : Stmt := topS 48
abbrev N__law_labels : List Str := ["_law_purse_here", "_law_many", "_law_some", "_law_k"]
theorem sc__law_labels : FnScope N__law_labels ["_law_purse_here", "_law_many"] (defScope s__law_labels) := ⟨rfl, rfl, rfl, by decide +kernel, rfl, by decide +kernel, by decide +kernel⟩
abbrev s__law_holds : Stmt := topS 49
abbrev N__law_holds : List Str := ["_law_row_here", "_law_order_here", "_law_signs_here", "_law_k"]
theorem sc__law_holds : FnScope N__law_holds ["_law_row_here", "_law_order_here"] (defScope s__law_holds) := ⟨rfl, rfl, rfl, by decide +kernel, rfl, by decide +kernel, by decide +kernel⟩
abbrev s__law_flipped : Stmt := topS 50
abbrev N__law_flipped : List Str := ["_law_row_here", "_law_sign"]
theorem sc__law_flipped : FnScope N__law_flipped ["_law_row_here"] (defScope s__law_flipped) := ⟨rfl, rfl, rfl, by decide +kernel, rfl, by decide +kernel, by decide +kernel⟩
abbrev s__law_signs : Stmt := topS 51
abbrev N__law_signs : List Str := ["_law_purse_here", "_law_many", "_law_k"]
theorem sc__law_signs : FnScope N__law_signs ["_law_purse_here", "_law_many"] (defScope s__law_signs) := ⟨rfl, rfl, rfl, by decide +kernel, rfl, by decide +kernel, by decide +kernel⟩
abbrev s__law_rows : Stmt := topS 52
abbrev N__law_rows : List Str := ["_law_purse_here", "_law_many", "_law_most", "_law_wrong", "_law_left", "_law_hidden_order", "_law_k", "_law_found", "_law_turn", "_law_row_here", "_law_is_kept"]
theorem sc__law_rows : FnScope N__law_rows ["_law_purse_here", "_law_many", "_law_most", "_law_wrong"] (defScope s__law_rows) := ⟨rfl, rfl, rfl, by decide +kernel, rfl, by decide +kernel, by decide +kernel⟩
abbrev s__law_spelled : Stmt := topS 53
abbrev N__law_spelled : List Str := ["_law_labels_here", "_law_rows_here"]
theorem sc__law_spelled : FnScope N__law_spelled ["_law_labels_here", "_law_rows_here"] (defScope s__law_spelled) := ⟨rfl, rfl, rfl, by decide +kernel, rfl, by decide +kernel, by decide +kernel⟩
abbrev s__law_book : Stmt := topS 54
abbrev N__law_book : List Str := ["_law_purse_here", "_law_least", "_law_span", "_law_most", "_law_many"]
theorem sc__law_book : FnScope N__law_book ["_law_purse_here", "_law_least", "_law_span", "_law_most"] (defScope s__law_book) := ⟨rfl, rfl, rfl, by decide +kernel, rfl, by decide +kernel, by decide +kernel⟩
abbrev s_Book_text : Stmt := inClass (topS 41) 1
abbrev N_Book_text : List Str := ["self"]
theorem sc_Book_text : FnScope N_Book_text ["self"] (defScope s_Book_text) := ⟨rfl, rfl, rfl, by decide +kernel, rfl, by decide +kernel, by decide +kernel⟩
abbrev s_Book_names : Stmt := inClass (topS 41) 2
abbrev N_Book_names : List Str := ["self"]
theorem sc_Book_names : FnScope N_Book_names ["self"] (defScope s_Book_names) := ⟨rfl, rfl, rfl, by decide +kernel, rfl, by decide +kernel, by decide +kernel⟩
abbrev s_Book_rows : Stmt := inClass (topS 41) 3
abbrev N_Book_rows : List Str := ["self"]
theorem sc_Book_rows : FnScope N_Book_rows ["self"] (defScope s_Book_rows) := ⟨rfl, rfl, rfl, by decide +kernel, rfl, by decide +kernel, by decide +kernel⟩
abbrev s_Book___str__ : Stmt := inClass (topS 41) 7
abbrev N_Book___str__ : List Str := ["self"]
theorem sc_Book___str__ : FnScope N_Book___str__ ["self"] (defScope s_Book___str__) := ⟨rfl, rfl, rfl, by decide +kernel, rfl, by decide +kernel, by decide +kernel⟩
abbrev s_Book___eq__ : Stmt := inClass (topS 41) 6
abbrev N_Book___eq__ : List Str := ["self", "other"]
theorem sc_Book___eq__ : FnScope N_Book___eq__ ["self", "other"] (defScope s_Book___eq__) := ⟨rfl, rfl, rfl, by decide +kernel, rfl, by decide +kernel, by decide +kernel⟩
abbrev s__law_is : Stmt := topS 55
abbrev N__law_is : List Str := ["_law_log", "_law_labels_here", "_law_rows_here", "_law_said", "_law_seen", "_law_due"]
theorem sc__law_is : FnScope N__law_is ["_law_log", "_law_labels_here", "_law_rows_here"] (defScope s__law_is) := ⟨rfl, rfl, rfl, by decide +kernel, rfl, by decide +kernel, by decide +kernel⟩
abbrev s_Book___init__ : Stmt := inClass (topS 41) 0
abbrev N_Book___init__ : List Str := ["self", "text", "parts"]
theorem sc_Book___init__ : FnScope N_Book___init__ ["self", "text"] (defScope s_Book___init__) := ⟨rfl, rfl, rfl, by decide +kernel, rfl, by decide +kernel, by decide +kernel⟩
abbrev s_Book_without : Stmt := inClass (topS 41) 5
abbrev N_Book_without : List Str := ["self", "index"]
theorem sc_Book_without : FnScope N_Book_without ["self", "index"] (defScope s_Book_without) := ⟨rfl, rfl, rfl, by decide +kernel, rfl, by decide +kernel, by decide +kernel⟩
abbrev s_TooMany___init__ : Stmt := inClass (topS 19) 0
abbrev N_TooMany___init__ : List Str := ["self", "number"]
theorem sc_TooMany___init__ : FnScope N_TooMany___init__ ["self", "number"] (defScope s_TooMany___init__) := ⟨rfl, rfl, rfl, by decide +kernel, rfl, by decide +kernel, by decide +kernel⟩
abbrev s_Book_with_row : Stmt := inClass (topS 41) 4
abbrev N_Book_with_row : List Str := ["self", "row"]
theorem sc_Book_with_row : FnScope N_Book_with_row ["self", "row"] (defScope s_Book_with_row) := ⟨rfl, rfl, rfl, by decide +kernel, rfl, by decide +kernel, by decide +kernel⟩
abbrev s__law_right : Stmt := topS 56
abbrev N__law_right : List Str := ["_law_purse_here", "_law_some", "_law_labels_here", "_law_rows_here", "_law_lines", "_law_said", "_law_logs", "_law_both", "_law_k", "_law_less", "_law_due", "_law_odd", "_law_fresh", "_law_full", "_law_log", "_law_turn", "_law_each"]
theorem sc__law_right : FnScope N__law_right ["_law_purse_here"] (defScope s__law_right) := ⟨rfl, rfl, rfl, by decide +kernel, rfl, by decide +kernel, by decide +kernel⟩
abbrev s_law : Stmt := topS 57
abbrev N_law : List Str := ["_law_script", "_law_spot"]
theorem sc_law : FnScope N_law ["_law_script"] (defScope s_law) := ⟨rfl, rfl, rfl, by decide +kernel, rfl, by decide +kernel, by decide +kernel⟩
/-! ### what the top has written -/
structure Txt (K : PySem.W.Frag) (w : World) (mg : Str → Option Value) where
  C_Book : Addr
  m_Book : mg "Book" = some (.ref C_Book)
  cl_Book : Cls K C_Book
  C_Broken : Addr
  m_Broken : mg "Broken" = some (.ref C_Broken)
  C_InUse : Addr
  m_InUse : mg "InUse" = some (.ref C_InUse)
  C_InvalidCases : Addr
  m_InvalidCases : mg "InvalidCases" = some (.ref C_InvalidCases)
  C_InvalidClaim : Addr
  m_InvalidClaim : mg "InvalidClaim" = some (.ref C_InvalidClaim)
  C_InvalidIndex : Addr
  m_InvalidIndex : mg "InvalidIndex" = some (.ref C_InvalidIndex)
  C_InvalidLot : Addr
  m_InvalidLot : mg "InvalidLot" = some (.ref C_InvalidLot)
  C_InvalidName : Addr
  m_InvalidName : mg "InvalidName" = some (.ref C_InvalidName)
  C_InvalidNumber : Addr
  m_InvalidNumber : mg "InvalidNumber" = some (.ref C_InvalidNumber)
  C_InvalidOffers : Addr
  m_InvalidOffers : mg "InvalidOffers" = some (.ref C_InvalidOffers)
  C_InvalidRanking : Addr
  m_InvalidRanking : mg "InvalidRanking" = some (.ref C_InvalidRanking)
  C_InvalidRow : Addr
  m_InvalidRow : mg "InvalidRow" = some (.ref C_InvalidRow)
  C_InvalidRule : Addr
  m_InvalidRule : mg "InvalidRule" = some (.ref C_InvalidRule)
  C_InvalidText : Addr
  m_InvalidText : mg "InvalidText" = some (.ref C_InvalidText)
  C_NoAnswer : Addr
  m_NoAnswer : mg "NoAnswer" = some (.ref C_NoAnswer)
  C_NoRanking : Addr
  m_NoRanking : mg "NoRanking" = some (.ref C_NoRanking)
  C_NotABook : Addr
  m_NotABook : mg "NotABook" = some (.ref C_NotABook)
  C_NotACase : Addr
  m_NotACase : mg "NotACase" = some (.ref C_NotACase)
  C_NotACourt : Addr
  m_NotACourt : mg "NotACourt" = some (.ref C_NotACourt)
  C_NothingToUndo : Addr
  m_NothingToUndo : mg "NothingToUndo" = some (.ref C_NothingToUndo)
  C_TooMany : Addr
  m_TooMany : mg "TooMany" = some (.ref C_TooMany)
  C_UnknownName : Addr
  m_UnknownName : mg "UnknownName" = some (.ref C_UnknownName)
  C_WrongValue : Addr
  m_WrongValue : mg "WrongValue" = some (.ref C_WrongValue)
  xk_TooMany : ExcC K C_TooMany
  xm_TooMany : PySem.W.exmAny K (.ref C_TooMany) [.ref C_WrongValue, .ref C_NoAnswer] = some true
  xo_TooMany : OaxC K C_TooMany
  xf_TooMany : XfC K C_TooMany
  xn_TooMany_given : PySem.W.findIn K (.ref C_TooMany) "given" = some none
  xn_TooMany_index : PySem.W.findIn K (.ref C_TooMany) "index" = some none
  xn_TooMany_number : PySem.W.findIn K (.ref C_TooMany) "number" = some none
  xn_TooMany_told : PySem.W.findIn K (.ref C_TooMany) "told" = some none
  kt_TooMany : KitRow K C_TooMany [C_InvalidText, C_InvalidNumber, C_InvalidName, C_InvalidIndex, C_InvalidClaim, C_InvalidRow, C_InvalidRanking, C_InvalidRule, C_UnknownName, C_NotABook, C_NotACase, C_NotACourt, C_InvalidLot, C_InvalidOffers, C_InvalidCases, C_NoRanking, C_TooMany, C_Broken, C_InUse, C_NothingToUndo, C_WrongValue, C_NoAnswer] [false, false, false, false, false, false, false, false, false, false, false, false, false, false, false, false, true, false, false, false, false, true]
  f_is_name : Addr
  e_is_name : FuncData
  F_is_name : Fun K "is_name" "is_name" s_is_name f_is_name e_is_name
  b_is_name : Binds K e_is_name ["value"] []
  m_is_name : mg "is_name" = some (.ref f_is_name)
  f_are_names : Addr
  e_are_names : FuncData
  F_are_names : Fun K "are_names" "are_names" s_are_names f_are_names e_are_names
  b_are_names : Binds K e_are_names ["values"] []
  m_are_names : mg "are_names" = some (.ref f_are_names)
  f_is_any_row : Addr
  e_is_any_row : FuncData
  F_is_any_row : Fun K "is_any_row" "is_any_row" s_is_any_row f_is_any_row e_is_any_row
  b_is_any_row : Binds K e_is_any_row ["value"] []
  m_is_any_row : mg "is_any_row" = some (.ref f_is_any_row)
  f_is_row : Addr
  e_is_row : FuncData
  F_is_row : Fun K "is_row" "is_row" s_is_row f_is_row e_is_row
  b_is_row : Binds K e_is_row ["value", "many"] []
  m_is_row : mg "is_row" = some (.ref f_is_row)
  f_is_whole : Addr
  e_is_whole : FuncData
  F_is_whole : Fun K "is_whole" "is_whole" s_is_whole f_is_whole e_is_whole
  b_is_whole : Binds K e_is_whole ["value"] []
  m_is_whole : mg "is_whole" = some (.ref f_is_whole)
  f_is_index : Addr
  e_is_index : FuncData
  F_is_index : Fun K "is_index" "is_index" s_is_index f_is_index e_is_index
  b_is_index : Binds K e_is_index ["value", "many"] []
  m_is_index : mg "is_index" = some (.ref f_is_index)
  f_check_row : Addr
  e_check_row : FuncData
  F_check_row : Fun K "check_row" "check_row" s_check_row f_check_row e_check_row
  b_check_row : Binds K e_check_row ["row", "many"] []
  m_check_row : mg "check_row" = some (.ref f_check_row)
  f_check_index : Addr
  e_check_index : FuncData
  F_check_index : Fun K "check_index" "check_index" s_check_index f_check_index e_check_index
  b_check_index : Binds K e_check_index ["index", "many"] []
  m_check_index : mg "check_index" = some (.ref f_check_index)
  f_read_book : Addr
  e_read_book : FuncData
  F_read_book : Fun K "read_book" "read_book" s_read_book f_read_book e_read_book
  b_read_book : Binds K e_read_book ["text"] []
  m_read_book : mg "read_book" = some (.ref f_read_book)
  f_write_book : Addr
  e_write_book : FuncData
  F_write_book : Fun K "write_book" "write_book" s_write_book f_write_book e_write_book
  b_write_book : Binds K e_write_book ["names", "rows"] []
  m_write_book : mg "write_book" = some (.ref f_write_book)
  f__law_purse : Addr
  e__law_purse : FuncData
  F__law_purse : Fun K "_law_purse" "_law_purse" s__law_purse f__law_purse e__law_purse
  b__law_purse : Binds K e__law_purse ["_law_script", "_law_spot"] []
  m__law_purse : mg "_law_purse" = some (.ref f__law_purse)
  f__law_draw : Addr
  e__law_draw : FuncData
  F__law_draw : Fun K "_law_draw" "_law_draw" s__law_draw f__law_draw e__law_draw
  b__law_draw : Binds K e__law_draw ["_law_purse_here", "_law_many"] []
  m__law_draw : mg "_law_draw" = some (.ref f__law_draw)
  f__law_sort : Addr
  e__law_sort : FuncData
  F__law_sort : Fun K "_law_sort" "_law_sort" s__law_sort f__law_sort e__law_sort
  b__law_sort : Binds K e__law_sort ["_law_e"] []
  m__law_sort : mg "_law_sort" = some (.ref f__law_sort)
  f_Book___repr__ : Addr
  e_Book___repr__ : FuncData
  F_Book___repr__ : Fun K "__repr__" "Book.__repr__" s_Book___repr__ f_Book___repr__ e_Book___repr__
  b_Book___repr__ : Binds K e_Book___repr__ ["self"] []
  h_Book___repr__ : Meth K C_Book "__repr__" f_Book___repr__
  f__law_attribute : Addr
  e__law_attribute : FuncData
  F__law_attribute : Fun K "_law_attribute" "_law_attribute" s__law_attribute f__law_attribute e__law_attribute
  b__law_attribute : Binds K e__law_attribute ["_law_e", "_law_word_here"] []
  m__law_attribute : mg "_law_attribute" = some (.ref f__law_attribute)
  f__law_told : Addr
  e__law_told : FuncData
  F__law_told : Fun K "_law_told" "_law_told" s__law_told f__law_told e__law_told
  b__law_told : Binds K e__law_told ["_law_job"] []
  m__law_told : mg "_law_told" = some (.ref f__law_told)
  f__law_labels : Addr
  e__law_labels : FuncData
  F__law_labels : Fun K "_law_labels" "_law_labels" s__law_labels f__law_labels e__law_labels
  b__law_labels : Binds K e__law_labels ["_law_purse_here", "_law_many"] []
  m__law_labels : mg "_law_labels" = some (.ref f__law_labels)
  f__law_holds : Addr
  e__law_holds : FuncData
  F__law_holds : Fun K "_law_holds" "_law_holds" s__law_holds f__law_holds e__law_holds
  b__law_holds : Binds K e__law_holds ["_law_row_here", "_law_order_here"] []
  m__law_holds : mg "_law_holds" = some (.ref f__law_holds)
  f__law_flipped : Addr
  e__law_flipped : FuncData
  F__law_flipped : Fun K "_law_flipped" "_law_flipped" s__law_flipped f__law_flipped e__law_flipped
  b__law_flipped : Binds K e__law_flipped ["_law_row_here"] []
  m__law_flipped : mg "_law_flipped" = some (.ref f__law_flipped)
  f__law_signs : Addr
  e__law_signs : FuncData
  F__law_signs : Fun K "_law_signs" "_law_signs" s__law_signs f__law_signs e__law_signs
  b__law_signs : Binds K e__law_signs ["_law_purse_here", "_law_many"] []
  m__law_signs : mg "_law_signs" = some (.ref f__law_signs)
  f__law_rows : Addr
  e__law_rows : FuncData
  F__law_rows : Fun K "_law_rows" "_law_rows" s__law_rows f__law_rows e__law_rows
  b__law_rows : Binds K e__law_rows ["_law_purse_here", "_law_many", "_law_most", "_law_wrong"] []
  m__law_rows : mg "_law_rows" = some (.ref f__law_rows)
  f__law_spelled : Addr
  e__law_spelled : FuncData
  F__law_spelled : Fun K "_law_spelled" "_law_spelled" s__law_spelled f__law_spelled e__law_spelled
  b__law_spelled : Binds K e__law_spelled ["_law_labels_here", "_law_rows_here"] []
  m__law_spelled : mg "_law_spelled" = some (.ref f__law_spelled)
  f__law_book : Addr
  e__law_book : FuncData
  F__law_book : Fun K "_law_book" "_law_book" s__law_book f__law_book e__law_book
  b__law_book : Binds K e__law_book ["_law_purse_here", "_law_least", "_law_span", "_law_most"] []
  m__law_book : mg "_law_book" = some (.ref f__law_book)
  f_Book_text : Addr
  e_Book_text : FuncData
  F_Book_text : Fun K "text" "Book.text" s_Book_text f_Book_text e_Book_text
  b_Book_text : Binds K e_Book_text ["self"] []
  q_Book_text : Addr
  p_Book_text : PropOf K C_Book "text" q_Book_text f_Book_text
  f_Book_names : Addr
  e_Book_names : FuncData
  F_Book_names : Fun K "names" "Book.names" s_Book_names f_Book_names e_Book_names
  b_Book_names : Binds K e_Book_names ["self"] []
  q_Book_names : Addr
  p_Book_names : PropOf K C_Book "names" q_Book_names f_Book_names
  f_Book_rows : Addr
  e_Book_rows : FuncData
  F_Book_rows : Fun K "rows" "Book.rows" s_Book_rows f_Book_rows e_Book_rows
  b_Book_rows : Binds K e_Book_rows ["self"] []
  q_Book_rows : Addr
  p_Book_rows : PropOf K C_Book "rows" q_Book_rows f_Book_rows
  f_Book___str__ : Addr
  e_Book___str__ : FuncData
  F_Book___str__ : Fun K "__str__" "Book.__str__" s_Book___str__ f_Book___str__ e_Book___str__
  b_Book___str__ : Binds K e_Book___str__ ["self"] []
  h_Book___str__ : Meth K C_Book "__str__" f_Book___str__
  f_Book___eq__ : Addr
  e_Book___eq__ : FuncData
  F_Book___eq__ : Fun K "__eq__" "Book.__eq__" s_Book___eq__ f_Book___eq__ e_Book___eq__
  b_Book___eq__ : Binds K e_Book___eq__ ["self", "other"] []
  h_Book___eq__ : Meth K C_Book "__eq__" f_Book___eq__
  f__law_is : Addr
  e__law_is : FuncData
  F__law_is : Fun K "_law_is" "_law_is" s__law_is f__law_is e__law_is
  b__law_is : Binds K e__law_is ["_law_log", "_law_labels_here", "_law_rows_here"] []
  m__law_is : mg "_law_is" = some (.ref f__law_is)
  f_Book___init__ : Addr
  e_Book___init__ : FuncData
  F_Book___init__ : Fun K "__init__" "Book.__init__" s_Book___init__ f_Book___init__ e_Book___init__
  b_Book___init__ : Binds K e_Book___init__ ["self", "text"] []
  mk_Book : Mk K C_Book f_Book___init__
  f_Book_without : Addr
  e_Book_without : FuncData
  F_Book_without : Fun K "without" "Book.without" s_Book_without f_Book_without e_Book_without
  b_Book_without : Binds K e_Book_without ["self", "index"] []
  h_Book_without : Meth K C_Book "without" f_Book_without
  f_TooMany___init__ : Addr
  e_TooMany___init__ : FuncData
  F_TooMany___init__ : Fun K "__init__" "TooMany.__init__" s_TooMany___init__ f_TooMany___init__ e_TooMany___init__
  b_TooMany___init__ : Binds K e_TooMany___init__ ["self", "number"] []
  xj_TooMany : PySem.W.findIn K (.ref C_TooMany) "__init__" = some (some (.ref f_TooMany___init__))
  xy_TooMany : PySem.W.typeIn K (.ref f_TooMany___init__) = some (.type "function")
  f_Book_with_row : Addr
  e_Book_with_row : FuncData
  F_Book_with_row : Fun K "with_row" "Book.with_row" s_Book_with_row f_Book_with_row e_Book_with_row
  b_Book_with_row : Binds K e_Book_with_row ["self", "row"] []
  h_Book_with_row : Meth K C_Book "with_row" f_Book_with_row
  f__law_right : Addr
  e__law_right : FuncData
  F__law_right : Fun K "_law_right" "_law_right" s__law_right f__law_right e__law_right
  b__law_right : Binds K e__law_right ["_law_purse_here"] []
  m__law_right : mg "_law_right" = some (.ref f__law_right)
  f_law : Addr
  e_law : FuncData
  F_law : Fun K "law" "law" s_law f_law e_law
  b_law : Binds K e_law ["_law_script"] []
  m_law : mg "law" = some (.ref f_law)
  lc__law_right : Addr
  lt__law_right : Addr
  FC__law_right : FunC K "_law_right" "_law_right" s__law_right f__law_right e__law_right lc__law_right
  tts : List (Addr × Str)
  tabs : TabsOk tts
  hm__law_right : (lt__law_right, (envOfC "_law_right" (defScope s__law_right) 0 f__law_right (.ref lc__law_right)).qual ++ "<lambda>") ∈ tts
  n_abs : mg "abs" = none
  n_all : mg "all" = none
  n_bool : mg "bool" = none
  n_divmod : mg "divmod" = none
  n_int : mg "int" = none
  n_isinstance : mg "isinstance" = none
  n_len : mg "len" = none
  n_list : mg "list" = none
  n_max : mg "max" = none
  n_min : mg "min" = none
  n_range : mg "range" = none
  n_repr : mg "repr" = none
  n_sorted : mg "sorted" = none
  n_str : mg "str" = none
  n_tuple : mg "tuple" = none
  n_zip : mg "zip" = none
  t_LETTERS : Tok
  c_LETTERS : mg "LETTERS" = some (.str "abcdefghijklmnopqrstuvwxyz" t_LETTERS)
  t_MOST_LETTERS : Tok
  c_MOST_LETTERS : mg "MOST_LETTERS" = some (.int 8 t_MOST_LETTERS)
  t_MOST_ROWS : Tok
  c_MOST_ROWS : mg "MOST_ROWS" = some (.int 20 t_MOST_ROWS)
  t_MOST_RULES : Tok
  c_MOST_RULES : mg "MOST_RULES" = some (.int 8 t_MOST_RULES)
  t_SIGNS : Tok
  c_SIGNS : mg "SIGNS" = some (.str "+-." t_SIGNS)
  no_text : NoAttr K C_Book "_text"
  no_names : NoAttr K C_Book "_names"
  no_rows : NoAttr K C_Book "_rows"
  ins_Book : InsOk K C_Book
  os_Book : PySem.W.findIn K (.ref C_Book) "__str__" = some (some (.ref f_Book___str__))
  or_Book : PySem.W.findIn K (.ref C_Book) "__repr__" = some (some (.ref f_Book___repr__))
  oe_Book : PySem.W.findIn K (.ref C_Book) "__eq__" = some (some (.ref f_Book___eq__))
  is_Book : PySem.W.isFn K (.ref f_Book___str__) = true
  ir_Book : PySem.W.isFn K (.ref f_Book___repr__) = true
  ie_Book : PySem.W.isFn K (.ref f_Book___eq__) = true
  om_Book : PySem.W.mroIn K C_Book (.type "object") = some true
  on_Book : PySem.W.findIn K (.ref C_Book) "__ne__" = some (some (.builtin "object.__ne__"))
  ob_Book : PySem.W.findIn K (.ref C_Book) "__bool__" = some none
  ol_Book : PySem.W.findIn K (.ref C_Book) "__len__" = some none
  ct_Book : PySem.W.typeIn K (.ref C_Book) = some (.type "type")
  kn_Book : KBn K e_Book___init__ ["self", "text"] 1 ["text"] (fun us ws => us ++ ws) (fun vs zs => vs ++ zs)
  kn_Book_with_row : KBn K e_Book_with_row ["self", "row"] 1 ["row"] (fun us ws => us ++ ws) (fun vs zs => vs ++ zs)
  kn_Book_without : KBn K e_Book_without ["self", "index"] 1 ["index"] (fun us ws => us ++ ws) (fun vs zs => vs ++ zs)
end K02

namespace K02
open PySem PySem.Spec PyProof.Rows L2 Dw
variable [Tabs0]
/-- a row's signs, as codes -/
def isSign (c : Nat) : Prop := c = 43 ∨ c = 45 ∨ c = 46
structure RowOk (l : List Nat) (n : Nat) : Prop where
  len : l.length = n
  all : ∀ c ∈ l, isSign c
def sgn (l : List Nat) (k : Nat) : Nat := l.getD k 46
theorem ch_dot : (Str.ofString ".") = ch 46 := by decide +kernel
theorem ch_plus : (Str.ofString "+") = ch 43 := by decide +kernel
theorem sgn_at {l : List Nat} {n k : Nat} (h : l.length = n) (hk : k < n) : atI (tx l).cps.toList (k : Int) = some (sgn l k) := by
  have hl : k < l.length := by omega
  rw [tx_cps]
  refine atI_nat ?_
  unfold sgn
  rw [List.getElem?_eq_getElem hl, List.getD_eq_getElem?_getD, List.getElem?_eq_getElem hl]
  rfl
theorem sgn_is {l : List Nat} {n : Nat} (h : RowOk l n) (k : Nat) : isSign (sgn l k) := by
  unfold sgn
  rw [List.getD_eq_getElem?_getD]
  cases q : l[k]? with
  | none => exact .inr (.inr rfl)
  | some c => exact h.all c (List.mem_of_getElem? q)
theorem isSign.lt {c : Nat} (h : isSign c) : c < 1114112 := by rcases h with h | h | h <;> omega
/-- the signs of a row along an order, without the dots -/
def told (l : List Nat) (o : List Nat) : List Nat := (o.map (sgn l)).filter (fun c => !decide (c = 46))
/-- whether a row holds -/
def holdsB (l : List Nat) (o : List Nat) : Bool :=
  match told l o with
  | [] => true
  | c :: _ => decide (c = 43)
def ordD (o : List Nat) : List D := o.map fun (k : Nat) => D.int k
theorem small8 {n : Nat} (h : n ≤ 8) : n ≤ sizeLine := Nat.le_trans h (by decide)
theorem told_strs (l o : List Nat) : (o.filter fun k => !decide (ch (sgn l k) = Str.ofString ".")).map (fun k => D.str (ch (sgn l k))) = ((told l o).map ch).map D.str := by
  unfold told
  rw [List.filter_map, List.map_map, List.map_map]
  have e : (fun k => !decide (ch (sgn l k) = Str.ofString ".")) = ((fun c => !decide (c = 46)) ∘ sgn l) := by
    funext k
    show (!decide (ch (sgn l k) = Str.ofString ".")) = !decide (sgn l k = 46)
    rw [ch_dot, Bool.eq_iff_iff]
    simp [ch_eq]
  rw [e]
  rfl
theorem told_ok {l : List Nat} {n : Nat} (h : RowOk l n) (o : List Nat) : ∀ x ∈ (told l o).map ch, okS x := by
  intro x hx
  obtain ⟨c, hc, rfl⟩ := List.mem_map.mp hx
  obtain ⟨k, _, rfl⟩ := List.mem_map.mp (List.mem_filter.mp hc).1
  exact okS_ch (sgn_is h k).lt
def spHolds : Spc where
  ty := List Nat × List Nat × Bool
  args := fun x => [.str (tx x.1), if x.2.2 then .lst (ordD x.2.1) else .tup (ordD x.2.1)]
  ok := fun x => ∃ n, RowOk x.1 n ∧ n ≤ 8 ∧ x.2.1.length ≤ 8 ∧ ∀ k ∈ x.2.1, k < n
  rel := fun x d => d = .bl (holdsB x.1 x.2.1)
end K02

namespace K02
open PySem PySem.Spec PyProof.Rows L2 Dw
variable [Tabs0]
theorem d__law_holds {P : Program} {w : World} {K : PySem.W.Frag} {mg : Str → Option Value} {base : Heap} (T : Txt K w mg) : FnOk P w K mg base CX0 1 T.f__law_holds T.e__law_holds ["_law_row_here", "_law_order_here"] (toSp (spHolds)) := by
  refine fn_ok T.F__law_holds sc__law_holds (fun _ => rfl) fun cdv A outer s' H E hr => ?_
  refine ⟨_, (pss_cons (ps_setLc (i := 2) (own := [("_law_k", 3)]) rfl sc__law_holds.nd rfl rfl (sw_true rfl rfl rfl (by decide +kernel)) (piR K (pv 1)) (blkOk_by (own := [("_law_k", 3)]) (N := N__law_holds) (sc := (defScope s__law_holds)) (by decide +kernel)) (fun _ _ _ _ _ => pg_name (i := 3) sc__law_holds.nd rfl (Or.inl rfl)) (fun _ _ _ _ _ => pts_one (pt_cmpR (neA K hr.units) (pe_ix (ixA K) (pv 0) (pv 3) (fun _ _ => rfl)) pe_str (nomark _))) (fun _ _ _ _ _ => (pe_ix (ixA K) (pv 0) (pv 3) (fun _ _ => rfl)))) (pss_one (ps_ret (pe_or (pe_cmpR (eqA K hr.units) (pv 2) (pe_lst pa_nil) (nomark _)) (pe_one (pe_cmpR (eqA K hr.units) (pe_ix (ixA K) (pv 2) pe_int (fun _ _ => rfl)) pe_str (nomark _))))))), fun x hx => ?_⟩
  obtain ⟨x, o, l⟩ := x
  obtain ⟨n, hx, hn, ho, hk⟩ := hx
  have hx : RowOk x n := hx
  have ho : o.length ≤ 8 := ho
  have hk : ∀ k ∈ o, k < n := hk
  have hz : (tx x).length ≤ sizeLine := by rw [tx_len, hx.len]; exact small8 hn
  refine ds_seq (ds_asg (Ev.dl (EvN.ev (evn_lc (xs := o) (c := fun k : Nat => D.int k) (p := fun k => !decide (ch (sgn x k) = Str.ofString ".")) (f := fun k => .str (ch (sgn x k))) ?it (by omega) fun k hk' => ⟨[3], _, dg_name, fun i hi => hi,
    evt_test (ev_op (ev_op (ev_var rfl) (ev_var rfl) (dr2_ixS hz (sgn_at hx.len (hk k hk')))) ev_str ne_str'), fun _ => ev_op (ev_var rfl) (ev_var rfl) (dr2_ixS hz (sgn_at hx.len (hk k hk')))⟩)) ?_))
  case it =>
    cases l with
    | true => exact ej_list (ev_var rfl).b
    | false => exact ej_tup (ev_var rfl)
  rw [told_strs]
  have e0 := eq_strsL (K := K) (xs := (told x o).map ch) (ys := []) (told_ok hx o) (fun _ h => absurd h (by simp))
  have ht : holdsB x o = (decide ((told x o).map ch = []) || decide (ch ((told x o).getD 0 0) = Str.ofString "+")) := by
    unfold holdsB
    cases told x o with
    | nil => rfl
    | cons c r =>
      show decide (c = 43) = (decide (ch c :: r.map ch = []) || decide (ch c = Str.ofString "+"))
      rw [ch_plus, Bool.eq_iff_iff]
      simp [ch_eq]
  refine ds_ret (Ev.dl (ev_orV (b := decide (ch ((told x o).getD 0 0) = Str.ofString "+")) (ev_op (ev_var rfl) (evn_lst eva_nil (Nat.zero_le _)).ev e0) fun h => ev_op (ev_ix (ev_var rfl).b ev_int (d := .str (ch ((told x o).getD 0 0))) ?_) ev_str eq_str') ?_)
  · cases q : told x o with
    | nil => rw [q] at h; exact absurd h (by simp)
    | cons c r => exact atI_nat (j := 0) rfl
  · show D.bl _ = D.bl (holdsB x o)
    rw [ht]
end K02

namespace K02
open PySem PySem.Spec PyProof.Rows L2 Dw
variable [Tabs0]
/-! flipped -/
def flip1 (c : Nat) : Nat := if c = 43 then 45 else if c = 45 then 43 else 46
def flipped (l : List Nat) : List Nat := l.map flip1
theorem flip_get {c : Nat} (h : isSign c) : valV (mergeK [] ([(Str.ofString "+", Str.ofString "-"), (Str.ofString "-", Str.ofString "+"), (Str.ofString ".", Str.ofString ".")].map fun p => ((Sum.inr p.1 : Key), V.str p.2))) (Sum.inr (ch c)) = some (.str (ch (flip1 c))) := by
  rcases h with rfl | rfl | rfl <;> decide +kernel
theorem flip1_is {c : Nat} (h : isSign c) : isSign (flip1 c) := by
  rcases h with rfl | rfl | rfl <;> first | exact .inl rfl | exact .inr (.inl rfl) | exact .inr (.inr rfl)
def spFlip : Spc where
  ty := List Nat
  args := fun l => [.str (tx l)]
  ok := fun l => ∃ n, RowOk l n ∧ n ≤ 8
  rel := fun l d => d = .str (tx (flipped l))
def spSigns : Spc where
  ty := Nat
  args := fun n => [.purse, .int n]
  ok := fun n => n ≤ 8
  rel := fun n d => ∃ l, RowOk l n ∧ d = .str (tx l)
def spDraw : Spc where
  ty := Nat
  args := fun n => [.purse, .int n]
  ok := fun n => 0 < n ∧ n < 100000
  rel := fun n d => ∃ r : Nat, r < n ∧ d = .int r
end K02

namespace K02
open PySem PySem.Spec PyProof.Rows L2 Dw
variable [Tabs0]
theorem d__law_draw {P : Program} {w : World} {K : PySem.W.Frag} {mg : Str → Option Value} {base : Heap} (T : Txt K w mg) : FnOk P w K mg base CX0 1 T.f__law_draw T.e__law_draw ["_law_purse_here", "_law_many"] (toSp (spDraw)) := by
  refine fn_ok T.F__law_draw sc__law_draw (fun _ => rfl) fun cdv A outer s' H E hr => ?_
  refine ⟨_, (pss_cons (ps_if (pt_cmpR opGt (pe_ix (ixA K) (pv 0) pe_int (fun _ _ => rfl)) pe_int (nomark _)) (pss_cons (ps_asg (pe_callB call_divmod (by rfl) T.n_divmod (by decide +kernel) (pa_cons (pe_ix (ixA K) (pv 0) pe_int (fun _ _ => rfl)) (pa_cons (pv 1) pa_nil))) (tupA K 2 rfl (pgs_cons (pg_sub (pv 0) pe_int set_list) (pgs_cons (pg_name (i := 2) sc__law_draw.nd rfl (Or.inl rfl)) pgs_nil)))) (pss_one (ps_ret (pv 2)))) pss_nil) (pss_cons (ps_asg (pe_op op_mod (pe_callTy call_int1 (by rfl) T.n_int (by decide +kernel) (pa_cons (pe_op (plusE K) (pe_op opTimes (pe_ix (ixA K) (pv 0) pe_int (fun _ _ => rfl)) pe_int) pe_int) pa_nil)) pe_int) (pg_sub (pv 0) pe_int set_list)) (pss_one (ps_ret (pe_op op_mod (pe_callTy call_int1 (by rfl) T.n_int (by decide +kernel) (pa_cons (pe_op op_fdiv (pe_ix (ixA K) (pv 0) pe_int (fun _ _ => rfl)) pe_int) pa_nil)) (pv 1)))))), fun x hx => ?_⟩
  obtain ⟨x, rfl⟩ : ∃ n : Nat, n = x := ⟨x, rfl⟩
  obtain ⟨hn0, hn1⟩ := hx
  have hn0 : 0 < x := hn0
  have hn1 : x < 100000 := hn1
  refine fun F σ W Dr g l => ?_
  obtain ⟨v0, e0, a, ev, hp, nn, tb⟩ := g.val 0 .purse rfl
  obtain ⟨v1, e1, r1⟩ := g.val 1 (.int x) rfl
  subst ev
  rw [show v1 = V.int x from r1] at e1
  have l2 : 2 < σ.length := by rw [← g.len]; exact (show 2 < 3 by decide)
  obtain ⟨p, q, hp0, hq0, hq1, hH⟩ := (g.ok.pu a hp).2.2.purse nn
  have i0 : atI [V.int p, V.int q] 0 = some (V.int p) := atI_nat (j := 0) rfl
  have i1 : atI [V.int p, V.int q] 1 = some (V.int q) := atI_nat (j := 1) rfl
  have md : ∀ z : Int, (x : Int) ≠ 0 → ∃ r : Nat, r < x ∧ V.int (z % (x : Int)) = V.int r := fun z hz => ⟨(z % (x : Int)).toNat, by
    have h1 := Int.emod_nonneg z hz
    have h2 := Int.emod_lt_of_pos z (show (0 : Int) < x by omega)
    omega, by
    have h1 := Int.emod_nonneg z hz
    rw [Int.toNat_of_nonneg h1]⟩
  refine ⟨.ref a, e0, .inl ⟨a, _, 0, .int p, rfl, rfl, .of hH, i0, p, 0, rfl, rfl, _, rfl, ite2 (fun hpos => ?_) (fun _ => ?_)⟩⟩
  · refine ⟨.ref a, e0, .inl ⟨a, _, 0, .int p, rfl, rfl, .of hH, i0, .int x, e1, p, x, rfl, ⟨by omega, by omega⟩, fun t ht => ?_⟩⟩
    have na : a ≠ t := ne_of_none hH ht
    have s1 : Same W.H (upd W.H t (.tup [.int (p / x), .int (p % x)])) := same_upd ht
    obtain ⟨st, ok'⟩ := purse_step (x := p / x) (g.ok.same s1) hp nn (Int.ediv_nonneg hp0 (by omega)) hq0 hq1
    obtain ⟨r, hr1, hr2⟩ := md p (by omega)
    refine ⟨t, _, rfl, .of upd_same, rfl, .int (p / x), [.int (p % x)], rfl, .ref a, e0, ⟨a, _, 0, 0, rfl, rfl, (upd_ne na).trans hH, rfl, .int (p % x), [], rfl, rfl, ?_⟩⟩
    refine ⟨.int (p % x), List.getElem?_set_self l2, ?_⟩
    exact l.rt _ (Wd.at _ _) (.int r) ((Stp.of_same g.ok s1).trans st) ok' hr2 ⟨r, hr1, rfl⟩
  · refine ⟨.ref a, e0, .inl ⟨a, _, 1, .int q, rfl, rfl, .of hH, i1, .inl ⟨q, 48683, rfl, rfl, .inl ⟨by omega, by omega⟩, .inl (.inl ⟨q * 48683, 40503, rfl, rfl, .inl ⟨_, rfl, _, _, rfl, rfl, (show (0 : Int) < 2147483647 by decide), ?_⟩⟩)⟩⟩⟩
    have b0 := Int.emod_nonneg (q * 48683 + 40503) (show (2147483647 : Int) ≠ 0 by decide)
    have b1 := Int.emod_lt_of_pos (q * 48683 + 40503) (show (0 : Int) < 2147483647 by decide)
    obtain ⟨st, ok'⟩ := purse_step (x := p) (y := (q * 48683 + 40503) % 2147483647) g.ok hp nn hp0 b0 b1
    obtain ⟨r, hr1, hr2⟩ := md ((q * 48683 + 40503) % 2147483647 / 1024) (by omega)
    refine ⟨.ref a, e0, a, _, 1, 1, rfl, rfl, hH, rfl, ?_⟩
    refine ⟨.ref a, e0, .inl ⟨a, _, 1, .int ((q * 48683 + 40503) % 2147483647), rfl, rfl, .of upd_same, atI_nat (j := 1) rfl, _, 1024, rfl, rfl, ⟨by decide, by decide⟩, .inl ⟨_, rfl, .int x, e1, _, _, rfl, rfl, (show (0 : Int) < x by omega), ?_⟩⟩⟩
    exact l.rt _ (Wd.at _ _) (.int r) st ok' hr2 ⟨r, hr1, rfl⟩
end K02

namespace K02
open PySem PySem.Spec PyProof.Rows L2 Dw
variable [Tabs0]
theorem d__law_flipped {P : Program} {w : World} {K : PySem.W.Frag} {mg : Str → Option Value} {base : Heap} (T : Txt K w mg) : FnOk P w K mg base CX0 1 T.f__law_flipped T.e__law_flipped ["_law_row_here"] (toSp (spFlip)) := by
  refine fn_ok T.F__law_flipped sc__law_flipped (fun _ => rfl) fun cdv A outer s' H E hr => ?_
  refine ⟨_, (pss_one (ps_ret (joinA K pe_str (pe_lc (own := [("_law_sign", 1)]) rfl sc__law_flipped.nd (piR K (pv 0)) (blkOk_by (own := [("_law_sign", 1)]) (N := N__law_flipped) (sc := (defScope s__law_flipped)) (by decide +kernel)) (fun _ _ _ _ _ => pg_name (i := 1) sc__law_flipped.nd rfl (Or.inl rfl)) (fun _ _ _ _ _ => pts_nil) (fun _ _ _ _ _ => (pe_dget (hu_of hr) (pe_disp (pps_cons pe_str pe_str (pps_cons pe_str pe_str (pps_cons pe_str pe_str pps_nil))) (by rfl) (by rfl) (fun z => by cases z) (by decide)) (pv 1) (fun _ _ => rfl))))))), fun x hx => ?_⟩
  obtain ⟨l, rfl⟩ : ∃ l : List Nat, l = x := ⟨x, rfl⟩
  obtain ⟨n, hl, hn⟩ := hx
  have hl : RowOk l n := hl
  have it : Ei (iAnyR K (tVar 0)) (Gz0 2 (spFlip.args l)) (l.map fun c => D.str (ch c)) := by
    have := ej_str (K := K) (ta := tVar 0) (Γ := Gz0 2 (spFlip.args l)) (x := tx l) (ev_var rfl)
    rw [signs_tx, List.map_map] at this
    exact this
  refine ds_ret (Ev.dl (ev_join (x := Str.ofString "") (ys := (flipped l).map ch) ev_str (EvN.b ?_) ?_) ?_)
  · have e1 : (((flipped l).map ch).map D.str) = ((l.filter fun _ => true).map fun c => D.str (ch (flip1 c))) := by
      rw [List.filter_eq_self.mpr (fun _ _ => rfl)]
      unfold flipped
      rw [List.map_map, List.map_map]; rfl
    rw [e1]
    exact evn_lc (c := fun c => .str (ch c)) (p := fun _ => true) (f := fun c => .str (ch (flip1 c))) it (by rw [hl.len]; omega)
      fun c hc => ⟨[1], _, dg_name, fun i hi => hi, evt_yes, fun _ => ev_dget [(Str.ofString "+", Str.ofString "-"), (Str.ofString "-", Str.ofString "+"), (Str.ofString ".", Str.ofString ".")] rfl (by decide) (ev_var rfl) (flip_get (hl.all c hc))⟩
  · rw [chs_len]
    show (l.map flip1).length + ((l.map flip1).map ch).length * 0 ≤ _
    rw [List.length_map, hl.len]
    omega
  · show D.str _ = D.str _
    rw [join_chs]
end K02

namespace K02
open PySem PySem.Spec PyProof.Rows L2 Dw
variable [Tabs0]
theorem d__law_signs {P : Program} {w : World} {K : PySem.W.Frag} {mg : Str → Option Value} {base : Heap} (T : Txt K w mg) : FnOk P w K mg base CX0 2 T.f__law_signs T.e__law_signs ["_law_purse_here", "_law_many"] (toSp (spSigns)) := by
  refine fn_ok T.F__law_signs sc__law_signs (fun _ => rfl) fun cdv A outer s' H E hr => ?_
  refine ⟨_, (pss_one (ps_ret (joinA K pe_str (pe_lc (own := [("_law_k", 2)]) rfl sc__law_signs.nd (pi_range1 (by rfl) T.n_range (pa_cons (pv 1) pa_nil)) (blkOk_by (own := [("_law_k", 2)]) (N := N__law_signs) (sc := (defScope s__law_signs)) (by decide +kernel)) (fun _ _ _ _ _ => pg_name (i := 2) sc__law_signs.nd rfl (Or.inl rfl)) (fun _ _ _ _ _ => pts_nil) (fun _ _ _ _ _ => (pe_ix (ixA K) pe_str (pe_call (d__law_draw T) (hr.mono (by decide)) (by rfl) T.m__law_draw T.F__law_draw.kp T.b__law_draw .nil pass0 (pa_cons (pv 0) (pa_cons pe_int pa_nil))) (fun _ _ => rfl))))))), fun x hx => ?_⟩
  obtain ⟨n, rfl⟩ : ∃ n : Nat, n = x := ⟨x, rfl⟩
  have hn : n ≤ 8 := hx
  refine ds_ret (dl_join ev_str (dl_lc (di_range (dla_cons (Ev.dl (ev_var rfl) (dla_nil ⟨n, rfl, by omega, by rw [rng_length]; omega, fun i acc Γ' => Γ' = wipeG (Gz0 3 (spSigns.args n)) [2] ∧ ∃ l : List Nat, acc = (l.map ch).map D.str ∧ RowOk l i, ⟨rfl, [], rfl, rfl, fun c h => absurd h (by simp)⟩, fun i x acc Γ' hx' ⟨e, l, ea, hl⟩ => ?_, fun acc Γ' ⟨e, l, ea, hl⟩ => ?_⟩))))))
  · subst e
    refine ⟨[2], _, dg_name, fun i hi => hi, dlt_yes ⟨fun _ => ?_, fun h => nomatch h⟩⟩
    refine dl_op (Ev.dl ev_str (dl_call (dla_cons (Ev.dl (ev_var rfl) (dla_cons (Ev.dl ev_int (dla_nil ⟨(4 : Nat), rfl, ⟨by decide, by decide⟩, fun d hd => ?_⟩)))))))
    obtain ⟨r, hr', ed⟩ := hd
    subst ed
    have : ∃ c, isSign c ∧ atI (Str.ofString "+-..").cps.toList (r : Int) = some c := by
      rcases (show r = 0 ∨ r = 1 ∨ r = 2 ∨ r = 3 by omega) with rfl | rfl | rfl | rfl
      · exact ⟨43, .inl rfl, by decide +kernel⟩
      · exact ⟨45, .inr (.inl rfl), by decide +kernel⟩
      · exact ⟨46, .inr (.inr rfl), by decide +kernel⟩
      · exact ⟨46, .inr (.inr rfl), by decide +kernel⟩
    obtain ⟨c, hc, hat⟩ := this
    refine ⟨_, dr2_ixS (by decide +kernel) hat, rfl, l ++ [c], ?_, by rw [List.length_append, hl.len]; rfl, fun z hz => ?_⟩
    · rw [ea, List.map_append, List.map_append]; rfl
    · rcases List.mem_append.mp hz with hz | hz
      · exact hl.all z hz
      · rw [List.mem_singleton.mp hz]; exact hc
  · rw [rng_length] at hl
    refine ⟨l.map ch, congrArg D.lst ea, ?_, l, hl, by rw [join_chs]⟩
    rw [chs_len, List.length_map, hl.len]
    show n + n * 0 ≤ _
    omega
end K02

namespace K02
open PySem PySem.Spec PyProof.Rows L2 Dw
variable [Tabs0]
structure NameOk (l : List Nat) : Prop where
  lo : 1 ≤ l.length
  hi : l.length ≤ 8
  all : ∀ c ∈ l, 97 ≤ c ∧ c ≤ 122
theorem lettersS : Str.ofString "abcdefghijklmnopqrstuvwxyz" = tx ((List.range 26).map (97 + ·)) := by decide +kernel
theorem signsS : Str.ofString "+-." = tx [43, 45, 46] := by decide +kernel
theorem NameOk.len {l : List Nat} (h : NameOk l) : (tx l).length ≤ sizeLine := by rw [tx_len]; exact small8 h.hi
theorem RowOk.sz {l : List Nat} {n : Nat} (h : RowOk l n) (hn : n ≤ 8) : (tx l).length ≤ sizeLine := by rw [tx_len, h.len]; exact small8 hn
theorem ev_cast {t : TE} {Γ : Gam} {d d' : D} (h : d = d') (e : Ev t Γ d) : Ev t Γ d' := h ▸ e
def nameD (ls : List (List Nat)) : List D := ls.map fun l => D.str (tx l)
structure NamesOk (ls : List (List Nat)) : Prop where
  lo : 1 ≤ ls.length
  hi : ls.length ≤ 8
  all : ∀ l ∈ ls, NameOk l
  inc : ∀ p ∈ ls.zip (ls.drop 1), p.1 < p.2
theorem zip_names (ls ms : List (List Nat)) : zipD (nameD ls) (nameD ms) = (ls.zip ms).map fun p => D.tup [.str (tx p.1), .str (tx p.2)] := by
  unfold zipD nameD
  rw [List.zip_map, List.map_map]; rfl
end K02

namespace K02
open PySem PySem.Spec PyProof.Rows L2 Dw
variable [Tabs0]
theorem ev_notT {K : PySem.W.Frag} {t : TE} {Γ : Gam} {b : Bool} (h : EvT (tTru K t) Γ b) : Ev (tNotT K t) Γ (.bl (!b)) := fun F σ W Q g k => by
  have e := h F σ W (fun c H => Q (.bl (!c)) H) g fun H s => k _ H s rfl
  exact e
structure LotOk (o : List Nat) (m : Nat) : Prop where
  lt : ∀ k ∈ o, k < m
  inc : o.Pairwise (· < ·)
end K02

namespace K02
open PySem PySem.Spec PyProof.Rows L2 Dw
variable [Tabs0]
/-! plain data: what a claim or a certificate may be -/
mutual
def plW (z : Nat) : Nat → D → Bool
  | _, .non => true | _, .bl _ => true | _, .int _ => true | _, .str x => PyData.strOk x && decide (x.length ≤ 100000)
  | k + 1, .tup ds => decide (ds.length ≤ z) && plWs z k ds
  | k + 1, .lst ds => decide (ds.length ≤ z) && plWs z k ds
  | k + 1, .dct ks ds => decide (ds.length ≤ z) && plWs z k ds
  | 0, .tup _ => false | 0, .lst _ => false | 0, .dct _ _ => false
  | _, .obj _ _ _ => false | _, .raw _ => false | _, .purse => false | _, .rng _ _ => false | _, .scr _ _ => false | _, .tag _ => false | _, .tupN _ => false
def plWs (z : Nat) : Nat → List D → Bool
  | _, [] => true
  | k, d :: ds => plW z k d && plWs z k ds
end
abbrev plB := plW 60
abbrev plBs := plWs 60
theorem plWs_iff {z k : Nat} : ∀ {ds : List D}, plWs z k ds = true ↔ ∀ d ∈ ds, plW z k d = true
  | [] => by simp [plWs]
  | d :: ds => by
    have e : plWs z k (d :: ds) = (plW z k d && plWs z k ds) := by cases k <;> rfl
    rw [e, Bool.and_eq_true, plWs_iff (ds := ds)]
    simp
theorem plBs_iff {k : Nat} {ds : List D} : plBs k ds = true ↔ ∀ d ∈ ds, plB k d = true := plWs_iff
mutual
theorem plW_mono {z z' : Nat} (hz : z ≤ z') : ∀ (k m : Nat) (d : D), k ≤ m → plW z k d = true → plW z' m d = true
  | _, _, .non, _, _ => by unfold plW; rfl
  | _, _, .bl _, _, _ => by unfold plW; rfl
  | _, _, .int _, _, _ => by unfold plW; rfl
  | k, m, .str x, _, h => by
    have e : plW z k (.str x) = (PyData.strOk x && decide (x.length ≤ 100000)) := by cases k <;> rfl
    have e2 : plW z' m (.str x) = (PyData.strOk x && decide (x.length ≤ 100000)) := by cases m <;> rfl
    rw [e2, ← e, h]
  | k + 1, m + 1, .tup ds, hm, h => by
    have h : (decide (ds.length ≤ z) && plWs z k ds) = true := h
    show (decide (ds.length ≤ z') && plWs z' m ds) = true
    rw [Bool.and_eq_true] at h ⊢
    exact ⟨decide_eq_true (Nat.le_trans (of_decide_eq_true h.1) hz), plWs_mono hz k m ds (by omega) h.2⟩
  | k + 1, m + 1, .lst ds, hm, h => by
    have h : (decide (ds.length ≤ z) && plWs z k ds) = true := h
    show (decide (ds.length ≤ z') && plWs z' m ds) = true
    rw [Bool.and_eq_true] at h ⊢
    exact ⟨decide_eq_true (Nat.le_trans (of_decide_eq_true h.1) hz), plWs_mono hz k m ds (by omega) h.2⟩
  | k + 1, m + 1, .dct ks ds, hm, h => by
    have h : (decide (ds.length ≤ z) && plWs z k ds) = true := h
    show (decide (ds.length ≤ z') && plWs z' m ds) = true
    rw [Bool.and_eq_true] at h ⊢
    exact ⟨decide_eq_true (Nat.le_trans (of_decide_eq_true h.1) hz), plWs_mono hz k m ds (by omega) h.2⟩
  | 0, _, .tup _, _, h => nomatch h
  | 0, _, .lst _, _, h => nomatch h
  | 0, _, .dct _ _, _, h => nomatch h
  | k + 1, 0, .tup _, hm, _ => absurd hm (by omega)
  | k + 1, 0, .lst _, hm, _ => absurd hm (by omega)
  | k + 1, 0, .dct _ _, hm, _ => absurd hm (by omega)
  | k, _, .obj _ _ _, _, h => by cases k <;> exact nomatch h
  | k, _, .raw _, _, h => by cases k <;> exact nomatch h
  | k, _, .purse, _, h => by cases k <;> exact nomatch h
  | k, _, .rng _ _, _, h => by cases k <;> exact nomatch h
  | k, _, .scr _ _, _, h => by cases k <;> exact nomatch h
  | k, _, .tag _, _, h => by cases k <;> exact nomatch h
  | k, _, .tupN _, _, h => by cases k <;> exact nomatch h
theorem plWs_mono {z z' : Nat} (hz : z ≤ z') : ∀ (k m : Nat) (ds : List D), k ≤ m → plWs z k ds = true → plWs z' m ds = true
  | _, _, [], _, _ => by unfold plWs; rfl
  | k, m, d :: ds, hm, h => by
    have e : plWs z k (d :: ds) = (plW z k d && plWs z k ds) := by cases k <;> rfl
    have e2 : plWs z' m (d :: ds) = (plW z' m d && plWs z' m ds) := by cases m <;> rfl
    rw [e, Bool.and_eq_true] at h
    rw [e2, plW_mono hz k m d hm h.1, plWs_mono hz k m ds hm h.2]; rfl
end
theorem plB_mono (k m : Nat) (d : D) (h : k ≤ m) (q : plB k d = true) : plB m d = true := plW_mono (Nat.le_refl _) k m d h q
mutual
theorem plB_np : ∀ (k : Nat) (d : D), plB k d = true → noP d = true
  | _, .non, _ => rfl
  | _, .bl _, _ => rfl
  | _, .int _, _ => rfl
  | _, .str _, _ => rfl
  | k + 1, .tup ds, h => plBs_np k ds (by have h : (decide (ds.length ≤ 60) && plBs k ds) = true := h; rw [Bool.and_eq_true] at h; exact h.2)
  | k + 1, .lst ds, h => plBs_np k ds (by have h : (decide (ds.length ≤ 60) && plBs k ds) = true := h; rw [Bool.and_eq_true] at h; exact h.2)
  | k + 1, .dct _ ds, h => plBs_np k ds (by have h : (decide (ds.length ≤ 60) && plBs k ds) = true := h; rw [Bool.and_eq_true] at h; exact h.2)
  | 0, .tup _, h => nomatch h
  | 0, .lst _, h => nomatch h
  | 0, .dct _ _, h => nomatch h
  | k, .obj _ _ _, h => by cases k <;> exact nomatch h
  | _, .raw _, _ => rfl
  | k, .purse, h => by cases k <;> exact nomatch h
  | _, .rng _ _, _ => rfl
  | k, .scr _ _, h => by cases k <;> exact nomatch h
  | k, .tag _, h => by cases k <;> exact nomatch h
  | k, .tupN _, h => by cases k <;> exact nomatch h
theorem plBs_np : ∀ (k : Nat) (ds : List D), plBs k ds = true → noPs ds = true
  | _, [], _ => rfl
  | k, d :: ds, h => by
    have e : plBs k (d :: ds) = (plB k d && plBs k ds) := by cases k <;> rfl
    rw [e, Bool.and_eq_true] at h
    show (noP d && noPs ds) = true
    rw [plB_np k d h.1, plBs_np k ds h.2]; rfl
end
/-- a plain value -/
def Pv (d : D) : Prop := plB 12 d = true
theorem Pv.ty {d : D} (h : Pv d) : hasTy d = true := by
  cases d <;> first | rfl | exact nomatch h
theorem Pv.np {d : D} (h : Pv d) : noP d = true := plB_np _ _ h
theorem Pv.str {x : Str} (h : Pv (.str x)) : okS x ∧ x.length ≤ 100000 := by
  have h : (PyData.strOk x && decide (x.length ≤ 100000)) = true := h
  rw [Bool.and_eq_true, decide_eq_true_eq] at h
  exact h
theorem Pv.tup {ds : List D} (h : Pv (.tup ds)) : ds.length ≤ 60 ∧ ∀ d ∈ ds, Pv d := by
  have h : (decide (ds.length ≤ 60) && plBs 11 ds) = true := h
  rw [Bool.and_eq_true, decide_eq_true_eq] at h
  exact ⟨h.1, fun d hd => plB_mono 11 12 d (by decide) (plBs_iff.mp h.2 d hd)⟩
theorem np1 {d : D} {r : List D} (h : Pv d) (hr : noPs r = true) : noPs (d :: r) = true := by
  show (noP d && noPs r) = true
  rw [h.np, hr]; rfl
theorem pv_strs {l : List Nat} (h : ∀ c ∈ l, c < 1114112) (hz : l.length ≤ 100000) : Pv (.str (tx l)) := by
  show (PyData.strOk (tx l) && decide ((tx l).length ≤ 100000)) = true
  rw [show PyData.strOk (tx l) = true from okS_tx h, tx_len, decide_eq_true hz]; rfl
/-! what isinstance tells -/
def isStrB : D → Bool | .str _ => true | _ => false
def isIntB : D → Bool | .int _ => true | .bl _ => true | _ => false
def isBoolB : D → Bool | .bl _ => true | _ => false
section
variable {K : PySem.W.Frag} {d : D}
theorem kit_str (h : hasTy d = true) : PySem.W.kitOne K (tyD d) (.type "str") = some (isStrB d) := by cases d <;> first | rfl | exact nomatch h
theorem kit_int (h : hasTy d = true) : PySem.W.kitOne K (tyD d) (.type "int") = some (isIntB d) := by cases d <;> first | rfl | exact nomatch h
theorem kit_bool (h : hasTy d = true) : PySem.W.kitOne K (tyD d) (.type "bool") = some (isBoolB d) := by cases d <;> first | rfl | exact nomatch h
theorem str_of (h : isStrB d = true) : ∃ x, d = .str x := by cases d <;> first | exact ⟨_, rfl⟩ | exact nomatch h
end
def wholeB : D → Bool | .int _ => true | _ => false
theorem whole_eq (d : D) : (isIntB d && !isBoolB d) = wholeB d := by cases d <;> rfl
theorem whole_of {d : D} (h : wholeB d = true) : ∃ i, d = .int i := by cases d <;> first | exact ⟨_, rfl⟩ | exact nomatch h
def spWholeG : Spc where
  ty := D
  args := fun d => [d]
  ok := fun d => Pv d
  rel := fun d e => e = .bl (wholeB d)
def idxB : D → Int → Bool | .int i, m => decide (0 ≤ i) && decide (i < m) | _, _ => false
theorem idx_whole (d : D) (m : Int) : (wholeB d && idxB d m) = idxB d m := by cases d <;> first | rfl | exact Bool.true_and _
def spIndexG : Spc where
  ty := D × Nat
  args := fun x => [x.1, .int x.2]
  ok := fun x => Pv x.1
  rel := fun x e => e = .bl (idxB x.1 x.2)
/-- a text of some codes -/
def rowC (l : List Nat) : Bool := decide (1 ≤ l.length) && decide (l.length ≤ 8) && l.all fun c => decide (c ∈ [43, 45, 46])
def anyRowB : D → Bool | .str x => rowC x.cps.toList | _ => false
theorem rowC_ok {l : List Nat} : rowC l = true ↔ RowOk l l.length ∧ 1 ≤ l.length ∧ l.length ≤ 8 := by
  unfold rowC
  rw [Bool.and_eq_true, Bool.and_eq_true, decide_eq_true_eq, decide_eq_true_eq, List.all_eq_true]
  constructor
  · rintro ⟨⟨h1, h2⟩, h⟩
    refine ⟨⟨rfl, fun c hc => ?_⟩, h1, h2⟩
    have := of_decide_eq_true (h c hc)
    simp only [List.mem_cons, List.not_mem_nil, or_false] at this
    exact this
  · rintro ⟨h, h1, h2⟩
    refine ⟨⟨h1, h2⟩, fun c hc => decide_eq_true ?_⟩
    rcases h.all c hc with rfl | rfl | rfl <;> decide
def spAnyG : Spc where
  ty := D
  args := fun d => [d]
  ok := fun d => Pv d
  rel := fun d e => e = .bl (anyRowB d)
def lenB : D → Nat → Bool | .str x, n => decide (x.length = n) | _, _ => false
def rowB (d : D) (n : Nat) : Bool := anyRowB d && lenB d n
def spRowG : Spc where
  ty := D × Nat
  args := fun x => [x.1, .int x.2]
  ok := fun x => Pv x.1
  rel := fun x e => e = .bl (rowB x.1 x.2)
theorem rowB_iff {d : D} {n : Nat} : rowB d n = true ↔ ∃ l, d = .str (tx l) ∧ RowOk l n ∧ 1 ≤ n ∧ n ≤ 8 := by
  constructor
  · intro h
    unfold rowB at h
    rw [Bool.and_eq_true] at h
    cases d <;> first | exact absurd h.1 Bool.false_ne_true | skip
    rename_i x
    obtain ⟨h1, h2⟩ := h
    obtain ⟨r, a, b⟩ := rowC_ok.mp h1
    have h2 : decide (x.length = n) = true := h2
    rw [decide_eq_true_eq] at h2
    have e : x.cps.toList.length = n := by rw [← h2]; rfl
    rw [e] at r a b
    exact ⟨x.cps.toList, congrArg D.str (of_tx x), r, a, b⟩
  · rintro ⟨l, rfl, r, a, b⟩
    show (rowC (tx l).cps.toList && decide ((tx l).length = n)) = true
    rw [tx_cps, tx_len, r.len, decide_eq_true rfl, Bool.and_true]
    exact rowC_ok.mpr (by rw [r.len]; exact ⟨r, a, b⟩)
def letterC (c : Nat) : Bool := decide (c ∈ (List.range 26).map (97 + ·))
theorem letter_iff {c : Nat} : letterC c = true ↔ 97 ≤ c ∧ c ≤ 122 := by
  unfold letterC
  rw [decide_eq_true_eq, List.mem_map]
  constructor
  · rintro ⟨a, h, rfl⟩
    have := List.mem_range.mp h
    omega
  · rintro ⟨h1, h2⟩
    exact ⟨c - 97, List.mem_range.mpr (by omega), by omega⟩
def nmC (l : List Nat) : Bool := decide (1 ≤ l.length) && decide (l.length ≤ 8) && l.all letterC
theorem nmC_ok {l : List Nat} : nmC l = true ↔ NameOk l := by
  unfold nmC
  rw [Bool.and_eq_true, Bool.and_eq_true, decide_eq_true_eq, decide_eq_true_eq, List.all_eq_true]
  exact ⟨fun ⟨⟨h1, h2⟩, h⟩ => ⟨h1, h2, fun c hc => letter_iff.mp (h c hc)⟩, fun h => ⟨⟨h.lo, h.hi⟩, fun c hc => letter_iff.mpr (h.all c hc)⟩⟩
def nmB : D → Bool | .str x => nmC x.cps.toList | _ => false
def spNameG : Spc where
  ty := D
  args := fun d => [d]
  ok := fun d => Pv d
  rel := fun d e => e = .bl (nmB d)
theorem nmB_iff {d : D} : nmB d = true ↔ ∃ l, d = .str (tx l) ∧ NameOk l := by
  constructor
  · intro h
    cases d <;> first | exact absurd h Bool.false_ne_true | skip
    rename_i x
    exact ⟨x.cps.toList, congrArg D.str (of_tx x), nmC_ok.mp h⟩
  · rintro ⟨l, rfl, h⟩
    show nmC (tx l).cps.toList = true
    rw [tx_cps]
    exact nmC_ok.mpr h
end K02

namespace K02
open PySem PySem.Spec PyProof.Rows L2 Dw
variable [Tabs0]
theorem d_is_whole {P : Program} {w : World} {K : PySem.W.Frag} {mg : Str → Option Value} {base : Heap} (T : Txt K w mg) : FnOk P w K mg base CX0 1 T.f_is_whole T.e_is_whole ["value"] (toSp (spWholeG)) := by
  refine fn_ok T.F_is_whole sc_is_whole (fun _ => rfl) fun cdv A outer s' H E hr => ?_
  refine ⟨_, (pss_one (ps_ret (pe_and (pe_callB (isiA K) (by rfl) T.n_isinstance (by decide +kernel) (pa_cons (pv 0) (pa_cons (pe_bltn (v := .ty "int") (by rfl) T.n_int (by decide +kernel) rfl) pa_nil))) (pe_one (notA K (pe_callB (isiA K) (by rfl) T.n_isinstance (by decide +kernel) (pa_cons (pv 0) (pa_cons (pe_bltn (v := .ty "bool") (by rfl) T.n_bool (by decide +kernel) rfl) pa_nil)))))))), fun x hx => ?_⟩
  obtain ⟨d, rfl⟩ : ∃ l : D, l = x := ⟨x, rfl⟩
  have hd : Pv d := hx
  refine ds_ret (Ev.dl (ev_cast (congrArg D.bl (whole_eq d)) (ev_andV (a := isIntB d) (b := !isBoolB d) (ev_isi (ev_var rfl) ev_raw (.inl hd.ty) (.ty "int") (kit_int hd.ty)) fun _ => ev_notT (b := isBoolB d) (evt_tru_bl (ev_isi (ev_var rfl) ev_raw (.inl hd.ty) (.ty "bool") (kit_bool hd.ty))))) rfl)
end K02

namespace K02
open PySem PySem.Spec PyProof.Rows L2 Dw
variable [Tabs0]
theorem d_is_index {P : Program} {w : World} {K : PySem.W.Frag} {mg : Str → Option Value} {base : Heap} (T : Txt K w mg) : FnOk P w K mg base CX0 2 T.f_is_index T.e_is_index ["value", "many"] (toSp (spIndexG)) := by
  refine fn_ok T.F_is_index sc_is_index (fun _ => rfl) fun cdv A outer s' H E hr => ?_
  refine ⟨_, (pss_one (ps_ret (pe_and (pe_call (d_is_whole T) (hr.mono (by decide)) (by rfl) T.m_is_whole T.F_is_whole.kp T.b_is_whole .nil pass0 (pa_cons (pv 0) pa_nil)) (pe_one (pe_chain opLe opLt pe_int (pv 0) (pv 1)))))), fun x hx => ?_⟩
  obtain ⟨d, m⟩ := x
  have hd : Pv d := hx
  refine ds_ret (Ev.dl (ev_cast (congrArg D.bl (idx_whole d m)) (ev_andV (a := wholeB d) (b := idxB d m) (ev_call (s := spWholeG) (x := d) (eva_cons (ev_var rfl) eva_nil) (np1 hd rfl) hd fun d h => h) fun h => ?_)) rfl)
  obtain ⟨i, rfl⟩ := whole_of h
  exact ev_chain ev_int (ev_var rfl) (fun _ => ev_var rfl) dr2_le fun _ => lt_int'
end K02

namespace K02
open PySem PySem.Spec PyProof.Rows L2 Dw
variable [Tabs0]
theorem d_is_any_row {P : Program} {w : World} {K : PySem.W.Frag} {mg : Str → Option Value} {base : Heap} (T : Txt K w mg) : FnOk P w K mg base CX0 1 T.f_is_any_row T.e_is_any_row ["value"] (toSp (spAnyG)) := by
  refine fn_ok T.F_is_any_row sc_is_any_row (fun _ => rfl) fun cdv A outer s' H E hr => ?_
  refine ⟨_, (pss_cons (ps_if (PW.pt (pw_or (pt_not (truA K (pe_callB (isiA K) (by rfl) T.n_isinstance (by decide +kernel) (pa_cons (pv 0) (pa_cons (pe_bltn (v := .ty "str") (by rfl) T.n_str (by decide +kernel) rfl) pa_nil))))) (pw_or1 (pt_not (pt_chain opLe opLe pe_int (pe_callB (lenA K) (by rfl) T.n_len (by decide +kernel) (pa_cons (pv 0) pa_nil)) (pe_glob (v := .int 8) (by rfl) T.c_MOST_RULES ⟨_, rfl⟩)))))) (pss_one (ps_ret pe_bl)) pss_nil) (pss_one (ps_ret (pe_callB (allA K) (by rfl) T.n_all (by decide +kernel) (pa_cons (pe_lc (own := [("sign", 1)]) rfl sc_is_any_row.nd (piR K (pv 0)) (blkOk_by (own := [("sign", 1)]) (N := N_is_any_row) (sc := (defScope s_is_any_row)) (by decide +kernel)) (fun _ _ _ _ _ => pg_name (i := 1) sc_is_any_row.nd rfl (Or.inl rfl)) (fun _ _ _ _ _ => pts_nil) (fun _ _ _ _ _ => (pe_cmpR (inA K) (pv 1) (pe_glob (v := .str "+-.") (by rfl) T.c_SIGNS ⟨_, rfl⟩) (by rfl)))) pa_nil))))), fun x hx => ?_⟩
  obtain ⟨d, rfl⟩ : ∃ l : D, l = x := ⟨x, rfl⟩
  have hd : Pv d := hx
  by_cases hs : isStrB d = true
  · obtain ⟨s, rfl⟩ := str_of hs
    obtain ⟨l, rfl⟩ : ∃ l, s = tx l := ⟨_, of_tx s⟩
    have hz := hd.str.2
    rw [tx_len] at hz
    have hc : (decide ((1 : Int) ≤ ((tx l).length : Int)) && decide (((tx l).length : Int) ≤ 8)) = (decide (1 ≤ l.length) && decide (l.length ≤ 8)) := by
      rw [tx_len]
      congr 1
      · exact decide_eq_decide.mpr (by omega)
      · exact decide_eq_decide.mpr (by omega)
    refine ds_seq (ds_if (EvT.dl (b := !(decide (1 ≤ l.length) && decide (l.length ≤ 8))) ?_ ⟨fun h => ?_, fun h => ?_⟩))
    · have e := evt_or (Γ := Gz0 2 (spAnyG.args (.str (tx l)))) (a := false) (b := !(decide ((1 : Int) ≤ ((tx l).length : Int)) && decide (((tx l).length : Int) ≤ 8))) (evt_not (a := true) (evt_tru_bl (K := K) (ev_isi (K := K) (ta := tVar 0) (d := .str (tx l)) (ev_var rfl) ev_raw (.inl rfl) (.ty "str") rfl))) fun _ => evt_not (evt_chain (ta := tC (.int 1)) (tb := tCB (Dw.rLen K) (tCons (tVar 0) tNil)) (tc := tC (.int 8)) ev_int (ev_lenS (ev_var rfl) (small (by rw [tx_len]; exact hz))) (fun _ => ev_int) dr2_le fun _ => dr2_le)
      rw [hc] at e
      exact e
    · refine ds_ret (Ev.dl ev_bl ?_)
      show D.bl false = D.bl (rowC (tx l).cps.toList)
      unfold rowC
      rw [tx_cps, show (decide (1 ≤ l.length) && decide (l.length ≤ 8)) = false by rw [Bool.not_eq_true'] at h; exact h]; rfl
    · refine ds_next (ds_ret (Ev.dl (ev_all_lc (xs := l) (c := fun c => .str (ch c)) (b := fun c => decide (c ∈ [43, 45, 46])) ?_ (by omega) fun c hc => ⟨[1], _, dg_name, fun i hi => hi, evt_yes, ev_op (ev_var rfl) ev_str ?_⟩) ?_))
      · have := ej_str (K := K) (ta := tVar 0) (Γ := Gz0 2 (spAnyG.args (.str (tx l)))) (x := tx l) (ev_var rfl)
        rw [signs_tx, List.map_map] at this
        exact this
      · rw [signsS]; exact in_code
      · show D.bl _ = D.bl (rowC (tx l).cps.toList)
        unfold rowC
        rw [tx_cps, show (decide (1 ≤ l.length) && decide (l.length ≤ 8)) = true by rw [Bool.not_eq_false'] at h; exact h]; rfl
  · have hs : isStrB d = false := by simpa using hs
    refine ds_seq (ds_if (EvT.dl (b := true) (evt_or (a := true) (b := false) (evt_not (a := false) (evt_tru_bl (ev_isi (ev_var rfl) ev_raw (.inl hd.ty) (.ty "str") (by rw [kit_str hd.ty, hs])))) fun h => (nomatch h)) ⟨fun _ => ds_ret (Ev.dl ev_bl ?_), fun h => (nomatch h)⟩))
    cases d <;> first | rfl | exact nomatch hs
end K02

namespace K02
open PySem PySem.Spec PyProof.Rows L2 Dw
variable [Tabs0]
theorem d_is_row {P : Program} {w : World} {K : PySem.W.Frag} {mg : Str → Option Value} {base : Heap} (T : Txt K w mg) : FnOk P w K mg base CX0 2 T.f_is_row T.e_is_row ["value", "many"] (toSp (spRowG)) := by
  refine fn_ok T.F_is_row sc_is_row (fun _ => rfl) fun cdv A outer s' H E hr => ?_
  refine ⟨_, (pss_one (ps_ret (pe_and (pe_call (d_is_any_row T) (hr.mono (by decide)) (by rfl) T.m_is_any_row T.F_is_any_row.kp T.b_is_any_row .nil pass0 (pa_cons (pv 0) pa_nil)) (pe_one (pe_cmpR (eqA K hr.units) (pe_callB (lenA K) (by rfl) T.n_len (by decide +kernel) (pa_cons (pv 0) pa_nil)) (pv 1) (nomark _)))))), fun x hx => ?_⟩
  obtain ⟨d, n⟩ := x
  have hd : Pv d := hx
  refine ds_ret (Ev.dl (ev_andV (a := anyRowB d) (b := lenB d n) (ev_call (s := spAnyG) (x := d) (eva_cons (ev_var rfl) eva_nil) (np1 hd rfl) hd fun d h => h) fun h => ?_) rfl)
  cases d <;> first | exact absurd h Bool.false_ne_true | skip
  rename_i s
  refine ev_op (ev_lenS (ev_var rfl) (small hd.str.2)) (ev_var rfl) (eq_ib ?_)
  exact decide_eq_decide.mpr (by omega)
end K02

namespace K02
open PySem PySem.Spec PyProof.Rows L2 Dw
variable [Tabs0]
theorem d_is_name {P : Program} {w : World} {K : PySem.W.Frag} {mg : Str → Option Value} {base : Heap} (T : Txt K w mg) : FnOk P w K mg base CX0 1 T.f_is_name T.e_is_name ["value"] (toSp (spNameG)) := by
  refine fn_ok T.F_is_name sc_is_name (fun _ => rfl) fun cdv A outer s' H E hr => ?_
  refine ⟨_, (pss_cons (ps_if (PW.pt (pw_or (pt_not (truA K (pe_callB (isiA K) (by rfl) T.n_isinstance (by decide +kernel) (pa_cons (pv 0) (pa_cons (pe_bltn (v := .ty "str") (by rfl) T.n_str (by decide +kernel) rfl) pa_nil))))) (pw_or1 (pt_not (pt_chain opLe opLe pe_int (pe_callB (lenA K) (by rfl) T.n_len (by decide +kernel) (pa_cons (pv 0) pa_nil)) (pe_glob (v := .int 8) (by rfl) T.c_MOST_LETTERS ⟨_, rfl⟩)))))) (pss_one (ps_ret pe_bl)) pss_nil) (pss_one (ps_ret (pe_callB (allA K) (by rfl) T.n_all (by decide +kernel) (pa_cons (pe_lc (own := [("letter", 1)]) rfl sc_is_name.nd (piR K (pv 0)) (blkOk_by (own := [("letter", 1)]) (N := N_is_name) (sc := (defScope s_is_name)) (by decide +kernel)) (fun _ _ _ _ _ => pg_name (i := 1) sc_is_name.nd rfl (Or.inl rfl)) (fun _ _ _ _ _ => pts_nil) (fun _ _ _ _ _ => (pe_cmpR (inA K) (pv 1) (pe_glob (v := .str "abcdefghijklmnopqrstuvwxyz") (by rfl) T.c_LETTERS ⟨_, rfl⟩) (by rfl)))) pa_nil))))), fun x hx => ?_⟩
  obtain ⟨d, rfl⟩ : ∃ l : D, l = x := ⟨x, rfl⟩
  have hd : Pv d := hx
  by_cases hs : isStrB d = true
  · obtain ⟨s, rfl⟩ := str_of hs
    obtain ⟨l, rfl⟩ : ∃ l, s = tx l := ⟨_, of_tx s⟩
    have hz := hd.str.2
    rw [tx_len] at hz
    have hc : (decide ((1 : Int) ≤ ((tx l).length : Int)) && decide (((tx l).length : Int) ≤ 8)) = (decide (1 ≤ l.length) && decide (l.length ≤ 8)) := by
      rw [tx_len]
      congr 1
      · exact decide_eq_decide.mpr (by omega)
      · exact decide_eq_decide.mpr (by omega)
    refine ds_seq (ds_if (EvT.dl (b := !(decide (1 ≤ l.length) && decide (l.length ≤ 8))) ?_ ⟨fun h => ?_, fun h => ?_⟩))
    · have e := evt_or (Γ := Gz0 2 (spNameG.args (.str (tx l)))) (a := false) (b := !(decide ((1 : Int) ≤ ((tx l).length : Int)) && decide (((tx l).length : Int) ≤ 8))) (evt_not (a := true) (evt_tru_bl (K := K) (ev_isi (K := K) (ta := tVar 0) (d := .str (tx l)) (ev_var rfl) ev_raw (.inl rfl) (.ty "str") rfl))) fun _ => evt_not (evt_chain (ta := tC (.int 1)) (tb := tCB (Dw.rLen K) (tCons (tVar 0) tNil)) (tc := tC (.int 8)) ev_int (ev_lenS (ev_var rfl) (small (by rw [tx_len]; exact hz))) (fun _ => ev_int) dr2_le fun _ => dr2_le)
      rw [hc] at e
      exact e
    · refine ds_ret (Ev.dl ev_bl ?_)
      show D.bl false = D.bl (nmC (tx l).cps.toList)
      unfold nmC
      rw [tx_cps, show (decide (1 ≤ l.length) && decide (l.length ≤ 8)) = false by rw [Bool.not_eq_true'] at h; exact h]; rfl
    · refine ds_next (ds_ret (Ev.dl (ev_all_lc (xs := l) (c := fun c => .str (ch c)) (b := letterC) ?_ (by omega) fun c hc => ⟨[1], _, dg_name, fun i hi => hi, evt_yes, ev_op (ev_var rfl) ev_str ?_⟩) ?_))
      · have := ej_str (K := K) (ta := tVar 0) (Γ := Gz0 2 (spNameG.args (.str (tx l)))) (x := tx l) (ev_var rfl)
        rw [signs_tx, List.map_map] at this
        exact this
      · rw [lettersS]; exact in_code
      · show D.bl _ = D.bl (nmC (tx l).cps.toList)
        unfold nmC
        rw [tx_cps, show (decide (1 ≤ l.length) && decide (l.length ≤ 8)) = true by rw [Bool.not_eq_false'] at h; exact h]; rfl
  · have hs : isStrB d = false := by simpa using hs
    refine ds_seq (ds_if (EvT.dl (b := true) (evt_or (a := true) (b := false) (evt_not (a := false) (evt_tru_bl (ev_isi (ev_var rfl) ev_raw (.inl hd.ty) (.ty "str") (by rw [kit_str hd.ty, hs])))) fun h => (nomatch h)) ⟨fun _ => ds_ret (Ev.dl ev_bl ?_), fun h => (nomatch h)⟩))
    cases d <;> first | rfl | exact nomatch hs

end K02

namespace K02
open PySem PySem.Spec PyProof.Rows L2 Dw
variable [Tabs0]
def bookTx (ls rs : List (List Nat)) : List Nat := TL.joinL [32] ((TL.joinL [32] ls ++ [58]) :: rs)
def bookD (C : Addr) (ls rs : List (List Nat)) : D := .obj C ["_text", "_names", "_rows"] [.str (tx (bookTx ls rs)), .tup (nameD ls), .tup (nameD rs)]
structure BookOk (ls rs : List (List Nat)) : Prop where
  names : NamesOk ls
  few : rs.length ≤ 20
  rows : ∀ r ∈ rs, RowOk r ls.length
theorem kit_self {K : PySem.W.Frag} {C : Addr} : PySem.W.kitOne K (.ref C) (.ref C) = some true := by
  unfold PySem.W.kitOne
  rw [if_pos]
  first | exact beq_self_eq_true _ | simp | rfl
abbrev Bk := List (List Nat) × List (List Nat)
def spBNames (C : Addr) : Spc where
  ty := Bk
  args := fun x => [bookD C x.1 x.2]
  ok := fun _ => True
  rel := fun x d => d = .tup (nameD x.1)
def spBRows (C : Addr) : Spc where
  ty := Bk
  args := fun x => [bookD C x.1 x.2]
  ok := fun _ => True
  rel := fun x d => d = .tup (nameD x.2)
/-! signs fused -/
end K02

namespace K02
open PySem PySem.Spec PyProof.Rows L2 Dw
variable [Tabs0]
theorem d_Book_names {P : Program} {w : World} {K : PySem.W.Frag} {mg : Str → Option Value} {base : Heap} (T : Txt K w mg) : FnOk P w K mg base CX0 1 T.f_Book_names T.e_Book_names ["self"] (toSp (spBNames T.C_Book)) := by
  refine fn_ok T.F_Book_names sc_Book_names (fun _ => rfl) fun cdv A outer s' H E hr => ?_
  refine ⟨_, (pss_one (ps_ret (fldA K (pv 0)))), fun x hx => ?_⟩
  obtain ⟨ls, rs⟩ := x
  exact ds_ret (Ev.dl (ev_fld T.cl_Book T.no_names (ev_var rfl) (by rfl)) rfl)
end K02

namespace K02
open PySem PySem.Spec PyProof.Rows L2 Dw
variable [Tabs0]
theorem d_Book_rows {P : Program} {w : World} {K : PySem.W.Frag} {mg : Str → Option Value} {base : Heap} (T : Txt K w mg) : FnOk P w K mg base CX0 1 T.f_Book_rows T.e_Book_rows ["self"] (toSp (spBRows T.C_Book)) := by
  refine fn_ok T.F_Book_rows sc_Book_rows (fun _ => rfl) fun cdv A outer s' H E hr => ?_
  refine ⟨_, (pss_one (ps_ret (fldA K (pv 0)))), fun x hx => ?_⟩
  obtain ⟨ls, rs⟩ := x
  exact ds_ret (Ev.dl (ev_fld T.cl_Book T.no_rows (ev_var rfl) (by rfl)) rfl)
end K02

namespace K02
open PySem PySem.Spec PyProof.Rows L2 Dw
variable [Tabs0]
theorem np_name (ls : List (List Nat)) : noPs (nameD ls) = true := noPs_map (fun _ => rfl) ls
theorem np_ord (o : List Nat) : noPs (ordD o) = true := noPs_map (fun _ => rfl) o
theorem np_tup {ds : List D} (h : noPs ds = true) : noPs [.tup ds] = true := by show (noPs ds && true) = true; rw [h]; rfl
theorem np_book (C : Addr) (ls rs : List (List Nat)) : noPs [bookD C ls rs] = true := by
  show ((true && ((noPs (nameD ls)) && (noPs (nameD rs) && true))) && true) = true
  rw [np_name, np_name]; rfl
theorem joinL_len {m : Nat} : ∀ ls : List (List Nat), (∀ p ∈ ls, p.length ≤ m) → (TL.joinL [32] ls).length ≤ ls.length * (m + 1)
  | [], _ => Nat.zero_le _
  | [p], h => by
    have := h p (List.mem_singleton.mpr rfl)
    show p.length ≤ 1 * (m + 1)
    omega
  | p :: q :: r, h => by
    have h1 := h p List.mem_cons_self
    have h2 := joinL_len (q :: r) fun x hx => h x (List.mem_cons_of_mem _ hx)
    show (p ++ ([32] ++ TL.joinL [32] (q :: r))).length ≤ (List.length (q :: r) + 1) * (m + 1)
    rw [List.length_append, List.length_append, Nat.add_mul]
    show p.length + (1 + _) ≤ _
    omega
theorem joinL_mem {c : Nat} : ∀ ls : List (List Nat), c ∈ TL.joinL [32] ls → c = 32 ∨ ∃ p ∈ ls, c ∈ p
  | [], h => absurd h (by simp [TL.joinL])
  | [p], h => .inr ⟨p, List.mem_singleton.mpr rfl, h⟩
  | p :: q :: r, h => by
    have h : c ∈ p ++ ([32] ++ TL.joinL [32] (q :: r)) := h
    rcases List.mem_append.mp h with h | h
    · exact .inr ⟨p, List.mem_cons_self, h⟩
    · rcases List.mem_append.mp h with h | h
      · exact .inl (List.mem_singleton.mp h)
      · rcases joinL_mem (q :: r) h with h | ⟨x, hx, hc⟩
        · exact .inl h
        · exact .inr ⟨x, List.mem_cons_of_mem _ hx, hc⟩
theorem bookTx_eq (ls : List (List Nat)) : ∀ rs : List (List Nat), bookTx ls rs = TL.joinL [32] ls ++ ([58] ++ TL.joinL [32] ([] :: rs))
  | [] => rfl
  | q :: r => by
    show (TL.joinL [32] ls ++ [58]) ++ ([32] ++ TL.joinL [32] (q :: r)) = TL.joinL [32] ls ++ ([58] ++ ([] ++ ([32] ++ TL.joinL [32] (q :: r))))
    rw [List.nil_append, List.append_assoc]
theorem spaceS : Str.ofString " " = tx [32] := by decide +kernel
theorem colonS : Str.ofString ":" = tx [58] := by decide +kernel
theorem split_sp {ps : List (List Nat)} (hne : ps ≠ []) (h : ∀ p ∈ ps, 32 ∉ p) : Txt.split (tx (TL.joinL [32] ps)) (Str.ofString " ") = ps.map tx := by
  rw [spaceS]
  refine (SX.split_S (a := TL.joinL [32] ps) (b := [32]) (by simp) (by decide)).trans ?_
  rw [SX.spl_join hne h]; rfl
theorem part_sp {p q : List Nat} (h : 58 ∉ p) : Txt.partition (tx (p ++ ([58] ++ q))) (Str.ofString ":") = (tx p, tx [58], tx q) := by
  rw [colonS]
  exact SX.partition_some (by simp) (SX.par_head q h)
theorem BookOk.h58 {ls rs : List (List Nat)} (h : BookOk ls rs) : 58 ∉ TL.joinL [32] ls := fun hm => by
  rcases joinL_mem ls hm with h' | ⟨p, hp, hc⟩
  · cases h'
  · have := (h.names.all p hp).all 58 hc; omega
theorem BookOk.h32 {ls rs : List (List Nat)} (h : BookOk ls rs) : ∀ p ∈ ls, 32 ∉ p := fun p hp hc => by
  have := (h.names.all p hp).all 32 hc; omega
theorem BookOk.r32 {ls rs : List (List Nat)} (h : BookOk ls rs) : ∀ p ∈ [] :: rs, 32 ∉ p := fun p hp hc => by
  rcases List.mem_cons.mp hp with rfl | hp
  · exact absurd hc (by simp)
  · rcases (h.rows p hp).all 32 hc with h | h | h <;> cases h
theorem BookOk.hl {ls rs : List (List Nat)} (h : BookOk ls rs) : (TL.joinL [32] ls).length ≤ 72 := by
  have := joinL_len (m := 8) ls fun p hp => (h.names.all p hp).hi
  have := h.names.hi
  omega
theorem BookOk.tl {ls rs : List (List Nat)} (h : BookOk ls rs) : (TL.joinL [32] ([] :: rs)).length ≤ 189 := by
  have e := joinL_len (m := 8) ([] :: rs) fun p hp => by
    rcases List.mem_cons.mp hp with rfl | hp
    · exact Nat.zero_le _
    · rw [(h.rows p hp).len]; exact h.names.hi
  rw [List.length_cons] at e
  have := h.few
  omega
theorem BookOk.len {ls rs : List (List Nat)} (h : BookOk ls rs) : (tx (bookTx ls rs)).length ≤ 300 := by
  rw [tx_len, bookTx_eq, List.length_append, List.length_append]
  have := h.hl
  have := h.tl
  show _ + (1 + _) ≤ _
  omega
def spInit : Spc where
  ty := Bk
  args := fun x => [.str (tx (bookTx x.1 x.2))]
  ok := fun x => BookOk x.1 x.2
  rel := fun x d => d = .tup [.str (tx (bookTx x.1 x.2)), .tup (nameD x.1), .tup (nameD x.2)]
theorem nameD_map (ls : List (List Nat)) : (ls.map tx).map D.str = nameD ls := by rw [List.map_map]; rfl
end K02

namespace K02
open PySem PySem.Spec PyProof.Rows L2 Dw
variable [Tabs0]
structure FuOk (ls rs : List (List Nat)) (o : List Nat) : Prop where
  book : BookOk ls rs
  lot : LotOk o rs.length
end K02

namespace K02
open PySem PySem.Spec PyProof.Rows L2 Dw
variable [Tabs0]
def lots : Nat → List (List Nat)
  | 0 => [[]]
  | n + 1 => lots n ++ (lots n).map (· ++ [n])
theorem ordD_snoc (o : List Nat) (i : Nat) : ordD o ++ [D.int i] = ordD (o ++ [i]) := by
  unfold ordD
  rw [List.map_append]; rfl
theorem ordD_len (o : List Nat) : (ordD o).length = o.length := List.length_map ..
end K02

namespace K02
open PySem PySem.Spec PyProof.Rows L2 Dw
variable [Tabs0]
theorem erase_map {α β : Type} (f : α → β) : ∀ (l : List α) (i : Nat), (l.map f).eraseIdx i = (l.eraseIdx i).map f
  | [], i => rfl
  | a :: l, 0 => rfl
  | a :: l, i + 1 => congrArg (f a :: ·) (erase_map f l i)
theorem perm_erase {α : Type} {a : α} : ∀ {l : List α} {i : Nat}, l[i]? = some a → (a :: l.eraseIdx i).Perm l
  | [], i, h => by cases h
  | b :: l, 0, h => by
    have : b = a := by simpa using h
    subst this
    exact .refl _
  | b :: l, i + 1, h => (List.Perm.swap b a (l.eraseIdx i)).trans ((perm_erase (l := l) (i := i) (by simpa using h)).cons b)
def strs0 : List Str := ["a", "b", "cost", "far", "level", "near", "safe", "t", "width", "zzzzzzzz"]
def lab0 : List (List Nat) := strs0.map fun s => s.cps.toList
theorem lab0_D : nameD lab0 = strs0.map D.str := by
  unfold nameD lab0
  rw [List.map_map]
  exact List.map_congr_left fun s _ => congrArg D.str (of_tx s).symm
def nameB (l : List Nat) : Bool := decide (1 ≤ l.length) && decide (l.length ≤ 8) && l.all fun c => decide (97 ≤ c) && decide (c ≤ 122)
theorem nameB_ok {l : List Nat} (h : nameB l = true) : NameOk l := by
  unfold nameB at h
  rw [Bool.and_eq_true, Bool.and_eq_true, List.all_eq_true] at h
  exact ⟨of_decide_eq_true h.1.1, of_decide_eq_true h.1.2, fun c hc => by
    have := h.2 c hc
    rw [Bool.and_eq_true] at this
    exact ⟨of_decide_eq_true this.1, of_decide_eq_true this.2⟩⟩
theorem lab0_ok : ∀ l ∈ lab0, NameOk l := by
  have h : lab0.all nameB = true := by decide +kernel
  exact fun l hl => nameB_ok (List.all_eq_true.mp h l hl)
theorem lab0_nd : lab0.Nodup := by decide +kernel
theorem lab0_len : lab0.length = 10 := rfl
theorem lt_of_ne : ∀ a b : List Nat, a ≠ b → ¬ b < a → a < b
  | [], [], h, _ => absurd rfl h
  | [], b :: bs, _, _ => List.nil_lt_cons b bs
  | a :: as, [], _, h => absurd (List.nil_lt_cons a as) h
  | a :: as, b :: bs, h, h' => by
    rw [List.cons_lt_cons_iff] at h' ⊢
    by_cases e : a = b
    · subst e
      exact .inr ⟨rfl, lt_of_ne as bs (fun z => h (by rw [z])) fun z => h' (.inr ⟨rfl, z⟩)⟩
    · exact .inl (by
        have : ¬ b < a := fun z => h' (.inl z)
        omega)
theorem rising_inc : ∀ (x : Str) (r : List Str), risingS x r = true → (x :: r).Nodup → ∀ p ∈ (((x :: r).map fun s => s.cps.toList).zip (r.map fun s => s.cps.toList)), p.1 < p.2
  | x, [], _, _, p, hp => by cases hp
  | x, y :: r, h, nd, p, hp => by
    have h : (!ltCps y.cps.toList x.cps.toList && risingS y r) = true := h
    rw [Bool.and_eq_true, ltCps_eq, Bool.not_eq_true', decide_eq_false_iff_not] at h
    obtain ⟨n1, n2⟩ := List.nodup_cons.mp nd
    rcases List.mem_cons.mp hp with rfl | hp
    · exact lt_of_ne _ _ (fun z => n1 (by
        have z' : x.cps.toList = y.cps.toList := z
        have : x = y := by rw [of_tx x, of_tx y, z']
        rw [this]; exact List.mem_cons_self)) h.1
    · exact rising_inc y r h.2 n2 p hp
def spLabels : Spc where
  ty := Nat
  args := fun n => [.purse, .int n]
  ok := fun n => 1 ≤ n ∧ n ≤ 8
  rel := fun n d => ∃ ls, d = .lst (nameD ls) ∧ NamesOk ls ∧ ls.length = n
theorem nameD_len (ls : List (List Nat)) : (nameD ls).length = ls.length := List.length_map ..
theorem nodup_tx {l : List (List Nat)} (h : l.Nodup) : (l.map tx).Nodup := by
  rw [List.nodup_iff_pairwise_ne] at h ⊢
  exact List.pairwise_map.mpr (h.imp fun h z => h (tx_eq.mp z))
theorem names_of {zs : List Str} {acc left : List (List Nat)} {n : Nat} (hp : (acc ++ left).Perm lab0) (hz : zs.Perm (acc.map tx)) (hs : sortedS zs = true) (hl : acc.length = n) (h1 : 1 ≤ n) (h8 : n ≤ 8) :
    NamesOk (zs.map fun s => s.cps.toList) := by
  have ln : zs.length = n := by rw [hz.length_eq, List.length_map, hl]
  have nd : zs.Nodup := hz.nodup_iff.mpr (nodup_tx (List.nodup_append.mp (hp.nodup_iff.mpr lab0_nd)).1)
  refine ⟨by rw [List.length_map]; omega, by rw [List.length_map]; omega, fun l h => ?_, ?_⟩
  · obtain ⟨s, h1, rfl⟩ := List.mem_map.mp h
    obtain ⟨m, h2, rfl⟩ := List.mem_map.mp (hz.mem_iff.mp h1)
    show NameOk (tx m).cps.toList
    rw [tx_cps]
    exact lab0_ok m (hp.mem_iff.mp (List.mem_append_left _ h2))
  · cases zs with
    | nil => exact fun p hp => by cases hp
    | cons x r => exact rising_inc x r hs nd
end K02

namespace K02
open PySem PySem.Spec PyProof.Rows L2 Dw
variable [Tabs0]
theorem d__law_labels {P : Program} {w : World} {K : PySem.W.Frag} {mg : Str → Option Value} {base : Heap} (T : Txt K w mg) : FnOk P w K mg base CX0 2 T.f__law_labels T.e__law_labels ["_law_purse_here", "_law_many"] (toSp (spLabels)) := by
  refine fn_ok T.F__law_labels sc__law_labels (fun _ => rfl) fun cdv A outer s' H E hr => ?_
  refine ⟨_, (pss_cons (ps_set (i := 2) sc__law_labels.nd rfl (Or.inr rfl) (pe_lst (pa_cons pe_str (pa_cons pe_str (pa_cons pe_str (pa_cons pe_str (pa_cons pe_str (pa_cons pe_str (pa_cons pe_str (pa_cons pe_str (pa_cons pe_str (pa_cons pe_str pa_nil)))))))))))) (pss_one (ps_ret (pe_callB (sortedA K) (by rfl) T.n_sorted (by decide +kernel) (pa_cons (pe_lc (own := [("_law_k", 3)]) rfl sc__law_labels.nd (pi_range1 (by rfl) T.n_range (pa_cons (pv 1) pa_nil)) (blkOk_by (own := [("_law_k", 3)]) (N := N__law_labels) (sc := (defScope s__law_labels)) (by decide +kernel)) (fun _ _ _ _ _ => pg_name (i := 3) sc__law_labels.nd rfl (Or.inl rfl)) (fun _ _ _ _ _ => pts_nil) (fun _ _ _ _ _ => (bmA K PySem.F.plainAttrs_list PySem.F.slot_list_pop PySem.F.type_list_pop mt_popAt (pv 2) (pa_cons (pe_call (d__law_draw T) (hr.mono (by decide)) (by rfl) T.m__law_draw T.F__law_draw.kp T.b__law_draw .nil pass0 (pa_cons (pv 0) (pa_cons (pe_callB (lenA K) (by rfl) T.n_len (by decide +kernel) (pa_cons (pv 2) pa_nil)) pa_nil))) pa_nil)))) pa_nil))))), fun x hx => ?_⟩
  obtain ⟨n, rfl⟩ : ∃ l : Nat, l = x := ⟨x, rfl⟩
  obtain ⟨h1, h8⟩ := hx
  have h1 : 1 ≤ n := h1
  have h8 : n ≤ 8 := h8
  refine ds_seq (ds_asg_own (ds := nameD lab0) ?_ ?_)
  · rw [lab0_D]
    exact evn_lst (eva_cons ev_str (eva_cons ev_str (eva_cons ev_str (eva_cons ev_str (eva_cons ev_str (eva_cons ev_str (eva_cons ev_str (eva_cons ev_str (eva_cons ev_str (eva_cons ev_str eva_nil)))))))))) (small (show 10 ≤ 100000 by decide))
  refine ds_ret (dl_sortedS (dl_lc (di_range (dla_cons (Ev.dl (ev_var rfl) (dla_nil ⟨n, rfl, by omega, by rw [rng_length]; omega,
    fun i acc Γ' => ∃ ys left : List (List Nat), Γ' = [.val .purse, .val (.int n), .own (nameD left), .unset] ∧ acc = nameD ys ∧ (ys ++ left).Perm lab0 ∧ ys.length = i,
    ⟨[], lab0, rfl, rfl, .refl _, rfl⟩, fun i x acc Γ' hx' ⟨ys, left, e, ea, hp, hl⟩ => ?_, fun acc Γ' ⟨ys, left, e, ea, hp, hl⟩ => ?_⟩))))))
  · subst e
    obtain ⟨hi, rfl⟩ := rng_get hx'
    have hlen : left.length = 10 - i := by
      have := hp.length_eq
      rw [List.length_append, hl, lab0_len] at this
      omega
    refine ⟨[3], _, dg_name, fun i hi => hi, dlt_yes ⟨fun _ => ?_, fun h => nomatch h⟩⟩
    refine dl_popAt ⟨_, rfl⟩ (dla_cons (dl_call (s := spDraw) (dla_cons (Ev.dl (ev_var rfl) (dla_cons (Ev.dl (ev_len (evb_own (ds := nameD left) rfl)) (dla_nil ⟨(nameD left).length, rfl, ⟨by rw [nameD_len]; omega, by rw [nameD_len]; omega⟩, fun d hd => ?_⟩)))))))
    obtain ⟨r, hr1, rfl⟩ := hd
    rw [nameD_len] at hr1
    have hg : left[r]? = some left[r] := List.getElem?_eq_getElem hr1
    refine dla_nil ⟨r, r, nameD left, .str (tx left[r]), rfl, rfl, by omega, by omega, ?_, ?_, ys ++ [left[r]], left.eraseIdx r, ?_, ?_, ?_, ?_⟩
    · rw [nameD_len]
      unfold seqIndex?
      have : ¬ ((r : Int) < 0) := by omega
      simp only [this, if_false]
      rw [if_pos (by simp; omega)]
      rfl
    · unfold nameD
      rw [List.getElem?_map, hg]; rfl
    · show [Sl.val .purse, .val (.int n), .own ((nameD left).eraseIdx r), .unset] = _
      rw [show (nameD left).eraseIdx r = nameD (left.eraseIdx r) from erase_map _ left r]
    · rw [ea]; unfold nameD; rw [List.map_append]; rfl
    · rw [List.append_assoc]
      exact (List.Perm.append_left ys (perm_erase hg)).trans hp
    · rw [List.length_append, hl]; rfl
  · rw [rng_length] at hl
    refine ⟨ys.map tx, ?_, by rw [List.length_map]; omega, fun zs hz hs => ⟨zs.map fun s => s.cps.toList, ?_, names_of hp hz hs hl h1 h8, ?_⟩⟩
    · rw [ea, nameD_map]
    · unfold nameD
      rw [List.map_map]
      exact congrArg D.lst (List.map_congr_left fun s _ => congrArg D.str (of_tx s))
    · rw [List.length_map, hz.length_eq, List.length_map, hl]
end K02

namespace K02
open PySem PySem.Spec PyProof.Rows L2 Dw
variable [Tabs0]
def spRows : Spc where
  ty := Nat × Nat × Nat
  args := fun x => [.purse, .int x.1, .int x.2.1, .int x.2.2]
  ok := fun x => 1 ≤ x.1 ∧ x.1 ≤ 8 ∧ x.2.1 < 1000 ∧ 0 < x.2.2 ∧ x.2.2 < 1000
  rel := fun x d => ∃ rs, d = .lst (nameD rs) ∧ rs.length ≤ x.2.1 ∧ ∀ r ∈ rs, RowOk r x.1
theorem flipped_ok {l : List Nat} {n : Nat} (h : RowOk l n) : RowOk (flipped l) n := by
  refine ⟨by unfold flipped; rw [List.length_map, h.len], fun c hc => ?_⟩
  unfold flipped at hc
  obtain ⟨b, hb, rfl⟩ := List.mem_map.mp hc
  exact flip1_is (h.all b hb)
end K02

namespace K02
open PySem PySem.Spec PyProof.Rows L2 Dw
variable [Tabs0]
theorem d__law_rows {P : Program} {w : World} {K : PySem.W.Frag} {mg : Str → Option Value} {base : Heap} (T : Txt K w mg) : FnOk P w K mg base CX0 3 T.f__law_rows T.e__law_rows ["_law_purse_here", "_law_many", "_law_most", "_law_wrong"] (toSp (spRows)) := by
  refine fn_ok T.F__law_rows sc__law_rows (fun _ => rfl) fun cdv A outer s' H E hr => ?_
  refine ⟨_, (pss_cons (ps_par (i := 4) (j := 5) (by rfl) sc__law_rows.nd rfl rfl (by decide) rfl rfl (pa_cons (pe_listRg rfl (by rfl) T.n_list (prg_1 (by rfl) T.n_range (pv 1))) (pa_cons (pe_lst pa_nil) pa_nil)) (by rfl)) (pss_cons (ps_for PassesOwn.never rfl (pi_range1 (by rfl) T.n_range (pa_cons (pv 1) pa_nil)) (pg_name (i := 6) sc__law_rows.nd rfl (Or.inl rfl)) (pss_one (ps_expr (bmA K PySem.F.plainAttrs_list PySem.F.slot_list_append PySem.F.type_list_append mt_append (pv 5) (pa_cons (bmA K PySem.F.plainAttrs_list PySem.F.slot_list_pop PySem.F.type_list_pop mt_popAt (pv 4) (pa_cons (pe_call (d__law_draw T) (hr.mono (by decide)) (by rfl) T.m__law_draw T.F__law_draw.kp T.b__law_draw .nil pass0 (pa_cons (pv 0) (pa_cons (pe_callB (lenA K) (by rfl) T.n_len (by decide +kernel) (pa_cons (pv 4) pa_nil)) pa_nil))) pa_nil)) pa_nil))))) (pss_cons (ps_set (i := 7) sc__law_rows.nd rfl (Or.inl rfl) (pe_lst pa_nil)) (pss_cons (ps_for PassesOwn.never rfl (pi_range1 (by rfl) T.n_range (pa_cons (pe_call (d__law_draw T) (hr.mono (by decide)) (by rfl) T.m__law_draw T.F__law_draw.kp T.b__law_draw .nil pass0 (pa_cons (pv 0) (pa_cons (pe_op (plusE K) (pv 2) pe_int) pa_nil))) pa_nil)) (pg_name (i := 8) sc__law_rows.nd rfl (Or.inl rfl)) (pss_cons (ps_set (i := 9) sc__law_rows.nd rfl (Or.inl rfl) (pe_call (d__law_signs T) (hr.mono (by decide)) (by rfl) T.m__law_signs T.F__law_signs.kp T.b__law_signs .nil pass0 (pa_cons (pv 0) (pa_cons (pv 1) pa_nil)))) (pss_cons (ps_set (i := 10) sc__law_rows.nd rfl (Or.inl rfl) (pe_cmpR opGt (pe_call (d__law_draw T) (hr.mono (by decide)) (by rfl) T.m__law_draw T.F__law_draw.kp T.b__law_draw .nil pass0 (pa_cons (pv 0) (pa_cons (pv 3) pa_nil))) pe_int (nomark _))) (pss_one (ps_expr (bmA K PySem.F.plainAttrs_list PySem.F.slot_list_append PySem.F.type_list_append mt_append (pv 7) (pa_cons (pe_ifExp (PW.pt (pw_or (truA K (pe_call (d__law_holds T) (hr.mono (by decide)) (by rfl) T.m__law_holds T.F__law_holds.kp T.b__law_holds .nil pass0 (pa_cons (pv 9) (pa_cons (pv 5) pa_nil)))) (pw_or1 (pt_not (truA K (pv 10)))))) (pv 9) (pe_call (d__law_flipped T) (hr.mono (by decide)) (by rfl) T.m__law_flipped T.F__law_flipped.kp T.b__law_flipped .nil pass0 (pa_cons (pv 9) pa_nil))) pa_nil))))))) (pss_one (ps_ret (pv 7))))))), fun x hx => ?_⟩
  obtain ⟨n, most, wrong⟩ := x
  obtain ⟨h1, h8, hm, hw, hw2⟩ := hx
  have h1 : 1 ≤ n := h1
  have h8 : n ≤ 8 := h8
  have hm : most < 1000 := hm
  have hw : 0 < wrong := hw
  have hw2 : wrong < 1000 := hw2
  refine ds_seq (ds_par_oo (evn_listRg (n := n) (ev_var rfl) (by omega)) (evn_lst eva_nil (Nat.zero_le _)) ?_)
  refine ds_seq (ds_for (fun xs i Γ' => xs = rng n ∧ ∃ (left hid : List Nat) (s6 : Sl), Γ' = [.val .purse, .val (.int n), .val (.int most), .val (.int wrong), .own (ordD left), .own (ordD hid), s6, .unset, .unset, .unset, .unset] ∧ left.length + i = n ∧ hid.length = i ∧ (∀ k ∈ left, k < n) ∧ ∀ k ∈ hid, k < n)
    (di_range (dla_cons (Ev.dl (ev_var rfl) (dla_nil ⟨n, rfl, by omega, ⟨rfl, List.range n, [], _, rfl, List.length_range, rfl, fun k h => List.mem_range.mp h, fun k h => absurd h (by simp)⟩, fun i x Γ' hx' ⟨exs, left, hid, s6, e, l1, l2, k1, k2⟩ => ?_, fun Γ' ⟨exs, left, hid, s6, e, l1, l2, k1, k2⟩ => ?_⟩)))))
  · subst e
    obtain ⟨hi, rfl⟩ := rng_get hx'
    refine ⟨[6], _, dg_name, ds_drop (dl_append ⟨_, rfl⟩ (dla_cons (dl_popAt ⟨_, rfl⟩ (dla_cons (dl_call (s := spDraw) (dla_cons (Ev.dl (ev_var rfl) (dla_cons (Ev.dl (ev_len (evb_own (ds := ordD left) rfl)) (dla_nil ⟨(ordD left).length, rfl, ⟨by rw [ordD_len]; omega, by rw [ordD_len]; omega⟩, fun d hd => ?_⟩)))))))))) ⟩
    obtain ⟨r, hr1, rfl⟩ := hd
    rw [ordD_len] at hr1
    have hg : left[r]? = some left[r] := List.getElem?_eq_getElem hr1
    refine dla_nil ⟨r, r, ordD left, .int left[r], rfl, rfl, by omega, by omega, ?_, ?_, dla_nil ⟨_, ordD hid, rfl, rfl, ?_, rfl, left.eraseIdx r, hid ++ [left[r]], .val (.int i), ?_, ?_, ?_, ?_⟩⟩
    · rw [ordD_len]
      unfold seqIndex?
      have : ¬ ((r : Int) < 0) := by omega
      simp only [this, if_false]
      rw [if_pos (by simp; omega)]
      rfl
    · unfold ordD
      rw [List.getElem?_map, hg]; rfl
    · rw [ordD_len, l2]; exact Nat.lt_of_lt_of_le (by omega : i < 9) (by decide)
    · show [Sl.val .purse, .val (.int n), .val (.int most), .val (.int wrong), .own ((ordD left).eraseIdx r), .own (ordD hid ++ [.int left[r]]), .val (.int i), .unset, .unset, .unset, .unset] = _
      rw [show (ordD left).eraseIdx r = ordD (left.eraseIdx r) from erase_map _ left r, ordD_snoc]
    · rw [List.length_eraseIdx, if_pos hr1]; omega
    · rw [List.length_append, l2]; rfl
    · exact ⟨fun k hk => k1 k (List.mem_of_mem_eraseIdx hk), fun k hk => by
        rcases List.mem_append.mp hk with hk | hk
        · exact k2 k hk
        · rw [List.mem_singleton.mp hk]; exact k1 _ (List.getElem_mem hr1)⟩
  · subst e
    rw [rng_length] at l2
    refine ds_freeze 5 rfl (ds_seq (ds_asg_own (evn_lst eva_nil (Nat.zero_le _)) ?_))
    refine ds_seq (ds_for (fun xs i Γ' => xs.length ≤ most ∧ ∃ (rs : List (List Nat)) (s8 s9 s10 : Sl), Γ' = [.val .purse, .val (.int n), .val (.int most), .val (.int wrong), .own (ordD left), .val (.lst (ordD hid)), s6, .own (nameD rs), s8, s9, s10] ∧ rs.length = i ∧ ∀ r ∈ rs, RowOk r n)
      (di_range (dla_cons (dl_call (s := spDraw) (dla_cons (Ev.dl (ev_var rfl) (dla_cons (Ev.dl (ev_op (ev_var rfl) ev_int pl_int) (dla_nil ⟨most + 1, rfl, ⟨by omega, by omega⟩, fun d hd => ?_⟩)))))))))
    obtain ⟨r, hr1, rfl⟩ := hd
    refine dla_nil ⟨r, rfl, by omega, ⟨by rw [rng_length]; omega, [], _, _, _, rfl, rfl, fun k h => absurd h (by simp)⟩, fun i x Γ' hx' ⟨exs, rs, s8, s9, s10, e, p1, p2⟩ => ?_, fun Γ' ⟨exs, rs, s8, s9, s10, e, p1, p2⟩ => ?_⟩
    · subst e
      obtain ⟨hi, rfl⟩ := rng_get hx'
      refine ⟨[8], _, dg_name, ds_seq (ds_asg (dl_call (s := spSigns) (dla_cons (Ev.dl (ev_var rfl) (dla_cons (Ev.dl (ev_var rfl) (dla_nil ⟨n, rfl, h8, fun d hd => ?_⟩)))))))⟩
      obtain ⟨row, hrow, rfl⟩ := hd
      refine ds_seq (ds_asg (dl_op (dl_call (s := spDraw) (dla_cons (Ev.dl (ev_var rfl) (dla_cons (Ev.dl (ev_var rfl) (dla_nil ⟨wrong, rfl, ⟨hw, by omega⟩, fun d hd => ?_⟩))))))))
      obtain ⟨z, hz, rfl⟩ := hd
      refine Ev.dl ev_int ⟨_, dr2_gt, ?_⟩
      refine ds_drop (dl_append ⟨_, rfl⟩ (dla_cons (Ev.dl (ev_cast (d' := .str (tx (if (holdsB row hid || !decide ((0 : Int) < (z : Int))) = true then row else flipped row))) ?_ (ev_if (a := holdsB row hid || !decide ((0 : Int) < (z : Int))) (evt_or (evt_tru_bl (ev_call (s := spHolds) (x := (row, hid, true)) (eva_cons (ev_var rfl) (eva_cons (ev_var rfl) eva_nil)) ?_ ⟨n, hrow, h8, by rw [l2]; exact h8, k2⟩ fun d h => h)) fun _ => evt_not (evt_tru_bl (ev_var rfl))) (fun _ => ev_var (d := .str (tx row)) rfl) fun _ => ev_call (s := spFlip) (x := row) (eva_cons (ev_var rfl) eva_nil) rfl ⟨n, hrow, h8⟩ fun d h => h)) (dla_nil ⟨_, nameD rs, rfl, rfl, ?_, ?_⟩))))
      · cases (holdsB row hid || !decide ((0 : Int) < (z : Int))) <;> rfl
      · show ((noPs (ordD hid)) && true) = true
        rw [np_ord]; rfl
      · rw [nameD_len, p1]; exact Nat.lt_of_lt_of_le (by omega : i < 1001) (by decide)
      · refine ⟨exs, rs ++ [if (holdsB row hid || !decide ((0 : Int) < (z : Int))) = true then row else flipped row], .val (.int i), .val (.str (tx row)), .val (.bl (decide ((0 : Int) < (z : Int)))), ?_, by rw [List.length_append, p1]; rfl, fun q hq => ?_⟩
        · unfold nameD
          rw [List.map_append]; rfl
        · rcases List.mem_append.mp hq with hq | hq
          · exact p2 q hq
          · rw [List.mem_singleton.mp hq]
            cases (holdsB row hid || !decide ((0 : Int) < (z : Int)))
            · exact flipped_ok hrow
            · exact hrow
    · subst e
      exact ds_ret_own rfl ⟨rs, rfl, by rw [p1]; exact exs, p2⟩
end K02

namespace K02
open PySem PySem.Spec PyProof.Rows L2 Dw
variable [Tabs0]
def spSpelled : Spc where
  ty := Bk
  args := fun x => [.lst (nameD x.1), .lst (nameD x.2)]
  ok := fun x => BookOk x.1 x.2
  rel := fun x d => d = .str (tx (bookTx x.1 x.2))
theorem sum_tx {m : Nat} : ∀ ls : List (List Nat), (∀ p ∈ ls, p.length ≤ m) → ((ls.map tx).map (·.length)).sum ≤ ls.length * m
  | [], _ => Nat.zero_le _
  | p :: r, h => by
    have h1 := h p List.mem_cons_self
    have h2 := sum_tx r fun x hx => h x (List.mem_cons_of_mem _ hx)
    rw [List.map_cons, List.map_cons, List.sum_cons, tx_len, List.length_cons, Nat.add_mul]
    omega
theorem join_sp (ls : List (List Nat)) : Txt.join (Str.ofString " ") (ls.map tx) = tx (TL.joinL [32] ls) := by rw [spaceS, join_tx]
end K02

namespace K02
open PySem PySem.Spec PyProof.Rows L2 Dw
variable [Tabs0]
theorem d__law_spelled {P : Program} {w : World} {K : PySem.W.Frag} {mg : Str → Option Value} {base : Heap} (T : Txt K w mg) : FnOk P w K mg base CX0 1 T.f__law_spelled T.e__law_spelled ["_law_labels_here", "_law_rows_here"] (toSp (spSpelled)) := by
  refine fn_ok T.F__law_spelled sc__law_spelled (fun _ => rfl) fun cdv A outer s' H E hr => ?_
  refine ⟨_, (pss_one (ps_ret (joinA K pe_str (pe_op (plusE K) (pe_lst (pa_cons (pe_op (plusE K) (joinA K pe_str (pv 0)) pe_str) pa_nil)) (pe_callTy (listA K) (by rfl) T.n_list (by decide +kernel) (pa_cons (pv 1) pa_nil)))))), fun x hx => ?_⟩
  obtain ⟨ls, rs⟩ := x
  have hb : BookOk ls rs := hx
  have h8 := hb.names.hi
  have h20 := hb.few
  have hl := hb.hl
  have s1 := sum_tx (m := 8) ls fun p hp => (hb.names.all p hp).hi
  have s2 := sum_tx (m := 8) rs fun p hp => by rw [(hb.rows p hp).len]; exact h8
  refine ds_ret (Ev.dl (ev_cast (d := .str (Txt.join (Str.ofString " ") (((TL.joinL [32] ls ++ [58]) :: rs).map tx))) ?_ (ev_join ev_str (EvN.b (ds := (((TL.joinL [32] ls ++ [58]) :: rs).map tx).map D.str) ?_) ?_)) rfl)
  · rw [join_sp]; rfl
  · have e : (((TL.joinL [32] ls ++ [58]) :: rs).map tx).map D.str = [D.str (tx (TL.joinL [32] ls) ++ Str.ofString ":")] ++ nameD rs := by
      rw [colonS, tx_append, List.map_cons, List.map_cons, nameD_map]; rfl
    rw [e]
    refine pl_evn (EvN.b (evn_lst (eva_cons (ev_op (ev_cast (d' := .str (tx (TL.joinL [32] ls))) ?_ (ev_join (x := Str.ofString " ") (ys := ls.map tx) ev_str ?_ ?_)) ev_str (pl_str ?_)) eva_nil) (small (show 1 ≤ 100000 by decide)))) (EvN.b (evn_list (ev_var (d := .lst (nameD rs)) rfl).b)) ?_
    · rw [join_sp]
    · rw [nameD_map]; exact (ev_var rfl).b
    · rw [List.length_map, spaceS, tx_len]
      show _ + ls.length * 1 ≤ _
      omega
    · rw [tx_len, colonS, tx_len]
      show _ + 1 ≤ _
      exact small (by omega)
    · rw [nameD_len]
      show 1 + _ ≤ _
      exact small (by omega)
  · rw [List.map_cons, List.map_cons, List.sum_cons, List.length_cons, List.length_map, tx_len, List.length_append, spaceS, tx_len]
    show (_ + 1) + _ + (rs.length + 1) * 1 ≤ _
    omega
end K02

namespace K02
open PySem PySem.Spec PyProof.Rows L2 Dw
variable [Tabs0]
theorem dr2_pow {i j : Int} (h : CPow i j) : DR2 (rI CPow fun i j => .int (i ^ j.toNat)) (.int i) (.int j) (.int (i ^ j.toNat)) := dr2_rI h fun _ => rfl
theorem ds_runS {t u : TS} {F : Addr → Prop} {σ : L2.St} {W : Wd} {Dr : Ends} {Γ : Gam} {Γ' : Gam → Prop} (h : Ds t Γ ⟨Γ', fun _ => False, fun _ => False, fun _ => False⟩) (g : SR F Γ σ W) (k : ∀ σ' W' Γ2, Stp F W W' → SR F Γ2 σ' W' → Γ' Γ2 → u Dr σ' W'.H) : tSeq t u Dr σ W.H :=
  h F σ W { Dr with nx := u Dr } g ⟨k, fun _ _ _ _ _ _ h => h.elim, fun _ _ _ _ _ h => h.elim, fun _ _ _ _ _ h => h.elim⟩
theorem scr_at {ns : List Int} {spot : Nat} (h : spot < ns.length) : atI (ns.map V.int) (spot : Int) = some (.int (ns.getD spot 0)) := by
  refine atI_nat ?_
  rw [List.getElem?_map, List.getElem?_eq_getElem h, List.getD_eq_getElem?_getD, List.getElem?_eq_getElem h]; rfl
theorem seed_ok {s z : Int} : 0 ≤ (s * 41539 + z % 2147483647 + 101) % 2147483647 ∧ (s * 41539 + z % 2147483647 + 101) % 2147483647 < 2147483647 := ⟨Int.emod_nonneg _ (by decide), Int.emod_lt_of_pos _ (by decide)⟩
end K02

namespace K02
open PySem PySem.Spec PyProof.Rows L2 Dw
variable [Tabs0]
theorem d__law_purse {P : Program} {w : World} {K : PySem.W.Frag} {mg : Str → Option Value} {base : Heap} (T : Txt K w mg) : FnOk P w K mg base CX0 1 T.f__law_purse T.e__law_purse ["_law_script", "_law_spot"] (toPurse K) := by
  refine T.F__law_purse.ok sc__law_purse (fun vs H Q E ⟨F, W, ns, spot, _, _, r, _⟩ => by rw [← r.length]; rfl) fun cdv A outer s' H vs Q E hr h => ?_
  refine ⟨_, (pss_cons (ps_set (i := 2) sc__law_purse.nd rfl (Or.inl rfl) (pe_ifExp (pt_cmpR opLt (pv 1) (pe_callB (lenA K) (by rfl) T.n_len (by decide +kernel) (pa_cons (pv 0) pa_nil)) (nomark _)) (pe_ix (ixA K) (pv 0) (pv 1) (fun _ _ => rfl)) (pe_op opTimes pe_int (pe_op (plusE K) (pv 1) pe_int)))) (pss_cons (ps_set (i := 3) sc__law_purse.nd rfl (Or.inl rfl) (pe_op (plusE K) pe_int (pv 1))) (pss_cons (ps_for PassesOwn.never rfl (piR K (pe_op (plusE K) (pe_slice (slXA K) (pv 0) po_none (po_some pe_int)) (pe_lst (pa_cons (pv 2) pa_nil)))) (pg_name (i := 4) sc__law_purse.nd rfl (Or.inl rfl)) (pss_one (ps_set (i := 3) sc__law_purse.nd rfl (Or.inl rfl) (pe_op op_mod (pe_callTy call_int1 (by rfl) T.n_int (by decide +kernel) (pa_cons (pe_op (plusE K) (pe_op (plusE K) (pe_op opTimes (pv 3) pe_int) (pe_op op_mod (pe_callTy call_int1 (by rfl) T.n_int (by decide +kernel) (pa_cons (pv 4) pa_nil)) pe_int)) pe_int) pa_nil)) pe_int)))) (pss_one (ps_ret (pe_lst (pa_cons (pe_ifExp (pt_cmpR opGe (pe_callB call_abs (by rfl) T.n_abs (by decide +kernel) (pa_cons (pv 2) pa_nil)) (pe_op op_pow pe_int pe_int) (nomark _)) (pe_callB call_abs (by rfl) T.n_abs (by decide +kernel) (pa_cons (pv 2) pa_nil)) pe_int) (pa_cons (pv 3) pa_nil)))))))), ?_⟩
  obtain ⟨F, W, ns, spot, rfl, ok, r, hz, hs, hbit, k⟩ := h
  have g0 : SR F (Gz0 5 [.scr K (ns.map V.int), .int spot]) (L2.start N__law_purse vs) W := sr_start (N := N__law_purse) ok r
  have l0 : (ns.map V.int).length = ns.length := List.length_map ..
  refine ds_runS (Γ' := fun Γ => ∃ cell : Int, Γ = [.val (.scr K (ns.map V.int)), .val (.int spot), .val (.int cell), .unset, .unset]) (ds_asg (Ev.dl (ev_if (a := decide ((spot : Int) < ((ns.map V.int).length : Int))) (evt_test (ev_op (ev_var rfl) (ev_lenX (ev_var rfl)) lt_int')) (fun h => ev_ixX (z := ns.getD spot 0) (ev_var rfl) (ev_var rfl) (scr_at ?_)) fun h => ev_op ev_int (ev_op (ev_var rfl) ev_int pl_int) (times_int ?_)) ?_)) g0 fun σ1 W1 Γ1 st1 g1 ⟨cell, e1⟩ => ?_
  · have := of_decide_eq_true h
    rw [l0] at this; omega
  · exact .inl ⟨by decide, by decide⟩
  · by_cases h : (spot : Int) < ((ns.map V.int).length : Int)
    · rw [if_pos (decide_eq_true h)]; exact ⟨_, rfl⟩
    · rw [if_neg (fun z => h (of_decide_eq_true z))]; exact ⟨_, rfl⟩
  subst e1
  refine ds_runS (Γ' := fun Γ => ∃ seed : Int, Γ = [.val (.scr K (ns.map V.int)), .val (.int spot), .val (.int cell), .val (.int seed), .unset] ∧ 0 ≤ seed ∧ seed < 2147483647) (ds_asg (Ev.dl (ev_op ev_int (ev_var rfl) pl_int) ⟨907 + (spot : Int), rfl, by omega, by omega⟩)) g1 fun σ2 W2 Γ2 st2 g2 ⟨seed, e2, b0, b1⟩ => ?_
  subst e2
  refine ds_runS (Γ' := fun Γ => ∃ (seed : Int) (s4 : Sl), Γ = [.val (.scr K (ns.map V.int)), .val (.int spot), .val (.int cell), .val (.int seed), s4] ∧ 0 ≤ seed ∧ seed < 2147483647)
    (ds_for (fun xs i Γ' => (∀ x ∈ xs, ∃ z : Int, x = .int z) ∧ ∃ (seed : Int) (s4 : Sl), Γ' = [.val (.scr K (ns.map V.int)), .val (.int spot), .val (.int cell), .val (.int seed), s4] ∧ 0 ≤ seed ∧ seed < 2147483647)
      (dj_list (Ev.dl (EvN.ev (pl_evn (EvN.b (evn_sliceXY (hi := some 5) (ev_var rfl) eo_none (eo_some ev_int))) (EvN.b (evn_lst (eva_cons (ev_var rfl) eva_nil) (small (show 1 ≤ 100000 by decide)))) ?_)) ⟨_, rfl, ⟨fun x hx => ?_, seed, _, rfl, b0, b1⟩, fun i x Γ' hx' ⟨hx0, seed', s4, e, c0, c1⟩ => ?_, fun Γ' ⟨hx0, seed', s4, e, c0, c1⟩ => ⟨seed', s4, e, c0, c1⟩⟩))) g2 fun σ3 W3 Γ3 st3 g3 ⟨seed', s4, e3, c0, c1⟩ => ?_
  · unfold Dw.intD Dw.cutI
    rw [List.length_map, List.length_take, List.length_drop]
    show _ + 1 ≤ _
    exact small (by omega)
  · rcases List.mem_append.mp hx with hx | hx
    · obtain ⟨z, _, rfl⟩ := List.mem_map.mp hx
      exact ⟨z, rfl⟩
    · rw [List.mem_singleton.mp hx]; exact ⟨cell, rfl⟩
  · subst e
    obtain ⟨z, rfl⟩ := hx0 x (List.mem_of_getElem? hx')
    refine ⟨[4], _, dg_name, ds_asg (Ev.dl (ev_op (ev_int1 (ev_op (ev_op (ev_op (ev_var rfl) ev_int (times_int ?_)) (ev_op (ev_int1 (ev_var rfl)) ev_int (dr2_mod (by decide))) pl_int) ev_int pl_int)) ev_int (dr2_mod (by decide))) ⟨hx0, _, _, rfl, seed_ok.1, seed_ok.2⟩)⟩
    exact .inr ⟨by decide, by decide⟩
  subst e3
  have st := st1.trans (st2.trans st3)
  have ea : ∀ c : Int, 0 ≤ (if c < 0 then -c else c) := fun c => by by_cases h : c < 0 <;> simp [h] <;> omega
  have ep : (10 : Int) ^ (18 : Int).toNat = 1000000000000000000 := by decide +kernel
  refine evn_lst (ds := [.int (if (decide ((10 : Int) ^ (18 : Int).toNat ≤ (if cell < 0 then -cell else cell))) = true then (if cell < 0 then -cell else cell) else 0), .int seed']) (eva_cons (ev_cast ?_ (ev_if (a := decide ((10 : Int) ^ (18 : Int).toNat ≤ (if cell < 0 then -cell else cell))) (evt_test (ev_op (ev_abs (ev_var rfl)) (ev_op ev_int ev_int (dr2_pow ?_)) dr2_ge)) (fun _ => ev_abs (ev_var rfl)) fun _ => ev_int)) (eva_cons (ev_var rfl) eva_nil)) (small (show 2 ≤ 100000 by decide)) F σ3 W3 _ g3 fun a vs H' sm hn ha rl => ?_
  · cases decide ((10 : Int) ^ (18 : Int).toNat ≤ (if cell < 0 then -cell else cell)) <;> rfl
  · exact ⟨by decide, by decide, by decide⟩
  · have ev := RepL.ints (ns := [_, _]) |>.mp rl
    rw [ev] at ha
    refine k a _ _ W3 H' st g3.ok sm hn ha ?_ c0 c1
    cases decide ((10 : Int) ^ (18 : Int).toNat ≤ (if cell < 0 then -cell else cell))
    · exact Int.le_refl _
    · exact ea cell

end K02

namespace K02
open PySem PySem.Spec PyProof.Rows L2 Dw
variable [Tabs0]
/-! lots and rankings of any plain values -/
theorem eqv_ints : ∀ xs ys : List Int, PyData.eqvAll (pys (xs.map D.int)) (pys (ys.map D.int)) = decide (xs = ys)
  | [], [] => rfl
  | [], y :: ys => by
    show false = _
    simp
  | x :: xs, [] => by
    show false = _
    simp
  | x :: xs, y :: ys => by
    show ((x == y) && PyData.eqvAll (pys (xs.map D.int)) (pys (ys.map D.int))) = _
    rw [eqv_ints xs ys, Bool.eq_iff_iff]
    simp
/-! names of any plain values -/
def codesOf : D → List Nat | .str x => x.cps.toList | _ => []
def incB (ls : List (List Nat)) : Bool := (ls.zip (ls.drop 1)).all fun p => decide (p.1 < p.2)
def namesB (ds : List D) : Bool := ds.all nmB && incB (ds.map codesOf)
theorem all_names : ∀ {ds : List D}, ds.all nmB = true → ds = nameD (ds.map codesOf) ∧ ∀ l ∈ ds.map codesOf, NameOk l
  | [], _ => ⟨rfl, fun l h => absurd h (by simp)⟩
  | d :: r, h => by
    rw [List.all_cons, Bool.and_eq_true] at h
    obtain ⟨l, rfl, hl⟩ := nmB_iff.mp h.1
    obtain ⟨e, hr⟩ := all_names h.2
    have ec : codesOf (.str (tx l)) = l := tx_cps l
    rw [List.map_cons, ec]
    refine ⟨?_, fun x hx => ?_⟩
    · show D.str (tx l) :: r = D.str (tx l) :: nameD (r.map codesOf)
      rw [← e]
    · rcases List.mem_cons.mp hx with rfl | hx
      · exact hl
      · exact hr x hx
theorem codes_name (ls : List (List Nat)) : (nameD ls).map codesOf = ls := by
  unfold nameD
  rw [List.map_map]
  have e : (codesOf ∘ fun l => D.str (tx l)) = id := by funext l; exact tx_cps l
  rw [e, List.map_id]
theorem namesB_iff {ds : List D} : namesB ds = true ↔ ∃ ls, ds = nameD ls ∧ (∀ l ∈ ls, NameOk l) ∧ ∀ p ∈ ls.zip (ls.drop 1), p.1 < p.2 := by
  unfold namesB incB
  rw [Bool.and_eq_true]
  constructor
  · rintro ⟨h1, h2⟩
    obtain ⟨e, hn⟩ := all_names h1
    exact ⟨_, e, hn, fun p hp => of_decide_eq_true (List.all_eq_true.mp h2 p hp)⟩
  · rintro ⟨ls, rfl, h1, h2⟩
    rw [codes_name]
    refine ⟨?_, List.all_eq_true.mpr fun p hp => decide_eq_true (h2 p hp)⟩
    unfold nameD
    rw [List.all_map, List.all_eq_true]
    exact fun l hl => nmB_iff.mpr ⟨l, rfl, h1 l hl⟩
def spNamesG : Spc where
  ty := List D
  args := fun ds => [.tup ds]
  ok := fun ds => Pv (.tup ds)
  rel := fun ds e => e = .bl (namesB ds)
theorem cut_tail (ds : List D) : Dw.cutD ds (some 1) none = ds.drop 1 := by
  unfold Dw.cutD
  rw [HT.sIx_none]
  have e : HT.sIx ds.length 0 (some 1) = min 1 ds.length := by
    show (if (1 : Int) < 0 then ((1 : Int) + (ds.length : Int)).toNat else min (1 : Int).toNat ds.length) = _
    rw [if_neg (by decide)]; rfl
  rw [e]
  cases ds with
  | nil => rfl
  | cons d r =>
    rw [show min 1 (d :: r).length = 1 by simp [Nat.min_def], List.take_of_length_le (by simp)]
theorem names_ok {ls : List (List Nat)} (h : NamesOk ls) : namesB (nameD ls) = true := namesB_iff.mpr ⟨ls, rfl, h.all, h.inc⟩
theorem row_ok {l : List Nat} {n : Nat} (h : RowOk l n) (h1 : 1 ≤ n) (h8 : n ≤ 8) : rowB (.str (tx l)) n = true := rowB_iff.mpr ⟨l, rfl, h, h1, h8⟩
theorem pv_row {l : List Nat} {n : Nat} (h : RowOk l n) (h8 : n ≤ 8) : Pv (.str (tx l)) := pv_strs (fun c hc => (h.all c hc).lt) (by rw [h.len]; omega)
end K02

namespace K02
open PySem PySem.Spec PyProof.Rows L2 Dw
variable [Tabs0]
theorem d_are_names {P : Program} {w : World} {K : PySem.W.Frag} {mg : Str → Option Value} {base : Heap} (T : Txt K w mg) : FnOk P w K mg base CX0 2 T.f_are_names T.e_are_names ["values"] (toSp (spNamesG)) := by
  refine fn_ok T.F_are_names sc_are_names (fun _ => rfl) fun cdv A outer s' H E hr => ?_
  refine ⟨_, (pss_cons (ps_if (pt_not (truA K (pe_callB (allA K) (by rfl) T.n_all (by decide +kernel) (pa_cons (pe_lc (own := [("value", 3)]) rfl sc_are_names.nd (piR K (pv 0)) (blkOk_by (own := [("value", 3)]) (N := N_are_names) (sc := (defScope s_are_names)) (by decide +kernel)) (fun _ _ _ _ _ => pg_name (i := 3) sc_are_names.nd rfl (Or.inl rfl)) (fun _ _ _ _ _ => pts_nil) (fun _ _ _ _ _ => (pe_call (d_is_name T) (hr.mono (by decide)) (by rfl) T.m_is_name T.F_is_name.kp T.b_is_name .nil pass0 (pa_cons (pv 3) pa_nil)))) pa_nil)))) (pss_one (ps_ret pe_bl)) pss_nil) (pss_one (ps_ret (pe_callB (allA K) (by rfl) T.n_all (by decide +kernel) (pa_cons (pe_lc (own := [("one", 1), ("other", 2)]) rfl sc_are_names.nd (zipA K (by rfl) T.n_zip (pa_cons (pv 0) (pa_cons (pe_slice (slXA K) (pv 0) (po_some pe_int) po_none) pa_nil))) (blkOk_by (own := [("one", 1), ("other", 2)]) (N := N_are_names) (sc := (defScope s_are_names)) (by decide +kernel)) (fun _ _ _ _ _ => tupA K 2 rfl (pgs_cons (pg_name (i := 1) sc_are_names.nd rfl (Or.inl rfl)) (pgs_cons (pg_name (i := 2) sc_are_names.nd rfl (Or.inl rfl)) pgs_nil))) (fun _ _ _ _ _ => pts_nil) (fun _ _ _ _ _ => (pe_cmpR opLt (pv 1) (pv 2) (nomark _)))) pa_nil))))), fun x hx => ?_⟩
  obtain ⟨ds, rfl⟩ : ∃ l : List D, l = x := ⟨x, rfl⟩
  have hd : Pv (.tup ds) := hx
  obtain ⟨hz, hp⟩ := hd.tup
  refine ds_seq (ds_if (EvT.dl (b := !ds.all nmB) (evt_not (evt_tru_bl (ev_all_lc (K := K) (xs := ds) (c := fun d => d) (b := nmB) ?it (by omega) fun k hk => ⟨[3], _, dg_name, fun i hi => hi, evt_yes, ev_call (s := spNameG) (x := k) (eva_cons (ev_var rfl) eva_nil) (np1 (hp k hk) rfl) (hp k hk) fun d h => h⟩))) ⟨fun h => ?_, fun h => ds_next ?_⟩))
  case it => rw [List.map_id']; exact ej_tup (ev_var rfl)
  · refine ds_ret (Ev.dl ev_bl ?_)
    show D.bl false = D.bl (namesB ds)
    unfold namesB
    rw [Bool.not_eq_true'] at h
    rw [h]; rfl
  · rw [Bool.not_eq_false'] at h
    obtain ⟨e, hn⟩ := all_names h
    generalize hls : ds.map codesOf = ls at e hn
    subst e
    have el : (nameD ls).length = ls.length := List.length_map ..
    refine ds_ret (Ev.dl (ev_all_lc (xs := ls.zip (ls.drop 1)) (c := fun p => .tup [.str (tx p.1), .str (tx p.2)]) (b := fun p => decide (p.1 < p.2)) ?_ ?_ ?_) ?_)
    · rw [← zip_names]
      have e : nameD (ls.drop 1) = Dw.cutD (nameD ls) (some 1) none := by
        rw [cut_tail]
        unfold nameD
        rw [List.map_drop]
      rw [e]
      exact ei_zipT (ev_var rfl) (ev_sliceTY (ev_var rfl) (eo_some ev_int) eo_none)
    · rw [List.length_zip]; omega
    · intro p hp
      exact ⟨[1] ++ [2], _, dg_tup2 dg_name dg_name, fun i hi => hi, evt_yes, ev_op (ev_var rfl) (ev_var rfl) lt_tx⟩
    · show D.bl (incB ls) = D.bl (namesB (nameD ls))
      unfold namesB
      rw [h, codes_name]; rfl

end K02

namespace K02
open PySem PySem.Spec PyProof.Rows L2 Dw
variable [Tabs0]
/-! the layers -/
def rowAt (rs : List (List Nat)) (i : Nat) : List Nat := rs.getD i []
def minB (rs : List (List Nat)) (still : List Nat) (k : Nat) : Bool := still.any fun i => decide (sgn (rowAt rs i) k = 45)
def plusB (rs : List (List Nat)) (lay : List Nat) (i : Nat) : Bool := lay.any fun k => decide (sgn (rowAt rs i) k = 43)
def openB (rs : List (List Nat)) (i : Nat) : Bool := (rowAt rs i).any fun c => !decide (c = 46)
def open0 (rs : List (List Nat)) : List Nat := (List.range rs.length).filter (openB rs)
def layF (rs : List (List Nat)) : Nat → List (List Nat) → List Nat → List Nat → List (List Nat) × List Nat
  | 0, made, _, still => (made, still)
  | f + 1, made, left, still =>
    if still = [] then (if left = [] then made else made ++ [left], [])
    else if left.filter (fun k => !minB rs still k) = [] then (made, still)
    else layF rs f (made ++ [left.filter fun k => !minB rs still k]) (left.filter (minB rs still)) (still.filter fun i => !plusB rs (left.filter fun k => !minB rs still k) i)
def splitM (rs : List (List Nat)) (n : Nat) : List (List Nat) × List Nat := layF rs (n + 1) [] (List.range n) (open0 rs)
/-- a row that some layer settles, all ahead of it being dots, and none of it a minus -/
def Settled (rs : List (List Nat)) (made : List (List Nat)) (i : Nat) : Prop := ∃ pre lay post, made = pre ++ lay :: post ∧ (∀ l ∈ pre, ∀ k ∈ l, sgn (rowAt rs i) k = 46) ∧ (∀ k ∈ lay, sgn (rowAt rs i) k ≠ 45) ∧ ∃ k ∈ lay, sgn (rowAt rs i) k = 43
structure LayI (rs : List (List Nat)) (n : Nat) (made : List (List Nat)) (left still : List Nat) : Prop where
  perm : (made.flatten ++ left).Perm (List.range n)
  ne : ∀ l ∈ made, l ≠ []
  sub : still.Sublist (open0 rs)
  dots : ∀ i ∈ still, ∀ l ∈ made, ∀ k ∈ l, sgn (rowAt rs i) k = 46
  done : ∀ i ∈ open0 rs, i ∉ still → Settled rs made i
  inc : left.Sublist (List.range n)
theorem Settled.more {rs made i} (l : List (List Nat)) (h : Settled rs made i) : Settled rs (made ++ l) i := by
  obtain ⟨pre, lay, post, rfl, h1, h2, h3⟩ := h
  exact ⟨pre, lay, post ++ l, by simp, h1, h2, h3⟩
theorem filter_split (p : Nat → Bool) : ∀ l : List Nat, ((l.filter fun k => !p k) ++ l.filter p).Perm l
  | [] => .refl _
  | a :: l => by
    have ih := filter_split p l
    cases h : p a with
    | true =>
      rw [List.filter_cons_of_neg (by simp [h]), List.filter_cons_of_pos h]
      exact (List.perm_middle).trans (ih.cons a)
    | false =>
      rw [List.filter_cons_of_pos (by simp [h]), List.filter_cons_of_neg (by simp [h])]
      exact ih.cons a
theorem LayI.next {rs n made left still} (hs : ∀ i c, sgn (rowAt rs i) c = 43 ∨ sgn (rowAt rs i) c = 45 ∨ sgn (rowAt rs i) c = 46) (h : LayI rs n made left still) (hl : left.filter (fun k => !minB rs still k) ≠ []) :
    LayI rs n (made ++ [left.filter fun k => !minB rs still k]) (left.filter (minB rs still)) (still.filter fun i => !plusB rs (left.filter fun k => !minB rs still k) i) := by
  have nomin : ∀ i ∈ still, ∀ k ∈ left.filter (fun k => !minB rs still k), sgn (rowAt rs i) k ≠ 45 := fun i hi k hk z => by
    have h1 := (List.mem_filter.mp hk).2
    have : minB rs still k = true := List.any_eq_true.mpr ⟨i, hi, decide_eq_true z⟩
    rw [this] at h1; cases h1
  refine ⟨?_, fun l hm => ?_, (List.filter_sublist).trans h.sub, fun i hi l hm k hk => ?_, fun i hi hn => ?_, (List.filter_sublist).trans h.inc⟩
  · rw [List.flatten_append, List.append_assoc]
    refine (List.Perm.append_left _ ?_).trans h.perm
    simp only [List.flatten_cons, List.flatten_nil, List.append_nil]
    exact filter_split _ left
  · rcases List.mem_append.mp hm with hm | hm
    · exact h.ne l hm
    · rw [List.mem_singleton.mp hm]; exact hl
  · obtain ⟨hi, hp⟩ := List.mem_filter.mp hi
    rcases List.mem_append.mp hm with hm | hm
    · exact h.dots i hi l hm k hk
    · rw [List.mem_singleton.mp hm] at hk
      rcases hs i k with z | z | z
      · have : plusB rs (left.filter fun k => !minB rs still k) i = true := List.any_eq_true.mpr ⟨k, hk, decide_eq_true z⟩
        rw [this] at hp; cases hp
      · exact absurd z (nomin i hi k hk)
      · exact z
  · by_cases hi2 : i ∈ still
    · have hp : plusB rs (left.filter fun k => !minB rs still k) i = true := by
        cases q : plusB rs (left.filter fun k => !minB rs still k) i with
        | true => rfl
        | false => exact absurd (List.mem_filter.mpr ⟨hi2, by rw [q]; rfl⟩) hn
      obtain ⟨k, hk, z⟩ := List.any_eq_true.mp hp
      exact ⟨made, _, [], by simp, fun l hm k hk => h.dots i hi2 l hm k hk, nomin i hi2, k, hk, of_decide_eq_true z⟩
    · exact (h.done i hi hi2).more _
theorem lay_len {rs : List (List Nat)} {left still : List Nat} (hl : left.filter (fun k => !minB rs still k) ≠ []) : (left.filter (minB rs still)).length < left.length := by
  have := (filter_split (minB rs still) left).length_eq
  rw [List.length_append] at this
  have h2 : 0 < (left.filter fun k => !minB rs still k).length := List.length_pos_iff.mpr hl
  omega
/-- layers each in some order -/
def walked (g : List Nat → List Nat) (ls : List (List Nat)) : List Nat := (ls.map g).flatten
/-! all orders -/
end K02

namespace K02
open PySem PySem.Spec PyProof.Rows L2 Dw
variable [Tabs0]
theorem np_tn {o : List (List Nat)} {r : List D} (h : noPs r = true) : noPs (.tup (nameD o) :: r) = true := by show (noPs (nameD o) && noPs r) = true; rw [np_name, h]; rfl
theorem np_ln {o : List (List Nat)} {r : List D} (h : noPs r = true) : noPs (.lst (nameD o) :: r) = true := by show (noPs (nameD o) && noPs r) = true; rw [np_name, h]; rfl
end K02

namespace K02
open PySem PySem.Spec PyProof.Rows L2 Dw
variable [Tabs0]
theorem lay_step {rs : List (List Nat)} {f : Nat} {made : List (List Nat)} {left still : List Nat} (h1 : still ≠ []) : layF rs (f + 1) made left still = if left.filter (fun k => !minB rs still k) = [] then (made, still) else layF rs f (made ++ [left.filter fun k => !minB rs still k]) (left.filter (minB rs still)) (still.filter fun i => !plusB rs (left.filter fun k => !minB rs still k) i) := by
  show (if still = [] then _ else _) = _
  rw [if_neg h1]
/-- what stays so while layers are made -/
structure Mk (rs : List (List Nat)) (n m : Nat) (made : List (List Nat)) (left still : List Nat) : Prop where
  eq : layF rs m made left still = splitM rs n
  lt : left.length < m
  few : made.length + left.length ≤ n
  ltn : ∀ k ∈ left, k < n
  ltr : ∀ i ∈ still, i < rs.length
  fst : still.length ≤ rs.length
  flat : made.flatten.length + left.length ≤ n
theorem Mk.next {rs n m made left still} (h : Mk rs n (m + 1) made left still) (h1 : still ≠ []) (h2 : left.filter (fun k => !minB rs still k) ≠ []) : Mk rs n m (made ++ [left.filter fun k => !minB rs still k]) (left.filter (minB rs still)) (still.filter fun i => !plusB rs (left.filter fun k => !minB rs still k) i) := by
  have l := lay_len h2
  have e := h.eq
  rw [lay_step h1, if_neg h2] at e
  refine ⟨e, by have := h.lt; omega, ?_, fun k hk => h.ltn k (List.mem_filter.mp hk).1, fun i hi => h.ltr i (List.mem_filter.mp hi).1, Nat.le_trans (List.length_filter_le _ _) h.fst, ?_⟩
  · have := h.few
    rw [List.length_append]
    show made.length + 1 + _ ≤ n
    omega
  · have := h.flat
    have e2 := (filter_split (minB rs still) left).length_eq
    rw [List.length_append] at e2
    rw [List.flatten_append, List.length_append]
    simp only [List.flatten_cons, List.flatten_nil, List.append_nil]
    omega
theorem BookOk.n8 {ls rs} (h : BookOk ls rs) : ls.length ≤ 8 := h.names.hi
theorem ev_names {C : Addr} {K : PySem.W.Frag} {t : TE} {Γ : Gam} {ls rs : List (List Nat)} (h : Ev t Γ (.tup (nameD ls))) : Ev (tCB (Dw.rLen K) (tCons t tNil)) Γ (.int (ls.length : Nat)) := ev_cast (congrArg (fun n : Nat => D.int n) (nameD_len ls)) (ev_lenT (ds := nameD ls) h)
end K02

namespace K02
open PySem PySem.Spec PyProof.Rows L2 Dw
variable [Tabs0]
def spBook : Spc where
  ty := Nat × Nat × Nat
  args := fun x => [.purse, .int x.1, .int x.2.1, .int x.2.2]
  ok := fun x => 1 ≤ x.1 ∧ 1 ≤ x.2.1 ∧ x.1 + x.2.1 ≤ 9 ∧ x.2.2 ≤ 20
  rel := fun x d => ∃ ls rs, d = .tup [.lst (nameD ls), .lst (nameD rs)] ∧ BookOk ls rs ∧ x.1 ≤ ls.length ∧ ls.length < x.1 + x.2.1 ∧ rs.length ≤ x.2.2
end K02

namespace K02
open PySem PySem.Spec PyProof.Rows L2 Dw
variable [Tabs0]
theorem d__law_book {P : Program} {w : World} {K : PySem.W.Frag} {mg : Str → Option Value} {base : Heap} (T : Txt K w mg) : FnOk P w K mg base CX0 4 T.f__law_book T.e__law_book ["_law_purse_here", "_law_least", "_law_span", "_law_most"] (toSp (spBook)) := by
  refine fn_ok T.F__law_book sc__law_book (fun _ => rfl) fun cdv A outer s' H E hr => ?_
  refine ⟨_, (pss_cons (ps_set (i := 4) sc__law_book.nd rfl (Or.inl rfl) (pe_op (plusE K) (pv 1) (pe_call (d__law_draw T) (hr.mono (by decide)) (by rfl) T.m__law_draw T.F__law_draw.kp T.b__law_draw .nil pass0 (pa_cons (pv 0) (pa_cons (pv 2) pa_nil))))) (pss_one (ps_ret (pe_tup (pa_cons (pe_call (d__law_labels T) (hr.mono (by decide)) (by rfl) T.m__law_labels T.F__law_labels.kp T.b__law_labels .nil pass0 (pa_cons (pv 0) (pa_cons (pv 4) pa_nil))) (pa_cons (pe_call (d__law_rows T) (hr.mono (by decide)) (by rfl) T.m__law_rows T.F__law_rows.kp T.b__law_rows .nil pass0 (pa_cons (pv 0) (pa_cons (pv 4) (pa_cons (pv 3) (pa_cons pe_int pa_nil))))) pa_nil)))))), fun x hx => ?_⟩
  obtain ⟨lo, sp, most⟩ := x
  obtain ⟨h1, h2, h3, h4⟩ := hx
  have h1 : 1 ≤ lo := h1
  have h2 : 1 ≤ sp := h2
  have h3 : lo + sp ≤ 9 := h3
  have h4 : most ≤ 20 := h4
  refine ds_seq (ds_asg (dl_op (Ev.dl (ev_var rfl) (dl_call (s := spDraw) (dla_cons (Ev.dl (ev_var rfl) (dla_cons (Ev.dl (ev_var rfl) (dla_nil ⟨sp, rfl, ⟨by omega, by omega⟩, fun d hd => ?_⟩)))))))))
  obtain ⟨r, hr1, rfl⟩ := hd
  refine ⟨.int ((lo + r : Nat) : Int), pl_int, ?_⟩
  refine ds_ret (dl_tup (dla_cons (dl_call (s := spLabels) (dla_cons (Ev.dl (ev_var rfl) (dla_cons (Ev.dl (ev_var rfl) (dla_nil ⟨lo + r, rfl, ⟨by omega, by omega⟩, fun d hd => ?_⟩))))))))
  obtain ⟨ls, rfl, hl, hn⟩ := hd
  refine dla_cons (dl_call (s := spRows) (dla_cons (Ev.dl (ev_var rfl) (dla_cons (Ev.dl (ev_var rfl) (dla_cons (Ev.dl (ev_var rfl) (dla_cons (Ev.dl ev_int (dla_nil ⟨(lo + r, most, 9), rfl, ⟨by show 1 ≤ lo + r; omega, by show lo + r ≤ 8; omega, by show most < 1000; omega, by show 0 < 9; decide, by show 9 < 1000; decide⟩, fun d hd => ?_⟩))))))))))
  obtain ⟨rs, rfl, hm, hrs⟩ := hd
  have hm : rs.length ≤ most := hm
  exact dla_nil ⟨small (show 2 ≤ 100000 by decide), ls, rs, rfl, ⟨hl, by omega, fun q hq => by rw [hn]; exact hrs q hq⟩, by show lo ≤ ls.length; omega, by show ls.length < lo + sp; omega, hm⟩
end K02

namespace K02
open PySem PySem.Spec PyProof.Rows L2 Dw
variable [Tabs0]
/-! any text, read as a book -/
def splitL : List Nat → List (List Nat)
  | [] => [[]]
  | c :: l => if c = 32 then [] :: splitL l else match splitL l with | [] => [[c]] | p :: r => (c :: p) :: r
theorem splitL_ne : ∀ l : List Nat, splitL l ≠ []
  | [] => fun h => nomatch h
  | c :: l => by
    unfold splitL
    by_cases h : c = 32
    · rw [if_pos h]; exact fun h => nomatch h
    · rw [if_neg h]
      cases splitL l <;> exact fun h => nomatch h
theorem splitL_cons {c : Nat} {l : List Nat} (h : c ≠ 32) {p : List Nat} {r : List (List Nat)} (e : splitL l = p :: r) : splitL (c :: l) = (c :: p) :: r := by
  show (if c = 32 then [] :: splitL l else match splitL l with | [] => [[c]] | p :: r => (c :: p) :: r) = _
  rw [if_neg h, e]
theorem splitL_sp (l : List Nat) : splitL (32 :: l) = [] :: splitL l := if_pos rfl
theorem splitL_ind {P : List Nat → List (List Nat) → Prop} (h0 : P [] [[]]) (h1 : ∀ l ps, ps ≠ [] → P l ps → P (32 :: l) ([] :: ps)) (h2 : ∀ c l p r, c ≠ 32 → P l (p :: r) → P (c :: l) ((c :: p) :: r)) : ∀ l, P l (splitL l)
  | [] => h0
  | c :: l => by
    have ih := splitL_ind h0 h1 h2 l
    by_cases h : c = 32
    · subst h
      rw [splitL_sp]
      exact h1 l _ (splitL_ne l) ih
    · cases e : splitL l with
      | nil => exact absurd e (splitL_ne l)
      | cons p r =>
        rw [splitL_cons h e]
        rw [e] at ih
        exact h2 c l p r h ih
theorem joinX_cons (p : List Nat) {r : List (List Nat)} (h : r ≠ []) : TL.joinL [32] (p :: r) = p ++ ([32] ++ TL.joinL [32] r) := by
  cases r with
  | nil => exact absurd rfl h
  | cons q r => simp [TL.joinL]
theorem joinL_one (p : List Nat) : TL.joinL [32] [p] = p := by simp [TL.joinL]
theorem joinL_head (c : Nat) (p : List Nat) (r : List (List Nat)) : TL.joinL [32] ((c :: p) :: r) = c :: TL.joinL [32] (p :: r) := by
  cases r with
  | nil => rw [joinL_one, joinL_one]
  | cons q r => rw [joinX_cons (c :: p) (r := q :: r) (by simp), joinX_cons p (r := q :: r) (by simp)]; rfl
theorem splitL_join (l : List Nat) : TL.joinL [32] (splitL l) = l := splitL_ind (P := fun l ps => TL.joinL [32] ps = l) rfl (fun l ps hn h => by rw [joinX_cons _ hn, h]; rfl) (fun c l p r _ h => by rw [joinL_head, h]) l
theorem splitL_no (l : List Nat) : ∀ p ∈ splitL l, 32 ∉ p := splitL_ind (P := fun _ ps => ∀ p ∈ ps, 32 ∉ p) (fun p h => by rw [List.mem_singleton.mp h]; simp) (fun l ps _ h p hp => by
  rcases List.mem_cons.mp hp with rfl | hp
  · simp
  · exact h p hp) (fun c l p r hc h q hq => by
  rcases List.mem_cons.mp hq with rfl | hq
  · have := h p List.mem_cons_self
    intro hm
    rcases List.mem_cons.mp hm with e | hm
    · exact hc e.symm
    · exact this hm
  · exact h q (List.mem_cons_of_mem _ hq)) l
theorem splitL_len (l : List Nat) : (splitL l).length ≤ l.length + 1 := splitL_ind (P := fun l ps => ps.length ≤ l.length + 1) (Nat.le_refl _) (fun l ps _ h => by simp; omega) (fun c l p r _ h => by simp at h ⊢; omega) l
theorem splitL_sub (l : List Nat) : ∀ p ∈ splitL l, p.length ≤ l.length ∧ ∀ c ∈ p, c ∈ l := splitL_ind (P := fun l ps => ∀ p ∈ ps, p.length ≤ l.length ∧ ∀ c ∈ p, c ∈ l) (fun p h => by rw [List.mem_singleton.mp h]; simp) (fun l ps _ h p hp => by
  rcases List.mem_cons.mp hp with rfl | hp
  · simp
  · obtain ⟨a, b⟩ := h p hp
    exact ⟨by simp; omega, fun c hc => List.mem_cons_of_mem _ (b c hc)⟩) (fun c l p r _ h q hq => by
  rcases List.mem_cons.mp hq with rfl | hq
  · obtain ⟨a, b⟩ := h p List.mem_cons_self
    refine ⟨by simp; omega, fun d hd => ?_⟩
    rcases List.mem_cons.mp hd with rfl | hd
    · exact List.mem_cons_self
    · exact List.mem_cons_of_mem _ (b d hd)
  · obtain ⟨a, b⟩ := h q (List.mem_cons_of_mem _ hq)
    exact ⟨by simp; omega, fun d hd => List.mem_cons_of_mem _ (b d hd)⟩) l
theorem splitL_app {p l : List Nat} (h : 32 ∉ p) : ∀ {q : List Nat} {r : List (List Nat)}, splitL l = q :: r → splitL (p ++ l) = (p ++ q) :: r := by
  induction p with
  | nil => intro q r e; exact e
  | cons c p ih =>
    intro q r e
    have hc : c ≠ 32 := fun z => h (by rw [z]; exact List.mem_cons_self)
    exact splitL_cons hc (ih (fun z => h (List.mem_cons_of_mem _ z)) e)
theorem splitL_of : ∀ {ps : List (List Nat)}, ps ≠ [] → (∀ p ∈ ps, 32 ∉ p) → splitL (TL.joinL [32] ps) = ps
  | [], h, _ => absurd rfl h
  | [p], _, h => by
    have := splitL_app (l := []) (h p List.mem_cons_self) (q := []) (r := []) rfl
    rw [List.append_nil] at this
    rw [joinL_one, this]
  | p :: q :: r, _, h => by
    rw [joinX_cons _ (by simp)]
    have ih := splitL_of (ps := q :: r) (by simp) fun x hx => h x (List.mem_cons_of_mem _ hx)
    have := splitL_app (l := [32] ++ TL.joinL [32] (q :: r)) (h p List.mem_cons_self) (q := []) (r := q :: r) (by rw [show [32] ++ TL.joinL [32] (q :: r) = 32 :: TL.joinL [32] (q :: r) from rfl, splitL_sp, ih])
    rw [List.append_nil] at this
    exact this
theorem splitS (l : List Nat) : Txt.split (tx l) (Str.ofString " ") = (splitL l).map tx := by
  have := split_sp (splitL_ne l) (splitL_no l)
  rw [splitL_join] at this
  exact this
def cutAt : List Nat → Option (List Nat × List Nat)
  | [] => none
  | c :: l => if c = 58 then some ([], l) else (cutAt l).map fun x => (c :: x.1, x.2)
theorem cutAt_some : ∀ {l p q : List Nat}, cutAt l = some (p, q) → l = p ++ ([58] ++ q) ∧ 58 ∉ p
  | [], p, q, h => nomatch h
  | c :: l, p, q, h => by
    unfold cutAt at h
    by_cases hc : c = 58
    · rw [if_pos hc] at h
      cases h
      exact ⟨by rw [hc]; rfl, by simp⟩
    · rw [if_neg hc] at h
      cases e : cutAt l with
      | none => rw [e] at h; cases h
      | some x =>
        obtain ⟨a, b⟩ := x
        rw [e] at h; cases h
        obtain ⟨h1, h2⟩ := cutAt_some e
        refine ⟨by rw [h1]; rfl, fun hm => ?_⟩
        rcases List.mem_cons.mp hm with z | hm
        · exact hc z.symm
        · exact h2 hm
theorem cutAt_none : ∀ {l : List Nat}, cutAt l = none ↔ 58 ∉ l
  | [] => by simp [cutAt]
  | c :: l => by
    unfold cutAt
    by_cases hc : c = 58
    · rw [if_pos hc]
      simp [hc]
    · rw [if_neg hc, Option.map_eq_none_iff, cutAt_none (l := l), List.mem_cons, not_or]
      exact ⟨fun h => ⟨fun z => hc z.symm, h⟩, fun h => h.2⟩
theorem cutAt_of : ∀ {p q : List Nat}, 58 ∉ p → cutAt (p ++ ([58] ++ q)) = some (p, q)
  | [], q, _ => if_pos rfl
  | c :: p, q, h => by
    show (if c = 58 then some ([], p ++ ([58] ++ q)) else (cutAt (p ++ ([58] ++ q))).map fun x => (c :: x.1, x.2)) = _
    rw [if_neg (fun z => h (by rw [z]; exact List.mem_cons_self)), cutAt_of fun z => h (List.mem_cons_of_mem _ z)]; rfl
/-- the tests of a text's head and tail -/
def headB (ns : List (List Nat)) (f : List Nat) : Bool := decide (f = []) && decide (ns.length ≤ 8) && namesB (nameD ns)
def tailB (rows : List (List Nat)) (n : Nat) : Bool := decide (rows.length ≤ 20) && rows.all fun r => rowB (.str (tx r)) n
def bookP (ns : List (List Nat)) : List (List Nat) → Option Bk
  | [] => none
  | f :: rows => if (headB ns f && tailB rows ns.length) = true then some (ns, rows) else none
def bookQ (l : List Nat) : Option Bk := (cutAt l).bind fun x => bookP (splitL x.1) (splitL x.2)
theorem bookQ_tx {ls rs : List (List Nat)} (h : BookOk ls rs) : bookQ (bookTx ls rs) = some (ls, rs) := by
  unfold bookQ
  rw [bookTx_eq, cutAt_of h.h58]
  show bookP (splitL (TL.joinL [32] ls)) (splitL (TL.joinL [32] ([] :: rs))) = _
  rw [splitL_of (fun e => by have := h.names.lo; rw [e] at this; cases this) h.h32, splitL_of (by simp) h.r32]
  refine if_pos ?_
  unfold headB tailB
  rw [decide_eq_true rfl, decide_eq_true h.names.hi, names_ok h.names, decide_eq_true h.few, List.all_eq_true.mpr fun r hr => row_ok (h.rows r hr) h.names.lo h.names.hi]; rfl
theorem okS_codes {l : List Nat} (h : okS (tx l)) : ∀ c ∈ l, c < 1114112 := fun c hc => by
  have h : (tx l).cps.all (fun c => decide (c < 1114112)) = true := h
  rw [← Array.all_toList, List.all_eq_true, tx_cps] at h
  exact of_decide_eq_true (h c hc)
def pairD (b : Bk) : D := .tup [.tup (nameD b.1), .tup (nameD b.2)]
def bookOf : D → Option Bk
  | .str x => bookQ x.cps.toList
  | _ => none
def optD : Option Bk → D
  | some b => pairD b
  | none => .non
/-- a text that is not long beyond sense -/
def shT : D → Bool
  | .str x => decide (x.length ≤ 15000)
  | _ => true
def spReadG : Spc where
  ty := D
  args := fun d => [d]
  ok := fun d => Pv d ∧ shT d = true
  rel := fun d e => e = optD (bookOf d)
theorem bookOf_tx {ls rs : List (List Nat)} (h : BookOk ls rs) : bookOf (.str (tx (bookTx ls rs))) = some (ls, rs) := by
  show bookQ (tx (bookTx ls rs)).cps.toList = _
  rw [tx_cps]; exact bookQ_tx h
theorem not_str {d : D} (h : isStrB d = false) : bookOf d = none := by cases d <;> first | rfl | exact nomatch h
theorem bk_none {l : List Nat} (h : bookQ l = none) : D.non = optD (bookOf (.str (tx l))) := by
  show _ = optD (bookQ (tx l).cps.toList)
  rw [tx_cps, h]; rfl
end K02

namespace K02
open PySem PySem.Spec PyProof.Rows L2 Dw
variable [Tabs0]
theorem d_read_book {P : Program} {w : World} {K : PySem.W.Frag} {mg : Str → Option Value} {base : Heap} (T : Txt K w mg) : FnOk P w K mg base CX0 3 T.f_read_book T.e_read_book ["text"] (toSp (spReadG)) := by
  refine fn_ok T.F_read_book sc_read_book (fun _ => rfl) fun cdv A outer s' H E hr => ?_
  refine ⟨_, (pss_cons (ps_if (PW.pt (pw_or (pt_not (truA K (pe_callB (isiA K) (by rfl) T.n_isinstance (by decide +kernel) (pa_cons (pv 0) (pa_cons (pe_bltn (v := .ty "str") (by rfl) T.n_str (by decide +kernel) rfl) pa_nil))))) (pw_or1 (pt_cmpR (ninA K) pe_str (pv 0) (by rfl))))) (pss_one (ps_ret pe_non)) pss_nil) (pss_cons (ps_asg (pe_partition (pv 0) pe_str) (tupA K 3 rfl (pgs_cons (pg_name (i := 1) sc_read_book.nd rfl (Or.inl rfl)) (pgs_cons (pg_name (i := 2) sc_read_book.nd rfl (Or.inl rfl)) (pgs_cons (pg_name (i := 3) sc_read_book.nd rfl (Or.inl rfl)) pgs_nil))))) (pss_cons (ps_set (i := 4) sc_read_book.nd rfl (Or.inr rfl) (pe_callTy (tupleA K) (by rfl) T.n_tuple (by decide +kernel) (pa_cons (pe_split (pv 1) pe_str) pa_nil))) (pss_cons (ps_asg (pe_split (pv 3) pe_str) (star1XA K rfl (pg_name (i := 5) sc_read_book.nd rfl (Or.inl rfl)) (pg_name (i := 6) sc_read_book.nd rfl (Or.inl rfl)))) (pss_cons (ps_if (PW.pt (pw_or (pt_cmpR (neA K hr.units) (pv 5) pe_str (nomark _)) (pw_or (pt_cmpR opGt (pe_callB (lenA K) (by rfl) T.n_len (by decide +kernel) (pa_cons (pv 4) pa_nil)) (pe_glob (v := .int 8) (by rfl) T.c_MOST_RULES ⟨_, rfl⟩) (nomark _)) (pw_or1 (pt_not (truA K (pe_call (d_are_names T) (hr.mono (by decide)) (by rfl) T.m_are_names T.F_are_names.kp T.b_are_names .nil pass0 (pa_cons (pv 4) pa_nil)))))))) (pss_one (ps_ret pe_non)) pss_nil) (pss_cons (ps_if (PW.pt (pw_or (pt_cmpR opGt (pe_callB (lenA K) (by rfl) T.n_len (by decide +kernel) (pa_cons (pv 6) pa_nil)) (pe_glob (v := .int 20) (by rfl) T.c_MOST_ROWS ⟨_, rfl⟩) (nomark _)) (pw_or1 (pt_not (truA K (pe_callB (allA K) (by rfl) T.n_all (by decide +kernel) (pa_cons (pe_lc (own := [("row", 7)]) rfl sc_read_book.nd (piR K (pv 6)) (blkOk_by (own := [("row", 7)]) (N := N_read_book) (sc := (defScope s_read_book)) (by decide +kernel)) (fun _ _ _ _ _ => pg_name (i := 7) sc_read_book.nd rfl (Or.inl rfl)) (fun _ _ _ _ _ => pts_nil) (fun _ _ _ _ _ => (pe_call (d_is_row T) (hr.mono (by decide)) (by rfl) T.m_is_row T.F_is_row.kp T.b_is_row .nil pass0 (pa_cons (pv 7) (pa_cons (pe_callB (lenA K) (by rfl) T.n_len (by decide +kernel) (pa_cons (pv 4) pa_nil)) pa_nil))))) pa_nil))))))) (pss_one (ps_ret pe_non)) pss_nil) (pss_one (ps_ret (pe_tup (pa_cons (pv 4) (pa_cons (pe_callTy (tupleA K) (by rfl) T.n_tuple (by decide +kernel) (pa_cons (pv 6) pa_nil)) pa_nil))))))))))), fun x hx => ?_⟩
  obtain ⟨d, rfl⟩ : ∃ l : D, l = x := ⟨x, rfl⟩
  obtain ⟨hd, hsh⟩ := hx
  have hd : Pv d := hd
  by_cases hs : isStrB d = true
  · obtain ⟨s, rfl⟩ := str_of hs
    obtain ⟨l, rfl⟩ : ∃ l, s = tx l := ⟨_, of_tx s⟩
    have hc := hd.str.1
    have hl : l.length ≤ 15000 := by
      have : decide ((tx l).length ≤ 15000) = true := hsh
      rw [tx_len] at this
      exact of_decide_eq_true this
    have hz : (tx l).length ≤ sizeLine := small (by rw [tx_len]; omega)
    have e58 := nin_code (K := K) (l := l) (c := 58)
    rw [show ch 58 = Str.ofString ":" by decide +kernel] at e58
    refine ds_seq (ds_if (EvT.dl (b := false || !decide (58 ∈ l)) (evt_or (a := false) (b := !decide (58 ∈ l)) (evt_not (a := true) (evt_tru_bl (ev_isi (ev_var rfl) ev_raw (.inl rfl) (.ty "str") rfl))) fun _ => evt_test (ev_op ev_str (ev_var rfl) e58)) ⟨fun h => ds_ret (Ev.dl ev_non (bk_none ?no)), fun h => ds_next ?_⟩))
    case no =>
      have : 58 ∉ l := by simpa using h
      unfold bookQ
      rw [cutAt_none.mpr this]; rfl
    obtain ⟨p, q, e⟩ : ∃ p q, cutAt l = some (p, q) := by
      cases e : cutAt l with
      | none => exact absurd (cutAt_none.mp e) (by simpa using h)
      | some x => exact ⟨x.1, x.2, rfl⟩
    obtain ⟨el, h58⟩ := cutAt_some e
    have eb : bookQ l = bookP (splitL p) (splitL q) := by
      unfold bookQ
      rw [e]; rfl
    have lpq : p.length + q.length ≤ l.length := by rw [el]; simp
    have hp : Txt.partition (tx l) (Str.ofString ":") = (tx p, tx [58], tx q) := by rw [el]; exact part_sp h58
    refine ds_seq (ds_asg_g (Ev.dl (ev_cast (d' := .tup [.str (tx p), .str (tx [58]), .str (tx q)]) (by rw [hp]) (ev_partition (ev_var rfl) ev_str (by decide +kernel) hz)) ⟨[1] ++ ([2] ++ [3]), _, dg_tup3 dg_name dg_name dg_name, ?_⟩))
    refine ds_seq (ds_asg (Ev.dl (ev_cast (d' := .tup (nameD (splitL p))) ?e1 (ev_tuple (EvN.b (evn_split (a := tx p) (ev_var rfl) ev_str (by decide +kernel) ?z1)))) ?_))
    case e1 => rw [splitS, nameD_map]
    case z1 => rw [tx_len]; exact small (by omega)
    have lq := splitL_len q
    cases eq : splitL q with
    | nil => exact absurd eq (splitL_ne q)
    | cons f rows =>
      rw [eq, List.length_cons] at lq
      have eb : bookQ l = if (headB (splitL p) f && tailB rows (splitL p).length) = true then some (splitL p, rows) else none := by rw [eb, eq]; rfl
      refine ds_seq (ds_starL (Ev.dl (EvN.ev (evn_split (a := tx q) (ev_var rfl) ev_str (by decide +kernel) ?z2)) ⟨.str (tx f), nameD rows, .inl ?e2, ?z3, ?_⟩))
      case e2 => rw [splitS, eq]; show D.lst ((tx f :: rows.map tx).map D.str) = _; rw [List.map_cons, nameD_map]
      case z2 => rw [tx_len]; exact small (by omega)
      case z3 => unfold nameD; rw [List.length_map]; omega
      have l1 : (nameD (splitL p)).length = (splitL p).length := List.length_map ..
      have l2 : (nameD rows).length = rows.length := List.length_map ..
      have sub := splitL_sub p
      have subq := splitL_sub q
      have codes : ∀ c ∈ l, c < 1114112 := fun c hc' => okS_codes hc c hc'
      have pcodes : ∀ c ∈ p, c ∈ l := fun c hc' => by rw [el]; exact List.mem_append_left _ hc'
      have qcodes : ∀ c ∈ q, c ∈ l := fun c hc' => by rw [el]; simp [hc']
      have t1 : (!decide (f = [])) = (!decide (tx f = Str.ofString "")) := by
        congr 1
        rw [show Str.ofString "" = tx [] by decide +kernel]
        exact decide_eq_decide.mpr tx_eq.symm
      refine ds_seq (ds_if (EvT.dl (b := !headB (splitL p) f) ?hd ⟨fun h2 => ds_ret (Ev.dl ev_non (bk_none ?no2)), fun h2 => ds_next ?_⟩))
      case hd =>
        have e3 : (!headB (splitL p) f) = (!decide (f = []) || (!decide ((splitL p).length ≤ 8) || !namesB (nameD (splitL p)))) := by
          unfold headB
          cases decide (f = []) <;> cases decide ((splitL p).length ≤ 8) <;> cases namesB (nameD (splitL p)) <;> rfl
        rw [e3]
        refine evt_or (evt_test (ev_op (ev_var rfl) ev_str (ne_sb t1.symm))) fun _ => evt_or (evt_test (ev_op (ev_lenT (ds := nameD (splitL p)) (ev_var rfl)) ev_int (gt_b ?g))) fun h9 => evt_not (evt_tru_bl (ev_call (s := spNamesG) (x := nameD (splitL p)) (eva_cons (ev_var rfl) eva_nil) (np_tup (np_name _)) ?pv fun d h => h))
        case g =>
          rw [l1]
          have : decide ((8 : Int) < ((splitL p).length : Int)) = !decide ((splitL p).length ≤ 8) := by
            rw [← decide_not]
            exact decide_eq_decide.mpr (by omega)
          exact this
        case pv =>
          have h9 : (splitL p).length ≤ 8 := by simpa using h9
          show (decide ((nameD (splitL p)).length ≤ 60) && plBs 11 (nameD (splitL p))) = true
          rw [l1, decide_eq_true (by omega), Bool.true_and, plBs_iff]
          intro d hd'
          obtain ⟨w, hw, rfl⟩ := List.mem_map.mp hd'
          obtain ⟨s1, s2⟩ := sub w hw
          exact pv_strs (fun c hc' => codes c (pcodes c (s2 c hc'))) (by omega)
      case no2 =>
        rw [eb, if_neg]
        rw [Bool.not_eq_true'] at h2
        rw [h2]; simp
      rw [Bool.not_eq_false'] at h2
      have h2' := h2
      unfold headB at h2'
      rw [Bool.and_eq_true, Bool.and_eq_true, decide_eq_true_eq, decide_eq_true_eq] at h2'
      refine ds_seq (ds_if (EvT.dl (b := !tailB rows (splitL p).length) ?tl ⟨fun h3 => ds_ret (Ev.dl ev_non (bk_none ?no3)), fun h3 => ds_next ?_⟩))
      case tl =>
        have e3 : (!tailB rows (splitL p).length) = (!decide (rows.length ≤ 20) || !rows.all fun r => rowB (.str (tx r)) (splitL p).length) := by
          unfold tailB
          cases decide (rows.length ≤ 20) <;> rfl
        rw [e3]
        refine evt_or (evt_test (ev_op (ev_len (ds := nameD rows) (ev_var rfl).b) ev_int (gt_b ?g2))) fun h9 => evt_not (evt_tru_bl (ev_all_lc (K := K) (xs := rows) (c := fun l => .str (tx l)) (b := fun r => rowB (.str (tx r)) (splitL p).length) (ej_list (ev_var (d := .lst (nameD rows)) rfl).b) ?z4 fun r hr' => ⟨[7], _, dg_name, fun i hi => hi, evt_yes, ev_call (s := spRowG) (x := (.str (tx r), (splitL p).length)) (eva_cons (ev_var rfl) (eva_cons (ev_cast (congrArg (fun n : Nat => D.int n) l1) (ev_lenT (ds := nameD (splitL p)) (ev_var rfl))) eva_nil)) rfl ?pr fun d h => h⟩))
        case g2 =>
          rw [l2]
          have : decide ((20 : Int) < (rows.length : Int)) = !decide (rows.length ≤ 20) := by
            rw [← decide_not]
            exact decide_eq_decide.mpr (by omega)
          exact this
        case z4 => omega
        case pr =>
          obtain ⟨s1, s2⟩ := subq r (by rw [eq]; exact List.mem_cons_of_mem _ hr')
          exact pv_strs (fun c hc' => codes c (qcodes c (s2 c hc'))) (by omega)
      case no3 =>
        rw [eb, if_neg]
        rw [Bool.not_eq_true'] at h3
        rw [h3]; simp
      rw [Bool.not_eq_false'] at h3
      refine ds_ret (Ev.dl (ev_tup (eva_cons (ev_var rfl) (eva_cons (ev_tuple (ev_var (d := .lst (nameD rows)) rfl).b) eva_nil)) (small (show 2 ≤ 100000 by decide))) ?_)
      show _ = optD (bookQ (tx l).cps.toList)
      rw [tx_cps, eb, h2, h3]; rfl
  · have hs : isStrB d = false := by simpa using hs
    refine ds_seq (ds_if (EvT.dl (b := true) (evt_or (a := true) (b := false) (evt_not (a := false) (evt_tru_bl (ev_isi (ev_var rfl) ev_raw (.inl hd.ty) (.ty "str") (by rw [kit_str hd.ty, hs])))) fun h => (nomatch h)) ⟨fun _ => ds_ret (Ev.dl ev_non ?_), fun h => (nomatch h)⟩))
    show D.non = optD (bookOf d)
    rw [not_str hs]; rfl

end K02

namespace K02
open PySem PySem.Spec PyProof.Rows L2 Dw
variable [Tabs0]
/-! books made of texts, by any reading -/
theorem sh_book {ls rs : List (List Nat)} (h : BookOk ls rs) : shT (.str (tx (bookTx ls rs))) = true := decide_eq_true (Nat.le_trans h.len (by decide))
theorem joinX_all {p : Nat → Prop} (h32 : p 32) : ∀ ls : List (List Nat), (∀ l ∈ ls, ∀ c ∈ l, p c) → ∀ c ∈ TL.joinL [32] ls, p c
  | [], _, c, hc => absurd hc (by simp [TL.joinL])
  | [l], h, c, hc => h l List.mem_cons_self c (by simpa [TL.joinL] using hc)
  | l :: m :: r, h, c, hc => by
    rw [joinX_cons l (r := m :: r) (by simp), List.mem_append, List.mem_append] at hc
    rcases hc with hc | hc | hc
    · exact h l List.mem_cons_self c hc
    · rw [List.mem_singleton.mp hc]; exact h32
    · exact joinX_all h32 (m :: r) (fun l' hl => h l' (List.mem_cons_of_mem _ hl)) c hc
theorem bookX_codes {ls rs : List (List Nat)} (h : BookOk ls rs) : ∀ c ∈ bookTx ls rs, c < 1114112 := by
  unfold bookTx
  refine joinX_all (p := fun c => c < 1114112) (by decide) _ fun l hl c hc => ?_
  rcases List.mem_cons.mp hl with rfl | hl
  · rcases List.mem_append.mp hc with hc | hc
    · refine joinX_all (p := fun c => c < 1114112) (by decide) _ (fun l hl c hc => ?_) c hc
      have := ((h.names.all l hl).all c hc).2
      omega
    · rw [List.mem_singleton.mp hc]; decide
  · exact ((h.rows l hl).all c hc).lt
theorem okX_book {ls rs : List (List Nat)} (h : BookOk ls rs) : okS (tx (bookTx ls rs)) := okS_tx (bookX_codes h)
theorem pv_book {ls rs : List (List Nat)} (h : BookOk ls rs) : Pv (.str (tx (bookTx ls rs))) := pv_strs (bookX_codes h) (by have := h.len; rw [tx_len] at this; omega)
theorem opt_book {ls rs : List (List Nat)} (h : BookOk ls rs) : optD (bookOf (.str (tx (bookTx ls rs)))) = .tup [.tup (nameD ls), .tup (nameD rs)] := by
  rw [bookOf_tx h]; rfl
end K02

namespace K02
open PySem PySem.Spec PyProof.Rows L2 Dw
variable [Tabs0]
theorem d_Book___init__ {P : Program} {w : World} {K : PySem.W.Frag} {mg : Str → Option Value} {base : Heap} (T : Txt K w mg) : FnOk P w K mg base CX0 4 T.f_Book___init__ T.e_Book___init__ ["self", "text"] (toIn T.C_Book ["_text", "_names", "_rows"] spInit) := by
  refine in_ok T.F_Book___init__ sc_Book___init__ (fun _ => rfl) fun cdv A outer s' H E hr => ?_
  refine ⟨_, (pss_cons (ps_set (i := 2) sc_Book___init__.nd rfl (Or.inl rfl) (pe_call (d_read_book T) (hr.mono (by decide)) (by rfl) T.m_read_book T.F_read_book.kp T.b_read_book .nil pass0 (pa_cons (pv 1) pa_nil))) (pss_cons (ps_if (pt_cmpR op_isN (pv 2) pe_non (nomark _)) (pss_one ps_never) pss_nil) (pss_cons (ps_fld (pv 0) (pv 1) rfl) (pss_one (ps_asg (pv 2) (tupA K 2 rfl (pgs_cons (pg_fld (pv 0)) (pgs_cons (pg_fld (pv 0)) pgs_nil)))))))), fun x hx a => ?_⟩
  obtain ⟨ls, rs⟩ := x
  have hb : BookOk ls rs := hx
  refine di_seq (di_of (ds_asg (Ev.dl (ev_call (s := spReadG) (d := .tup [.tup (nameD ls), .tup (nameD rs)]) (x := .str (tx (bookTx ls rs))) (eva_cons (ev_var rfl) eva_nil) rfl ⟨pv_book hb, sh_book hb⟩ fun d h => by rw [h]; exact opt_book hb) ?_)))
  refine di_seq (di_of (ds_if (EvT.dl (b := false) (evt_test (ev_op (ev_var rfl) ev_non (dr2_isN fun W v h => ?_))) ⟨fun h => (nomatch h), fun _ => ds_next ?_⟩)))
  · obtain ⟨p, vs, e, _⟩ := h
    rw [e]; exact decide_eq_false fun h => nomatch h
  refine di_seq (di_fld T.cl_Book T.no_text (by simp) (by decide) (ev_var rfl) (ev_var rfl) ?_)
  exact di_fld2 T.cl_Book T.no_names T.no_rows (by decide +kernel) (by decide +kernel) (by decide) (ev_var rfl) (ev_var rfl) ⟨rfl, rfl⟩


end K02

namespace K02
open PySem PySem.Spec PyProof.Rows L2 Dw
variable [Tabs0]
/-! told's suite: the word of an error's class, its attribute -/
theorem kit_len {K : PySem.W.Frag} {D0 : Addr} : ∀ {cs : List Addr} {bs : List Bool}, KitRow K D0 cs bs → bs.length = cs.length
  | [], [], _ => rfl
  | c :: cs, b :: bs, h => congrArg (· + 1) (kit_len h.2)
  | [], _ :: _, h => h.elim
  | _ :: _, [], h => h.elim
theorem kit_get {K : PySem.W.Frag} {D0 : Addr} : ∀ {cs : List Addr} {bs : List Bool} {k : Nat} {c : Addr}, KitRow K D0 cs bs → cs[k]? = some c → PySem.W.kitOne K (.ref D0) (.ref c) = some (bs.getD k false)
  | c :: cs, b :: bs, 0, c', h, e => by
    have e : c = c' := by simpa using e
    rw [← e]; exact h.1
  | c :: cs, b :: bs, k + 1, c', h, e => by
    have := kit_get (k := k) (c := c') h.2 (by simpa using e)
    simpa using this
  | [], _, _, _, _, e => by simp at e
  | _ :: _, [], _, _, h, _ => h.elim
def flB (bs : List Bool) (a n : Nat) : List Bool := (List.range n).map fun k => bs.getD (a + k) false
theorem flB_eq {bs : List Bool} {a n : Nat} (h : a + n ≤ bs.length) : (bs.drop a).take n = flB bs a n := by
  refine List.ext_getElem (by simp [flB]; omega) fun i h1 h2 => ?_
  have hi : i < n := by simpa [flB] using h2
  simp [flB, List.getD_eq_getElem?_getD, List.getElem?_eq_getElem (show a + i < bs.length by omega)]
def spSort (K : PySem.W.Frag) (cs : List Addr) : SpcS where
  ty := Exn × List Bool
  args := fun _ => []
  ok := fun x => ExcC K x.1.C ∧ KitRow K x.1.C cs x.2
  ex := fun x => x.1
  out := fun x => .str (sortW x.2)
theorem ev_ifI {Γ : Gam} {c : TT} {ta tb : TE} {b : Bool} {i j : Int} (h : EvT c Γ b) (h1 : Ev ta Γ (.int i)) (h2 : Ev tb Γ (.int j)) : Ev (tIf c ta tb) Γ (.int (if b = true then i else j)) := by
  have := ev_if h (fun _ => h1) fun _ => h2
  cases b <;> exact this
end K02

namespace K02
open PySem PySem.Spec PyProof.Rows L2 Dw
variable [Tabs0]
abbrev sortCs {K : PySem.W.Frag} {w : World} {mg : Str → Option Value} (T : Txt K w mg) : List Addr := [T.C_InvalidText, T.C_InvalidNumber, T.C_InvalidName, T.C_InvalidIndex, T.C_InvalidClaim, T.C_InvalidRow, T.C_InvalidRanking, T.C_InvalidRule, T.C_UnknownName, T.C_NotABook, T.C_NotACase, T.C_NotACourt, T.C_InvalidLot, T.C_InvalidOffers, T.C_InvalidCases, T.C_NoRanking, T.C_TooMany, T.C_Broken, T.C_InUse, T.C_NothingToUndo, T.C_WrongValue, T.C_NoAnswer]
theorem d__law_sort {P : Program} {w : World} {K : PySem.W.Frag} {mg : Str → Option Value} {base : Heap} (T : Txt K w mg) : FnS P w K mg base 1 T.f__law_sort T.e__law_sort ["_law_e"] (toSpS (spSort K (sortCs T))) := by
  refine fnS_ok T.F__law_sort sc__law_sort (fun _ => rfl) fun cdv A outer s' H E p x hr hG hx hz hf hd => ?_
  obtain ⟨⟨C, fs⟩, bs⟩ := x
  obtain ⟨hxc, hk⟩ := hx
  have hxc : ExcC K C := hxc
  have hz : Zc (.ref C) p.2.dict p.2 := hz
  refine ⟨_, (pss_cons (ps_set (i := 1) sc__law_sort.nd rfl (Or.inl rfl) (pe_lst (pa_cons pe_str (pa_cons pe_str (pa_cons pe_str (pa_cons pe_str (pa_cons pe_str (pa_cons pe_str pa_nil)))))))) (pss_cons (ps_set (i := 1) sc__law_sort.nd rfl (Or.inl rfl) (pe_op (plusE K) (pv 1) (pe_lst (pa_cons pe_str (pa_cons pe_str (pa_cons pe_str (pa_cons pe_str (pa_cons pe_str (pa_cons pe_str pa_nil))))))))) (pss_cons (ps_set (i := 1) sc__law_sort.nd rfl (Or.inl rfl) (pe_op (plusE K) (pv 1) (pe_lst (pa_cons pe_str (pa_cons pe_str (pa_cons pe_str pa_nil)))))) (pss_cons (ps_set (i := 1) sc__law_sort.nd rfl (Or.inl rfl) (pe_op (plusE K) (pv 1) (pe_lst (pa_cons pe_str (pa_cons pe_str (pa_cons pe_str (pa_cons pe_str (pa_cons pe_str pa_nil)))))))) (pss_cons (ps_set (i := 2) sc__law_sort.nd rfl (Or.inl rfl) (pe_lst (pa_cons (pe_callB (call_isX (a := p.1) (oe := p.2) (ed := p.2.dict) List.mem_cons_self hxc hz hf) (by rfl) T.n_isinstance (by decide +kernel) (pa_cons (pv 0) (pa_cons (pe_glob (v := .ref T.C_InvalidText) (by rfl) T.m_InvalidText rfl) pa_nil))) (pa_cons (pe_callB (call_isX (a := p.1) (oe := p.2) (ed := p.2.dict) List.mem_cons_self hxc hz hf) (by rfl) T.n_isinstance (by decide +kernel) (pa_cons (pv 0) (pa_cons (pe_glob (v := .ref T.C_InvalidNumber) (by rfl) T.m_InvalidNumber rfl) pa_nil))) (pa_cons (pe_callB (call_isX (a := p.1) (oe := p.2) (ed := p.2.dict) List.mem_cons_self hxc hz hf) (by rfl) T.n_isinstance (by decide +kernel) (pa_cons (pv 0) (pa_cons (pe_glob (v := .ref T.C_InvalidName) (by rfl) T.m_InvalidName rfl) pa_nil))) pa_nil))))) (pss_cons (ps_set (i := 2) sc__law_sort.nd rfl (Or.inl rfl) (pe_op (plusE K) (pv 2) (pe_lst (pa_cons (pe_callB (call_isX (a := p.1) (oe := p.2) (ed := p.2.dict) List.mem_cons_self hxc hz hf) (by rfl) T.n_isinstance (by decide +kernel) (pa_cons (pv 0) (pa_cons (pe_glob (v := .ref T.C_InvalidIndex) (by rfl) T.m_InvalidIndex rfl) pa_nil))) (pa_cons (pe_callB (call_isX (a := p.1) (oe := p.2) (ed := p.2.dict) List.mem_cons_self hxc hz hf) (by rfl) T.n_isinstance (by decide +kernel) (pa_cons (pv 0) (pa_cons (pe_glob (v := .ref T.C_InvalidClaim) (by rfl) T.m_InvalidClaim rfl) pa_nil))) (pa_cons (pe_callB (call_isX (a := p.1) (oe := p.2) (ed := p.2.dict) List.mem_cons_self hxc hz hf) (by rfl) T.n_isinstance (by decide +kernel) (pa_cons (pv 0) (pa_cons (pe_glob (v := .ref T.C_InvalidRow) (by rfl) T.m_InvalidRow rfl) pa_nil))) pa_nil)))))) (pss_cons (ps_set (i := 2) sc__law_sort.nd rfl (Or.inl rfl) (pe_op (plusE K) (pv 2) (pe_lst (pa_cons (pe_callB (call_isX (a := p.1) (oe := p.2) (ed := p.2.dict) List.mem_cons_self hxc hz hf) (by rfl) T.n_isinstance (by decide +kernel) (pa_cons (pv 0) (pa_cons (pe_glob (v := .ref T.C_InvalidRanking) (by rfl) T.m_InvalidRanking rfl) pa_nil))) (pa_cons (pe_callB (call_isX (a := p.1) (oe := p.2) (ed := p.2.dict) List.mem_cons_self hxc hz hf) (by rfl) T.n_isinstance (by decide +kernel) (pa_cons (pv 0) (pa_cons (pe_glob (v := .ref T.C_InvalidRule) (by rfl) T.m_InvalidRule rfl) pa_nil))) (pa_cons (pe_callB (call_isX (a := p.1) (oe := p.2) (ed := p.2.dict) List.mem_cons_self hxc hz hf) (by rfl) T.n_isinstance (by decide +kernel) (pa_cons (pv 0) (pa_cons (pe_glob (v := .ref T.C_UnknownName) (by rfl) T.m_UnknownName rfl) pa_nil))) pa_nil)))))) (pss_cons (ps_set (i := 2) sc__law_sort.nd rfl (Or.inl rfl) (pe_op (plusE K) (pv 2) (pe_lst (pa_cons (pe_callB (call_isX (a := p.1) (oe := p.2) (ed := p.2.dict) List.mem_cons_self hxc hz hf) (by rfl) T.n_isinstance (by decide +kernel) (pa_cons (pv 0) (pa_cons (pe_glob (v := .ref T.C_NotABook) (by rfl) T.m_NotABook rfl) pa_nil))) (pa_cons (pe_callB (call_isX (a := p.1) (oe := p.2) (ed := p.2.dict) List.mem_cons_self hxc hz hf) (by rfl) T.n_isinstance (by decide +kernel) (pa_cons (pv 0) (pa_cons (pe_glob (v := .ref T.C_NotACase) (by rfl) T.m_NotACase rfl) pa_nil))) (pa_cons (pe_callB (call_isX (a := p.1) (oe := p.2) (ed := p.2.dict) List.mem_cons_self hxc hz hf) (by rfl) T.n_isinstance (by decide +kernel) (pa_cons (pv 0) (pa_cons (pe_glob (v := .ref T.C_NotACourt) (by rfl) T.m_NotACourt rfl) pa_nil))) pa_nil)))))) (pss_cons (ps_set (i := 2) sc__law_sort.nd rfl (Or.inl rfl) (pe_op (plusE K) (pv 2) (pe_lst (pa_cons (pe_callB (call_isX (a := p.1) (oe := p.2) (ed := p.2.dict) List.mem_cons_self hxc hz hf) (by rfl) T.n_isinstance (by decide +kernel) (pa_cons (pv 0) (pa_cons (pe_glob (v := .ref T.C_InvalidLot) (by rfl) T.m_InvalidLot rfl) pa_nil))) (pa_cons (pe_callB (call_isX (a := p.1) (oe := p.2) (ed := p.2.dict) List.mem_cons_self hxc hz hf) (by rfl) T.n_isinstance (by decide +kernel) (pa_cons (pv 0) (pa_cons (pe_glob (v := .ref T.C_InvalidOffers) (by rfl) T.m_InvalidOffers rfl) pa_nil))) (pa_cons (pe_callB (call_isX (a := p.1) (oe := p.2) (ed := p.2.dict) List.mem_cons_self hxc hz hf) (by rfl) T.n_isinstance (by decide +kernel) (pa_cons (pv 0) (pa_cons (pe_glob (v := .ref T.C_InvalidCases) (by rfl) T.m_InvalidCases rfl) pa_nil))) pa_nil)))))) (pss_cons (ps_set (i := 2) sc__law_sort.nd rfl (Or.inl rfl) (pe_op (plusE K) (pv 2) (pe_lst (pa_cons (pe_callB (call_isX (a := p.1) (oe := p.2) (ed := p.2.dict) List.mem_cons_self hxc hz hf) (by rfl) T.n_isinstance (by decide +kernel) (pa_cons (pv 0) (pa_cons (pe_glob (v := .ref T.C_NoRanking) (by rfl) T.m_NoRanking rfl) pa_nil))) (pa_cons (pe_callB (call_isX (a := p.1) (oe := p.2) (ed := p.2.dict) List.mem_cons_self hxc hz hf) (by rfl) T.n_isinstance (by decide +kernel) (pa_cons (pv 0) (pa_cons (pe_glob (v := .ref T.C_TooMany) (by rfl) T.m_TooMany rfl) pa_nil))) (pa_cons (pe_callB (call_isX (a := p.1) (oe := p.2) (ed := p.2.dict) List.mem_cons_self hxc hz hf) (by rfl) T.n_isinstance (by decide +kernel) (pa_cons (pv 0) (pa_cons (pe_glob (v := .ref T.C_Broken) (by rfl) T.m_Broken rfl) pa_nil))) pa_nil)))))) (pss_cons (ps_set (i := 2) sc__law_sort.nd rfl (Or.inl rfl) (pe_op (plusE K) (pv 2) (pe_lst (pa_cons (pe_callB (call_isX (a := p.1) (oe := p.2) (ed := p.2.dict) List.mem_cons_self hxc hz hf) (by rfl) T.n_isinstance (by decide +kernel) (pa_cons (pv 0) (pa_cons (pe_glob (v := .ref T.C_InUse) (by rfl) T.m_InUse rfl) pa_nil))) (pa_cons (pe_callB (call_isX (a := p.1) (oe := p.2) (ed := p.2.dict) List.mem_cons_self hxc hz hf) (by rfl) T.n_isinstance (by decide +kernel) (pa_cons (pv 0) (pa_cons (pe_glob (v := .ref T.C_NothingToUndo) (by rfl) T.m_NothingToUndo rfl) pa_nil))) pa_nil))))) (pss_cons (ps_set (i := 3) sc__law_sort.nd rfl (Or.inl rfl) (pe_lst (pa_cons (pe_callB (call_isX (a := p.1) (oe := p.2) (ed := p.2.dict) List.mem_cons_self hxc hz hf) (by rfl) T.n_isinstance (by decide +kernel) (pa_cons (pv 0) (pa_cons (pe_glob (v := .ref T.C_WrongValue) (by rfl) T.m_WrongValue rfl) pa_nil))) (pa_cons (pe_callB (call_isX (a := p.1) (oe := p.2) (ed := p.2.dict) List.mem_cons_self hxc hz hf) (by rfl) T.n_isinstance (by decide +kernel) (pa_cons (pv 0) (pa_cons (pe_glob (v := .ref T.C_NoAnswer) (by rfl) T.m_NoAnswer rfl) pa_nil))) pa_nil)))) (pss_cons (ps_if (PW.pt (pw_or (pt_cmpR (neA K hr.units) (bmA K PySem.F.plainAttrs_list PySem.F.slot_list_count PySem.F.type_list_count (countA K) (pv 2) (pa_cons pe_bl pa_nil)) pe_int (nomark _)) (pw_or1 (pt_cmpR (neA K hr.units) (bmA K PySem.F.plainAttrs_list PySem.F.slot_list_count PySem.F.type_list_count (countA K) (pv 3) (pa_cons pe_bl pa_nil)) pe_int (nomark _))))) (pss_one (ps_ret pe_str)) pss_nil) (pss_cons (ps_set (i := 4) sc__law_sort.nd rfl (Or.inl rfl) (bmA K PySem.F.plainAttrs_list PySem.F.slot_list_index PySem.F.type_list_index (indexA K) (pv 2) (pa_cons pe_bl pa_nil))) (pss_one (ps_ret (pe_ifExp (pt_cmpR (eqA K hr.units) (bmA K PySem.F.plainAttrs_list PySem.F.slot_list_index PySem.F.type_list_index (indexA K) (pv 3) (pa_cons pe_bl pa_nil)) (pe_ifExp (pt_cmpR opLt (pv 4) pe_int (nomark _)) pe_int pe_int) (nomark _)) (pe_ix (ixA K) (pv 1) (pv 4) (fun _ _ => rfl)) pe_str))))))))))))))))), ?_⟩
  have hl : bs.length = 22 := kit_len hk
  have cl : ∀ {c : Addr} (u : Value), RelV (.ref c) u → u = .ref c := fun u h => h
  refine rts_seq (pus_asg (EvN.ev (evn_lst (eva_cons ev_str (eva_cons ev_str (eva_cons ev_str (eva_cons ev_str (eva_cons ev_str (eva_cons ev_str eva_nil)))))) (by decide)))) ?_
  refine rts_seq (pus_asg (EvN.ev (pl_evn (Ev.b (ev_var rfl)) (EvN.b (evn_lst (eva_cons ev_str (eva_cons ev_str (eva_cons ev_str (eva_cons ev_str (eva_cons ev_str (eva_cons ev_str eva_nil)))))) (by decide))) (by decide)))) ?_
  refine rts_seq (pus_asg (EvN.ev (pl_evn (Ev.b (ev_var rfl)) (EvN.b (evn_lst (eva_cons ev_str (eva_cons ev_str (eva_cons ev_str eva_nil))) (by decide))) (by decide)))) ?_
  refine rts_seq (pus_asg (EvN.ev (pl_evn (Ev.b (ev_var rfl)) (EvN.b (evn_lst (eva_cons ev_str (eva_cons ev_str (eva_cons ev_str (eva_cons ev_str (eva_cons ev_str eva_nil))))) (by decide))) (by decide)))) ?_
  refine rts_asg (evh_lst (evha_cons (evh_isX (ev_var rfl) ev_raw cl (kit_get (k := 0) hk rfl)) (evha_cons (evh_isX (ev_var rfl) ev_raw cl (kit_get (k := 1) hk rfl)) (evha_cons (evh_isX (ev_var rfl) ev_raw cl (kit_get (k := 2) hk rfl)) evha_nil))) (small (by simp))) ?_
  refine rts_asg (evh_op (Ev.held (ev_var rfl)) (evh_lst (evha_cons (evh_isX (ev_var rfl) ev_raw cl (kit_get (k := 3) hk rfl)) (evha_cons (evh_isX (ev_var rfl) ev_raw cl (kit_get (k := 4) hk rfl)) (evha_cons (evh_isX (ev_var rfl) ev_raw cl (kit_get (k := 5) hk rfl)) evha_nil))) (small (by simp))) (pl_lst (small (by simp)))) ?_
  refine rts_asg (evh_op (Ev.held (ev_var rfl)) (evh_lst (evha_cons (evh_isX (ev_var rfl) ev_raw cl (kit_get (k := 6) hk rfl)) (evha_cons (evh_isX (ev_var rfl) ev_raw cl (kit_get (k := 7) hk rfl)) (evha_cons (evh_isX (ev_var rfl) ev_raw cl (kit_get (k := 8) hk rfl)) evha_nil))) (small (by simp))) (pl_lst (small (by simp)))) ?_
  refine rts_asg (evh_op (Ev.held (ev_var rfl)) (evh_lst (evha_cons (evh_isX (ev_var rfl) ev_raw cl (kit_get (k := 9) hk rfl)) (evha_cons (evh_isX (ev_var rfl) ev_raw cl (kit_get (k := 10) hk rfl)) (evha_cons (evh_isX (ev_var rfl) ev_raw cl (kit_get (k := 11) hk rfl)) evha_nil))) (small (by simp))) (pl_lst (small (by simp)))) ?_
  refine rts_asg (evh_op (Ev.held (ev_var rfl)) (evh_lst (evha_cons (evh_isX (ev_var rfl) ev_raw cl (kit_get (k := 12) hk rfl)) (evha_cons (evh_isX (ev_var rfl) ev_raw cl (kit_get (k := 13) hk rfl)) (evha_cons (evh_isX (ev_var rfl) ev_raw cl (kit_get (k := 14) hk rfl)) evha_nil))) (small (by simp))) (pl_lst (small (by simp)))) ?_
  refine rts_asg (evh_op (Ev.held (ev_var rfl)) (evh_lst (evha_cons (evh_isX (ev_var rfl) ev_raw cl (kit_get (k := 15) hk rfl)) (evha_cons (evh_isX (ev_var rfl) ev_raw cl (kit_get (k := 16) hk rfl)) (evha_cons (evh_isX (ev_var rfl) ev_raw cl (kit_get (k := 17) hk rfl)) evha_nil))) (small (by simp))) (pl_lst (small (by simp)))) ?_
  refine rts_asg (evh_op (Ev.held (ev_var rfl)) (evh_lst (evha_cons (evh_isX (ev_var rfl) ev_raw cl (kit_get (k := 18) hk rfl)) (evha_cons (evh_isX (ev_var rfl) ev_raw cl (kit_get (k := 19) hk rfl)) evha_nil)) (small (by simp))) (pl_lst (small (by simp)))) ?_
  refine rts_asg (evh_lst (evha_cons (evh_isX (ev_var rfl) ev_raw cl (kit_get (k := 20) hk rfl)) (evha_cons (evh_isX (ev_var rfl) ev_raw cl (kit_get (k := 21) hk rfl)) evha_nil)) (small (by simp))) ?_
  obtain ⟨f, ef⟩ : ∃ f, f = flB bs 0 20 := ⟨_, rfl⟩
  obtain ⟨g, eg⟩ : ∃ g, g = flB bs 20 2 := ⟨_, rfl⟩
  show RtS _ [.val (.raw (.ref p.1)), .val (.lst (sortWords.map D.str)), .val (.lst ((flB bs 0 20).map D.bl)), .val (.lst ((flB bs 20 2).map D.bl)), .unset] ⟨C, fs⟩ p.2.dict (.str (sortW bs))
  have es : sortW bs = if f.countP id = 1 ∧ g.countP id = 1 ∧ g.idxOf true = (if f.idxOf true < 15 then 0 else 1) then sortWords.getD (f.idxOf true) "other" else "other" := by
    have e1 : bs.take 20 = f := by rw [ef, ← flB_eq (by omega), List.drop_zero]
    have e2 : bs.drop 20 = g := by
      rw [eg, ← flB_eq (by omega), List.take_of_length_le (by rw [List.length_drop]; omega)]
    unfold sortW
    rw [e1, e2]
  rw [es, ← ef, ← eg]
  have hF : EvT _ _ (!decide (((f.countP id : Nat) : Int) = 1) || !decide (((g.countP id : Nat) : Int) = 1)) := evt_or (Γ := [.val (.raw (.ref p.1)), .val (.lst (sortWords.map D.str)), .val (.lst (f.map D.bl)), .val (.lst (g.map D.bl)), .unset]) (evt_test (ev_op (ev_countB (K := K) (Ev.b (ev_var (i := 2) rfl)) ev_bl) ev_int (ne_int' (K := K)))) fun _ => evt_test (ev_op (ev_countB (K := K) (Ev.b (ev_var (i := 3) rfl)) ev_bl) ev_int (ne_int' (K := K)))
  by_cases hc : f.countP id = 1 ∧ g.countP id = 1
  · obtain ⟨c1, c2⟩ := hc
    rw [c1, c2] at hF
    have m1 : true ∈ f := by
      obtain ⟨b, hb, e⟩ := List.countP_pos_iff.mp (show 0 < f.countP id by omega)
      cases b
      · cases e
      · exact hb
    have m2 : true ∈ g := by
      obtain ⟨b, hb, e⟩ := List.countP_pos_iff.mp (show 0 < g.countP id by omega)
      cases b
      · cases e
      · exact hb
    refine rts_seq (pus_ifF hF pus_next) (rts_seq (pus_asg (ev_idxB (Ev.b (ev_var rfl)) ev_bl m1)) (rts_ret ?_))
    have hi : f.idxOf true < 20 := by
      have := List.idxOf_lt_length_iff.mpr m1
      rw [ef] at this ⊢
      simpa [flB] using this
    have hT := evt_test (ev_op (Γ := [.val (.raw (.ref p.1)), .val (.lst (sortWords.map D.str)), .val (.lst (f.map D.bl)), .val (.lst (g.map D.bl)), .val (.int (f.idxOf true : Nat))]) (ev_idxB (K := K) (Ev.b (ev_var (i := 3) rfl)) ev_bl m2) (ev_ifI (i := 0) (j := 1) (evt_test (ev_op (ev_var (i := 4) rfl) (ev_int (z := 15)) lt_int')) ev_int ev_int) (eq_int' (K := K)))
    by_cases hg : g.idxOf true = (if f.idxOf true < 15 then 0 else 1)
    · rw [if_pos ⟨c1, c2, hg⟩]
      refine evx_ifT ?_ (Ev.held (ev_ix (Ev.b (ev_var rfl)) (ev_var rfl) ?_))
      · have e : decide (((g.idxOf true : Nat) : Int) = if decide (((f.idxOf true : Nat) : Int) < 15) = true then 0 else 1) = true := by
          rw [hg]
          by_cases q : f.idxOf true < 15
          · rw [if_pos q, if_pos (decide_eq_true (show ((f.idxOf true : Nat) : Int) < 15 by omega))]; rfl
          · rw [if_neg q, if_neg (fun z => q (by have z' : ((f.idxOf true : Nat) : Int) < 15 := of_decide_eq_true z; omega))]; rfl
        rw [e] at hT
        exact hT
      · refine atI_nat ?_
        rw [List.getElem?_map, List.getD_eq_getElem?_getD, List.getElem?_eq_getElem (show f.idxOf true < sortWords.length from hi)]; rfl
    · rw [if_neg fun z => hg z.2.2]
      refine evx_ifF ?_ (Ev.held ev_str)
      have e : decide (((g.idxOf true : Nat) : Int) = if decide (((f.idxOf true : Nat) : Int) < 15) = true then 0 else 1) = false := by
        refine decide_eq_false fun z => hg ?_
        by_cases q : f.idxOf true < 15
        · rw [if_pos (decide_eq_true (show ((f.idxOf true : Nat) : Int) < 15 by omega))] at z; rw [if_pos q]; omega
        · rw [if_neg (fun z => q (by have z' : ((f.idxOf true : Nat) : Int) < 15 := of_decide_eq_true z; omega))] at z; rw [if_neg q]; omega
      rw [e] at hT
      exact hT
  · have e : ((!decide (((f.countP id : Nat) : Int) = 1)) || !decide (((g.countP id : Nat) : Int) = 1)) = true := by
      by_cases c1 : f.countP id = 1
      · have c2 : ¬ g.countP id = 1 := fun z => hc ⟨c1, z⟩
        rw [show decide (((g.countP id : Nat) : Int) = 1) = false from decide_eq_false (by omega), Bool.not_false, Bool.or_true]
      · rw [show decide (((f.countP id : Nat) : Int) = 1) = false from decide_eq_false (by omega)]; rfl
    rw [e] at hF
    rw [if_neg fun z => hc ⟨z.1, z.2.1⟩]
    exact rts_first (rts_ifT hF (rts_ret (Ev.held ev_str)))

end K02

namespace K02
open PySem PySem.Spec PyProof.Rows L2 Dw
variable [Tabs0]
def noneW : List Str := ["other", "NothingToUndo", "NoRanking"]
def givenW : List Str := ["InvalidText", "InvalidNumber", "InvalidName", "InvalidIndex", "InvalidClaim", "InvalidRow", "InvalidRanking", "InvalidRule", "UnknownName", "NotABook", "NotACase", "NotACourt"]
def indexW : List Str := ["InvalidLot", "InvalidOffers", "InvalidCases", "InUse"]
/-- what stands behind the word -/
def isDctB : D → Bool | .dct _ _ => true | _ => false
/-- repr of a book: as its class tells it -/
def reprB (n : Nat) : Str := Str.empty ++ Str.ofString "Book with " ++ Str.ofString (toString (n : Int)) ++ Str.ofString " rules"
def spBRepr (C : Addr) : Spc where
  ty := List (List Nat) × List (List Nat)
  args := fun x => [bookD C x.1 x.2]
  ok := fun x => x.1.length ≤ 8
  rel := fun x d => d = .str (reprB x.1.length)
/-- the text that repr gives of [book] and (book,) -/
def ownT : D → Option Str
  | .lst [.obj _ _ [_, .tup ns, _]] => some (listText [reprB ns.length])
  | .tup [.obj _ _ [_, .tup ns, _]] => some (tupleText [reprB ns.length])
  | _ => none
/-- the text that repr gives: of {} and of such too -/
def shZ (d : D) : Str := match ownT d with
  | some z => z
  | none => if isDctB d = true then "{}" else PyData.shown (py d)
def attrO (fs : List (Str × D)) (wd : Str) : Str := if wd ∈ noneW then "" else match fs with | [] => "" | f :: _ => shZ f.2
def shF (C : Addr) (d : D) : Prop := RpO C (spBRepr C) d (shZ d)
inductive AttrOk (C0 : Addr) (wd : Str) (fs : List (Str × D)) : Prop
  | none (h : wd ∈ noneW)
  | given (h : wd ∈ givenW) (d : D) (e : fs = [(("given" : Str), d)]) (s : shF C0 d)
  | index (h : wd ∈ indexW) (d : D) (e : fs = [(("index" : Str), d)]) (s : shF C0 d)
  | many (h : wd = "TooMany") (d : D) (e : fs = [(("number" : Str), d)]) (s : shF C0 d)
structure XAttr (K : PySem.W.Frag) (C : Addr) : Prop where
  xf : XfC K C
  no : ∀ n ∈ (["given", "index", "number", "told"] : List Str), PySem.W.findIn K (.ref C) n = some none
def spAttr (K : PySem.W.Frag) (C0 : Addr) : SpcS where
  ty := Exn × Str
  args := fun x => [.str x.2]
  ok := fun x => XAttr K x.1.C ∧ AttrOk C0 x.2 x.1.fs
  ex := fun x => x.1
  out := fun x => .str (attrO x.1.fs x.2)
theorem inV_strs (wd : Str) : ∀ ws : List Str, inV (scV (.str wd)) ((ws.map D.str).map scV) = decide (wd ∈ ws)
  | [] => rfl
  | w :: ws => by
    have ih := inV_strs wd ws
    unfold inV at ih ⊢
    rw [List.map_cons, List.map_cons, List.any_cons, ih, Bool.eq_iff_iff]
    show ((w == wd) || decide (wd ∈ ws)) = true ↔ _
    rw [Bool.or_eq_true, decide_eq_true_iff, decide_eq_true_iff, List.mem_cons, beq_iff_eq]
    exact ⟨fun h => h.imp Eq.symm id, fun h => h.imp Eq.symm id⟩
theorem scs : ∀ ws : List Str, (ws.map D.str).all isSc = true
  | [] => rfl
  | w :: ws => scs ws
theorem evt_inW {K : PySem.W.Frag} {Γ : Gam} {ta tb : TE} {wd : Str} {ws : List Str} {b : Bool} (h : Ev ta Γ (.str wd)) (hb : EvB tb Γ (ws.map D.str)) (e : decide (wd ∈ ws) = b) : EvT (tTest (tOp (rOr (rIn K false) rInS) ta tb)) Γ b := by
  have := evt_test (ev_in (K := K) (neg := false) (r' := rInS) h hb rfl (scs ws))
  rw [inV_strs] at this
  rw [← e]
  exact this
theorem word_apart : ∀ w ∈ givenW ++ indexW, w ∉ noneW ∧ w ≠ ("Broken" : Str) ∧ w ≠ ("TooMany" : Str) := by decide
theorem given_index : ∀ w ∈ givenW, w ∉ indexW := by decide
end K02

namespace K02
open PySem PySem.Spec PyProof.Rows L2 Dw
variable [Tabs0]
theorem repr_len : ∀ n : Nat, n < 9 → (Str.empty ++ Str.ofString "Book with ").length ≤ 100 ∧ (Str.empty ++ Str.ofString "Book with " ++ Str.ofString (toString (n : Int))).length ≤ 100 ∧ (reprB n).length ≤ 100 := by decide +kernel
end K02

namespace K02
open PySem PySem.Spec PyProof.Rows L2 Dw
variable [Tabs0]
theorem d_Book___repr__ {P : Program} {w : World} {K : PySem.W.Frag} {mg : Str → Option Value} {base : Heap} (T : Txt K w mg) : FnOk P w K mg base CX0 1 T.f_Book___repr__ T.e_Book___repr__ ["self"] (toSp (spBRepr T.C_Book)) := by
  refine fn_ok T.F_Book___repr__ sc_Book___repr__ (fun _ => rfl) fun cdv A outer s' H E hr => ?_
  refine ⟨_, (pss_one (ps_ret (pe_joined (.cons pe_str (.cons (pe_fmt (pe_callB (lenA K) (by rfl) T.n_len (by decide +kernel) (pa_cons (fldA K (pv 0)) pa_nil))) (.cons pe_str .nil)))))), fun x hx => ?_⟩
  obtain ⟨ls, rs⟩ := x
  have h8 : ls.length ≤ 8 := hx
  obtain ⟨z1, z2, z3⟩ := repr_len ls.length (by omega)
  have hz : ((ls.length : Nat) : Int).natAbs.log2 < 1920 := by
    rw [Int.natAbs_natCast]
    exact Nat.lt_of_le_of_lt (Nat.log2_le_self _) (by omega)
  exact ds_ret (Ev.dl (ev_fstrI (ev_cast (d' := .int (ls.length : Nat)) (congrArg (fun k : Nat => D.int k) (nameD_len ls)) (ev_lenT (ds := nameD ls) (ev_fld T.cl_Book T.no_names (ev_var rfl) (by rfl)))) hz (small (by omega)) (small (by omega)) (small (show (reprB ls.length).length ≤ 100000 by omega))) rfl)
theorem d_Book___repr___H {P : Program} {w : World} {K : PySem.W.Frag} {mg : Str → Option Value} {base : Heap} (T : Txt K w mg) : FnT P w K mg base 1 T.f_Book___repr__ T.e_Book___repr__ ["self"] (toSp (spBRepr T.C_Book)) := by
  refine fnT_ok T.F_Book___repr__ sc_Book___repr__ (fun _ => rfl) fun cdv A outer s' H E p hr => ?_
  refine ⟨_, (pss_one (ps_ret (pe_joined (.cons pe_str (.cons (pe_fmt (pe_callB (lenA K) (by rfl) T.n_len (by decide +kernel) (pa_cons (fldA K (pv 0)) pa_nil))) (.cons pe_str .nil)))))), fun x hx => ?_⟩
  obtain ⟨ls, rs⟩ := x
  have h8 : ls.length ≤ 8 := hx
  obtain ⟨z1, z2, z3⟩ := repr_len ls.length (by omega)
  have hz : ((ls.length : Nat) : Int).natAbs.log2 < 1920 := by
    rw [Int.natAbs_natCast]
    exact Nat.lt_of_le_of_lt (Nat.log2_le_self _) (by omega)
  exact ds_ret (Ev.dl (ev_fstrI (ev_cast (d' := .int (ls.length : Nat)) (congrArg (fun k : Nat => D.int k) (nameD_len ls)) (ev_lenT (ds := nameD ls) (ev_fld T.cl_Book T.no_names (ev_var rfl) (by rfl)))) hz (small (by omega)) (small (by omega)) (small (show (reprB ls.length).length ≤ 100000 by omega))) rfl)

end K02

namespace K02
open PySem PySem.Spec PyProof.Rows L2 Dw
variable [Tabs0]
theorem d__law_attribute {P : Program} {w : World} {K : PySem.W.Frag} {mg : Str → Option Value} {base : Heap} (T : Txt K w mg) : FnS P w K mg base 4 T.f__law_attribute T.e__law_attribute ["_law_e", "_law_word_here"] (toSpS (spAttr K T.C_Book)) := by
  refine fnS_ok T.F__law_attribute sc__law_attribute (fun _ => rfl) fun cdv A outer s' H E p x hr hG hx hz hf hd => ?_
  obtain ⟨⟨C, fs⟩, wd⟩ := x
  obtain ⟨⟨hxf, hno⟩, hw⟩ := hx
  have hxf : XfC K C := hxf
  have hno_given : PySem.W.findIn K (.ref C) "given" = some none := hno _ (by simp)
  have hno_index : PySem.W.findIn K (.ref C) "index" = some none := hno _ (by simp)
  have hno_number : PySem.W.findIn K (.ref C) "number" = some none := hno _ (by simp)
  have hno_told : PySem.W.findIn K (.ref C) "told" = some none := hno _ (by simp)
  have hw : AttrOk T.C_Book wd fs := hw
  refine ⟨_, (pss_cons (ps_if (pt_cmpR (inA K) (pv 1) (pe_lst (pa_cons pe_str (pa_cons pe_str (pa_cons pe_str pa_nil)))) (by rfl)) (pss_one (ps_ret pe_str)) pss_nil) (pss_cons (ps_if (pt_cmpR (eqA K hr.units) (pv 1) pe_str (nomark _)) (pss_one (ps_ret (pe_callB (cr_reprOH (p := p) (d_Book___repr___H T) (hr.mono (by decide)) hG List.mem_cons_self T.or_Book T.ir_Book T.b_Book___repr__) (by rfl) T.n_repr (by decide +kernel) (pa_cons (pe_tup (pa_cons (pe_xfP (a := p.1) (oe := p.2) (ed := p.2.dict) List.mem_cons_self hxf hno_index hz hf (pv 0)) (pa_cons (pe_xfP (a := p.1) (oe := p.2) (ed := p.2.dict) List.mem_cons_self hxf hno_told hz hf (pv 0)) pa_nil))) pa_nil)))) pss_nil) (pss_cons (ps_if (pt_cmpR (eqA K hr.units) (pv 1) pe_str (nomark _)) (pss_one (ps_ret (pe_callB (cr_reprOH (p := p) (d_Book___repr___H T) (hr.mono (by decide)) hG List.mem_cons_self T.or_Book T.ir_Book T.b_Book___repr__) (by rfl) T.n_repr (by decide +kernel) (pa_cons (pe_xfP (a := p.1) (oe := p.2) (ed := p.2.dict) List.mem_cons_self hxf hno_number hz hf (pv 0)) pa_nil)))) pss_nil) (pss_cons (ps_set (i := 2) sc__law_attribute.nd rfl (Or.inl rfl) (pe_lst (pa_cons pe_str (pa_cons pe_str (pa_cons pe_str (pa_cons pe_str pa_nil)))))) (pss_one (ps_ret (pe_ifExp (pt_cmpR (inA K) (pv 1) (pv 2) (by rfl)) (pe_callB (cr_reprOH (p := p) (d_Book___repr___H T) (hr.mono (by decide)) hG List.mem_cons_self T.or_Book T.ir_Book T.b_Book___repr__) (by rfl) T.n_repr (by decide +kernel) (pa_cons (pe_xfP (a := p.1) (oe := p.2) (ed := p.2.dict) List.mem_cons_self hxf hno_index hz hf (pv 0)) pa_nil)) (pe_callB (cr_reprOH (p := p) (d_Book___repr___H T) (hr.mono (by decide)) hG List.mem_cons_self T.or_Book T.ir_Book T.b_Book___repr__) (by rfl) T.n_repr (by decide +kernel) (pa_cons (pe_xfP (a := p.1) (oe := p.2) (ed := p.2.dict) List.mem_cons_self hxf hno_given hz hf (pv 0)) pa_nil))))))))), ?_⟩
  show RtS _ _ (⟨C, fs⟩ : Exn) _ (.str (attrO fs wd))
  have t1 : ∀ {b : Bool}, decide (wd ∈ noneW) = b → EvT _ (Gz0 3 [.raw (.ref p.1), .str wd]) b := fun {b} e => evt_inW (K := K) (ws := noneW) (ev_var (i := 1) rfl) (EvN.b (evn_lst (eva_cons (ev_str (z := "other")) (eva_cons (ev_str (z := "NothingToUndo")) (eva_cons (ev_str (z := "NoRanking")) eva_nil))) (by decide))) e
  have all : (∃ d, wd = "TooMany" ∧ fs = [(("number" : Str), d)] ∧ shF T.C_Book d) ∨ wd ∈ noneW ∨ ∃ d, wd ∈ givenW ++ indexW ∧ fs.lookup (if wd ∈ indexW then ("index" : Str) else ("given" : Str)) = some d ∧ shF T.C_Book d ∧ attrO fs wd = shZ d := by
    cases hw with
    | none h => exact .inr (.inl h)
    | many h d e s => exact .inl ⟨d, h, e, s⟩
    | given h d e s =>
      subst e
      have hm : wd ∈ givenW ++ indexW := List.mem_append_left _ h
      refine .inr (.inr ⟨d, hm, ?_, s, ?_⟩)
      · rw [if_neg (given_index wd h)]; rfl
      · unfold attrO
        rw [if_neg (word_apart wd hm).1]
    | index h d e s =>
      subst e
      have hm : wd ∈ givenW ++ indexW := List.mem_append_right _ h
      refine .inr (.inr ⟨d, hm, ?_, s, ?_⟩)
      · rw [if_pos h]; rfl
      · unfold attrO
        rw [if_neg (word_apart wd hm).1]
  rcases all with ⟨d, rfl, rfl, hsF⟩ | h | ⟨d, hm, hd', hsF, ho⟩
  · have ho : attrO [(("number" : Str), d)] "TooMany" = shZ d := by
      unfold attrO
      rw [if_neg (by decide)]
    rw [ho]
    refine rts_seq (pus_ifF (t1 (decide_eq_false (show ¬ ("TooMany" : Str) ∈ noneW by decide))) pus_next) ?_
    refine rts_seq (pus_ifF (evt_test (ev_op (ev_var (i := 1) rfl) (ev_str (z := "Broken")) (eq_sb (K := K) (decide_eq_false (show ¬ ("TooMany" : Str) = "Broken" by decide))))) pus_next) ?_
    exact rts_first (rts_ifT (evt_test (ev_op (ev_var (i := 1) rfl) (ev_str (z := "TooMany")) (eq_sb (K := K) (decide_eq_true rfl)))) (rts_ret (evh_reprO (evh_xf (x := ⟨C, _⟩) (ev_var (i := 0) rfl) rfl) hsF)))
  · unfold attrO
    rw [if_pos h]
    exact rts_first (rts_ifT (t1 (decide_eq_true h)) (rts_ret (Ev.held ev_str)))
  · obtain ⟨w1, w2, w3⟩ := word_apart wd hm
    rw [ho]
    refine rts_seq (pus_ifF (t1 (decide_eq_false w1)) pus_next) ?_
    refine rts_seq (pus_ifF (evt_test (ev_op (ev_var (i := 1) rfl) (ev_str (z := "Broken")) (eq_sb (K := K) (decide_eq_false w2)))) pus_next) ?_
    refine rts_seq (pus_ifF (evt_test (ev_op (ev_var (i := 1) rfl) (ev_str (z := "TooMany")) (eq_sb (K := K) (decide_eq_false w3)))) pus_next) ?_
    refine rts_seq (pus_asg (EvN.ev (evn_lst (eva_cons (ev_str (z := "InvalidLot")) (eva_cons (ev_str (z := "InvalidOffers")) (eva_cons (ev_str (z := "InvalidCases")) (eva_cons (ev_str (z := "InUse")) eva_nil)))) (by decide)))) ?_
    refine rts_ret ?_
    by_cases hi : wd ∈ indexW
    · rw [if_pos hi] at hd'
      exact evx_ifT (evt_inW (K := K) (ws := indexW) (ev_var (i := 1) rfl) (Ev.b (ev_var (i := 2) rfl)) (decide_eq_true hi)) (evh_reprO (evh_xf (x := ⟨C, fs⟩) (ev_var (i := 0) rfl) hd') hsF)
    · rw [if_neg hi] at hd'
      exact evx_ifF (evt_inW (K := K) (ws := indexW) (ev_var (i := 1) rfl) (Ev.b (ev_var (i := 2) rfl)) (decide_eq_false hi)) (evh_reprO (evh_xf (x := ⟨C, fs⟩) (ev_var (i := 0) rfl) hd') hsF)

end K02

namespace K02
open PySem PySem.Spec PyProof.Rows L2 Dw
variable [Tabs0]
/-- what is known of a class that the law's calls raise, and the word told of it -/
structure Rsd (K : PySem.W.Frag) (cs : List Addr) (C : Addr) (word : Str) : Prop where
  ex : ∃ bs, ExcC K C ∧ KitRow K C cs bs ∧ sortW bs = word
  at_ : XAttr K C
def tsTold (K : PySem.W.Frag) (C0 : Addr) (cs : List Addr) : Addr → Value → Option Addr → TS := fun a cls ed => tSeq (tAsg (fun σ H Q => (tCons (tVar 2) tNil) σ H fun vs H1 => toSpH (spSort K cs) a cls ed vs H1 Q E0) (gName 3)) (tRet (tTup (tCons (tVar 3) (tCons (fun σ H Q => (tCons (tVar 2) (tCons (tVar 3) tNil)) σ H fun vs H1 => toSpH (spAttr K C0) a cls ed vs H1 Q E0) tNil))))
theorem told_gv {X : Cx} (T : Txt X.K X.w X.mg) (cdg : Value) {q : Str} (hr : Room 6 X.A) (hG : X.A.guards = some []) :
    LamX.GivesTo X N__law_told "_law_told" (defScope s__law_told) T.f__law_told cdg (defBody s__law_told) "_law_job" q (TTold3 X.K (.ref T.C_WrongValue) (.ref T.C_NoAnswer) 4 2 "returned" (tsTold X.K T.C_Book (sortCs T))) := by
  refine told_gives3 (pt := ⟨0, 0, 0, 0⟩) (Ng := N__law_told) (ig := 1) (ie := 2) sc__law_told.nd rfl rfl rfl rfl rfl rfl T.m_WrongValue T.m_NoAnswer rfl rfl (fun _ => rfl) (fun _ => rfl) (by decide) (by decide) (by decide) fun s H a oe cls d pn hz hf => ?_
  have hr0 := L2H.RoomH.deeper (L2H.roomH_of hr) (envOfC "_law_told" (defScope s__law_told) s.heap.objs.size T.f__law_told cdg)
  have hrH : L2H.RoomH (6 - 1) ((X.A.deeper (envOfC "_law_told" (defScope s__law_told) s.heap.objs.size T.f__law_told cdg)).mark (some (.ref a))) := ⟨hr0.dp, hr0.un⟩
  exact pss_cons (ps_set (i := 3) sc__law_told.nd rfl (Or.inl rfl) (pe_callH hz hf (d__law_sort T) (hrH.mono (by decide)) hG List.mem_cons_self rfl T.m__law_sort T.F__law_sort.kp T.b__law_sort (pa_cons (pv 2) pa_nil)))
    (pss_one (ps_ret (pe_tup (pa_cons (pv 3) (pa_cons (pe_callH hz hf (d__law_attribute T) (hrH.mono (by decide)) hG List.mem_cons_self rfl T.m__law_attribute T.F__law_attribute.kp T.b__law_attribute (pa_cons (pv 2) (pa_cons (pv 3) pa_nil))) pa_nil)))))
/-- an error: its word, and what it says -/
theorem suitF {K : PySem.W.Frag} {cs : List Addr} {C0 C : Addr} {word : Str} {fs : List (Str × D)} (R : Rsd K cs C word) (h : AttrOk C0 word fs) : SuitX (tsTold K C0 cs) 4 2 ⟨C, fs⟩ (.tup [.str word, .str (attrO fs word)]) := by
  intro F W σ a Dr ed ok hl na hx k
  obtain ⟨bs, hc, hk, hw⟩ := R.ex
  have g := (sr_unset ok σ).set (i := 2) (d := .raw (.ref a)) (v := .ref a) rfl
  rw [hl] at g
  refine rts_asg (evh_call (s := spSort K cs) (x := (⟨C, fs⟩, bs)) (eva_cons (ev_var rfl) eva_nil) ⟨hc, hk⟩) ?_ F _ W Dr g hx k
  refine rts_ret (evh_pair (Ev.held ?_) (evh_call (s := spAttr K C0) (x := (⟨C, fs⟩, word)) (eva_cons (ev_var rfl) (eva_cons ?_ eva_nil)) ⟨R.at_, h⟩))
  · rw [← hw]; exact ev_var rfl
  · rw [← hw]; exact ev_var rfl


end K02

namespace K02
open PySem PySem.Spec PyProof.Rows L2 Dw
variable [Tabs0]
/-! books: made, with a row more, without a row -/
def spCkRow : Spc where
  ty := List Nat × Nat
  args := fun x => [.str (tx x.1), .int x.2]
  ok := fun x => RowOk x.1 x.2 ∧ 1 ≤ x.2 ∧ x.2 ≤ 8
  rel := fun _ d => d = .non
def spCkIx : Spc where
  ty := Nat × Nat
  args := fun x => [.int x.1, .int x.2]
  ok := fun x => x.1 < x.2
  rel := fun _ d => d = .non
def spWrite : Spc where
  ty := Bk
  args := fun x => [.tup (nameD x.1), .tup (nameD x.2)]
  ok := fun x => BookOk x.1 x.2
  rel := fun x d => d = .str (tx (bookTx x.1 x.2))
def spWith (C : Addr) : Spc where
  ty := Bk × List Nat
  args := fun x => [bookD C x.1.1 x.1.2, .str (tx x.2)]
  ok := fun x => BookOk x.1.1 x.1.2 ∧ RowOk x.2 x.1.1.length ∧ x.1.2.length < 20
  rel := fun x d => d = bookD C x.1.1 (x.1.2 ++ [x.2])
def spMore (C E : Addr) : SpcX where
  ty := Bk × List Nat
  args := fun x => [bookD C x.1.1 x.1.2, .str (tx x.2)]
  ok := fun x => BookOk x.1.1 x.1.2 ∧ RowOk x.2 x.1.1.length ∧ x.1.2.length = 20
  ex := fun _ => ⟨E, [("number", .int 20)]⟩
def spOut (C : Addr) : Spc where
  ty := Bk × Nat
  args := fun x => [bookD C x.1.1 x.1.2, .int x.2]
  ok := fun x => BookOk x.1.1 x.1.2 ∧ x.2 < x.1.2.length
  rel := fun x d => d = bookD C x.1.1 (x.1.2.take x.2 ++ x.1.2.drop (x.2 + 1))
def spBText (C : Addr) : Spc where
  ty := Bk
  args := fun x => [bookD C x.1 x.2]
  ok := fun _ => True
  rel := fun x d => d = .str (tx (bookTx x.1 x.2))
theorem nameD_app (a b : List (List Nat)) : nameD a ++ nameD b = nameD (a ++ b) := by unfold nameD; rw [List.map_append]
theorem rows_app {rs qs : List (List Nat)} {n : Nat} (h1 : ∀ r ∈ rs, RowOk r n) (h2 : ∀ r ∈ qs, RowOk r n) : ∀ r ∈ rs ++ qs, RowOk r n := fun r hr => by
  rcases List.mem_append.mp hr with h | h
  · exact h1 r h
  · exact h2 r h
theorem rows_one {r : List Nat} {n : Nat} (h : RowOk r n) : ∀ q ∈ [r], RowOk q n := fun q hq => by rw [List.mem_singleton.mp hq]; exact h
theorem BookOk.snoc {ls rs : List (List Nat)} {r : List Nat} (h : BookOk ls rs) (hr : RowOk r ls.length) (h2 : rs.length < 20) : BookOk ls (rs ++ [r]) := ⟨h.names, by rw [List.length_append]; show rs.length + 1 ≤ 20; omega, rows_app h.rows (rows_one hr)⟩
theorem BookOk.less {ls rs : List (List Nat)} (hb : BookOk ls rs) (i : Nat) : BookOk ls (rs.take i ++ rs.drop (i + 1)) := ⟨hb.names, by have := hb.few; rw [List.length_append, List.length_take, List.length_drop]; omega, fun r hr => (List.mem_append.mp hr).elim (fun h => hb.rows r (List.mem_of_mem_take h)) fun h => hb.rows r (List.mem_of_mem_drop h)⟩
theorem nmD_take (ws : List (List Nat)) (k : Nat) : Dw.cutD (nameD ws) none (some (k : Int)) = nameD (ws.take k) := by rw [cut_take]; unfold nameD; rw [List.map_take]
theorem nmD_drop1 (ws : List (List Nat)) (k : Nat) : Dw.cutD (nameD ws) (some ((k : Int) + 1)) none = nameD (ws.drop (k + 1)) := by rw [cut_drop1]; unfold nameD; rw [List.map_drop]
theorem nmD_less (ws : List (List Nat)) (k : Nat) : Dw.cutD (nameD ws) none (some (k : Int)) ++ Dw.cutD (nameD ws) (some ((k : Int) + 1)) none = nameD (ws.take k ++ ws.drop (k + 1)) := by rw [nmD_take, nmD_drop1, nameD_app]
theorem less_len (ws : List (List Nat)) (k : Nat) (h : ws.length ≤ 20) : (Dw.cutD (nameD ws) none (some (k : Int))).length + (Dw.cutD (nameD ws) (some ((k : Int) + 1)) none).length ≤ sizeLine := by
  rw [nmD_take, nmD_drop1, nameD_len, nameD_len, List.length_take, List.length_drop]
  exact small (by omega)
end K02

namespace K02
open PySem PySem.Spec PyProof.Rows L2 Dw
variable [Tabs0]
theorem d_check_row {P : Program} {w : World} {K : PySem.W.Frag} {mg : Str → Option Value} {base : Heap} (T : Txt K w mg) : FnOk P w K mg base CX0 3 T.f_check_row T.e_check_row ["row", "many"] (toSp (spCkRow)) := by
  refine fn_ok T.F_check_row sc_check_row (fun _ => rfl) fun cdv A outer s' H E hr => ?_
  refine ⟨_, (pss_one (ps_if (pt_not (truA K (pe_call (d_is_row T) (hr.mono (by decide)) (by rfl) T.m_is_row T.F_is_row.kp T.b_is_row .nil pass0 (pa_cons (pv 0) (pa_cons (pv 1) pa_nil))))) (pss_one ps_never) pss_nil)), fun x hx => ?_⟩
  obtain ⟨l, n⟩ := x
  obtain ⟨hr', h1, h8⟩ := hx
  have hr' : RowOk l n := hr'
  exact ds_if (EvT.dl (b := false) (evt_not (a := true) (evt_tru_bl (ev_call (s := spRowG) (x := (.str (tx l), n)) (eva_cons (ev_var rfl) (eva_cons (ev_var rfl) eva_nil)) rfl (pv_row hr' h8) fun d h => by rw [h, row_ok hr' h1 h8]))) ⟨fun h => (nomatch h), fun _ => ds_next rfl⟩)
end K02

namespace K02
open PySem PySem.Spec PyProof.Rows L2 Dw
variable [Tabs0]
theorem d_check_index {P : Program} {w : World} {K : PySem.W.Frag} {mg : Str → Option Value} {base : Heap} (T : Txt K w mg) : FnOk P w K mg base CX0 3 T.f_check_index T.e_check_index ["index", "many"] (toSp (spCkIx)) := by
  refine fn_ok T.F_check_index sc_check_index (fun _ => rfl) fun cdv A outer s' H E hr => ?_
  refine ⟨_, (pss_one (ps_if (pt_not (truA K (pe_call (d_is_index T) (hr.mono (by decide)) (by rfl) T.m_is_index T.F_is_index.kp T.b_is_index .nil pass0 (pa_cons (pv 0) (pa_cons (pv 1) pa_nil))))) (pss_one ps_never) pss_nil)), fun x hx => ?_⟩
  obtain ⟨k, m⟩ := x
  have hk : k < m := hx
  exact ds_if (EvT.dl (b := false) (evt_not (a := true) (evt_tru_bl (ev_call (s := spIndexG) (x := (.int (k : Nat), m)) (eva_cons (ev_var rfl) (eva_cons (ev_var rfl) eva_nil)) rfl rfl fun d h => by rw [h]; show D.bl (decide (0 ≤ (k : Int)) && decide ((k : Int) < (m : Int))) = .bl true; rw [decide_eq_true (by omega), decide_eq_true (by omega)]; rfl))) ⟨fun h => (nomatch h), fun _ => ds_next rfl⟩)
end K02

namespace K02
open PySem PySem.Spec PyProof.Rows L2 Dw
variable [Tabs0]
theorem d_write_book {P : Program} {w : World} {K : PySem.W.Frag} {mg : Str → Option Value} {base : Heap} (T : Txt K w mg) : FnOk P w K mg base CX0 1 T.f_write_book T.e_write_book ["names", "rows"] (toSp (spWrite)) := by
  refine fn_ok T.F_write_book sc_write_book (fun _ => rfl) fun cdv A outer s' H E hr => ?_
  refine ⟨_, (pss_one (ps_ret (joinA K pe_str (pe_lst (pa_cons (pe_op (plusE K) (joinA K pe_str (pv 0)) pe_str) (starA K (pv 1) pa_nil)))))), fun x hx => ?_⟩
  obtain ⟨ls, rs⟩ := x
  have hb : BookOk ls rs := hx
  have h8 := hb.names.hi
  have h20 := hb.few
  have hl := hb.hl
  have s1 := sum_tx (m := 8) ls fun p hp => (hb.names.all p hp).hi
  have s2 := sum_tx (m := 8) rs fun p hp => by rw [(hb.rows p hp).len]; exact h8
  refine ds_ret (Ev.dl (ev_cast (d := .str (Txt.join (Str.ofString " ") (((TL.joinL [32] ls ++ [58]) :: rs).map tx))) ?_ (ev_join ev_str (EvN.b (ds := (((TL.joinL [32] ls ++ [58]) :: rs).map tx).map D.str) ?_) ?_)) rfl)
  · rw [join_sp]; rfl
  · have e : (((TL.joinL [32] ls ++ [58]) :: rs).map tx).map D.str = [D.str (tx (TL.joinL [32] ls) ++ Str.ofString ":")] ++ nameD rs := by
      rw [List.map_cons, List.map_cons, nameD_map]
      show D.str (tx (TL.joinL [32] ls ++ [58])) :: nameD rs = D.str (tx (TL.joinL [32] ls) ++ Str.ofString ":") :: nameD rs
      rw [colonS, tx_append]
    rw [e]
    refine evn_lst (eva_cons (ev_op (ev_cast (d := .str (Txt.join (Str.ofString " ") (ls.map tx))) (by rw [join_sp]) (ev_joinT ev_str (ev_cast (congrArg D.tup (nameD_map ls).symm) (ev_var (d := .tup (nameD ls)) rfl)) ?_)) ev_str (pl_str ?_)) (ev_cast_eva (List.append_nil (nameD rs)) (eva_star (ev_var (d := .tup (nameD rs)) rfl) eva_nil))) (by rw [List.length_append, nameD_len]; show 1 + rs.length ≤ _; exact small (by omega))
    · rw [List.length_map]
      show _ + ls.length * 1 ≤ _
      omega
    · rw [tx_len]
      show _ + 1 ≤ _
      exact small (by omega)
  · rw [List.map_cons, List.map_cons, List.sum_cons, List.length_cons, List.length_map, tx_len, List.length_append]
    show _ + 1 + _ + (rs.length + 1) * 1 ≤ _
    omega
end K02

namespace K02
open PySem PySem.Spec PyProof.Rows L2 Dw
variable [Tabs0]
theorem d_TooMany___init__ {P : Program} {w : World} {K : PySem.W.Frag} {mg : Str → Option Value} {base : Heap} (T : Txt K w mg) : FnOk P w K mg base CX0 1 T.f_TooMany___init__ T.e_TooMany___init__ ["self", "number"] (spXI T.C_TooMany "number") :=
  fn_ainit T.F_TooMany___init__ sc_TooMany___init__ rfl T.xo_TooMany T.xn_TooMany_number rfl fun cdv A outer s' H E => (pss_one (ps_oaf (pv 0) (pv 1)))

end K02

namespace K02
open PySem PySem.Spec PyProof.Rows L2 Dw
variable [Tabs0]
theorem d_Book_with_row {P : Program} {w : World} {K : PySem.W.Frag} {mg : Str → Option Value} {base : Heap} (T : Txt K w mg) : FnOk P w K mg base (L2.CX P w) 6 T.f_Book_with_row T.e_Book_with_row ["self", "row"] (spRX (spWith T.C_Book) (spMore T.C_Book T.C_TooMany)) := by
  refine fn_okX T.F_Book_with_row sc_Book_with_row (fun _ => rfl) (fun _ => rfl) fun cdv A outer s' H E hr => ?_
  refine ⟨_, (pss_cons (ps_expr (pe_call (d_check_row T) (hr.mono (by decide)) (by rfl) T.m_check_row T.F_check_row.kp T.b_check_row .nil pass0 (pa_cons (pv 1) (pa_cons (pe_callB (lenA K) (by rfl) T.n_len (by decide +kernel) (pa_cons (fldA K (pv 0)) pa_nil)) pa_nil)))) (pss_cons (ps_if (pt_cmpR opGe (pe_callB (lenA K) (by rfl) T.n_len (by decide +kernel) (pa_cons (fldA K (pv 0)) pa_nil)) (pe_glob (v := .int 20) (by rfl) T.c_MOST_ROWS ⟨_, rfl⟩) (nomark _)) (pss_one (ps_raise rfl (takes_of rfl rfl rfl rfl) (pmk_oax T.xo_TooMany T.xj_TooMany T.xy_TooMany (d_TooMany___init__ T) (hr.mono (by decide)) T.b_TooMany___init__ .nil pass0 (by rfl) T.m_TooMany (pa_cons (pe_glob (v := .int 20) (by rfl) T.c_MOST_ROWS ⟨_, rfl⟩) pa_nil)))) pss_nil) (pss_one (ps_ret (pe_make T.mk_Book (d_Book___init__ T) (hr.mono (by decide)) (by rfl) T.m_Book T.b_Book___init__ .nil pass0 (pa_cons (pe_call (d_write_book T) (hr.mono (by decide)) (by rfl) T.m_write_book T.F_write_book.kp T.b_write_book .nil pass0 (pa_cons (fldA K (pv 0)) (pa_cons (pe_tup (starA K (fldA K (pv 0)) (pa_cons (pv 1) pa_nil))) pa_nil))) pa_nil)))))), fun x hx => ?_, fun x hx => ?_⟩
  · obtain ⟨⟨ls, rs⟩, r⟩ := x
    obtain ⟨hb, hr', h20⟩ := hx
    have hb : BookOk ls rs := hb
    have hr' : RowOk r ls.length := hr'
    have h20 : rs.length < 20 := h20
    have nm : Ev (tFld K (tVar 0) "_names") (Gz0 2 ((spWith T.C_Book).args ((ls, rs), r))) (.tup (nameD ls)) := ev_fld T.cl_Book T.no_names (ev_var rfl) (by rfl)
    have rw' : Ev (tFld K (tVar 0) "_rows") (Gz0 2 ((spWith T.C_Book).args ((ls, rs), r))) (.tup (nameD rs)) := ev_fld T.cl_Book T.no_rows (ev_var rfl) (by rfl)
    refine ds_seq (ds_drop (Ev.dl (ev_call (s := spCkRow) (x := (r, ls.length)) (eva_cons (ev_var rfl) (eva_cons (ev_names (C := T.C_Book) (rs := rs) nm) eva_nil)) rfl ⟨hr', hb.names.lo, hb.n8⟩ fun d h => h) ?_))
    refine ds_seq (ds_if (EvT.dl (b := false) (evt_test (ev_op (ev_names (C := T.C_Book) (rs := rs) rw') ev_int (ge_b (by simp; omega)))) ⟨fun h => (nomatch h), fun _ => ds_next ?_⟩))
    refine ds_ret (dl_make (s := spInit) (dla_cons (Ev.dl (ev_call (s := spWrite) (x := (ls, rs ++ [r])) (eva_cons nm (eva_cons (ev_cast (congrArg D.tup (nameD_app rs [r])) (ev_tup (eva_star rw' (eva_cons (ev_var rfl) eva_nil)) (by rw [List.length_append, nameD_len]; show rs.length + 1 ≤ _; exact small (by omega)))) eva_nil)) (np_tn (np_tn (r := []) rfl)) (hb.snoc hr' h20) fun d h => h) (dla_nil ⟨(ls, rs ++ [r]), rfl, hb.snoc hr' h20, fun es hes => ?_⟩))))
    cases hes
    rfl
  · obtain ⟨⟨ls, rs⟩, r⟩ := x
    obtain ⟨hb, hr', h20⟩ := hx
    have hb : BookOk ls rs := hb
    have hr' : RowOk r ls.length := hr'
    have h20 : rs.length = 20 := h20
    have nm : Ev (tFld K (tVar 0) "_names") (Gz0 2 ((spMore T.C_Book T.C_TooMany).args ((ls, rs), r))) (.tup (nameD ls)) := ev_fld T.cl_Book T.no_names (ev_var rfl) (by rfl)
    have rw' : Ev (tFld K (tVar 0) "_rows") (Gz0 2 ((spMore T.C_Book T.C_TooMany).args ((ls, rs), r))) (.tup (nameD rs)) := ev_fld T.cl_Book T.no_rows (ev_var rfl) (by rfl)
    refine ers_seq (pus_drop (ev_call (s := spCkRow) (x := (r, ls.length)) (eva_cons (ev_var rfl) (eva_cons (ev_names (C := T.C_Book) (rs := rs) nm) eva_nil)) rfl ⟨hr', hb.names.lo, hb.n8⟩ fun d h => h)) ?_
    exact ers_first (ers_ifT (evt_test (ev_op (ev_names (C := T.C_Book) (rs := rs) rw') ev_int (ge_b (by simp; omega)))) (ers_raiseF rfl (eva_cons ev_int eva_nil)))
end K02

namespace K02
open PySem PySem.Spec PyProof.Rows L2 Dw
variable [Tabs0]
theorem d_Book_without {P : Program} {w : World} {K : PySem.W.Frag} {mg : Str → Option Value} {base : Heap} (T : Txt K w mg) : FnOk P w K mg base CX0 6 T.f_Book_without T.e_Book_without ["self", "index"] (toSp (spOut T.C_Book)) := by
  refine fn_ok T.F_Book_without sc_Book_without (fun _ => rfl) fun cdv A outer s' H E hr => ?_
  refine ⟨_, (pss_cons (ps_expr (pe_call (d_check_index T) (hr.mono (by decide)) (by rfl) T.m_check_index T.F_check_index.kp T.b_check_index .nil pass0 (pa_cons (pv 1) (pa_cons (pe_callB (lenA K) (by rfl) T.n_len (by decide +kernel) (pa_cons (fldA K (pv 0)) pa_nil)) pa_nil)))) (pss_one (ps_ret (pe_make T.mk_Book (d_Book___init__ T) (hr.mono (by decide)) (by rfl) T.m_Book T.b_Book___init__ .nil pass0 (pa_cons (pe_call (d_write_book T) (hr.mono (by decide)) (by rfl) T.m_write_book T.F_write_book.kp T.b_write_book .nil pass0 (pa_cons (fldA K (pv 0)) (pa_cons (pe_op (plusE K) (pe_slice (slXA K) (fldA K (pv 0)) po_none (po_some (pv 1))) (pe_slice (slXA K) (fldA K (pv 0)) (po_some (pe_op (plusE K) (pv 1) pe_int)) po_none)) pa_nil))) pa_nil))))), fun x hx => ?_⟩
  obtain ⟨⟨ls, rs⟩, i⟩ := x
  obtain ⟨hb, hi⟩ := hx
  have hb : BookOk ls rs := hb
  have hi : i < rs.length := hi
  have h20 := hb.few
  have lr := nameD_len rs
  have nm : Ev (tFld K (tVar 0) "_names") (Gz0 2 ((spOut T.C_Book).args ((ls, rs), i))) (.tup (nameD ls)) := ev_fld T.cl_Book T.no_names (ev_var rfl) (by rfl)
  have rw' : Ev (tFld K (tVar 0) "_rows") (Gz0 2 ((spOut T.C_Book).args ((ls, rs), i))) (.tup (nameD rs)) := ev_fld T.cl_Book T.no_rows (ev_var rfl) (by rfl)
  refine ds_seq (ds_drop (Ev.dl (ev_call (s := spCkIx) (x := (i, rs.length)) (eva_cons (ev_var rfl) (eva_cons (ev_cast (congrArg (fun n : Nat => D.int n) lr) (ev_lenT (ds := nameD rs) rw')) eva_nil)) rfl hi fun d h => h) ?_))
  have hq := hb.less i
  refine ds_ret (dl_make (s := spInit) (dla_cons (Ev.dl (ev_call (s := spWrite) (x := (ls, rs.take i ++ rs.drop (i + 1))) (eva_cons nm (eva_cons (ev_cast (congrArg D.tup (nmD_less rs i)) (ev_op (ev_sliceTY rw' eo_none (eo_some (ev_var (d := .int (i : Nat)) rfl))) (ev_sliceTY rw' (eo_some (ev_op (ev_var (d := .int (i : Nat)) rfl) ev_int pl_int)) eo_none) (pl_tup (less_len rs i h20)))) eva_nil)) (np_tn (np_tn (r := []) rfl)) hq fun d h => h) (dla_nil ⟨(ls, rs.take i ++ rs.drop (i + 1)), rfl, hq, fun es hes => ?_⟩))))
  cases hes
  rfl
end K02

namespace K02
open PySem PySem.Spec PyProof.Rows L2 Dw
variable [Tabs0]
def eqB (b : Bk) : D → Bool
  | .obj _ _ (.str s :: _) => decide (tx (bookTx b.1 b.2) = s)
  | _ => false
inductive EqB (C : Addr) : D → Prop
  | own (y : Bk) : EqB C (bookD C y.1 y.2)
  | odd (d : D) (h : hasTy d = true) : EqB C d
theorem eqB_odd {b : Bk} {d : D} (h : hasTy d = true) : eqB b d = false := by
  cases d <;> first | rfl | exact absurd h Bool.false_ne_true
theorem kit_tyB {K : PySem.W.Frag} {C : Addr} {d : D} (h : hasTy d = true) (hd : PySem.W.hasDictIn K C = true) (ht : PySem.W.typeIn K (.ref C) = some (.type "type")) : PySem.W.kitOne K (tyD d) (.ref C) = some false := by
  obtain ⟨cd, hc, _⟩ := PySem.W.any_some hd
  have main : ∀ n : String, PySem.W.subIn K (.type n) (.ref C) = some false → PySem.W.kitOne K (.type n) (.ref C) = some false := fun n e => by
    unfold PySem.W.kitOne
    rw [if_neg (by intro z; cases beq_iff_eq.mp z)]
    show (if ((PySem.W.clsIn K C).isSome && PySem.W.typeIn K (.ref C) == some (.type "type")) = true then PySem.W.subIn K (.type n) (.ref C) else none) = some false
    rw [if_pos (by rw [hc, ht]; rfl)]
    exact e
  cases d <;> first | exact main _ rfl | exact absurd h Bool.false_ne_true
def spOEq (C : Addr) : Spc where
  ty := Bk × D
  args := fun x => [bookD C x.1.1 x.1.2, x.2]
  ok := fun x => EqB C x.2
  rel := fun x d => d = .bl (eqB x.1 x.2)
end K02

namespace K02
open PySem PySem.Spec PyProof.Rows L2 Dw
variable [Tabs0]
theorem d_Book_text {P : Program} {w : World} {K : PySem.W.Frag} {mg : Str → Option Value} {base : Heap} (T : Txt K w mg) : FnOk P w K mg base CX0 1 T.f_Book_text T.e_Book_text ["self"] (toSp (spBText T.C_Book)) := by
  refine fn_ok T.F_Book_text sc_Book_text (fun _ => rfl) fun cdv A outer s' H E hr => ?_
  refine ⟨_, (pss_one (ps_ret (fldA K (pv 0)))), fun x hx => ?_⟩
  obtain ⟨ls, rs⟩ := x
  exact ds_ret (Ev.dl (ev_fld T.cl_Book T.no_text (ev_var rfl) (by rfl)) rfl)
end K02

namespace K02
open PySem PySem.Spec PyProof.Rows L2 Dw
variable [Tabs0]
theorem d_Book___str__ {P : Program} {w : World} {K : PySem.W.Frag} {mg : Str → Option Value} {base : Heap} (T : Txt K w mg) : FnOk P w K mg base CX0 1 T.f_Book___str__ T.e_Book___str__ ["self"] (toSp (spBText T.C_Book)) := by
  refine fn_ok T.F_Book___str__ sc_Book___str__ (fun _ => rfl) fun cdv A outer s' H E hr => ?_
  refine ⟨_, (pss_one (ps_ret (pe_callTy SkE.call_str_str (by rfl) T.n_str (by decide +kernel) (pa_cons (fldA K (pv 0)) pa_nil)))), fun x hx => ?_⟩
  obtain ⟨ls, rs⟩ := x
  exact ds_ret (Ev.dl (ev_strS (ev_fld T.cl_Book T.no_text (ev_var rfl) (by rfl))) rfl)
end K02

namespace K02
open PySem PySem.Spec PyProof.Rows L2 Dw
variable [Tabs0]
theorem d_Book___eq__ {P : Program} {w : World} {K : PySem.W.Frag} {mg : Str → Option Value} {base : Heap} (T : Txt K w mg) : FnOk P w K mg base CX0 1 T.f_Book___eq__ T.e_Book___eq__ ["self", "other"] (toSp (spOEq T.C_Book)) := by
  refine fn_ok T.F_Book___eq__ sc_Book___eq__ (fun _ => rfl) fun cdv A outer s' H E hr => ?_
  refine ⟨_, (pss_one (ps_ret (pe_and (pe_callB (isiA K) (by rfl) T.n_isinstance (by decide +kernel) (pa_cons (pv 1) (pa_cons (pe_glob (v := .ref T.C_Book) (by rfl) T.m_Book rfl) pa_nil))) (pe_one (pe_cmpR (eqA K hr.units) (fldA K (pv 0)) (fldA K (pv 1)) (nomark _)))))), fun x hx => ?_⟩
  obtain ⟨⟨ls, rs⟩, d⟩ := x
  have hx : EqB T.C_Book d := hx
  cases hx with
  | own y =>
    obtain ⟨l2, r2⟩ := y
    exact ds_ret (Ev.dl (ev_andV (a := true) (b := decide (tx (bookTx ls rs) = tx (bookTx l2 r2))) (ev_isi (ev_var rfl) ev_raw (.inr ⟨_, _, _, rfl, T.ins_Book⟩) (.own _) kit_self) fun _ => ev_op (ev_fld T.cl_Book T.no_text (ev_var (i := 0) rfl) (by rfl)) (ev_fld T.cl_Book T.no_text (ev_var (i := 1) rfl) (by rfl)) (eq_sb rfl)) rfl)
  | odd _ h => exact ds_ret (Ev.dl (ev_andV (a := false) (b := false) (ev_isi (ev_var (i := 1) rfl) ev_raw (.inl h) (.own _) (kit_tyB h T.cl_Book.hd T.ct_Book)) fun h => nomatch h) (congrArg D.bl (eqB_odd h).symm))
end K02

namespace K02
open PySem PySem.Spec PyProof.Rows L2 Dw
variable [Tabs0]
/-! what is seen of a book -/
def spIs (C : Addr) : Spc where
  ty := Bk
  args := fun x => [bookD C x.1 x.2, .lst (nameD x.1), .lst (nameD x.2)]
  ok := fun x => BookOk x.1 x.2
  rel := fun _ d => d = .bl true
theorem reprB_eq : ∀ n : Nat, n < 9 → Str.ofString "Book with " ++ Str.ofString (toString (n : Int)) ++ Str.ofString " rules" = reprB n := by decide +kernel
theorem reprB_ok2 : ∀ n : Nat, n < 9 → dOk 1 (.str (reprB n)) = true ∧ (Str.ofString "Book with " ++ Str.ofString (toString (n : Int))).length ≤ 100 ∧ (reprB n).length ≤ 100 ∧ (Str.ofString (toString (n : Int))).length ≤ 50 := by decide +kernel
theorem nm_show : ∀ ws : List (List Nat), (∀ w ∈ ws, w.length ≤ 8 ∧ ∀ c ∈ w, c < 1114112 ∧ ¬ (55296 ≤ c ∧ c ≤ 57343)) → (∀ w ∈ ws, okS (tx w)) → dOks 1 (nameD ws) = true ∧ shOks (nameD ws) = true ∧ shBs (nameD ws) ≤ 100 * ws.length
  | [], _, _ => ⟨rfl, rfl, Nat.le_refl _⟩
  | w :: r, h, ho => by
    obtain ⟨i1, i2, i3⟩ := nm_show r (fun z hz => h z (List.mem_cons_of_mem _ hz)) fun z hz => ho z (List.mem_cons_of_mem _ hz)
    have hw := (h w List.mem_cons_self).1
    have hk : dOk 1 (.str (tx w)) = true := ho w List.mem_cons_self
    refine ⟨?_, ?_, ?_⟩
    · show (dOk 1 (.str (tx w)) && dOks 1 (nameD r)) = true
      rw [hk, i1]; rfl
    · show (true && shOks (nameD r)) = true
      rw [i2]; rfl
    · show 10 * (tx w).length + 2 + 2 + shBs (nameD r) ≤ 100 * (r.length + 1)
      rw [tx_len]; omega
theorem ev_strI2 {Γ : Gam} {ta : TE} {i : Int} (h : Ev ta Γ (.int i)) (hz : i.natAbs.log2 < 1920) : Ev (tCB (fun xs H Q => ∃ i, xs = [.int i] ∧ i.natAbs.log2 < 1920 ∧ Q (.str (toString i)) H) (tCons ta tNil)) Γ (.str (Str.ofString (toString i))) := fun F σ W Q g k => h F σ W _ g fun v H s r => ⟨i, by rw [show v = V.int i from r], hz, k _ H s rfl⟩
def seenD (b : Bk) : List D := [.str (tx (bookTx b.1 b.2)), .tup (nameD b.1), .tup (nameD b.2), .str (tx (bookTx b.1 b.2)), .str (reprB b.1.length), .bl true]
theorem seen_rp {ls rs : List (List Nat)} (hb : BookOk ls rs) : RpD (.lst (seenD (ls, rs))) (PyData.shown (py (.lst (seenD (ls, rs))))) := by
  have h8 := hb.n8
  have h20 := hb.few
  have hl := hb.len
  have okT : dOk 2 (.str (tx (bookTx ls rs))) = true := okX_book hb
  obtain ⟨o1, o2, o3⟩ := nm_show ls (fun w hw => ⟨(hb.names.all w hw).hi, fun c hc => by have := (hb.names.all w hw).all c hc; omega⟩) fun w hw => okS_tx fun c hc => by have := (hb.names.all w hw).all c hc; omega
  obtain ⟨p1, p2, p3⟩ := nm_show rs (fun w hw => ⟨by rw [(hb.rows w hw).len]; exact h8, fun c hc => by have := (hb.rows w hw).all c hc; unfold isSign at this; omega⟩) fun w hw => okS_tx fun c hc => ((hb.rows w hw).all c hc).lt
  obtain ⟨q1, q2, q3, q4⟩ := reprB_ok2 ls.length (by omega)
  have q1' : dOk 2 (.str (reprB ls.length)) = true := q1
  refine .inl ⟨3, by decide, ?_, ?_, ?_, rfl⟩
  · show (dOk 2 (.str (tx (bookTx ls rs))) && (dOks 1 (nameD ls) && (dOks 1 (nameD rs) && (dOk 2 (.str (tx (bookTx ls rs))) && (dOk 2 (.str (reprB ls.length)) && true))))) = true
    rw [okT, o1, p1, q1']; rfl
  · show (true && (shOks (nameD ls) && (shOks (nameD rs) && (true && (true && (true && true)))))) = true
    rw [o2, p2]; rfl
  · show 10 * (tx (bookTx ls rs)).length + 2 + 2 + (shBs (nameD ls) + 4 + 2 + (shBs (nameD rs) + 4 + 2 + (10 * (tx (bookTx ls rs)).length + 2 + 2 + (10 * (reprB ls.length).length + 2 + 2 + (5 + 2 + 0))))) + 4 ≤ sizeLine
    have hl' := hb.len
    exact small (by omega)
end K02

namespace K02
open PySem PySem.Spec PyProof.Rows L2 Dw
variable [Tabs0]
theorem d__law_is {P : Program} {w : World} {K : PySem.W.Frag} {mg : Str → Option Value} {base : Heap} (T : Txt K w mg) : FnG P w K mg base 4 T.f__law_is T.e__law_is ["_law_log", "_law_labels_here", "_law_rows_here"] (spIs T.C_Book) := by
  refine fnG_ok T.F__law_is sc__law_is (fun _ => rfl) fun cdv A outer s' H E hr hG => ?_
  refine ⟨_, (pss_cons (ps_set (i := 3) sc__law_is.nd rfl (Or.inl rfl) (pe_call (d__law_spelled T) (hr.mono (by decide)) (by rfl) T.m__law_spelled T.F__law_spelled.kp T.b__law_spelled .nil pass0 (pa_cons (pv 1) (pa_cons (pv 2) pa_nil)))) (pss_cons (ps_set (i := 4) sc__law_is.nd rfl (Or.inl rfl) (pe_lst (pa_cons (pe_prop (pv 0) T.cl_Book T.p_Book_text (d_Book_text T) (hr.mono (by decide)) T.b_Book_text .nil pass0 rfl) (pa_cons (pe_prop (pv 0) T.cl_Book T.p_Book_names (d_Book_names T) (hr.mono (by decide)) T.b_Book_names .nil pass0 rfl) (pa_cons (pe_prop (pv 0) T.cl_Book T.p_Book_rows (d_Book_rows T) (hr.mono (by decide)) T.b_Book_rows .nil pass0 rfl) (pa_cons (pe_callTy (cr_strOwn (d_Book___str__ T) (hr.mono (by decide)) T.os_Book T.is_Book T.b_Book___str__) (by rfl) T.n_str (by decide +kernel) (pa_cons (pv 0) pa_nil)) (pa_cons (pe_callB (cr_reprOwn (d_Book___repr__ T) (hr.mono (by decide)) T.or_Book T.ir_Book T.b_Book___repr__) (by rfl) T.n_repr (by decide +kernel) (pa_cons (pv 0) pa_nil)) (pa_cons (pe_callTy (cr_boolOwn T.ob_Book T.ol_Book) (by rfl) T.n_bool (by decide +kernel) (pa_cons (pv 0) pa_nil)) pa_nil)))))))) (pss_cons (ps_set (i := 5) sc__law_is.nd rfl (Or.inl rfl) (pe_lst (pa_cons (pv 3) (pa_cons (pe_callTy (tupleA K) (by rfl) T.n_tuple (by decide +kernel) (pa_cons (pv 1) pa_nil)) (pa_cons (pe_callTy (tupleA K) (by rfl) T.n_tuple (by decide +kernel) (pa_cons (pv 2) pa_nil)) (pa_cons (pv 3) (pa_cons (pe_op (plusE K) (pe_op (plusE K) pe_str (pe_callTy call_str_int (by rfl) T.n_str (by decide +kernel) (pa_cons (pe_callB (lenA K) (by rfl) T.n_len (by decide +kernel) (pa_cons (pv 1) pa_nil)) pa_nil))) pe_str) (pa_cons pe_bl pa_nil)))))))) (pss_one (ps_ret (pe_cmpR (eqA K hr.units) (pe_callB (reprY K hr hG) (by rfl) T.n_repr (by decide +kernel) (pa_cons (pv 4) pa_nil)) (pe_callB (reprY K hr hG) (by rfl) T.n_repr (by decide +kernel) (pa_cons (pv 5) pa_nil)) (nomark _))))))), fun x hx => ?_⟩
  obtain ⟨ls, rs⟩ := x
  have hb : BookOk ls rs := hx
  have h8 := hb.n8
  obtain ⟨q1, q2, q3, q4⟩ := reprB_ok2 ls.length (by omega)
  have np := np_book T.C_Book ls rs
  refine ds_seq (ds_asg (Ev.dl (ev_call (s := spSpelled) (d := .str (tx (bookTx ls rs))) (x := (ls, rs)) (eva_cons (ev_var rfl) (eva_cons (ev_var rfl) eva_nil)) (np_ln (np_ln (r := []) rfl)) hb fun d h => h) ?_))
  refine ds_seq (ds_asg (Ev.dl (EvN.ev (evn_lst (ds := seenD (ls, rs)) (eva_cons (ev_prop (s := spBText T.C_Book) (x := (ls, rs)) (ev_var rfl) rfl np trivial fun d h => h) (eva_cons (ev_prop (s := spBNames T.C_Book) (x := (ls, rs)) (ev_var rfl) rfl np trivial fun d h => h) (eva_cons (ev_prop (s := spBRows T.C_Book) (x := (ls, rs)) (ev_var rfl) rfl np trivial fun d h => h) (eva_cons (ev_own1 (s := spBText T.C_Book) (x := (ls, rs)) (ev_var rfl) rfl np trivial fun d h => h) (eva_cons (ev_own1 (s := spBRepr T.C_Book) (x := (ls, rs)) (ev_var rfl) rfl np h8 fun d h => h) (eva_cons (ev_boolOwn (C := T.C_Book) (ns := ["_text", "_names", "_rows"]) (ev_var rfl)) eva_nil)))))) (small (show 6 ≤ 100000 by decide)))) ?_))
  have hz : ((ls.length : Nat) : Int).natAbs.log2 < 1920 := by
    rw [Int.natAbs_natCast]
    exact Nat.lt_of_le_of_lt (Nat.log2_le_self _) (by omega)
  have l0 : (Str.ofString "Book with ").length ≤ 20 := by decide +kernel
  have l1 : (Str.ofString " rules").length ≤ 20 := by decide +kernel
  refine ds_seq (ds_asg (Ev.dl (EvN.ev (evn_lst (ds := seenD (ls, rs)) (eva_cons (ev_var rfl) (eva_cons (ev_tuple (ev_var (d := .lst (nameD ls)) rfl).b) (eva_cons (ev_tuple (ev_var (d := .lst (nameD rs)) rfl).b) (eva_cons (ev_var rfl) (eva_cons (ev_cast (congrArg D.str (reprB_eq ls.length (by omega))) (ev_op (ev_op ev_str (ev_strI2 (ev_cast (congrArg (fun k : Nat => D.int k) (nameD_len ls)) (ev_len (ds := nameD ls) (ev_var rfl).b)) hz) (pl_str (small (by omega)))) ev_str (pl_str (small (by omega))))) (eva_cons ev_bl eva_nil)))))) (small (show 6 ≤ 100000 by decide)))) ?_))
  exact ds_ret (Ev.dl (ev_op (ev_reprY (ev_var rfl) (seen_rp hb)) (ev_reprY (ev_var rfl) (seen_rp hb)) (eq_sb (decide_eq_true rfl))) rfl)
end K02

namespace K02
open PySem PySem.Spec PyProof.Rows L2 Dw
variable [Tabs0]
def bkP (b : Bk) : D := .tup [.lst (nameD b.1), .lst (nameD b.2)]
def txB (b : Bk) : Str := tx (bookTx b.1 b.2)
def bkO (C : Addr) (b : Bk) : D := bookD C b.1 b.2
theorem zip3_map {α : Type} (f g h : α → D) : ∀ xs : List α, zip3D (xs.map f) (xs.map g) (xs.map h) = xs.map fun x => .tup [f x, g x, h x]
  | [] => rfl
  | x :: xs => by
    have ih := zip3_map f g h xs
    unfold zip3D at ih ⊢
    rw [List.map_cons, List.map_cons, List.map_cons, List.zip_cons_cons, List.zip_cons_cons, List.map_cons, ih]; rfl
def spRight : Spc where
  ty := Unit
  args := fun _ => [.purse]
  ok := fun _ => True
  rel := fun _ d => d = .bl true
def oddE (C : Addr) (b : Bk) : List D := [.non, .int 0, .str (txB b), .tup [.str (txB b)], .lst [bkO C b], .dct [] [], .bl true]
theorem oddE_ok {C : Addr} {b : Bk} : ∀ d ∈ oddE C b, hasTy d = true ∧ noP d = true ∧ rightD C d := by
  intro d hd
  unfold oddE at hd
  simp only [List.mem_cons, List.not_mem_nil, or_false] at hd
  have np : noPs [bkO C b] = true := np_book C b.1 b.2
  rcases hd with rfl | rfl | rfl | rfl | rfl | rfl | rfl
  · exact ⟨rfl, rfl, trivial⟩
  · exact ⟨rfl, rfl, trivial⟩
  · exact ⟨rfl, rfl, trivial⟩
  · exact ⟨rfl, rfl, trivial⟩
  · exact ⟨rfl, np, trivial⟩
  · exact ⟨rfl, rfl, trivial⟩
  · exact ⟨rfl, rfl, trivial⟩
theorem np2 {a b : D} (h1 : noP a = true) (h2 : noP b = true) : noPs [a, b] = true := by
  show (noP a && (noP b && true)) = true
  rw [h1, h2]; rfl
theorem np_o (C : Addr) (b : Bk) : noP (bkO C b) = true := by
  have h := np_book C b.1 b.2
  have h : (noP (bkO C b) && true) = true := h
  rw [Bool.and_true] at h
  exact h
theorem full_eq : Str.ofString "a: " ++ Txt.join (Str.ofString " ") (List.replicate 20 (Str.ofString "+")) = tx (bookTx [[97]] (List.replicate 20 [43])) := by decide +kernel
theorem full_ok : BookOk [[97]] (List.replicate 20 [43]) := ⟨⟨by decide, by decide, fun l hl => by
  rw [List.mem_singleton.mp hl]
  exact ⟨by decide, by decide, by decide⟩, by simp⟩, by decide, fun r hr => by
  rw [(List.mem_replicate.mp hr).2]
  exact ⟨rfl, fun c hc => by rw [List.mem_singleton.mp hc]; unfold isSign; decide⟩⟩
theorem row_minus : RowOk [45] 1 := ⟨rfl, fun c hc => by rw [List.mem_singleton.mp hc]; unfold isSign; decide⟩
theorem dOks_bls : ∀ bs : List Bool, dOks 0 (bs.map D.bl) = true
  | [] => rfl
  | b :: bs => dOks_bls bs
theorem many_txt {fs : List (Str × D)} (h : fs = [(("number" : Str), .int 20)]) : attrO fs "TooMany" = "20" := by
  subst h
  unfold attrO
  rw [if_neg (by decide)]
  decide +kernel
end K02

namespace K02
open PySem PySem.Spec PyProof.Rows L2 Dw
variable [Tabs0]
theorem d__law_right {P : Program} {w : World} {K : PySem.W.Frag} {mg : Str → Option Value} {base : Heap} (T : Txt K w mg) (TB__law_right : LamX.TabB base mg T.lc__law_right T.lt__law_right) : FnG P w K mg base 9 T.f__law_right T.e__law_right ["_law_purse_here"] (spRight) := by
  obtain ⟨oc, od, kV, doc, pm, an, cdvT, ct, osl, eT, lkT, cdT⟩ := T.F__law_told.ex
  have bT := T.b__law_told
  rw [eT] at lkT bT
  refine fnGC_ok T.FC__law_right sc__law_right (fun _ => rfl) fun A outer s' H E hr hG => ?_
  refine ⟨_, (pss_cons (ps_setLc (i := 1) (own := [("_law_turn", 15)]) rfl sc__law_right.nd rfl rfl (sw_true rfl rfl rfl (by decide +kernel)) (pi_range1 (by rfl) T.n_range (pa_cons pe_int pa_nil)) (blkOk_by (own := [("_law_turn", 15)]) (N := N__law_right) (sc := (defScope s__law_right)) (by decide +kernel)) (fun _ _ _ _ _ => pg_name (i := 15) sc__law_right.nd rfl (Or.inl rfl)) (fun _ _ _ _ _ => pts_nil) (fun _ _ _ _ _ => (pe_call (d__law_book T) (hr.mono (by decide)) (by rfl) T.m__law_book T.F__law_book.kp T.b__law_book .nil pass0 (pa_cons (pv 0) (pa_cons pe_int (pa_cons pe_int (pa_cons pe_int pa_nil))))))) (pss_cons (ps_expr (bmA K PySem.F.plainAttrs_list PySem.F.slot_list_append PySem.F.type_list_append mt_append (pv 1) (pa_cons (pe_ix (ixA K) (pv 1) pe_int (fun _ _ => rfl)) pa_nil))) (pss_cons (ps_setLc (i := 4) (own := [("_law_labels_here", 2), ("_law_rows_here", 3)]) rfl sc__law_right.nd rfl rfl (sw_true rfl rfl rfl (by decide +kernel)) (piR K (pv 1)) (blkOk_by (own := [("_law_labels_here", 2), ("_law_rows_here", 3)]) (N := N__law_right) (sc := (defScope s__law_right)) (by decide +kernel)) (fun _ _ _ _ _ => tupA K 2 rfl (pgs_cons (pg_name (i := 2) sc__law_right.nd rfl (Or.inl rfl)) (pgs_cons (pg_name (i := 3) sc__law_right.nd rfl (Or.inl rfl)) pgs_nil))) (fun _ _ _ _ _ => pts_nil) (fun _ _ _ _ _ => (pe_call (d__law_spelled T) (hr.mono (by decide)) (by rfl) T.m__law_spelled T.F__law_spelled.kp T.b__law_spelled .nil pass0 (pa_cons (pv 2) (pa_cons (pv 3) pa_nil))))) (pss_cons (ps_setLc (i := 6) (own := [("_law_said", 5)]) rfl sc__law_right.nd rfl rfl (sw_true rfl rfl rfl (by decide +kernel)) (piR K (pv 4)) (blkOk_by (own := [("_law_said", 5)]) (N := N__law_right) (sc := (defScope s__law_right)) (by decide +kernel)) (fun _ _ _ _ _ => pg_name (i := 5) sc__law_right.nd rfl (Or.inl rfl)) (fun _ _ _ _ _ => pts_nil) (fun _ _ _ _ _ => (pe_ifExp (pt_cmpR (eqA K hr.units) (pe_call (d__law_draw T) (hr.mono (by decide)) (by rfl) T.m__law_draw T.F__law_draw.kp T.b__law_draw .nil pass0 (pa_cons (pv 0) (pa_cons pe_int pa_nil))) pe_int (nomark _)) (pe_make T.mk_Book (d_Book___init__ T) (hr.mono (by decide)) (by rfl) T.m_Book T.b_Book___init__ .nil pass0 (pa_cons (pv 5) pa_nil)) (pe_makeK0 (E := E0) T.mk_Book (d_Book___init__ T) (hr.mono (by decide)) (by rfl) T.m_Book T.kn_Book pass0 (pk_cons (pv 5) pk_nil))))) (pss_cons (ps_for PassesOwn.never rfl (zip3A K (by rfl) T.n_zip (pa_cons (pv 6) (pa_cons (pv 1) (pa_cons (pv 4) pa_nil)))) (tupA K 3 rfl (pgs_cons (pg_name (i := 14) sc__law_right.nd rfl (Or.inr rfl)) (pgs_cons (pg_name (i := 7) sc__law_right.nd rfl (Or.inl rfl)) (pgs_cons (pg_name (i := 5) sc__law_right.nd rfl (Or.inr rfl)) pgs_nil)))) (pss_cons (ps_asg (pv 7) (tupA K 2 rfl (pgs_cons (pg_name (i := 2) sc__law_right.nd rfl (Or.inl rfl)) (pgs_cons (pg_name (i := 3) sc__law_right.nd rfl (Or.inl rfl)) pgs_nil)))) (pss_cons (ps_if (pt_not (truA K (pe_callG (E := E0) (d__law_is T) (hr.mono (by decide)) hG (by rfl) T.m__law_is T.F__law_is.kp T.b__law_is (pa_cons (pv 14) (pa_cons (pv 2) (pa_cons (pv 3) pa_nil)))))) (pss_one (ps_ret pe_bl)) pss_nil) (pss_cons (ps_for PassesOwn.never rfl (pi_range1 (by rfl) T.n_range (pa_cons (pe_callB (lenA K) (by rfl) T.n_len (by decide +kernel) (pa_cons (pv 3) pa_nil)) pa_nil)) (pg_name (i := 8) sc__law_right.nd rfl (Or.inl rfl)) (pss_cons (ps_set (i := 9) sc__law_right.nd rfl (Or.inl rfl) (pe_op (plusE K) (pe_slice (slXA K) (pv 3) po_none (po_some (pv 8))) (pe_slice (slXA K) (pv 3) (po_some (pe_op (plusE K) (pv 8) pe_int)) po_none))) (pss_one (ps_if (PW.pt (pw_or (pt_not (truA K (pe_callG (E := E0) (d__law_is T) (hr.mono (by decide)) hG (by rfl) T.m__law_is T.F__law_is.kp T.b__law_is (pa_cons (pe_meth (pv 14) T.cl_Book T.h_Book_without (d_Book_without T) (hr.mono (by decide)) T.b_Book_without .nil pass0 (pa_cons (pv 8) pa_nil)) (pa_cons (pv 2) (pa_cons (pv 9) pa_nil)))))) (pw_or1 (pt_cmpR (neOwnA K (d_Book___eq__ T) (hr.mono (by decide)) T.om_Book T.on_Book T.oe_Book T.ie_Book T.b_Book___eq__) (pe_methK0 (E := E0) (pv 14) T.cl_Book T.h_Book_without (d_Book_without T) (hr.mono (by decide)) T.kn_Book_without pass0 (pk_cons (pv 8) pk_nil)) (pe_meth (pv 14) T.cl_Book T.h_Book_without (d_Book_without T) (hr.mono (by decide)) T.b_Book_without .nil pass0 (pa_cons (pv 8) pa_nil)) (nomark _))))) (pss_one (ps_ret pe_bl)) pss_nil)))) (pss_cons (ps_set (i := 12) sc__law_right.nd rfl (Or.inr rfl) (pe_call (d__law_signs T) (hr.mono (by decide)) (by rfl) T.m__law_signs T.F__law_signs.kp T.b__law_signs .nil pass0 (pa_cons (pv 0) (pa_cons (pe_callB (lenA K) (by rfl) T.n_len (by decide +kernel) (pa_cons (pv 2) pa_nil)) pa_nil)))) (pss_cons (ps_set (i := 10) sc__law_right.nd rfl (Or.inl rfl) (pe_ifExp (pt_cmpR opLt (pe_callB (lenA K) (by rfl) T.n_len (by decide +kernel) (pa_cons (pv 3) pa_nil)) pe_int (nomark _)) (pe_tup (pa_cons pe_str (pa_cons (pe_call (d__law_spelled T) (hr.mono (by decide)) (by rfl) T.m__law_spelled T.F__law_spelled.kp T.b__law_spelled .nil pass0 (pa_cons (pv 2) (pa_cons (pe_op (plusE K) (pv 3) (pe_lst (pa_cons (pv 12) pa_nil))) pa_nil))) pa_nil))) (pe_tup (pa_cons pe_str (pa_cons pe_str pa_nil))))) (pss_cons (ps_if (pt_cmpR (neA K hr.units) (pe_lamcall3 (T := T.tts) (c := T.lc__law_right) (P := T.lt__law_right) (k := 6) (by rfl) T.m__law_told T.F__law_told.kp lkT cdT bT sc__law_told rfl (Or.inl rfl) (told_gv (X := (cxOf CX0 P w K mg base N__law_right "_law_right" (defScope s__law_right) T.f__law_right (.ref T.lc__law_right) A outer s' H E).nox) T cdvT (hr.mono (by decide)) hG) TB__law_right rfl T.hm__law_right (T.tabs.uniq T.hm__law_right) (hr.mono (by decide)) (show LamX.LamS (defScope s__law_right) _ from LamX.lamS_by (by decide +kernel)) rfl (fun _ _ _ _ _ => rfl) (fun A1 outer1 s1 H1 E f1 c1 hr => (pe_callTy (cr_strOwn (d_Book___str__ T) (hr.mono (by decide)) T.os_Book T.is_Book T.b_Book___str__) (by rfl) T.n_str (by decide +kernel) (pa_cons (pe_meth (E := E) (pv 14) T.cl_Book T.h_Book_with_row (d_Book_with_row T) (hr.mono (by decide)) T.b_Book_with_row .nil (passes_call (takes_of rfl rfl rfl rfl) fun _ _ _ _ h => h) (pa_cons (pv 12) pa_nil)) pa_nil)))) (pv 10) (nomark _)) (pss_one (ps_ret pe_bl)) pss_nil) (pss_cons (ps_if (pt_cmpR (neA K hr.units) (pe_lamcall3 (T := T.tts) (c := T.lc__law_right) (P := T.lt__law_right) (k := 6) (by rfl) T.m__law_told T.F__law_told.kp lkT cdT bT sc__law_told rfl (Or.inl rfl) (told_gv (X := (cxOf CX0 P w K mg base N__law_right "_law_right" (defScope s__law_right) T.f__law_right (.ref T.lc__law_right) A outer s' H E).nox) T cdvT (hr.mono (by decide)) hG) TB__law_right rfl T.hm__law_right (T.tabs.uniq T.hm__law_right) (hr.mono (by decide)) (show LamX.LamS (defScope s__law_right) _ from LamX.lamS_by (by decide +kernel)) rfl (fun _ _ _ _ _ => rfl) (fun A1 outer1 s1 H1 E f1 c1 hr => (pe_callTy (cr_strOwn (d_Book___str__ T) (hr.mono (by decide)) T.os_Book T.is_Book T.b_Book___str__) (by rfl) T.n_str (by decide +kernel) (pa_cons (pe_methK0 (E := E) (pv 14) T.cl_Book T.h_Book_with_row (d_Book_with_row T) (hr.mono (by decide)) T.kn_Book_with_row (passes_call (takes_of rfl rfl rfl rfl) fun _ _ _ _ h => h) (pk_cons (pv 12) pk_nil)) pa_nil)))) (pv 10) (nomark _)) (pss_one (ps_ret pe_bl)) pss_nil) (pss_cons (ps_if (pt_cmpR (neA K hr.units) (pe_lc (own := [("_law_each", 16)]) rfl sc__law_right.nd (piR K (pv 6)) (blkOk_by (own := [("_law_each", 16)]) (N := N__law_right) (sc := (defScope s__law_right)) (by decide +kernel)) (fun _ _ _ _ _ => pg_name (i := 16) sc__law_right.nd rfl (Or.inl rfl)) (fun _ _ _ _ _ => pts_nil) (fun _ _ _ _ _ => (pe_cmpR (eqOwnA K (d_Book___eq__ T) (hr.mono (by decide)) T.oe_Book T.ie_Book T.b_Book___eq__) (pv 14) (pv 16) (nomark _)))) (pe_lc (own := [("_law_each", 16)]) rfl sc__law_right.nd (piR K (pv 4)) (blkOk_by (own := [("_law_each", 16)]) (N := N__law_right) (sc := (defScope s__law_right)) (by decide +kernel)) (fun _ _ _ _ _ => pg_name (i := 16) sc__law_right.nd rfl (Or.inl rfl)) (fun _ _ _ _ _ => pts_nil) (fun _ _ _ _ _ => (pe_cmpR (eqA K hr.units) (pv 5) (pv 16) (nomark _)))) (nomark _)) (pss_one (ps_ret pe_bl)) pss_nil) (pss_cons (ps_if (PW.pt (pw_or (pt_cmpR (neA K hr.units) (pe_lc (own := [("_law_each", 16)]) rfl sc__law_right.nd (piR K (pv 6)) (blkOk_by (own := [("_law_each", 16)]) (N := N__law_right) (sc := (defScope s__law_right)) (by decide +kernel)) (fun _ _ _ _ _ => pg_name (i := 16) sc__law_right.nd rfl (Or.inl rfl)) (fun _ _ _ _ _ => pts_nil) (fun _ _ _ _ _ => (pe_cmpR (neOwnA K (d_Book___eq__ T) (hr.mono (by decide)) T.om_Book T.on_Book T.oe_Book T.ie_Book T.b_Book___eq__) (pv 14) (pv 16) (nomark _)))) (pe_lc (own := [("_law_each", 16)]) rfl sc__law_right.nd (piR K (pv 4)) (blkOk_by (own := [("_law_each", 16)]) (N := N__law_right) (sc := (defScope s__law_right)) (by decide +kernel)) (fun _ _ _ _ _ => pg_name (i := 16) sc__law_right.nd rfl (Or.inl rfl)) (fun _ _ _ _ _ => pts_nil) (fun _ _ _ _ _ => (pe_cmpR (neA K hr.units) (pv 5) (pv 16) (nomark _)))) (nomark _)) (pw_or1 (pt_not (truA K (pe_callG (E := E0) (d__law_is T) (hr.mono (by decide)) hG (by rfl) T.m__law_is T.F__law_is.kp T.b__law_is (pa_cons (pv 14) (pa_cons (pv 2) (pa_cons (pv 3) pa_nil))))))))) (pss_one (ps_ret pe_bl)) pss_nil) (pss_one (ps_for PassesOwn.never rfl (piR K (pe_lst (pa_cons pe_non (pa_cons pe_int (pa_cons (pv 5) (pa_cons (pe_tup (pa_cons (pv 5) pa_nil)) (pa_cons (pe_lst (pa_cons (pv 14) pa_nil)) (pa_cons pe_dnewK (pa_cons pe_bl pa_nil))))))))) (pg_name (i := 11) sc__law_right.nd rfl (Or.inl rfl)) (pss_one (ps_if (PW.pt (pw_or (pt_cmpR (eqOwnA K (d_Book___eq__ T) (hr.mono (by decide)) T.oe_Book T.ie_Book T.b_Book___eq__) (pv 14) (pv 11) (nomark _)) (pw_or1 (pt_not (pt_cmpR (neOwnA K (d_Book___eq__ T) (hr.mono (by decide)) T.om_Book T.on_Book T.oe_Book T.ie_Book T.b_Book___eq__) (pv 14) (pv 11) (nomark _)))))) (pss_one (ps_ret pe_bl)) pss_nil)))))))))))))) (pss_cons (ps_set (i := 13) sc__law_right.nd rfl (Or.inr rfl) (pe_make T.mk_Book (d_Book___init__ T) (hr.mono (by decide)) (by rfl) T.m_Book T.b_Book___init__ .nil pass0 (pa_cons (pe_op (plusE K) pe_str (joinA K pe_str (pe_op opTimes (pe_lst (pa_cons pe_str pa_nil)) pe_int))) pa_nil))) (pss_one (ps_ret (pe_and (pe_cmpR (eqA K hr.units) (pe_callB (lenA K) (by rfl) T.n_len (by decide +kernel) (pa_cons (pe_prop (pv 13) T.cl_Book T.p_Book_rows (d_Book_rows T) (hr.mono (by decide)) T.b_Book_rows .nil pass0 rfl) pa_nil)) pe_int (nomark _)) (pe_one (pe_cmpR (eqA K hr.units) (pe_lamcall3 (T := T.tts) (c := T.lc__law_right) (P := T.lt__law_right) (k := 6) (by rfl) T.m__law_told T.F__law_told.kp lkT cdT bT sc__law_told rfl (Or.inl rfl) (told_gv (X := (cxOf CX0 P w K mg base N__law_right "_law_right" (defScope s__law_right) T.f__law_right (.ref T.lc__law_right) A outer s' H E).nox) T cdvT (hr.mono (by decide)) hG) TB__law_right rfl T.hm__law_right (T.tabs.uniq T.hm__law_right) (hr.mono (by decide)) (show LamX.LamS (defScope s__law_right) _ from LamX.lamS_by (by decide +kernel)) rfl (fun _ _ _ _ _ => rfl) (fun A1 outer1 s1 H1 E f1 c1 hr => (pe_meth (E := E) (pv 13) T.cl_Book T.h_Book_with_row (d_Book_with_row T) (hr.mono (by decide)) T.b_Book_with_row .nil (passes_call (takes_of rfl rfl rfl rfl) fun _ _ _ _ h => h) (pa_cons pe_str pa_nil)))) (pe_tup (pa_cons pe_str (pa_cons pe_str pa_nil))) (nomark _)))))))))))), fun x hx => ?_⟩
  have rsd : Rsd K (sortCs T) T.C_TooMany "TooMany" := ⟨⟨_, T.xk_TooMany, T.kt_TooMany, by decide +kernel⟩, ⟨T.xf_TooMany, fun n hn => by
    simp only [List.mem_cons, List.not_mem_nil, or_false] at hn
    rcases hn with rfl | rfl | rfl | rfl
    · exact T.xn_TooMany_given
    · exact T.xn_TooMany_index
    · exact T.xn_TooMany_number
    · exact T.xn_TooMany_told⟩⟩
  have hsh : shF T.C_Book (.int 20) := .inl (.inl ⟨1, by decide, by decide +kernel, by decide +kernel, by decide +kernel, by decide +kernel⟩)
  have suit : SuitX (tsTold K T.C_Book (sortCs T)) 4 2 ⟨T.C_TooMany, [("number", .int 20)]⟩ (.tup [.str "TooMany", .str "20"]) := by
    have := suitF (C0 := T.C_Book) rsd (.many rfl (.int 20) rfl hsh)
    rw [many_txt rfl] at this
    exact this
  -- the books
  refine ds_seq (ds_asg_lcO (di_range (dla_cons (Ev.dl ev_int (dla_nil ⟨(4 : Nat), rfl, by decide, by rw [rng_length]; decide, fun i acc Γ' => Γ' = .val .purse :: List.replicate 16 .unset ∧ ∃ bs : List Bk, acc = bs.map bkP ∧ bs.length = i ∧ ∀ b ∈ bs, BookOk b.1 b.2, ⟨rfl, [], rfl, rfl, fun b h => absurd h (by simp)⟩, fun i x acc Γ' hx' ⟨e, bs, ea, hl, hb⟩ => ?b1, fun acc Γ' ⟨e, bs, ea, hl, hb⟩ => ?b2⟩)))))
  case b1 =>
    subst e
    refine ⟨[15], _, dg_name, by decide, dlt_yes ⟨fun _ => dl_call (s := spBook) (dla_cons (Ev.dl (ev_var rfl) (dla_cons (Ev.dl ev_int (dla_cons (Ev.dl ev_int (dla_cons (Ev.dl ev_int (dla_nil ⟨(1, 8, 20), rfl, ⟨by decide, by decide, by decide, by decide⟩, fun d hd => ?_⟩))))))))), fun h => nomatch h⟩⟩
    obtain ⟨L, R, rfl, hbo, _⟩ := hd
    refine ⟨rfl, bs ++ [(L, R)], by rw [ea, List.map_append]; rfl, by rw [List.length_append, hl]; rfl, fun b h => ?_⟩
    rcases List.mem_append.mp h with h | h
    · exact hb b h
    · rw [List.mem_singleton.mp h]; exact hbo
  subst e ea
  rw [rng_length] at hl
  obtain ⟨b0, r0, rfl⟩ : ∃ b r, bs = b :: r := by
    cases bs with
    | nil => cases hl
    | cons b r => exact ⟨b, r, rfl⟩
  show Ds _ (Sl.val .purse :: Sl.own ((b0 :: r0).map bkP) :: List.replicate 15 .unset) _
  refine ds_seq (ds_drop (dl_append ⟨_, rfl⟩ (dla_cons (Ev.dl (ev_ix (evb_own rfl) ev_int (atI_nat (j := 0) (by rw [List.map_cons]; rfl))) (dla_nil ⟨bkP b0, _, rfl, rfl, Nat.lt_of_le_of_lt (show ((b0 :: r0).map bkP).length ≤ 100 by rw [List.length_map, hl]; decide) (by decide), ?_⟩)))))
  have eb : (b0 :: r0).map bkP ++ [bkP b0] = ((b0 :: r0) ++ [b0]).map bkP := by rw [List.map_append]; rfl
  show Ds _ (Sl.val .purse :: Sl.own ((b0 :: r0).map bkP ++ [bkP b0]) :: List.replicate 15 .unset) _
  rw [eb]
  have hb' : ∀ b ∈ (b0 :: r0) ++ [b0], BookOk b.1 b.2 := fun b h => (List.mem_append.mp h).elim (hb b) fun h => by rw [List.mem_singleton.mp h]; exact hb b0 List.mem_cons_self
  have hl' : ((b0 :: r0) ++ [b0]).length = 5 := by rw [List.length_append, hl]; rfl
  obtain ⟨bs, ebs⟩ : ∃ bs, bs = (b0 :: r0) ++ [b0] := ⟨_, rfl⟩
  rw [← ebs] at hb' hl' ⊢
  refine ds_freeze 1 rfl ?_
  show Ds _ (Sl.val .purse :: Sl.val (.lst (bs.map bkP)) :: List.replicate 15 .unset) _
  -- their texts
  refine ds_seq (ds_asg (Ev.dl (EvN.ev (evn_lc1 (xs := bs) (c := bkP) (f := fun b => .str (txB b)) (ej_list (ev_var (d := .lst (bs.map bkP)) rfl).b) (by omega) fun b hbm => ⟨[2] ++ [3], _, dg_tup2 dg_name dg_name, by decide, evt_yes, ev_call (s := spSpelled) (x := b) (eva_cons (ev_var rfl) (eva_cons (ev_var rfl) eva_nil)) (np_ln (np_ln (r := []) rfl)) (hb' b hbm) fun d h => h⟩)) ?_))
  show Ds _ (Sl.val .purse :: Sl.val (.lst (bs.map bkP)) :: .unset :: .unset :: Sl.val (.lst (bs.map fun b => D.str (txB b))) :: List.replicate 12 .unset) _
  -- the books made
  refine ds_seq (ds_asg (dl_lc (dj_list (Ev.dl (ev_var (d := .lst (bs.map fun b => D.str (txB b))) rfl) ⟨_, rfl, by rw [List.length_map]; omega, fun i acc Γ' => Γ' = Sl.val .purse :: Sl.val (.lst (bs.map bkP)) :: .unset :: .unset :: Sl.val (.lst (bs.map fun b => D.str (txB b))) :: List.replicate 12 .unset ∧ acc = (bs.take i).map (bkO T.C_Book), ⟨rfl, rfl⟩, fun i x acc Γ' hx' ⟨e, ea⟩ => ?c1, fun acc Γ' ⟨e, ea⟩ => ?c2⟩))))
  case c1 =>
    subst e
    rw [List.getElem?_map] at hx'
    obtain ⟨b, hbi, rfl⟩ : ∃ b, bs[i]? = some b ∧ x = .str (txB b) := by
      cases q : bs[i]? with
      | none => rw [q] at hx'; cases hx'
      | some b => rw [q] at hx'; cases hx'; exact ⟨b, rfl, rfl⟩
    have hbo := hb' b (List.mem_of_getElem? hbi)
    have fin : acc ++ [bkO T.C_Book b] = (bs.take (i + 1)).map (bkO T.C_Book) := by
      rw [ea, List.take_succ, hbi, List.map_append]; rfl
    refine ⟨[5], _, dg_name, by decide, dlt_yes ⟨fun _ => dl_if (dlt_test (dl_op (dl_call (s := spDraw) (dla_cons (Ev.dl (ev_var rfl) (dla_cons (Ev.dl ev_int (dla_nil ⟨(2 : Nat), rfl, ⟨by decide, by decide⟩, fun d hd => ?_⟩)))))))), fun h => nomatch h⟩⟩
    obtain ⟨q, hq, rfl⟩ := hd
    refine Ev.dl ev_int ⟨.bl (decide ((q : Int) = 0)), eq_int', _, rfl, fun _ => dl_make (s := spInit) (dla_cons (Ev.dl (ev_var (d := .str (txB b)) rfl) (dla_nil ⟨b, rfl, hbo, fun es hes => ?_⟩))), fun _ => dl_makeKI (ns := ["_text", "_names", "_rows"]) (s := spInit) (x := b) (fun _ _ => rfl) (eva_cons (ev_var (d := .str (txB b)) rfl) eva_nil) rfl hbo fun es hes => ?_⟩
    · cases hes
      exact ⟨rfl, fin⟩
    · cases hes
      exact ⟨rfl, fin⟩
  subst e ea
  rw [List.length_map, List.take_length]
  show Ds _ (Sl.val .purse :: Sl.val (.lst (bs.map bkP)) :: .unset :: .unset :: Sl.val (.lst (bs.map fun b => D.str (txB b))) :: .unset :: Sl.val (.lst (bs.map (bkO T.C_Book))) :: List.replicate 10 .unset) _
  refine ds_seq (ds_for (fun xs i Γ' => xs = bs.map (fun b => .tup [bkO T.C_Book b, bkP b, .str (txB b)]) ∧ ∃ s2 s3 s5 s7 s8 s9 s10 s11 s12 s14 : Sl, Γ' = [.val .purse, .val (.lst (bs.map bkP)), s2, s3, .val (.lst (bs.map fun b => D.str (txB b))), s5, .val (.lst (bs.map (bkO T.C_Book))), s7, s8, s9, s10, s11, s12, .unset, s14, .unset, .unset])
    (di_zip3 (ev_var (d := .lst (bs.map (bkO T.C_Book))) rfl) (ev_var (d := .lst (bs.map bkP)) rfl) (ev_var (d := .lst (bs.map fun b => D.str (txB b))) rfl) (by rw [List.length_map, List.length_map]) (by rw [List.length_map, List.length_map]) ⟨⟨zip3_map _ _ _ bs, _, _, _, _, _, _, _, _, _, _, rfl⟩, fun i x Γ' hx' ⟨exs, s2, s3, s5, s7, s8, s9, s10, s11, s12, s14, e⟩ => ?st, fun Γ' ⟨exs, s2, s3, s5, s7, s8, s9, s10, s11, s12, s14, e⟩ => ?_⟩))
  case st =>
    subst e
    rw [exs, List.getElem?_map] at hx'
    obtain ⟨b, hbi, rfl⟩ : ∃ b, bs[i]? = some b ∧ x = .tup [bkO T.C_Book b, bkP b, .str (txB b)] := by
      cases q : bs[i]? with
      | none => rw [q] at hx'; cases hx'
      | some b => rw [q] at hx'; cases hx'; exact ⟨b, rfl, rfl⟩
    have hbo := hb' b (List.mem_of_getElem? hbi)
    refine ⟨[14] ++ ([7] ++ [5]), _, dg_tup3 dg_name dg_name dg_name, ?_⟩
    obtain ⟨L, R⟩ := b
    have hbo : BookOk L R := hbo
    have h8 := hbo.n8
    have h20 := hbo.few
    have lL := nameD_len L
    have lR := nameD_len R
    have np := np_book T.C_Book L R
    have npo := np_o T.C_Book (L, R)
    show Ds _ [.val .purse, .val (.lst (bs.map bkP)), s2, s3, .val (.lst (bs.map fun b => D.str (txB b))), .val (.str (txB (L, R))), .val (.lst (bs.map (bkO T.C_Book))), .val (bkP (L, R)), s8, s9, s10, s11, s12, .unset, .val (bkO T.C_Book (L, R)), .unset, .unset] _
    refine ds_seq (ds_asg_g (Ev.dl (ev_var (d := bkP (L, R)) rfl) ⟨[2] ++ [3], _, dg_tup2 dg_name dg_name, ?_⟩))
    show Ds _ [.val .purse, .val (.lst (bs.map bkP)), .val (.lst (nameD L)), .val (.lst (nameD R)), .val (.lst (bs.map fun b => D.str (txB b))), .val (.str (txB (L, R))), .val (.lst (bs.map (bkO T.C_Book))), .val (bkP (L, R)), s8, s9, s10, s11, s12, .unset, .val (bkO T.C_Book (L, R)), .unset, .unset] _
    refine ds_seq (ds_if (EvT.dl (b := false) (evt_not (a := true) (evt_tru_bl (ev_call (s := spIs T.C_Book) (x := (L, R)) (eva_cons (ev_var rfl) (eva_cons (ev_var rfl) (eva_cons (ev_var rfl) eva_nil))) (by show (noP (bkO T.C_Book (L, R)) && noPs [.lst (nameD L), .lst (nameD R)]) = true; rw [npo, np_ln (np_ln (r := []) rfl)]; rfl) hbo fun d h => h))) ⟨fun h => (nomatch h), fun _ => ds_next ?_⟩))
    -- without each row
    refine ds_seq (ds_for (fun xs i Γ' => xs = rng R.length ∧ ∃ s8 s9 : Sl, Γ' = [.val .purse, .val (.lst (bs.map bkP)), .val (.lst (nameD L)), .val (.lst (nameD R)), .val (.lst (bs.map fun b => D.str (txB b))), .val (.str (txB (L, R))), .val (.lst (bs.map (bkO T.C_Book))), .val (bkP (L, R)), s8, s9, s10, s11, s12, .unset, .val (bkO T.C_Book (L, R)), .unset, .unset])
      (di_range (dla_cons (Ev.dl (ev_cast (congrArg (fun k : Nat => D.int k) lR) (ev_len (ds := nameD R) (ev_var rfl).b)) (dla_nil ⟨R.length, rfl, by omega, ⟨rfl, _, _, rfl⟩, fun k x Γ' hx2 ⟨exs2, s8, s9, e⟩ => ?lk, fun Γ' ⟨exs2, s8, s9, e⟩ => ?_⟩)))))
    case lk =>
      subst e
      rw [exs2] at hx2
      obtain ⟨hk, rfl⟩ := rng_get hx2
      refine ⟨[8], _, dg_name, ds_seq (ds_asg (Ev.dl (ev_cast (congrArg D.lst (nmD_less R k)) (EvN.ev (pl_evn (EvN.b (evn_sliceY (ev_var (d := .lst (nameD R)) rfl).b eo_none (eo_some (ev_var (d := .int (k : Nat)) rfl)))) (EvN.b (evn_sliceY (ev_var (d := .lst (nameD R)) rfl).b (eo_some (ev_op (ev_var (d := .int (k : Nat)) rfl) ev_int pl_int)) eo_none)) (less_len R k h20)))) ?_))⟩
      have hq := hbo.less k
      have npq := np_o T.C_Book (L, R.take k ++ R.drop (k + 1))
      show Ds _ [.val .purse, .val (.lst (bs.map bkP)), .val (.lst (nameD L)), .val (.lst (nameD R)), .val (.lst (bs.map fun b => D.str (txB b))), .val (.str (txB (L, R))), .val (.lst (bs.map (bkO T.C_Book))), .val (bkP (L, R)), .val (.int (k : Nat)), .val (.lst (nameD (R.take k ++ R.drop (k + 1)))), s10, s11, s12, .unset, .val (bkO T.C_Book (L, R)), .unset, .unset] _
      have wo : ∀ {E : XK}, Ev (tMeth T.C_Book "without" (toSp (spOut T.C_Book)) [] E (tVar 14) (tCons (tVar 8) tNil)) [.val .purse, .val (.lst (bs.map bkP)), .val (.lst (nameD L)), .val (.lst (nameD R)), .val (.lst (bs.map fun b => D.str (txB b))), .val (.str (txB (L, R))), .val (.lst (bs.map (bkO T.C_Book))), .val (bkP (L, R)), .val (.int (k : Nat)), .val (.lst (nameD (R.take k ++ R.drop (k + 1)))), s10, s11, s12, .unset, .val (bkO T.C_Book (L, R)), .unset, .unset] (bkO T.C_Book (L, R.take k ++ R.drop (k + 1))) := fun {E} => ev_meth (s := spOut T.C_Book) (x := ((L, R), k)) (ns := ["_text", "_names", "_rows"]) (ev_var (i := 14) rfl) (eva_cons (ev_var (i := 8) rfl) eva_nil) rfl (np2 npo rfl) ⟨hbo, hk⟩ (by decide) fun d h => h
      refine ds_if (EvT.dl (b := false || !true) (evt_or (a := false) (b := !true) (evt_not (a := true) (evt_tru_bl (ev_call (s := spIs T.C_Book) (x := (L, R.take k ++ R.drop (k + 1))) (eva_cons wo (eva_cons (ev_var rfl) (eva_cons (ev_var rfl) eva_nil))) (by show (noP (bkO T.C_Book (L, R.take k ++ R.drop (k + 1))) && noPs [.lst (nameD L), .lst (nameD (R.take k ++ R.drop (k + 1)))]) = true; rw [npq, np_ln (np_ln (r := []) rfl)]; rfl) hq fun d h => h))) fun _ => evt_test (ev_neOwn (s := spOEq T.C_Book) (x := ((L, R.take k ++ R.drop (k + 1)), bkO T.C_Book (L, R.take k ++ R.drop (k + 1)))) (b := true) (ns := ["_text", "_names", "_rows"]) (ev_methK (s := spOut T.C_Book) (x := ((L, R), k)) (ns := ["_text", "_names", "_rows"]) (ev_var (i := 14) rfl) (eva_cons (ev_var (i := 8) rfl) eva_nil) rfl (fun _ _ => rfl) rfl (np2 npo rfl) ⟨hbo, hk⟩ (by decide) fun d h => h) wo rfl rfl (np2 npq npq) (.own _) fun d h => by rw [h]; exact congrArg D.bl (decide_eq_true rfl))) ⟨fun h => (nomatch h), fun _ => ds_next ⟨exs2, _, _, rfl⟩⟩)
    subst e
    -- with a row more
    refine ds_seq (ds_asg (dl_call (s := spSigns) (dla_cons (Ev.dl (ev_var rfl) (dla_cons (Ev.dl (ev_cast (congrArg (fun k : Nat => D.int k) lL) (ev_len (ds := nameD L) (ev_var rfl).b)) (dla_nil ⟨L.length, rfl, h8, fun d hd => ?_⟩)))))))
    obtain ⟨f, hf, rfl⟩ := hd
    obtain ⟨due, edue⟩ : ∃ due : D, due = if R.length < 20 then .tup [.str "returned", .str (txB (L, R ++ [f]))] else .tup [.str "TooMany", .str "20"] := ⟨_, rfl⟩
    have okd : dOk 1 due = true := by
      rw [edue]
      by_cases h : R.length < 20
      · rw [if_pos h]
        show (dOk 0 (.str "returned") && (dOk 0 (.str (txB (L, R ++ [f]))) && true)) = true
        rw [show dOk 0 (.str (txB (L, R ++ [f]))) = true from okX_book (hbo.snoc hf h)]; decide +kernel
      · rw [if_neg h]; decide +kernel
    refine ds_seq (ds_asg (Ev.dl (d := due) ?hdue ?_))
    case hdue =>
      by_cases h : R.length < 20
      · rw [edue, if_pos h]
        exact (ev_if (a := true) (d1 := .tup [.str "returned", .str (txB (L, R ++ [f]))]) (d2 := .non) (evt_test (ev_op (ev_cast (congrArg (fun k : Nat => D.int k) lR) (ev_len (ds := nameD R) (ev_var rfl).b)) ev_int (lt_b (decide_eq_true (by omega))))) (fun _ => ev_tup (eva_cons ev_str (eva_cons (ev_call (s := spSpelled) (x := (L, R ++ [f])) (eva_cons (ev_var rfl) (eva_cons (ev_cast (congrArg D.lst (nameD_app R [f])) (EvN.ev (pl_evn (ev_var (d := .lst (nameD R)) rfl).b (EvN.b (evn_lst (eva_cons (ev_var (d := .str (tx f)) rfl) eva_nil) (small (show 1 ≤ 100000 by decide)))) (small (by rw [lR]; show R.length + 1 ≤ 100000; omega))))) eva_nil)) (np_ln (np_ln (r := []) rfl)) (hbo.snoc hf h) fun d h => h) eva_nil)) (small (show 2 ≤ 100000 by decide))) fun h => nomatch h)
      · rw [edue, if_neg h]
        exact ev_if (a := false) (d1 := .non) (d2 := .tup [.str "TooMany", .str "20"]) (evt_test (ev_op (ev_cast (congrArg (fun k : Nat => D.int k) lR) (ev_len (ds := nameD R) (ev_var rfl).b)) ev_int (lt_b (decide_eq_false (by omega))))) (fun h => nomatch h) fun _ => ev_tup (eva_cons ev_str (eva_cons ev_str eva_nil)) (small (show 2 ≤ 100000 by decide))
    obtain ⟨Γ1, eΓ⟩ : ∃ Γ1 : Gam, Γ1 = [.val .purse, .val (.lst (bs.map bkP)), .val (.lst (nameD L)), .val (.lst (nameD R)), .val (.lst (bs.map fun b => D.str (txB b))), .val (.str (txB (L, R))), .val (.lst (bs.map (bkO T.C_Book))), .val (bkP (L, R)), s8, s9, .val due, s11, .val (.str (tx f)), .unset, .val (bkO T.C_Book (L, R)), .unset, .unset] := ⟨_, rfl⟩
    show Ds _ [.val .purse, .val (.lst (bs.map bkP)), .val (.lst (nameD L)), .val (.lst (nameD R)), .val (.lst (bs.map fun b => D.str (txB b))), .val (.str (txB (L, R))), .val (.lst (bs.map (bkO T.C_Book))), .val (bkP (L, R)), s8, s9, .val due, s11, .val (.str (tx f)), .unset, .val (bkO T.C_Book (L, R)), .unset, .unset] _
    rw [← eΓ]
    have v0 : Γ1[0]? = some (.val .purse) := by rw [eΓ]; rfl
    have v2 : Γ1[2]? = some (.val (.lst (nameD L))) := by rw [eΓ]; rfl
    have v3 : Γ1[3]? = some (.val (.lst (nameD R))) := by rw [eΓ]; rfl
    have v4 : Γ1[4]? = some (.val (.lst (bs.map fun b => D.str (txB b)))) := by rw [eΓ]; rfl
    have v5 : Γ1[5]? = some (.val (.str (txB (L, R)))) := by rw [eΓ]; rfl
    have v6 : Γ1[6]? = some (.val (.lst (bs.map (bkO T.C_Book)))) := by rw [eΓ]; rfl
    have v10 : Γ1[10]? = some (.val due) := by rw [eΓ]; rfl
    have v12 : Γ1[12]? = some (.val (.str (tx f))) := by rw [eΓ]; rfl
    have v14 : Γ1[14]? = some (.val (bkO T.C_Book (L, R))) := by rw [eΓ]; rfl
    have told : ∀ {P : Addr} {q : Str} (hP : (P, q) ∈ T.tts) {t : XK → TE}, (R.length < 20 → ∀ E, Dl (t E) Γ1 fun d Γ' => d = .str (txB (L, R ++ [f])) ∧ Γ' = Γ1) → (R.length = 20 → ∀ E : XK, ErT (t E) Γ1 ⟨T.C_TooMany, [("number", .int 20)]⟩ fun ed H' => E (.ref T.C_TooMany) ed H') →
        Dl (tLam3 T.tts P q (TTold3 K (.ref T.C_WrongValue) (.ref T.C_NoAnswer) 4 2 "returned" (tsTold K T.C_Book (sortCs T))) t) Γ1 fun d Γ' => d = due ∧ Γ' = Γ1 := fun {P q} hP {t} h1 h2 => by
      by_cases h : R.length < 20
      · refine dl_told_dl (i := 0) T.tabs hP v0 (h1 h) fun d Γ' ⟨e1, e2⟩ => ⟨?_, e2⟩
        rw [edue, if_pos h, e1]
      · refine dl_told_excX (i := 0) (x := ⟨T.C_TooMany, [("number", .int 20)]⟩) T.tabs hP v0 (h2 (by omega)) T.xm_TooMany suit ⟨?_, rfl⟩
        rw [edue, if_neg h]
    refine ds_seq (ds_if (dlt_test (dl_op (Dl.imp (told T.hm__law_right (fun h E => ?r1) fun h E => ?x1) fun d Γ' ⟨e1, e2⟩ => ?aft))))
    case r1 =>
      exact dl_own1 (s := spBText T.C_Book) (Ev.dl (ev_meth_or (s := spWith T.C_Book) (x := ((L, R), f)) (ns := ["_text", "_names", "_rows"]) (ev_var v14) (eva_cons (ev_var v12) eva_nil) rfl (np2 npo rfl) ⟨hbo, hf, h⟩ (by decide) fun d h => h) ⟨_, _, (L, R ++ [f]), _, rfl, rfl, np_book _ _ _, trivial, fun d h => h, rfl, rfl⟩)
    case x1 =>
      exact ert_cb1 (ert_meth (sx := spMore T.C_Book T.C_TooMany) (x := ((L, R), f)) (ns := ["_text", "_names", "_rows"]) (ev_var v14) (eva_cons (ev_var v12) eva_nil) rfl ⟨hbo, hf, h⟩ (by decide) fun ed H' h => h)
    rw [e1, e2]
    refine Ev.dl (ev_var v10) ⟨.bl false, ne_self (k := 1) okd (by decide), false, rfl, fun h => (nomatch h), fun _ => ds_next ?_⟩
    refine ds_seq (ds_if (dlt_test (dl_op (Dl.imp (told T.hm__law_right (fun h E => ?r2) fun h E => ?x2) fun d Γ' ⟨e1, e2⟩ => ?aft2))))
    case r2 =>
      exact dl_own1 (s := spBText T.C_Book) (Ev.dl (ev_methK_or (s := spWith T.C_Book) (x := ((L, R), f)) (ns := ["_text", "_names", "_rows"]) (ev_var v14) (eva_cons (ev_var v12) eva_nil) rfl (fun _ _ => rfl) rfl (np2 npo rfl) ⟨hbo, hf, h⟩ (by decide) fun d h => h) ⟨_, _, (L, R ++ [f]), _, rfl, rfl, np_book _ _ _, trivial, fun d h => h, rfl, rfl⟩)
    case x2 =>
      exact ert_cb1 (ert_methK (sx := spMore T.C_Book T.C_TooMany) (x := ((L, R), f)) (ns := ["_text", "_names", "_rows"]) (ev_var v14) (eva_cons (ev_var v12) eva_nil) rfl (fun _ _ => rfl) rfl ⟨hbo, hf, h⟩ (by decide) fun ed H' h => h)
    rw [e1, e2]
    refine Ev.dl (ev_var v10) ⟨.bl false, ne_self (k := 1) okd (by decide), false, rfl, fun h => (nomatch h), fun _ => ds_next ?_⟩
    subst eΓ
    -- equal to the books with the same text
    have len1 : bs.length ≤ 1000000 := by omega
    have okb : ∀ p : Bk → Bool, dOk 1 (.lst (bs.map fun b => D.bl (p b))) = true := fun p => by
      have := dOks_bls (bs.map p)
      rw [List.map_map] at this
      exact this
    refine ds_seq (ds_if (EvT.dl (b := false) (evt_test (ev_op (EvN.ev (evn_lc1 (xs := bs) (c := bkO T.C_Book) (f := fun b => .bl (decide (txB (L, R) = txB b))) (ej_list (ev_var (d := .lst (bs.map (bkO T.C_Book))) rfl).b) len1 fun b hbm => ⟨[16], _, dg_name, by decide, evt_yes, ev_eqOwn (s := spOEq T.C_Book) (x := ((L, R), bkO T.C_Book b)) (ns := ["_text", "_names", "_rows"]) (ev_var rfl) (ev_var rfl) rfl rfl (np2 npo (np_o _ b)) (.own b) fun d h => h⟩)) (EvN.ev (evn_lc1 (xs := bs) (c := fun b => .str (txB b)) (f := fun b => .bl (decide (txB (L, R) = txB b))) (ej_list (ev_var (d := .lst (bs.map fun b => D.str (txB b))) rfl).b) len1 fun b hbm => ⟨[16], _, dg_name, by decide, evt_yes, ev_op (ev_var rfl) (ev_var rfl) (eq_sb rfl)⟩)) (ne_self (k := 1) (okb _) (by decide)))) ⟨fun h => (nomatch h), fun _ => ds_next ?_⟩))
    refine ds_seq (ds_if (EvT.dl (b := false || !true) (evt_or (a := false) (b := !true) (evt_test (ev_op (EvN.ev (evn_lc1 (xs := bs) (c := bkO T.C_Book) (f := fun b => .bl (!decide (txB (L, R) = txB b))) (ej_list (ev_var (d := .lst (bs.map (bkO T.C_Book))) rfl).b) len1 fun b hbm => ⟨[16], _, dg_name, by decide, evt_yes, ev_neOwn (s := spOEq T.C_Book) (x := ((L, R), bkO T.C_Book b)) (ns := ["_text", "_names", "_rows"]) (ev_var rfl) (ev_var rfl) rfl rfl (np2 npo (np_o _ b)) (.own b) fun d h => h⟩)) (EvN.ev (evn_lc1 (xs := bs) (c := fun b => .str (txB b)) (f := fun b => .bl (!decide (txB (L, R) = txB b))) (ej_list (ev_var (d := .lst (bs.map fun b => D.str (txB b))) rfl).b) len1 fun b hbm => ⟨[16], _, dg_name, by decide, evt_yes, ev_op (ev_var rfl) (ev_var rfl) (ne_sb rfl)⟩)) (ne_self (k := 1) (okb _) (by decide)))) fun _ => evt_not (a := true) (evt_tru_bl (ev_call (s := spIs T.C_Book) (x := (L, R)) (eva_cons (ev_var rfl) (eva_cons (ev_var rfl) (eva_cons (ev_var rfl) eva_nil))) (by show (noP (bkO T.C_Book (L, R)) && noPs [.lst (nameD L), .lst (nameD R)]) = true; rw [npo, np_ln (np_ln (r := []) rfl)]; rfl) hbo fun d h => h))) ⟨fun h => (nomatch h), fun _ => ds_next ?_⟩))
    -- unequal to any other value
    refine ds_for (fun xs i Γ' => xs = oddE T.C_Book (L, R) ∧ ∃ s11 : Sl, Γ' = [.val .purse, .val (.lst (bs.map bkP)), .val (.lst (nameD L)), .val (.lst (nameD R)), .val (.lst (bs.map fun b => D.str (txB b))), .val (.str (txB (L, R))), .val (.lst (bs.map (bkO T.C_Book))), .val (bkP (L, R)), s8, s9, .val due, s11, .val (.str (tx f)), .unset, .val (bkO T.C_Book (L, R)), .unset, .unset])
      (dj_list (Ev.dl (EvN.ev (evn_lst (ds := oddE T.C_Book (L, R)) (eva_cons ev_non (eva_cons ev_int (eva_cons (ev_var rfl) (eva_cons (ev_tup (eva_cons (ev_var rfl) eva_nil) (small (show 1 ≤ 100000 by decide))) (eva_cons (EvN.ev (evn_lst (eva_cons (ev_var rfl) eva_nil) (small (show 1 ≤ 100000 by decide)))) (eva_cons ev_dnew (eva_cons ev_bl eva_nil))))))) (small (show 7 ≤ 100000 by decide)))) ⟨_, rfl, ⟨rfl, _, rfl⟩, fun k x Γ' hx2 ⟨exs2, s11, e⟩ => ?_, fun Γ' ⟨exs2, s11, e⟩ => ?_⟩))
    · subst e
      rw [exs2] at hx2
      obtain ⟨o1, o2, o3⟩ := oddE_ok x (List.mem_of_getElem? hx2)
      refine ⟨[11], _, dg_name, ds_if (EvT.dl (b := false || !(!false)) (evt_or (a := false) (b := !(!false)) (evt_test (ev_eqOwn (s := spOEq T.C_Book) (x := ((L, R), x)) (ns := ["_text", "_names", "_rows"]) (ev_var rfl) (ev_var rfl) o3 rfl (np2 npo o2) (.odd x o1) fun d h => by rw [h]; exact congrArg D.bl (eqB_odd o1))) fun _ => evt_not (evt_test (ev_neOwn (s := spOEq T.C_Book) (x := ((L, R), x)) (ns := ["_text", "_names", "_rows"]) (ev_var rfl) (ev_var rfl) o3 rfl (np2 npo o2) (.odd x o1) fun d h => by rw [h]; exact congrArg D.bl (eqB_odd o1)))) ⟨fun h => (nomatch h), fun _ => ds_next ⟨exs2, _, rfl⟩⟩)⟩
    · subst e
      exact ⟨exs, _, _, _, _, _, _, _, _, _, _, rfl⟩
  subst e
  refine ds_seq (ds_asg (dl_make (s := spInit) (dla_cons (Ev.dl (ev_cast (congrArg D.str full_eq) (ev_op ev_str (ev_join (ys := List.replicate 20 (Str.ofString "+")) ev_str (EvN.b ?rep) (by decide +kernel)) (pl_str (by decide +kernel)))) (dla_nil ⟨([[97]], List.replicate 20 [43]), rfl, full_ok, fun es hes => ?_⟩)))))
  case rep =>
    have := evn_rep (n := 20) (ds := [D.str "+"]) (Γ := [.val .purse, .val (.lst (bs.map bkP)), s2, s3, .val (.lst (bs.map fun b => D.str (txB b))), s5, .val (.lst (bs.map (bkO T.C_Book))), s7, s8, s9, s10, s11, s12, .unset, s14, .unset, .unset]) (EvN.b (evn_lst (eva_cons ev_str eva_nil) (small (show 1 ≤ 100000 by decide)))) ev_int (by decide) (by decide)
    exact this
  cases hes
  refine ds_ret (dl_andV (Ev.dl (ev_op (ev_cast (d' := .int (20 : Nat)) (congrArg (fun k : Nat => D.int k) (nameD_len _)) (ev_lenT (ds := nameD (List.replicate 20 [43])) (ev_prop (s := spBRows T.C_Book) (x := ([[97]], List.replicate 20 [43])) (ev_var rfl) rfl (np_book _ _ _) trivial fun d h => h))) ev_int eq_int') ⟨true, rfl, fun _ => dl_op (dl_told_excX (i := 0) (x := ⟨T.C_TooMany, [("number", .int 20)]⟩) T.tabs T.hm__law_right rfl (fun E => ert_meth (sx := spMore T.C_Book T.C_TooMany) (x := (([[97]], List.replicate 20 [43]), [45])) (ns := ["_text", "_names", "_rows"]) (ev_var rfl) (eva_cons (ev_cast (d := .str "-") (congrArg D.str (by decide +kernel : Str.ofString "-" = tx [45])) ev_str) eva_nil) rfl ⟨full_ok, row_minus, rfl⟩ (by decide) fun ed H' h => h) T.xm_TooMany suit (Ev.dl (ev_tup (eva_cons ev_str (eva_cons ev_str eva_nil)) (small (show 2 ≤ 100000 by decide))) ⟨.bl true, eq_self (k := 1) (by decide +kernel) (by decide), rfl⟩)), fun h => nomatch h⟩))
end K02

namespace K02
open PySem PySem.Spec PyProof.Rows L2 Dw
variable [Tabs0]
/-! what a call by name binds -/
theorem kn_of {K : PySem.W.Frag} {f : Addr} {od an : Option Addr} {sl : Array (Option Value)} {oc kV dc pm cd ct : Value} (l : K.lookup f = some ⟨oc, od, .func (PySem.W.fnOf "__init__" "Book.__init__" (defArgs s_Book___init__) (defBody s_Book___init__) (defScope s_Book___init__) .none kV dc pm an cd ct), sl⟩) :
    KBn K (PySem.W.fnOf "__init__" "Book.__init__" (defArgs s_Book___init__) (defBody s_Book___init__) (defScope s_Book___init__) .none kV dc pm an cd ct) ["self", "text"] 1 ["text"] (fun us ws => us ++ ws) (fun vs zs => vs ++ zs) := by
  refine ⟨fun s us ws X l1 l2 => ?_, fun {vs us zs ws} r r' => ?_⟩
  · match us, ws, l1, l2 with
    | [a0], [k0], _, _ => exact .of_eq rfl
  · induction r with
    | nil => exact r'
    | cons h _ ih => exact .cons h ih
theorem kn_with {K : PySem.W.Frag} {f : Addr} {od an : Option Addr} {sl : Array (Option Value)} {oc kV dc pm cd ct : Value} (l : K.lookup f = some ⟨oc, od, .func (PySem.W.fnOf "with_row" "Book.with_row" (defArgs s_Book_with_row) (defBody s_Book_with_row) (defScope s_Book_with_row) .none kV dc pm an cd ct), sl⟩) :
    KBn K (PySem.W.fnOf "with_row" "Book.with_row" (defArgs s_Book_with_row) (defBody s_Book_with_row) (defScope s_Book_with_row) .none kV dc pm an cd ct) ["self", "row"] 1 ["row"] (fun us ws => us ++ ws) (fun vs zs => vs ++ zs) := by
  refine ⟨fun s us ws X l1 l2 => ?_, fun {vs us zs ws} r r' => ?_⟩
  · match us, ws, l1, l2 with
    | [a0], [k0], _, _ => exact .of_eq rfl
  · induction r with
    | nil => exact r'
    | cons h _ ih => exact .cons h ih
theorem kn_out {K : PySem.W.Frag} {f : Addr} {od an : Option Addr} {sl : Array (Option Value)} {oc kV dc pm cd ct : Value} (l : K.lookup f = some ⟨oc, od, .func (PySem.W.fnOf "without" "Book.without" (defArgs s_Book_without) (defBody s_Book_without) (defScope s_Book_without) .none kV dc pm an cd ct), sl⟩) :
    KBn K (PySem.W.fnOf "without" "Book.without" (defArgs s_Book_without) (defBody s_Book_without) (defScope s_Book_without) .none kV dc pm an cd ct) ["self", "index"] 1 ["index"] (fun us ws => us ++ ws) (fun vs zs => vs ++ zs) := by
  refine ⟨fun s us ws X l1 l2 => ?_, fun {vs us zs ws} r r' => ?_⟩
  · match us, ws, l1, l2 with
    | [a0], [k0], _, _ => exact .of_eq rfl
  · induction r with
    | nil => exact r'
    | cons h _ ih => exact .cons h ih

end K02

namespace K02
open PySem PySem.Spec PyProof.Rows L2 Dw
variable [Tabs0]
def spLaw (K : PySem.W.Frag) : Spc where
  ty := List Int
  args := fun ns => [.scr K (ns.map V.int)]
  ok := fun ns => ns.length ≤ 63 ∧ ∀ z ∈ ns, Builtin.Int.intBits z ≤ 1048576
  rel := fun _ d => d = .bl true
end K02

namespace K02
open PySem PySem.Spec PyProof.Rows L2 Dw
variable [Tabs0]
theorem d_law {P : Program} {w : World} {K : PySem.W.Frag} {mg : Str → Option Value} {base : Heap} (T : Txt K w mg) (TB__law_right : LamX.TabB base mg T.lc__law_right T.lt__law_right) : FnG P w K mg base 10 T.f_law T.e_law ["_law_script"] (spLaw K) := by
  refine fnG_ok T.F_law sc_law (fun _ => rfl) fun cdv A outer s' H E hr hG => ?_
  refine ⟨_, (pss_one (ps_ret (pe_callB (allA K) (by rfl) T.n_all (by decide +kernel) (pa_cons (pe_lc (own := [("_law_spot", 1)]) rfl sc_law.nd (pi_range1 (by rfl) T.n_range (pa_cons (pe_callB (call_max2 rfl) (by rfl) T.n_max (by decide +kernel) (pa_cons pe_int (pa_cons (pe_callB (call_min2 rfl) (by rfl) T.n_min (by decide +kernel) (pa_cons (pe_callB (lenA K) (by rfl) T.n_len (by decide +kernel) (pa_cons (pv 0) pa_nil)) (pa_cons pe_int pa_nil))) pa_nil))) pa_nil)) (blkOk_by (own := [("_law_spot", 1)]) (N := N_law) (sc := (defScope s_law)) (by decide +kernel)) (fun _ _ _ _ _ => pg_name (i := 1) sc_law.nd rfl (Or.inl rfl)) (fun _ _ _ _ _ => pts_nil) (fun _ _ _ _ _ => (pe_callG (E := E0) (d__law_right T TB__law_right) (hr.mono (by decide)) hG (by rfl) T.m__law_right T.F__law_right.kp T.b__law_right (pa_cons (pe_call (d__law_purse T) (hr.mono (by decide)) (by rfl) T.m__law_purse T.F__law_purse.kp T.b__law_purse .nil pass0 (pa_cons (pv 0) (pa_cons (pv 1) pa_nil))) pa_nil)))) pa_nil)))), fun x hx => ?_⟩
  obtain ⟨ns, rfl⟩ : ∃ l : List Int, l = x := ⟨x, rfl⟩
  obtain ⟨hn, hbit⟩ := hx
  have hn : ns.length ≤ 63 := hn
  have l0 : (ns.map V.int).length = ns.length := List.length_map ..
  have em : ∃ m : Nat, m ≤ 63 ∧ (if (if (4 : Int) < ((ns.map V.int).length : Int) then (4 : Int) else ((ns.map V.int).length : Int)) > 2 then (if (4 : Int) < ((ns.map V.int).length : Int) then (4 : Int) else ((ns.map V.int).length : Int)) else 2) = (m : Int) := by
    rw [l0]
    by_cases h : (4 : Int) < (ns.length : Int)
    · rw [if_pos h, if_pos (by decide)]; exact ⟨4, by decide, rfl⟩
    · rw [if_neg h]
      by_cases h2 : (ns.length : Int) > 2
      · rw [if_pos h2]; exact ⟨ns.length, by omega, rfl⟩
      · rw [if_neg h2]; exact ⟨2, by decide, rfl⟩
  obtain ⟨m, hm, em⟩ := em
  refine ds_ret (dl_all (dl_lc (di_range (dla_cons (Ev.dl (ev_max2 ev_int (ev_min2 (ev_lenX (ev_var rfl)) ev_int)) (dla_nil ⟨m, ?_, by omega, by rw [rng_length]; omega, fun i acc Γ' => Γ' = [.val (.scr K (ns.map V.int)), .unset] ∧ ∃ bs : List Bool, acc = bs.map D.bl ∧ bs.all id = true, ⟨rfl, [], rfl, rfl⟩, fun i x acc Γ' hx' ⟨e, bs, ea, hb⟩ => ?_, fun acc Γ' ⟨e, bs, ea, hb⟩ => ⟨bs, congrArg D.lst ea, congrArg D.bl hb⟩⟩))))))
  · rw [em]
  · subst e
    obtain ⟨hi, rfl⟩ := rng_get hx'
    refine ⟨[1], _, dg_name, fun i hi => hi, dlt_yes ⟨fun _ => dl_purse (s := spRight) (x := ()) rfl trivial (fun d h => h) (ev_var rfl) (ev_var rfl) hn (by omega) hbit ⟨rfl, bs ++ [true], ?_, ?_⟩, fun h => nomatch h⟩⟩
    · rw [ea, List.map_append]; rfl
    · rw [List.all_append, hb]; rfl

end K02

namespace Dw
open PySem PySem.Spec PyProof.Rows L2
/-! the answers of isinstance and of an except clause, from what the written part says -/
theorem kit_cls_of {K : PySem.W.Frag} {D0 C : Addr} {b : Bool} (hd : PySem.W.hasDictIn K C = true) (ht : PySem.W.typeIn K (.ref C) = some (.type "type")) (hs : PySem.W.subIn K (.ref D0) (.ref C) = some b) : PySem.W.kitCls K (.ref D0) (.ref C) = some b := by
  obtain ⟨cd, hc, _⟩ := PySem.W.any_some hd
  show (if ((PySem.W.clsIn K C).isSome && PySem.W.typeIn K (.ref C) == some (.type "type")) = true then PySem.W.subIn K (.ref D0) (.ref C) else none) = some b
  rw [if_pos (by rw [hc, ht]; rfl)]
  exact hs
theorem kit_yes {K : PySem.W.Frag} {D0 C : Addr} (hd : PySem.W.hasDictIn K C = true) (ht : PySem.W.typeIn K (.ref C) = some (.type "type")) (hs : PySem.W.subIn K (.ref D0) (.ref C) = some true) : PySem.W.kitOne K (.ref D0) (.ref C) = some true := by
  unfold PySem.W.kitOne
  split
  · rfl
  · exact kit_cls_of hd ht hs
theorem kit_no {K : PySem.W.Frag} {D0 C : Addr} (hd : PySem.W.hasDictIn K C = true) (ht : PySem.W.typeIn K (.ref C) = some (.type "type")) (hs : PySem.W.subIn K (.ref D0) (.ref C) = some false) (ne : (D0 == C) = false) : PySem.W.kitOne K (.ref D0) (.ref C) = some false := by
  unfold PySem.W.kitOne
  rw [if_neg]
  · exact kit_cls_of hd ht hs
  · intro z
    have e : D0 = C := Value.ref.inj (beq_iff_eq.mp z)
    rw [e, beq_self_eq_true] at ne
    cases ne
theorem exm_any2 {K : PySem.W.Frag} {D0 C1 C2 : Addr} {b1 b2 : Bool} (s1 : PySem.W.subIn K (.ref C1) (.type "BaseException") = some true) (s2 : PySem.W.subIn K (.ref C2) (.type "BaseException") = some true) (hd1 : PySem.W.hasDictIn K C1 = true) (hd2 : PySem.W.hasDictIn K C2 = true)
    (ht1 : PySem.W.typeIn K (.ref C1) = some (.type "type")) (ht2 : PySem.W.typeIn K (.ref C2) = some (.type "type")) (h1 : PySem.W.subIn K (.ref D0) (.ref C1) = some b1) (h2 : PySem.W.subIn K (.ref D0) (.ref C2) = some b2) (hb : (b1 || b2) = true) : PySem.W.exmAny K (.ref D0) [.ref C1, .ref C2] = some true := by
  have e1 : PySem.W.exmOne K (.ref D0) (.ref C1) = some b1 := by
    unfold PySem.W.exmOne
    rw [if_pos (by rw [s1]; rfl)]
    exact kit_cls_of hd1 ht1 h1
  have e2 : PySem.W.exmOne K (.ref D0) (.ref C2) = some b2 := by
    unfold PySem.W.exmOne
    rw [if_pos (by rw [s2]; rfl)]
    exact kit_cls_of hd2 ht2 h2
  show (match PySem.W.exmOne K (.ref D0) (.ref C1), (match PySem.W.exmOne K (.ref D0) (.ref C2), (some false : Option Bool) with
    | some b, some d => some (b || d)
    | _, _ => none) with
    | some b, some d => some (b || d)
    | _, _ => none) = some true
  rw [e1, e2]
  show some (b1 || (b2 || false)) = some true
  rw [Bool.or_false, hb]
end Dw

namespace K02
open PySem PySem.Spec PyProof.Rows L2 Dw
abbrev qn__law_right (f c : Addr) : Str := (envOfC "_law_right" (defScope s__law_right) 0 f (.ref c)).qual ++ "<lambda>"
theorem all_mk {l : PySem.W.OpenLaw} {q : Program} {w : World} {K : PySem.W.Frag} {h : Heap} {mg : Str → Option Value} {fa : Addr} (X : K.In h) (G : h.Ns mainGlobals mg) (hfa : mg "law" = some (.ref fa)) (tb : ∀ (y : Str) (f : Addr), ((recsOf q).any fun e => e.name == y) = true → mg y = some (.ref f) → TabOf K f h)
    {C_Book : Addr}
    {C_Broken : Addr}
    {C_InUse : Addr}
    {C_InvalidCases : Addr}
    {C_InvalidClaim : Addr}
    {C_InvalidIndex : Addr}
    {C_InvalidLot : Addr}
    {C_InvalidName : Addr}
    {C_InvalidNumber : Addr}
    {C_InvalidOffers : Addr}
    {C_InvalidRanking : Addr}
    {C_InvalidRow : Addr}
    {C_InvalidRule : Addr}
    {C_InvalidText : Addr}
    {C_NoAnswer : Addr}
    {C_NoRanking : Addr}
    {C_NotABook : Addr}
    {C_NotACase : Addr}
    {C_NotACourt : Addr}
    {C_NothingToUndo : Addr}
    {C_TooMany : Addr}
    {C_UnknownName : Addr}
    {C_WrongValue : Addr}
    {xnm_TooMany : Str} {xq_TooMany : Str} {xN_TooMany : Addr} {xbs_TooMany xbm_TooMany : List Value} {xw0_TooMany : List Str} {xw1_TooMany : List Value} {xw2_TooMany : Bool} {xw3_TooMany : Option Bool} {xw4_TooMany : Option Addr} {xw5_TooMany xw6_TooMany xw7_TooMany xw8_TooMany xw9_TooMany : Option Value}
    {f_is_name : Addr} {od_is_name an_is_name : Option Addr} {sl_is_name : Array (Option Value)} {oc_is_name kV_is_name dc_is_name pm_is_name cd_is_name ct_is_name : Value}
    {f_are_names : Addr} {od_are_names an_are_names : Option Addr} {sl_are_names : Array (Option Value)} {oc_are_names kV_are_names dc_are_names pm_are_names cd_are_names ct_are_names : Value}
    {f_is_any_row : Addr} {od_is_any_row an_is_any_row : Option Addr} {sl_is_any_row : Array (Option Value)} {oc_is_any_row kV_is_any_row dc_is_any_row pm_is_any_row cd_is_any_row ct_is_any_row : Value}
    {f_is_row : Addr} {od_is_row an_is_row : Option Addr} {sl_is_row : Array (Option Value)} {oc_is_row kV_is_row dc_is_row pm_is_row cd_is_row ct_is_row : Value}
    {f_is_whole : Addr} {od_is_whole an_is_whole : Option Addr} {sl_is_whole : Array (Option Value)} {oc_is_whole kV_is_whole dc_is_whole pm_is_whole cd_is_whole ct_is_whole : Value}
    {f_is_index : Addr} {od_is_index an_is_index : Option Addr} {sl_is_index : Array (Option Value)} {oc_is_index kV_is_index dc_is_index pm_is_index cd_is_index ct_is_index : Value}
    {f_check_row : Addr} {od_check_row an_check_row : Option Addr} {sl_check_row : Array (Option Value)} {oc_check_row kV_check_row dc_check_row pm_check_row cd_check_row ct_check_row : Value}
    {f_check_index : Addr} {od_check_index an_check_index : Option Addr} {sl_check_index : Array (Option Value)} {oc_check_index kV_check_index dc_check_index pm_check_index cd_check_index ct_check_index : Value}
    {f_read_book : Addr} {od_read_book an_read_book : Option Addr} {sl_read_book : Array (Option Value)} {oc_read_book kV_read_book dc_read_book pm_read_book cd_read_book ct_read_book : Value}
    {f_write_book : Addr} {od_write_book an_write_book : Option Addr} {sl_write_book : Array (Option Value)} {oc_write_book kV_write_book dc_write_book pm_write_book cd_write_book ct_write_book : Value}
    {f__law_purse : Addr} {od__law_purse an__law_purse : Option Addr} {sl__law_purse : Array (Option Value)} {oc__law_purse kV__law_purse dc__law_purse pm__law_purse cd__law_purse ct__law_purse : Value}
    {f__law_draw : Addr} {od__law_draw an__law_draw : Option Addr} {sl__law_draw : Array (Option Value)} {oc__law_draw kV__law_draw dc__law_draw pm__law_draw cd__law_draw ct__law_draw : Value}
    {f__law_sort : Addr} {od__law_sort an__law_sort : Option Addr} {sl__law_sort : Array (Option Value)} {oc__law_sort kV__law_sort dc__law_sort pm__law_sort cd__law_sort ct__law_sort : Value}
    {f_Book___repr__ : Addr} {od_Book___repr__ an_Book___repr__ : Option Addr} {sl_Book___repr__ : Array (Option Value)} {oc_Book___repr__ kV_Book___repr__ dc_Book___repr__ pm_Book___repr__ cd_Book___repr__ ct_Book___repr__ : Value}
    {f__law_attribute : Addr} {od__law_attribute an__law_attribute : Option Addr} {sl__law_attribute : Array (Option Value)} {oc__law_attribute kV__law_attribute dc__law_attribute pm__law_attribute cd__law_attribute ct__law_attribute : Value}
    {f__law_told : Addr} {od__law_told an__law_told : Option Addr} {sl__law_told : Array (Option Value)} {oc__law_told kV__law_told dc__law_told pm__law_told cd__law_told ct__law_told : Value}
    {f__law_labels : Addr} {od__law_labels an__law_labels : Option Addr} {sl__law_labels : Array (Option Value)} {oc__law_labels kV__law_labels dc__law_labels pm__law_labels cd__law_labels ct__law_labels : Value}
    {f__law_holds : Addr} {od__law_holds an__law_holds : Option Addr} {sl__law_holds : Array (Option Value)} {oc__law_holds kV__law_holds dc__law_holds pm__law_holds cd__law_holds ct__law_holds : Value}
    {f__law_flipped : Addr} {od__law_flipped an__law_flipped : Option Addr} {sl__law_flipped : Array (Option Value)} {oc__law_flipped kV__law_flipped dc__law_flipped pm__law_flipped cd__law_flipped ct__law_flipped : Value}
    {f__law_signs : Addr} {od__law_signs an__law_signs : Option Addr} {sl__law_signs : Array (Option Value)} {oc__law_signs kV__law_signs dc__law_signs pm__law_signs cd__law_signs ct__law_signs : Value}
    {f__law_rows : Addr} {od__law_rows an__law_rows : Option Addr} {sl__law_rows : Array (Option Value)} {oc__law_rows kV__law_rows dc__law_rows pm__law_rows cd__law_rows ct__law_rows : Value}
    {f__law_spelled : Addr} {od__law_spelled an__law_spelled : Option Addr} {sl__law_spelled : Array (Option Value)} {oc__law_spelled kV__law_spelled dc__law_spelled pm__law_spelled cd__law_spelled ct__law_spelled : Value}
    {f__law_book : Addr} {od__law_book an__law_book : Option Addr} {sl__law_book : Array (Option Value)} {oc__law_book kV__law_book dc__law_book pm__law_book cd__law_book ct__law_book : Value}
    {f_Book_text : Addr} {od_Book_text an_Book_text : Option Addr} {sl_Book_text : Array (Option Value)} {oc_Book_text kV_Book_text dc_Book_text pm_Book_text cd_Book_text ct_Book_text : Value}
    {q_Book_text : Addr} {rest_Book_text : List Value}
    {f_Book_names : Addr} {od_Book_names an_Book_names : Option Addr} {sl_Book_names : Array (Option Value)} {oc_Book_names kV_Book_names dc_Book_names pm_Book_names cd_Book_names ct_Book_names : Value}
    {q_Book_names : Addr} {rest_Book_names : List Value}
    {f_Book_rows : Addr} {od_Book_rows an_Book_rows : Option Addr} {sl_Book_rows : Array (Option Value)} {oc_Book_rows kV_Book_rows dc_Book_rows pm_Book_rows cd_Book_rows ct_Book_rows : Value}
    {q_Book_rows : Addr} {rest_Book_rows : List Value}
    {f_Book___str__ : Addr} {od_Book___str__ an_Book___str__ : Option Addr} {sl_Book___str__ : Array (Option Value)} {oc_Book___str__ kV_Book___str__ dc_Book___str__ pm_Book___str__ cd_Book___str__ ct_Book___str__ : Value}
    {f_Book___eq__ : Addr} {od_Book___eq__ an_Book___eq__ : Option Addr} {sl_Book___eq__ : Array (Option Value)} {oc_Book___eq__ kV_Book___eq__ dc_Book___eq__ pm_Book___eq__ cd_Book___eq__ ct_Book___eq__ : Value}
    {f__law_is : Addr} {od__law_is an__law_is : Option Addr} {sl__law_is : Array (Option Value)} {oc__law_is kV__law_is dc__law_is pm__law_is cd__law_is ct__law_is : Value}
    {f_Book___init__ : Addr} {od_Book___init__ an_Book___init__ : Option Addr} {sl_Book___init__ : Array (Option Value)} {oc_Book___init__ kV_Book___init__ dc_Book___init__ pm_Book___init__ cd_Book___init__ ct_Book___init__ : Value}
    {f_Book_without : Addr} {od_Book_without an_Book_without : Option Addr} {sl_Book_without : Array (Option Value)} {oc_Book_without kV_Book_without dc_Book_without pm_Book_without cd_Book_without ct_Book_without : Value}
    {f_TooMany___init__ : Addr} {od_TooMany___init__ an_TooMany___init__ : Option Addr} {sl_TooMany___init__ : Array (Option Value)} {oc_TooMany___init__ kV_TooMany___init__ dc_TooMany___init__ pm_TooMany___init__ cd_TooMany___init__ ct_TooMany___init__ : Value}
    {f_Book_with_row : Addr} {od_Book_with_row an_Book_with_row : Option Addr} {sl_Book_with_row : Array (Option Value)} {oc_Book_with_row kV_Book_with_row dc_Book_with_row pm_Book_with_row cd_Book_with_row ct_Book_with_row : Value}
    {f__law_right : Addr} {od__law_right an__law_right : Option Addr} {sl__law_right : Array (Option Value)} {oc__law_right kV__law_right dc__law_right pm__law_right ct__law_right : Value}
    {lc__law_right lt__law_right : Addr} {lo__law_right : Value} {ld__law_right : Option Addr} {lv__law_right : Array Value} {ls__law_right : Array (Option Value)}
    {f_law : Addr} {od_law an_law : Option Addr} {sl_law : Array (Option Value)} {oc_law kV_law dc_law pm_law cd_law ct_law : Value}
    {t_LETTERS : Tok}
    {t_MOST_LETTERS : Tok}
    {t_MOST_ROWS : Tok}
    {t_MOST_RULES : Tok}
    {t_SIGNS : Tok}
    (cm_Book : PySem.W.nsIn K mainGlobals "Book" = some (some (.ref C_Book)))
    (cpg_Book : PySem.W.plainGet K C_Book Str.empty = true)
    (chd_Book : PySem.W.hasDictIn K C_Book = true)
    (cpo_Book : PySem.W.plainOver K C_Book = true)
    (csa_Book : PySem.W.findIn K (.ref C_Book) "__setattr__" = some (some (.builtin "object.__setattr__")))
    (cmk_Book : PySem.W.makesIn K C_Book = true)
    (ckc_Book : PySem.W.keepIn K (.ref C_Book) = true)
    (cia_Book : PySem.W.findIn K (.ref C_Book) "__class__" = some (some (.builtin "object.__class__")))
    (cim_Book : PySem.W.mroIn K C_Book (.type "object") = some true)
    (cm_Broken : PySem.W.nsIn K mainGlobals "Broken" = some (some (.ref C_Broken)))
    (cm_InUse : PySem.W.nsIn K mainGlobals "InUse" = some (some (.ref C_InUse)))
    (cm_InvalidCases : PySem.W.nsIn K mainGlobals "InvalidCases" = some (some (.ref C_InvalidCases)))
    (cm_InvalidClaim : PySem.W.nsIn K mainGlobals "InvalidClaim" = some (some (.ref C_InvalidClaim)))
    (cm_InvalidIndex : PySem.W.nsIn K mainGlobals "InvalidIndex" = some (some (.ref C_InvalidIndex)))
    (cm_InvalidLot : PySem.W.nsIn K mainGlobals "InvalidLot" = some (some (.ref C_InvalidLot)))
    (cm_InvalidName : PySem.W.nsIn K mainGlobals "InvalidName" = some (some (.ref C_InvalidName)))
    (cm_InvalidNumber : PySem.W.nsIn K mainGlobals "InvalidNumber" = some (some (.ref C_InvalidNumber)))
    (cm_InvalidOffers : PySem.W.nsIn K mainGlobals "InvalidOffers" = some (some (.ref C_InvalidOffers)))
    (cm_InvalidRanking : PySem.W.nsIn K mainGlobals "InvalidRanking" = some (some (.ref C_InvalidRanking)))
    (cm_InvalidRow : PySem.W.nsIn K mainGlobals "InvalidRow" = some (some (.ref C_InvalidRow)))
    (cm_InvalidRule : PySem.W.nsIn K mainGlobals "InvalidRule" = some (some (.ref C_InvalidRule)))
    (cm_InvalidText : PySem.W.nsIn K mainGlobals "InvalidText" = some (some (.ref C_InvalidText)))
    (cm_NoAnswer : PySem.W.nsIn K mainGlobals "NoAnswer" = some (some (.ref C_NoAnswer)))
    (cm_NoRanking : PySem.W.nsIn K mainGlobals "NoRanking" = some (some (.ref C_NoRanking)))
    (cm_NotABook : PySem.W.nsIn K mainGlobals "NotABook" = some (some (.ref C_NotABook)))
    (cm_NotACase : PySem.W.nsIn K mainGlobals "NotACase" = some (some (.ref C_NotACase)))
    (cm_NotACourt : PySem.W.nsIn K mainGlobals "NotACourt" = some (some (.ref C_NotACourt)))
    (cm_NothingToUndo : PySem.W.nsIn K mainGlobals "NothingToUndo" = some (some (.ref C_NothingToUndo)))
    (cm_TooMany : PySem.W.nsIn K mainGlobals "TooMany" = some (some (.ref C_TooMany)))
    (cm_UnknownName : PySem.W.nsIn K mainGlobals "UnknownName" = some (some (.ref C_UnknownName)))
    (cm_WrongValue : PySem.W.nsIn K mainGlobals "WrongValue" = some (some (.ref C_WrongValue)))
    (xh_Broken : PySem.W.hasDictIn K C_Broken = true)
    (xt_Broken : PySem.W.typeIn K (.ref C_Broken) = some (.type "type"))
    (xh_InUse : PySem.W.hasDictIn K C_InUse = true)
    (xt_InUse : PySem.W.typeIn K (.ref C_InUse) = some (.type "type"))
    (xh_InvalidCases : PySem.W.hasDictIn K C_InvalidCases = true)
    (xt_InvalidCases : PySem.W.typeIn K (.ref C_InvalidCases) = some (.type "type"))
    (xh_InvalidClaim : PySem.W.hasDictIn K C_InvalidClaim = true)
    (xt_InvalidClaim : PySem.W.typeIn K (.ref C_InvalidClaim) = some (.type "type"))
    (xh_InvalidIndex : PySem.W.hasDictIn K C_InvalidIndex = true)
    (xt_InvalidIndex : PySem.W.typeIn K (.ref C_InvalidIndex) = some (.type "type"))
    (xh_InvalidLot : PySem.W.hasDictIn K C_InvalidLot = true)
    (xt_InvalidLot : PySem.W.typeIn K (.ref C_InvalidLot) = some (.type "type"))
    (xh_InvalidName : PySem.W.hasDictIn K C_InvalidName = true)
    (xt_InvalidName : PySem.W.typeIn K (.ref C_InvalidName) = some (.type "type"))
    (xh_InvalidNumber : PySem.W.hasDictIn K C_InvalidNumber = true)
    (xt_InvalidNumber : PySem.W.typeIn K (.ref C_InvalidNumber) = some (.type "type"))
    (xh_InvalidOffers : PySem.W.hasDictIn K C_InvalidOffers = true)
    (xt_InvalidOffers : PySem.W.typeIn K (.ref C_InvalidOffers) = some (.type "type"))
    (xh_InvalidRanking : PySem.W.hasDictIn K C_InvalidRanking = true)
    (xt_InvalidRanking : PySem.W.typeIn K (.ref C_InvalidRanking) = some (.type "type"))
    (xh_InvalidRow : PySem.W.hasDictIn K C_InvalidRow = true)
    (xt_InvalidRow : PySem.W.typeIn K (.ref C_InvalidRow) = some (.type "type"))
    (xh_InvalidRule : PySem.W.hasDictIn K C_InvalidRule = true)
    (xt_InvalidRule : PySem.W.typeIn K (.ref C_InvalidRule) = some (.type "type"))
    (xh_InvalidText : PySem.W.hasDictIn K C_InvalidText = true)
    (xt_InvalidText : PySem.W.typeIn K (.ref C_InvalidText) = some (.type "type"))
    (xh_NoAnswer : PySem.W.hasDictIn K C_NoAnswer = true)
    (xt_NoAnswer : PySem.W.typeIn K (.ref C_NoAnswer) = some (.type "type"))
    (xh_NoRanking : PySem.W.hasDictIn K C_NoRanking = true)
    (xt_NoRanking : PySem.W.typeIn K (.ref C_NoRanking) = some (.type "type"))
    (xh_NotABook : PySem.W.hasDictIn K C_NotABook = true)
    (xt_NotABook : PySem.W.typeIn K (.ref C_NotABook) = some (.type "type"))
    (xh_NotACase : PySem.W.hasDictIn K C_NotACase = true)
    (xt_NotACase : PySem.W.typeIn K (.ref C_NotACase) = some (.type "type"))
    (xh_NotACourt : PySem.W.hasDictIn K C_NotACourt = true)
    (xt_NotACourt : PySem.W.typeIn K (.ref C_NotACourt) = some (.type "type"))
    (xh_NothingToUndo : PySem.W.hasDictIn K C_NothingToUndo = true)
    (xt_NothingToUndo : PySem.W.typeIn K (.ref C_NothingToUndo) = some (.type "type"))
    (xh_TooMany : PySem.W.hasDictIn K C_TooMany = true)
    (xt_TooMany : PySem.W.typeIn K (.ref C_TooMany) = some (.type "type"))
    (xh_UnknownName : PySem.W.hasDictIn K C_UnknownName = true)
    (xt_UnknownName : PySem.W.typeIn K (.ref C_UnknownName) = some (.type "type"))
    (xh_WrongValue : PySem.W.hasDictIn K C_WrongValue = true)
    (xt_WrongValue : PySem.W.typeIn K (.ref C_WrongValue) = some (.type "type"))
    (xs_NoAnswer : PySem.W.subIn K (.ref C_NoAnswer) (.type "BaseException") = some true)
    (xs_TooMany : PySem.W.subIn K (.ref C_TooMany) (.type "BaseException") = some true)
    (xs_WrongValue : PySem.W.subIn K (.ref C_WrongValue) (.type "BaseException") = some true)
    (xga_TooMany : PySem.W.findIn K (.ref C_TooMany) "__getattribute__" = some (some (.builtin "BaseException.__getattribute__")))
    (xgt_TooMany : PySem.W.findIn K (.ref C_TooMany) "__getattr__" = some (none))
    (xcl_TooMany : PySem.W.findIn K (.ref C_TooMany) "__class__" = some (some (.builtin "object.__class__")))
    (xo_TooMany : PySem.W.mroIn K C_TooMany (.type "object") = some true)
    (xp_TooMany : PySem.W.keepIn K (.ref C_TooMany) = true)
    (xu_TooMany_InvalidText : PySem.W.subIn K (.ref C_TooMany) (.ref C_InvalidText) = some false)
    (xn_TooMany_InvalidText : (C_TooMany == C_InvalidText) = false)
    (xu_TooMany_InvalidNumber : PySem.W.subIn K (.ref C_TooMany) (.ref C_InvalidNumber) = some false)
    (xn_TooMany_InvalidNumber : (C_TooMany == C_InvalidNumber) = false)
    (xu_TooMany_InvalidName : PySem.W.subIn K (.ref C_TooMany) (.ref C_InvalidName) = some false)
    (xn_TooMany_InvalidName : (C_TooMany == C_InvalidName) = false)
    (xu_TooMany_InvalidIndex : PySem.W.subIn K (.ref C_TooMany) (.ref C_InvalidIndex) = some false)
    (xn_TooMany_InvalidIndex : (C_TooMany == C_InvalidIndex) = false)
    (xu_TooMany_InvalidClaim : PySem.W.subIn K (.ref C_TooMany) (.ref C_InvalidClaim) = some false)
    (xn_TooMany_InvalidClaim : (C_TooMany == C_InvalidClaim) = false)
    (xu_TooMany_InvalidRow : PySem.W.subIn K (.ref C_TooMany) (.ref C_InvalidRow) = some false)
    (xn_TooMany_InvalidRow : (C_TooMany == C_InvalidRow) = false)
    (xu_TooMany_InvalidRanking : PySem.W.subIn K (.ref C_TooMany) (.ref C_InvalidRanking) = some false)
    (xn_TooMany_InvalidRanking : (C_TooMany == C_InvalidRanking) = false)
    (xu_TooMany_InvalidRule : PySem.W.subIn K (.ref C_TooMany) (.ref C_InvalidRule) = some false)
    (xn_TooMany_InvalidRule : (C_TooMany == C_InvalidRule) = false)
    (xu_TooMany_UnknownName : PySem.W.subIn K (.ref C_TooMany) (.ref C_UnknownName) = some false)
    (xn_TooMany_UnknownName : (C_TooMany == C_UnknownName) = false)
    (xu_TooMany_NotABook : PySem.W.subIn K (.ref C_TooMany) (.ref C_NotABook) = some false)
    (xn_TooMany_NotABook : (C_TooMany == C_NotABook) = false)
    (xu_TooMany_NotACase : PySem.W.subIn K (.ref C_TooMany) (.ref C_NotACase) = some false)
    (xn_TooMany_NotACase : (C_TooMany == C_NotACase) = false)
    (xu_TooMany_NotACourt : PySem.W.subIn K (.ref C_TooMany) (.ref C_NotACourt) = some false)
    (xn_TooMany_NotACourt : (C_TooMany == C_NotACourt) = false)
    (xu_TooMany_InvalidLot : PySem.W.subIn K (.ref C_TooMany) (.ref C_InvalidLot) = some false)
    (xn_TooMany_InvalidLot : (C_TooMany == C_InvalidLot) = false)
    (xu_TooMany_InvalidOffers : PySem.W.subIn K (.ref C_TooMany) (.ref C_InvalidOffers) = some false)
    (xn_TooMany_InvalidOffers : (C_TooMany == C_InvalidOffers) = false)
    (xu_TooMany_InvalidCases : PySem.W.subIn K (.ref C_TooMany) (.ref C_InvalidCases) = some false)
    (xn_TooMany_InvalidCases : (C_TooMany == C_InvalidCases) = false)
    (xu_TooMany_NoRanking : PySem.W.subIn K (.ref C_TooMany) (.ref C_NoRanking) = some false)
    (xn_TooMany_NoRanking : (C_TooMany == C_NoRanking) = false)
    (xu_TooMany_TooMany : PySem.W.subIn K (.ref C_TooMany) (.ref C_TooMany) = some true)
    (xu_TooMany_Broken : PySem.W.subIn K (.ref C_TooMany) (.ref C_Broken) = some false)
    (xn_TooMany_Broken : (C_TooMany == C_Broken) = false)
    (xu_TooMany_InUse : PySem.W.subIn K (.ref C_TooMany) (.ref C_InUse) = some false)
    (xn_TooMany_InUse : (C_TooMany == C_InUse) = false)
    (xu_TooMany_NothingToUndo : PySem.W.subIn K (.ref C_TooMany) (.ref C_NothingToUndo) = some false)
    (xn_TooMany_NothingToUndo : (C_TooMany == C_NothingToUndo) = false)
    (xu_TooMany_WrongValue : PySem.W.subIn K (.ref C_TooMany) (.ref C_WrongValue) = some false)
    (xn_TooMany_WrongValue : (C_TooMany == C_WrongValue) = false)
    (xu_TooMany_NoAnswer : PySem.W.subIn K (.ref C_TooMany) (.ref C_NoAnswer) = some true)
    (xL_TooMany : K.lookup C_TooMany = some (PySem.excClassObj xnm_TooMany xq_TooMany C_TooMany xN_TooMany xbs_TooMany xbm_TooMany true xw0_TooMany xw1_TooMany xw2_TooMany xw3_TooMany xw4_TooMany xw5_TooMany xw6_TooMany xw7_TooMany xw8_TooMany xw9_TooMany "ArithmeticError.__new__"))
    (xR_TooMany : PySem.W.excTail PySem.AeX.aeEnd xbm_TooMany = true)
    (xa_TooMany : PySem.W.findIn K (.ref C_TooMany) "__setattr__" = some (some (.builtin "object.__setattr__")))
    (xn_TooMany_given : PySem.W.findIn K (.ref C_TooMany) "given" = some none)
    (xn_TooMany_index : PySem.W.findIn K (.ref C_TooMany) "index" = some none)
    (xn_TooMany_number : PySem.W.findIn K (.ref C_TooMany) "number" = some none)
    (xn_TooMany_told : PySem.W.findIn K (.ref C_TooMany) "told" = some none)
    (ihn : PySem.W.specialIn K (.builtin "object.__class__") "__get__" = some (some (.builtin "getset_descriptor.__get__")))
    (iht : PySem.W.takesIn K (.builtin "object.__class__") = some true)
    (a_is_name : PySem.W.nsIn K mainGlobals "is_name" = some (some (.ref f_is_name)))
    (l_is_name : K.lookup f_is_name = some ⟨oc_is_name, od_is_name, .func (PySem.W.fnOf "is_name" "is_name" (defArgs s_is_name) (defBody s_is_name) (defScope s_is_name) .none kV_is_name dc_is_name pm_is_name an_is_name cd_is_name ct_is_name), sl_is_name⟩)
    (c_is_name : PySem.W.codeIn K cd_is_name "is_name" = true)
    (k_is_name : PySem.W.keepIn K (.ref f_is_name) = true)
    (a_are_names : PySem.W.nsIn K mainGlobals "are_names" = some (some (.ref f_are_names)))
    (l_are_names : K.lookup f_are_names = some ⟨oc_are_names, od_are_names, .func (PySem.W.fnOf "are_names" "are_names" (defArgs s_are_names) (defBody s_are_names) (defScope s_are_names) .none kV_are_names dc_are_names pm_are_names an_are_names cd_are_names ct_are_names), sl_are_names⟩)
    (c_are_names : PySem.W.codeIn K cd_are_names "are_names" = true)
    (k_are_names : PySem.W.keepIn K (.ref f_are_names) = true)
    (a_is_any_row : PySem.W.nsIn K mainGlobals "is_any_row" = some (some (.ref f_is_any_row)))
    (l_is_any_row : K.lookup f_is_any_row = some ⟨oc_is_any_row, od_is_any_row, .func (PySem.W.fnOf "is_any_row" "is_any_row" (defArgs s_is_any_row) (defBody s_is_any_row) (defScope s_is_any_row) .none kV_is_any_row dc_is_any_row pm_is_any_row an_is_any_row cd_is_any_row ct_is_any_row), sl_is_any_row⟩)
    (c_is_any_row : PySem.W.codeIn K cd_is_any_row "is_any_row" = true)
    (k_is_any_row : PySem.W.keepIn K (.ref f_is_any_row) = true)
    (a_is_row : PySem.W.nsIn K mainGlobals "is_row" = some (some (.ref f_is_row)))
    (l_is_row : K.lookup f_is_row = some ⟨oc_is_row, od_is_row, .func (PySem.W.fnOf "is_row" "is_row" (defArgs s_is_row) (defBody s_is_row) (defScope s_is_row) .none kV_is_row dc_is_row pm_is_row an_is_row cd_is_row ct_is_row), sl_is_row⟩)
    (c_is_row : PySem.W.codeIn K cd_is_row "is_row" = true)
    (k_is_row : PySem.W.keepIn K (.ref f_is_row) = true)
    (a_is_whole : PySem.W.nsIn K mainGlobals "is_whole" = some (some (.ref f_is_whole)))
    (l_is_whole : K.lookup f_is_whole = some ⟨oc_is_whole, od_is_whole, .func (PySem.W.fnOf "is_whole" "is_whole" (defArgs s_is_whole) (defBody s_is_whole) (defScope s_is_whole) .none kV_is_whole dc_is_whole pm_is_whole an_is_whole cd_is_whole ct_is_whole), sl_is_whole⟩)
    (c_is_whole : PySem.W.codeIn K cd_is_whole "is_whole" = true)
    (k_is_whole : PySem.W.keepIn K (.ref f_is_whole) = true)
    (a_is_index : PySem.W.nsIn K mainGlobals "is_index" = some (some (.ref f_is_index)))
    (l_is_index : K.lookup f_is_index = some ⟨oc_is_index, od_is_index, .func (PySem.W.fnOf "is_index" "is_index" (defArgs s_is_index) (defBody s_is_index) (defScope s_is_index) .none kV_is_index dc_is_index pm_is_index an_is_index cd_is_index ct_is_index), sl_is_index⟩)
    (c_is_index : PySem.W.codeIn K cd_is_index "is_index" = true)
    (k_is_index : PySem.W.keepIn K (.ref f_is_index) = true)
    (a_check_row : PySem.W.nsIn K mainGlobals "check_row" = some (some (.ref f_check_row)))
    (l_check_row : K.lookup f_check_row = some ⟨oc_check_row, od_check_row, .func (PySem.W.fnOf "check_row" "check_row" (defArgs s_check_row) (defBody s_check_row) (defScope s_check_row) .none kV_check_row dc_check_row pm_check_row an_check_row cd_check_row ct_check_row), sl_check_row⟩)
    (c_check_row : PySem.W.codeIn K cd_check_row "check_row" = true)
    (k_check_row : PySem.W.keepIn K (.ref f_check_row) = true)
    (a_check_index : PySem.W.nsIn K mainGlobals "check_index" = some (some (.ref f_check_index)))
    (l_check_index : K.lookup f_check_index = some ⟨oc_check_index, od_check_index, .func (PySem.W.fnOf "check_index" "check_index" (defArgs s_check_index) (defBody s_check_index) (defScope s_check_index) .none kV_check_index dc_check_index pm_check_index an_check_index cd_check_index ct_check_index), sl_check_index⟩)
    (c_check_index : PySem.W.codeIn K cd_check_index "check_index" = true)
    (k_check_index : PySem.W.keepIn K (.ref f_check_index) = true)
    (a_read_book : PySem.W.nsIn K mainGlobals "read_book" = some (some (.ref f_read_book)))
    (l_read_book : K.lookup f_read_book = some ⟨oc_read_book, od_read_book, .func (PySem.W.fnOf "read_book" "read_book" (defArgs s_read_book) (defBody s_read_book) (defScope s_read_book) .none kV_read_book dc_read_book pm_read_book an_read_book cd_read_book ct_read_book), sl_read_book⟩)
    (c_read_book : PySem.W.codeIn K cd_read_book "read_book" = true)
    (k_read_book : PySem.W.keepIn K (.ref f_read_book) = true)
    (a_write_book : PySem.W.nsIn K mainGlobals "write_book" = some (some (.ref f_write_book)))
    (l_write_book : K.lookup f_write_book = some ⟨oc_write_book, od_write_book, .func (PySem.W.fnOf "write_book" "write_book" (defArgs s_write_book) (defBody s_write_book) (defScope s_write_book) .none kV_write_book dc_write_book pm_write_book an_write_book cd_write_book ct_write_book), sl_write_book⟩)
    (c_write_book : PySem.W.codeIn K cd_write_book "write_book" = true)
    (k_write_book : PySem.W.keepIn K (.ref f_write_book) = true)
    (a__law_purse : PySem.W.nsIn K mainGlobals "_law_purse" = some (some (.ref f__law_purse)))
    (l__law_purse : K.lookup f__law_purse = some ⟨oc__law_purse, od__law_purse, .func (PySem.W.fnOf "_law_purse" "_law_purse" (defArgs s__law_purse) (defBody s__law_purse) (defScope s__law_purse) .none kV__law_purse dc__law_purse pm__law_purse an__law_purse cd__law_purse ct__law_purse), sl__law_purse⟩)
    (c__law_purse : PySem.W.codeIn K cd__law_purse "_law_purse" = true)
    (k__law_purse : PySem.W.keepIn K (.ref f__law_purse) = true)
    (a__law_draw : PySem.W.nsIn K mainGlobals "_law_draw" = some (some (.ref f__law_draw)))
    (l__law_draw : K.lookup f__law_draw = some ⟨oc__law_draw, od__law_draw, .func (PySem.W.fnOf "_law_draw" "_law_draw" (defArgs s__law_draw) (defBody s__law_draw) (defScope s__law_draw) .none kV__law_draw dc__law_draw pm__law_draw an__law_draw cd__law_draw ct__law_draw), sl__law_draw⟩)
    (c__law_draw : PySem.W.codeIn K cd__law_draw "_law_draw" = true)
    (k__law_draw : PySem.W.keepIn K (.ref f__law_draw) = true)
    (a__law_sort : PySem.W.nsIn K mainGlobals "_law_sort" = some (some (.ref f__law_sort)))
    (l__law_sort : K.lookup f__law_sort = some ⟨oc__law_sort, od__law_sort, .func (PySem.W.fnOf "_law_sort" "_law_sort" (defArgs s__law_sort) (defBody s__law_sort) (defScope s__law_sort) .none kV__law_sort dc__law_sort pm__law_sort an__law_sort cd__law_sort ct__law_sort), sl__law_sort⟩)
    (c__law_sort : PySem.W.codeIn K cd__law_sort "_law_sort" = true)
    (k__law_sort : PySem.W.keepIn K (.ref f__law_sort) = true)
    (a_Book___repr__ : PySem.W.findIn K (.ref C_Book) "__repr__" = some (some (.ref f_Book___repr__)))
    (i_Book___repr__ : PySem.W.isFn K (.ref f_Book___repr__) = true)
    (l_Book___repr__ : K.lookup f_Book___repr__ = some ⟨oc_Book___repr__, od_Book___repr__, .func (PySem.W.fnOf "__repr__" "Book.__repr__" (defArgs s_Book___repr__) (defBody s_Book___repr__) (defScope s_Book___repr__) .none kV_Book___repr__ dc_Book___repr__ pm_Book___repr__ an_Book___repr__ cd_Book___repr__ ct_Book___repr__), sl_Book___repr__⟩)
    (c_Book___repr__ : PySem.W.codeIn K cd_Book___repr__ "Book.__repr__" = true)
    (k_Book___repr__ : PySem.W.keepIn K (.ref f_Book___repr__) = true)
    (a__law_attribute : PySem.W.nsIn K mainGlobals "_law_attribute" = some (some (.ref f__law_attribute)))
    (l__law_attribute : K.lookup f__law_attribute = some ⟨oc__law_attribute, od__law_attribute, .func (PySem.W.fnOf "_law_attribute" "_law_attribute" (defArgs s__law_attribute) (defBody s__law_attribute) (defScope s__law_attribute) .none kV__law_attribute dc__law_attribute pm__law_attribute an__law_attribute cd__law_attribute ct__law_attribute), sl__law_attribute⟩)
    (c__law_attribute : PySem.W.codeIn K cd__law_attribute "_law_attribute" = true)
    (k__law_attribute : PySem.W.keepIn K (.ref f__law_attribute) = true)
    (a__law_told : PySem.W.nsIn K mainGlobals "_law_told" = some (some (.ref f__law_told)))
    (l__law_told : K.lookup f__law_told = some ⟨oc__law_told, od__law_told, .func (PySem.W.fnOf "_law_told" "_law_told" (defArgs s__law_told) (defBody s__law_told) (defScope s__law_told) .none kV__law_told dc__law_told pm__law_told an__law_told cd__law_told ct__law_told), sl__law_told⟩)
    (c__law_told : PySem.W.codeIn K cd__law_told "_law_told" = true)
    (k__law_told : PySem.W.keepIn K (.ref f__law_told) = true)
    (a__law_labels : PySem.W.nsIn K mainGlobals "_law_labels" = some (some (.ref f__law_labels)))
    (l__law_labels : K.lookup f__law_labels = some ⟨oc__law_labels, od__law_labels, .func (PySem.W.fnOf "_law_labels" "_law_labels" (defArgs s__law_labels) (defBody s__law_labels) (defScope s__law_labels) .none kV__law_labels dc__law_labels pm__law_labels an__law_labels cd__law_labels ct__law_labels), sl__law_labels⟩)
    (c__law_labels : PySem.W.codeIn K cd__law_labels "_law_labels" = true)
    (k__law_labels : PySem.W.keepIn K (.ref f__law_labels) = true)
    (a__law_holds : PySem.W.nsIn K mainGlobals "_law_holds" = some (some (.ref f__law_holds)))
    (l__law_holds : K.lookup f__law_holds = some ⟨oc__law_holds, od__law_holds, .func (PySem.W.fnOf "_law_holds" "_law_holds" (defArgs s__law_holds) (defBody s__law_holds) (defScope s__law_holds) .none kV__law_holds dc__law_holds pm__law_holds an__law_holds cd__law_holds ct__law_holds), sl__law_holds⟩)
    (c__law_holds : PySem.W.codeIn K cd__law_holds "_law_holds" = true)
    (k__law_holds : PySem.W.keepIn K (.ref f__law_holds) = true)
    (a__law_flipped : PySem.W.nsIn K mainGlobals "_law_flipped" = some (some (.ref f__law_flipped)))
    (l__law_flipped : K.lookup f__law_flipped = some ⟨oc__law_flipped, od__law_flipped, .func (PySem.W.fnOf "_law_flipped" "_law_flipped" (defArgs s__law_flipped) (defBody s__law_flipped) (defScope s__law_flipped) .none kV__law_flipped dc__law_flipped pm__law_flipped an__law_flipped cd__law_flipped ct__law_flipped), sl__law_flipped⟩)
    (c__law_flipped : PySem.W.codeIn K cd__law_flipped "_law_flipped" = true)
    (k__law_flipped : PySem.W.keepIn K (.ref f__law_flipped) = true)
    (a__law_signs : PySem.W.nsIn K mainGlobals "_law_signs" = some (some (.ref f__law_signs)))
    (l__law_signs : K.lookup f__law_signs = some ⟨oc__law_signs, od__law_signs, .func (PySem.W.fnOf "_law_signs" "_law_signs" (defArgs s__law_signs) (defBody s__law_signs) (defScope s__law_signs) .none kV__law_signs dc__law_signs pm__law_signs an__law_signs cd__law_signs ct__law_signs), sl__law_signs⟩)
    (c__law_signs : PySem.W.codeIn K cd__law_signs "_law_signs" = true)
    (k__law_signs : PySem.W.keepIn K (.ref f__law_signs) = true)
    (a__law_rows : PySem.W.nsIn K mainGlobals "_law_rows" = some (some (.ref f__law_rows)))
    (l__law_rows : K.lookup f__law_rows = some ⟨oc__law_rows, od__law_rows, .func (PySem.W.fnOf "_law_rows" "_law_rows" (defArgs s__law_rows) (defBody s__law_rows) (defScope s__law_rows) .none kV__law_rows dc__law_rows pm__law_rows an__law_rows cd__law_rows ct__law_rows), sl__law_rows⟩)
    (c__law_rows : PySem.W.codeIn K cd__law_rows "_law_rows" = true)
    (k__law_rows : PySem.W.keepIn K (.ref f__law_rows) = true)
    (a__law_spelled : PySem.W.nsIn K mainGlobals "_law_spelled" = some (some (.ref f__law_spelled)))
    (l__law_spelled : K.lookup f__law_spelled = some ⟨oc__law_spelled, od__law_spelled, .func (PySem.W.fnOf "_law_spelled" "_law_spelled" (defArgs s__law_spelled) (defBody s__law_spelled) (defScope s__law_spelled) .none kV__law_spelled dc__law_spelled pm__law_spelled an__law_spelled cd__law_spelled ct__law_spelled), sl__law_spelled⟩)
    (c__law_spelled : PySem.W.codeIn K cd__law_spelled "_law_spelled" = true)
    (k__law_spelled : PySem.W.keepIn K (.ref f__law_spelled) = true)
    (a__law_book : PySem.W.nsIn K mainGlobals "_law_book" = some (some (.ref f__law_book)))
    (l__law_book : K.lookup f__law_book = some ⟨oc__law_book, od__law_book, .func (PySem.W.fnOf "_law_book" "_law_book" (defArgs s__law_book) (defBody s__law_book) (defScope s__law_book) .none kV__law_book dc__law_book pm__law_book an__law_book cd__law_book ct__law_book), sl__law_book⟩)
    (c__law_book : PySem.W.codeIn K cd__law_book "_law_book" = true)
    (k__law_book : PySem.W.keepIn K (.ref f__law_book) = true)
    (a_Book_text : PySem.W.findIn K (.ref C_Book) "text" = some (some (.ref q_Book_text)))
    (g_Book_text : PySem.W.specialIn K (.ref q_Book_text) "__get__" = some (some (.builtin "property.__get__")))
    (t_Book_text : PySem.W.takesIn K (.ref q_Book_text) = some true)
    (r_Book_text : PySem.W.recIn K q_Book_text "property" = some (.ref f_Book_text :: rest_Book_text))
    (l_Book_text : K.lookup f_Book_text = some ⟨oc_Book_text, od_Book_text, .func (PySem.W.fnOf "text" "Book.text" (defArgs s_Book_text) (defBody s_Book_text) (defScope s_Book_text) .none kV_Book_text dc_Book_text pm_Book_text an_Book_text cd_Book_text ct_Book_text), sl_Book_text⟩)
    (c_Book_text : PySem.W.codeIn K cd_Book_text "Book.text" = true)
    (k_Book_text : PySem.W.keepIn K (.ref f_Book_text) = true)
    (a_Book_names : PySem.W.findIn K (.ref C_Book) "names" = some (some (.ref q_Book_names)))
    (g_Book_names : PySem.W.specialIn K (.ref q_Book_names) "__get__" = some (some (.builtin "property.__get__")))
    (t_Book_names : PySem.W.takesIn K (.ref q_Book_names) = some true)
    (r_Book_names : PySem.W.recIn K q_Book_names "property" = some (.ref f_Book_names :: rest_Book_names))
    (l_Book_names : K.lookup f_Book_names = some ⟨oc_Book_names, od_Book_names, .func (PySem.W.fnOf "names" "Book.names" (defArgs s_Book_names) (defBody s_Book_names) (defScope s_Book_names) .none kV_Book_names dc_Book_names pm_Book_names an_Book_names cd_Book_names ct_Book_names), sl_Book_names⟩)
    (c_Book_names : PySem.W.codeIn K cd_Book_names "Book.names" = true)
    (k_Book_names : PySem.W.keepIn K (.ref f_Book_names) = true)
    (a_Book_rows : PySem.W.findIn K (.ref C_Book) "rows" = some (some (.ref q_Book_rows)))
    (g_Book_rows : PySem.W.specialIn K (.ref q_Book_rows) "__get__" = some (some (.builtin "property.__get__")))
    (t_Book_rows : PySem.W.takesIn K (.ref q_Book_rows) = some true)
    (r_Book_rows : PySem.W.recIn K q_Book_rows "property" = some (.ref f_Book_rows :: rest_Book_rows))
    (l_Book_rows : K.lookup f_Book_rows = some ⟨oc_Book_rows, od_Book_rows, .func (PySem.W.fnOf "rows" "Book.rows" (defArgs s_Book_rows) (defBody s_Book_rows) (defScope s_Book_rows) .none kV_Book_rows dc_Book_rows pm_Book_rows an_Book_rows cd_Book_rows ct_Book_rows), sl_Book_rows⟩)
    (c_Book_rows : PySem.W.codeIn K cd_Book_rows "Book.rows" = true)
    (k_Book_rows : PySem.W.keepIn K (.ref f_Book_rows) = true)
    (a_Book___str__ : PySem.W.findIn K (.ref C_Book) "__str__" = some (some (.ref f_Book___str__)))
    (i_Book___str__ : PySem.W.isFn K (.ref f_Book___str__) = true)
    (l_Book___str__ : K.lookup f_Book___str__ = some ⟨oc_Book___str__, od_Book___str__, .func (PySem.W.fnOf "__str__" "Book.__str__" (defArgs s_Book___str__) (defBody s_Book___str__) (defScope s_Book___str__) .none kV_Book___str__ dc_Book___str__ pm_Book___str__ an_Book___str__ cd_Book___str__ ct_Book___str__), sl_Book___str__⟩)
    (c_Book___str__ : PySem.W.codeIn K cd_Book___str__ "Book.__str__" = true)
    (k_Book___str__ : PySem.W.keepIn K (.ref f_Book___str__) = true)
    (a_Book___eq__ : PySem.W.findIn K (.ref C_Book) "__eq__" = some (some (.ref f_Book___eq__)))
    (i_Book___eq__ : PySem.W.isFn K (.ref f_Book___eq__) = true)
    (l_Book___eq__ : K.lookup f_Book___eq__ = some ⟨oc_Book___eq__, od_Book___eq__, .func (PySem.W.fnOf "__eq__" "Book.__eq__" (defArgs s_Book___eq__) (defBody s_Book___eq__) (defScope s_Book___eq__) .none kV_Book___eq__ dc_Book___eq__ pm_Book___eq__ an_Book___eq__ cd_Book___eq__ ct_Book___eq__), sl_Book___eq__⟩)
    (c_Book___eq__ : PySem.W.codeIn K cd_Book___eq__ "Book.__eq__" = true)
    (k_Book___eq__ : PySem.W.keepIn K (.ref f_Book___eq__) = true)
    (a__law_is : PySem.W.nsIn K mainGlobals "_law_is" = some (some (.ref f__law_is)))
    (l__law_is : K.lookup f__law_is = some ⟨oc__law_is, od__law_is, .func (PySem.W.fnOf "_law_is" "_law_is" (defArgs s__law_is) (defBody s__law_is) (defScope s__law_is) .none kV__law_is dc__law_is pm__law_is an__law_is cd__law_is ct__law_is), sl__law_is⟩)
    (c__law_is : PySem.W.codeIn K cd__law_is "_law_is" = true)
    (k__law_is : PySem.W.keepIn K (.ref f__law_is) = true)
    (a_Book___init__ : PySem.W.findIn K (.ref C_Book) "__init__" = some (some (.ref f_Book___init__)))
    (i_Book___init__ : PySem.W.isFn K (.ref f_Book___init__) = true)
    (l_Book___init__ : K.lookup f_Book___init__ = some ⟨oc_Book___init__, od_Book___init__, .func (PySem.W.fnOf "__init__" "Book.__init__" (defArgs s_Book___init__) (defBody s_Book___init__) (defScope s_Book___init__) .none kV_Book___init__ dc_Book___init__ pm_Book___init__ an_Book___init__ cd_Book___init__ ct_Book___init__), sl_Book___init__⟩)
    (c_Book___init__ : PySem.W.codeIn K cd_Book___init__ "Book.__init__" = true)
    (k_Book___init__ : PySem.W.keepIn K (.ref f_Book___init__) = true)
    (a_Book_without : PySem.W.findIn K (.ref C_Book) "without" = some (some (.ref f_Book_without)))
    (i_Book_without : PySem.W.isFn K (.ref f_Book_without) = true)
    (l_Book_without : K.lookup f_Book_without = some ⟨oc_Book_without, od_Book_without, .func (PySem.W.fnOf "without" "Book.without" (defArgs s_Book_without) (defBody s_Book_without) (defScope s_Book_without) .none kV_Book_without dc_Book_without pm_Book_without an_Book_without cd_Book_without ct_Book_without), sl_Book_without⟩)
    (c_Book_without : PySem.W.codeIn K cd_Book_without "Book.without" = true)
    (k_Book_without : PySem.W.keepIn K (.ref f_Book_without) = true)
    (a_TooMany___init__ : PySem.W.findIn K (.ref C_TooMany) "__init__" = some (some (.ref f_TooMany___init__)))
    (i_TooMany___init__ : PySem.W.isFn K (.ref f_TooMany___init__) = true)
    (xy_TooMany : PySem.W.typeIn K (.ref f_TooMany___init__) = some (.type "function"))
    (l_TooMany___init__ : K.lookup f_TooMany___init__ = some ⟨oc_TooMany___init__, od_TooMany___init__, .func (PySem.W.fnOf "__init__" "TooMany.__init__" (defArgs s_TooMany___init__) (defBody s_TooMany___init__) (defScope s_TooMany___init__) .none kV_TooMany___init__ dc_TooMany___init__ pm_TooMany___init__ an_TooMany___init__ cd_TooMany___init__ ct_TooMany___init__), sl_TooMany___init__⟩)
    (c_TooMany___init__ : PySem.W.codeIn K cd_TooMany___init__ "TooMany.__init__" = true)
    (k_TooMany___init__ : PySem.W.keepIn K (.ref f_TooMany___init__) = true)
    (a_Book_with_row : PySem.W.findIn K (.ref C_Book) "with_row" = some (some (.ref f_Book_with_row)))
    (i_Book_with_row : PySem.W.isFn K (.ref f_Book_with_row) = true)
    (l_Book_with_row : K.lookup f_Book_with_row = some ⟨oc_Book_with_row, od_Book_with_row, .func (PySem.W.fnOf "with_row" "Book.with_row" (defArgs s_Book_with_row) (defBody s_Book_with_row) (defScope s_Book_with_row) .none kV_Book_with_row dc_Book_with_row pm_Book_with_row an_Book_with_row cd_Book_with_row ct_Book_with_row), sl_Book_with_row⟩)
    (c_Book_with_row : PySem.W.codeIn K cd_Book_with_row "Book.with_row" = true)
    (k_Book_with_row : PySem.W.keepIn K (.ref f_Book_with_row) = true)
    (a__law_right : PySem.W.nsIn K mainGlobals "_law_right" = some (some (.ref f__law_right)))
    (l__law_right : K.lookup f__law_right = some ⟨oc__law_right, od__law_right, .func (PySem.W.fnOf "_law_right" "_law_right" (defArgs s__law_right) (defBody s__law_right) (defScope s__law_right) .none kV__law_right dc__law_right pm__law_right an__law_right (.ref lc__law_right) ct__law_right), sl__law_right⟩)
    (c__law_right : PySem.W.codeIn K (.ref lc__law_right) "_law_right" = true)
    (k__law_right : PySem.W.keepIn K (.ref f__law_right) = true)
    (lk__law_right : K.lookup lc__law_right = some ⟨lo__law_right, ld__law_right, .fields lv__law_right, ls__law_right⟩)
    (lp__law_right : lv__law_right[11]? = some (.ref lt__law_right))
    (ln__law_right : K.lookup lt__law_right = none)
    (lr__law_right : ((recsOf q).any fun e => e.name == "_law_right") = true)
    (a_law : PySem.W.nsIn K mainGlobals "law" = some (some (.ref f_law)))
    (l_law : K.lookup f_law = some ⟨oc_law, od_law, .func (PySem.W.fnOf "law" "law" (defArgs s_law) (defBody s_law) (defScope s_law) .none kV_law dc_law pm_law an_law cd_law ct_law), sl_law⟩)
    (c_law : PySem.W.codeIn K cd_law "law" = true)
    (k_law : PySem.W.keepIn K (.ref f_law) = true)
    (z_abs : PySem.W.nsIn K mainGlobals "abs" = some none)
    (z_all : PySem.W.nsIn K mainGlobals "all" = some none)
    (z_bool : PySem.W.nsIn K mainGlobals "bool" = some none)
    (z_divmod : PySem.W.nsIn K mainGlobals "divmod" = some none)
    (z_int : PySem.W.nsIn K mainGlobals "int" = some none)
    (z_isinstance : PySem.W.nsIn K mainGlobals "isinstance" = some none)
    (z_len : PySem.W.nsIn K mainGlobals "len" = some none)
    (z_list : PySem.W.nsIn K mainGlobals "list" = some none)
    (z_max : PySem.W.nsIn K mainGlobals "max" = some none)
    (z_min : PySem.W.nsIn K mainGlobals "min" = some none)
    (z_range : PySem.W.nsIn K mainGlobals "range" = some none)
    (z_repr : PySem.W.nsIn K mainGlobals "repr" = some none)
    (z_sorted : PySem.W.nsIn K mainGlobals "sorted" = some none)
    (z_str : PySem.W.nsIn K mainGlobals "str" = some none)
    (z_tuple : PySem.W.nsIn K mainGlobals "tuple" = some none)
    (z_zip : PySem.W.nsIn K mainGlobals "zip" = some none)
    (v_LETTERS : PySem.W.nsIn K mainGlobals "LETTERS" = some (some (.str "abcdefghijklmnopqrstuvwxyz" t_LETTERS)))
    (v_MOST_LETTERS : PySem.W.nsIn K mainGlobals "MOST_LETTERS" = some (some (.int 8 t_MOST_LETTERS)))
    (v_MOST_ROWS : PySem.W.nsIn K mainGlobals "MOST_ROWS" = some (some (.int 20 t_MOST_ROWS)))
    (v_MOST_RULES : PySem.W.nsIn K mainGlobals "MOST_RULES" = some (some (.int 8 t_MOST_RULES)))
    (v_SIGNS : PySem.W.nsIn K mainGlobals "SIGNS" = some (some (.str "+-." t_SIGNS)))
    (no1 : PySem.W.findIn K (.ref C_Book) "_text" = some none)
    (no2 : PySem.W.findIn K (.ref C_Book) "_names" = some none)
    (no3 : PySem.W.findIn K (.ref C_Book) "_rows" = some none)
    (no4 : PySem.W.findIn K (.ref C_Book) "__bool__" = some none)
    (no5 : PySem.W.findIn K (.ref C_Book) "__len__" = some none)
    (no6 : PySem.W.findIn K (.ref C_Book) "__ne__" = some (some (.builtin "object.__ne__")))
    (no7 : PySem.W.typeIn K (.ref C_Book) = some (.type "type")) :
    EndT l w K mg 10 fa "_law_script" h (spLaw K) := by
  have e := hfa.symm.trans (PySem.W.mg_of X G a_law)
  cases e
  have o__law_right := tb "_law_right" f__law_right lr__law_right (PySem.W.mg_of X G a__law_right) lc__law_right lt__law_right _ _ _ _ _ _ l__law_right rfl rfl lk__law_right lp__law_right
  letI I : Tabs0 := ⟨fun a => List.lookup a [(lt__law_right, qn__law_right f__law_right lc__law_right)]⟩
  have ok : TabsOk [(lt__law_right, qn__law_right f__law_right lc__law_right)] := tabsOk_of (by simp)
  let T : Txt K w mg := {
    C_Book := C_Book,
    m_Book := PySem.W.mg_of X G cm_Book,
    cl_Book := ⟨cpg_Book, chd_Book, cpo_Book, csa_Book⟩,
    C_Broken := C_Broken,
    m_Broken := PySem.W.mg_of X G cm_Broken,
    C_InUse := C_InUse,
    m_InUse := PySem.W.mg_of X G cm_InUse,
    C_InvalidCases := C_InvalidCases,
    m_InvalidCases := PySem.W.mg_of X G cm_InvalidCases,
    C_InvalidClaim := C_InvalidClaim,
    m_InvalidClaim := PySem.W.mg_of X G cm_InvalidClaim,
    C_InvalidIndex := C_InvalidIndex,
    m_InvalidIndex := PySem.W.mg_of X G cm_InvalidIndex,
    C_InvalidLot := C_InvalidLot,
    m_InvalidLot := PySem.W.mg_of X G cm_InvalidLot,
    C_InvalidName := C_InvalidName,
    m_InvalidName := PySem.W.mg_of X G cm_InvalidName,
    C_InvalidNumber := C_InvalidNumber,
    m_InvalidNumber := PySem.W.mg_of X G cm_InvalidNumber,
    C_InvalidOffers := C_InvalidOffers,
    m_InvalidOffers := PySem.W.mg_of X G cm_InvalidOffers,
    C_InvalidRanking := C_InvalidRanking,
    m_InvalidRanking := PySem.W.mg_of X G cm_InvalidRanking,
    C_InvalidRow := C_InvalidRow,
    m_InvalidRow := PySem.W.mg_of X G cm_InvalidRow,
    C_InvalidRule := C_InvalidRule,
    m_InvalidRule := PySem.W.mg_of X G cm_InvalidRule,
    C_InvalidText := C_InvalidText,
    m_InvalidText := PySem.W.mg_of X G cm_InvalidText,
    C_NoAnswer := C_NoAnswer,
    m_NoAnswer := PySem.W.mg_of X G cm_NoAnswer,
    C_NoRanking := C_NoRanking,
    m_NoRanking := PySem.W.mg_of X G cm_NoRanking,
    C_NotABook := C_NotABook,
    m_NotABook := PySem.W.mg_of X G cm_NotABook,
    C_NotACase := C_NotACase,
    m_NotACase := PySem.W.mg_of X G cm_NotACase,
    C_NotACourt := C_NotACourt,
    m_NotACourt := PySem.W.mg_of X G cm_NotACourt,
    C_NothingToUndo := C_NothingToUndo,
    m_NothingToUndo := PySem.W.mg_of X G cm_NothingToUndo,
    C_TooMany := C_TooMany,
    m_TooMany := PySem.W.mg_of X G cm_TooMany,
    C_UnknownName := C_UnknownName,
    m_UnknownName := PySem.W.mg_of X G cm_UnknownName,
    C_WrongValue := C_WrongValue,
    m_WrongValue := PySem.W.mg_of X G cm_WrongValue,
    xk_TooMany := ⟨xga_TooMany, xgt_TooMany, xs_TooMany, xh_TooMany, xcl_TooMany, ihn, iht, xo_TooMany⟩,
    xm_TooMany := exm_any2 xs_WrongValue xs_NoAnswer xh_WrongValue xh_NoAnswer xt_WrongValue xt_NoAnswer xu_TooMany_WrongValue xu_TooMany_NoAnswer rfl,
    xo_TooMany := ⟨⟨_, _, _, _, _, _, _, _, _, _, _, _, _, _, _, xL_TooMany, xR_TooMany⟩, over_of xL_TooMany xR_TooMany, xa_TooMany, xs_TooMany, xt_TooMany, xp_TooMany⟩,
    xf_TooMany := ⟨xga_TooMany, xgt_TooMany, xs_TooMany, xh_TooMany⟩,
    xn_TooMany_given := xn_TooMany_given,
    xn_TooMany_index := xn_TooMany_index,
    xn_TooMany_number := xn_TooMany_number,
    xn_TooMany_told := xn_TooMany_told,
    xj_TooMany := a_TooMany___init__,
    xy_TooMany := xy_TooMany,
    kt_TooMany := ⟨kit_no xh_InvalidText xt_InvalidText xu_TooMany_InvalidText xn_TooMany_InvalidText, kit_no xh_InvalidNumber xt_InvalidNumber xu_TooMany_InvalidNumber xn_TooMany_InvalidNumber, kit_no xh_InvalidName xt_InvalidName xu_TooMany_InvalidName xn_TooMany_InvalidName, kit_no xh_InvalidIndex xt_InvalidIndex xu_TooMany_InvalidIndex xn_TooMany_InvalidIndex, kit_no xh_InvalidClaim xt_InvalidClaim xu_TooMany_InvalidClaim xn_TooMany_InvalidClaim, kit_no xh_InvalidRow xt_InvalidRow xu_TooMany_InvalidRow xn_TooMany_InvalidRow, kit_no xh_InvalidRanking xt_InvalidRanking xu_TooMany_InvalidRanking xn_TooMany_InvalidRanking, kit_no xh_InvalidRule xt_InvalidRule xu_TooMany_InvalidRule xn_TooMany_InvalidRule, kit_no xh_UnknownName xt_UnknownName xu_TooMany_UnknownName xn_TooMany_UnknownName, kit_no xh_NotABook xt_NotABook xu_TooMany_NotABook xn_TooMany_NotABook, kit_no xh_NotACase xt_NotACase xu_TooMany_NotACase xn_TooMany_NotACase, kit_no xh_NotACourt xt_NotACourt xu_TooMany_NotACourt xn_TooMany_NotACourt, kit_no xh_InvalidLot xt_InvalidLot xu_TooMany_InvalidLot xn_TooMany_InvalidLot, kit_no xh_InvalidOffers xt_InvalidOffers xu_TooMany_InvalidOffers xn_TooMany_InvalidOffers, kit_no xh_InvalidCases xt_InvalidCases xu_TooMany_InvalidCases xn_TooMany_InvalidCases, kit_no xh_NoRanking xt_NoRanking xu_TooMany_NoRanking xn_TooMany_NoRanking, kit_yes xh_TooMany xt_TooMany xu_TooMany_TooMany, kit_no xh_Broken xt_Broken xu_TooMany_Broken xn_TooMany_Broken, kit_no xh_InUse xt_InUse xu_TooMany_InUse xn_TooMany_InUse, kit_no xh_NothingToUndo xt_NothingToUndo xu_TooMany_NothingToUndo xn_TooMany_NothingToUndo, kit_no xh_WrongValue xt_WrongValue xu_TooMany_WrongValue xn_TooMany_WrongValue, kit_yes xh_NoAnswer xt_NoAnswer xu_TooMany_NoAnswer, True.intro⟩,
    f_is_name := f_is_name,
    e_is_name := PySem.W.fnOf "is_name" "is_name" (defArgs s_is_name) (defBody s_is_name) (defScope s_is_name) .none kV_is_name dc_is_name pm_is_name an_is_name cd_is_name ct_is_name,
    F_is_name := fun_mk (st := s_is_name) l_is_name c_is_name k_is_name,
    b_is_name := Fun.binds (ps := ["value"]) (fun_mk (st := s_is_name) l_is_name c_is_name k_is_name) fun _ _ _ _ _ _ us hl => match us, hl with | [_], _ => rfl,
    m_is_name := PySem.W.mg_of X G a_is_name,
    f_are_names := f_are_names,
    e_are_names := PySem.W.fnOf "are_names" "are_names" (defArgs s_are_names) (defBody s_are_names) (defScope s_are_names) .none kV_are_names dc_are_names pm_are_names an_are_names cd_are_names ct_are_names,
    F_are_names := fun_mk (st := s_are_names) l_are_names c_are_names k_are_names,
    b_are_names := Fun.binds (ps := ["values"]) (fun_mk (st := s_are_names) l_are_names c_are_names k_are_names) fun _ _ _ _ _ _ us hl => match us, hl with | [_], _ => rfl,
    m_are_names := PySem.W.mg_of X G a_are_names,
    f_is_any_row := f_is_any_row,
    e_is_any_row := PySem.W.fnOf "is_any_row" "is_any_row" (defArgs s_is_any_row) (defBody s_is_any_row) (defScope s_is_any_row) .none kV_is_any_row dc_is_any_row pm_is_any_row an_is_any_row cd_is_any_row ct_is_any_row,
    F_is_any_row := fun_mk (st := s_is_any_row) l_is_any_row c_is_any_row k_is_any_row,
    b_is_any_row := Fun.binds (ps := ["value"]) (fun_mk (st := s_is_any_row) l_is_any_row c_is_any_row k_is_any_row) fun _ _ _ _ _ _ us hl => match us, hl with | [_], _ => rfl,
    m_is_any_row := PySem.W.mg_of X G a_is_any_row,
    f_is_row := f_is_row,
    e_is_row := PySem.W.fnOf "is_row" "is_row" (defArgs s_is_row) (defBody s_is_row) (defScope s_is_row) .none kV_is_row dc_is_row pm_is_row an_is_row cd_is_row ct_is_row,
    F_is_row := fun_mk (st := s_is_row) l_is_row c_is_row k_is_row,
    b_is_row := Fun.binds (ps := ["value", "many"]) (fun_mk (st := s_is_row) l_is_row c_is_row k_is_row) fun _ _ _ _ _ _ us hl => match us, hl with | [_, _], _ => rfl,
    m_is_row := PySem.W.mg_of X G a_is_row,
    f_is_whole := f_is_whole,
    e_is_whole := PySem.W.fnOf "is_whole" "is_whole" (defArgs s_is_whole) (defBody s_is_whole) (defScope s_is_whole) .none kV_is_whole dc_is_whole pm_is_whole an_is_whole cd_is_whole ct_is_whole,
    F_is_whole := fun_mk (st := s_is_whole) l_is_whole c_is_whole k_is_whole,
    b_is_whole := Fun.binds (ps := ["value"]) (fun_mk (st := s_is_whole) l_is_whole c_is_whole k_is_whole) fun _ _ _ _ _ _ us hl => match us, hl with | [_], _ => rfl,
    m_is_whole := PySem.W.mg_of X G a_is_whole,
    f_is_index := f_is_index,
    e_is_index := PySem.W.fnOf "is_index" "is_index" (defArgs s_is_index) (defBody s_is_index) (defScope s_is_index) .none kV_is_index dc_is_index pm_is_index an_is_index cd_is_index ct_is_index,
    F_is_index := fun_mk (st := s_is_index) l_is_index c_is_index k_is_index,
    b_is_index := Fun.binds (ps := ["value", "many"]) (fun_mk (st := s_is_index) l_is_index c_is_index k_is_index) fun _ _ _ _ _ _ us hl => match us, hl with | [_, _], _ => rfl,
    m_is_index := PySem.W.mg_of X G a_is_index,
    f_check_row := f_check_row,
    e_check_row := PySem.W.fnOf "check_row" "check_row" (defArgs s_check_row) (defBody s_check_row) (defScope s_check_row) .none kV_check_row dc_check_row pm_check_row an_check_row cd_check_row ct_check_row,
    F_check_row := fun_mk (st := s_check_row) l_check_row c_check_row k_check_row,
    b_check_row := Fun.binds (ps := ["row", "many"]) (fun_mk (st := s_check_row) l_check_row c_check_row k_check_row) fun _ _ _ _ _ _ us hl => match us, hl with | [_, _], _ => rfl,
    m_check_row := PySem.W.mg_of X G a_check_row,
    f_check_index := f_check_index,
    e_check_index := PySem.W.fnOf "check_index" "check_index" (defArgs s_check_index) (defBody s_check_index) (defScope s_check_index) .none kV_check_index dc_check_index pm_check_index an_check_index cd_check_index ct_check_index,
    F_check_index := fun_mk (st := s_check_index) l_check_index c_check_index k_check_index,
    b_check_index := Fun.binds (ps := ["index", "many"]) (fun_mk (st := s_check_index) l_check_index c_check_index k_check_index) fun _ _ _ _ _ _ us hl => match us, hl with | [_, _], _ => rfl,
    m_check_index := PySem.W.mg_of X G a_check_index,
    f_read_book := f_read_book,
    e_read_book := PySem.W.fnOf "read_book" "read_book" (defArgs s_read_book) (defBody s_read_book) (defScope s_read_book) .none kV_read_book dc_read_book pm_read_book an_read_book cd_read_book ct_read_book,
    F_read_book := fun_mk (st := s_read_book) l_read_book c_read_book k_read_book,
    b_read_book := Fun.binds (ps := ["text"]) (fun_mk (st := s_read_book) l_read_book c_read_book k_read_book) fun _ _ _ _ _ _ us hl => match us, hl with | [_], _ => rfl,
    m_read_book := PySem.W.mg_of X G a_read_book,
    f_write_book := f_write_book,
    e_write_book := PySem.W.fnOf "write_book" "write_book" (defArgs s_write_book) (defBody s_write_book) (defScope s_write_book) .none kV_write_book dc_write_book pm_write_book an_write_book cd_write_book ct_write_book,
    F_write_book := fun_mk (st := s_write_book) l_write_book c_write_book k_write_book,
    b_write_book := Fun.binds (ps := ["names", "rows"]) (fun_mk (st := s_write_book) l_write_book c_write_book k_write_book) fun _ _ _ _ _ _ us hl => match us, hl with | [_, _], _ => rfl,
    m_write_book := PySem.W.mg_of X G a_write_book,
    f__law_purse := f__law_purse,
    e__law_purse := PySem.W.fnOf "_law_purse" "_law_purse" (defArgs s__law_purse) (defBody s__law_purse) (defScope s__law_purse) .none kV__law_purse dc__law_purse pm__law_purse an__law_purse cd__law_purse ct__law_purse,
    F__law_purse := fun_mk (st := s__law_purse) l__law_purse c__law_purse k__law_purse,
    b__law_purse := Fun.binds (ps := ["_law_script", "_law_spot"]) (fun_mk (st := s__law_purse) l__law_purse c__law_purse k__law_purse) fun _ _ _ _ _ _ us hl => match us, hl with | [_, _], _ => rfl,
    m__law_purse := PySem.W.mg_of X G a__law_purse,
    f__law_draw := f__law_draw,
    e__law_draw := PySem.W.fnOf "_law_draw" "_law_draw" (defArgs s__law_draw) (defBody s__law_draw) (defScope s__law_draw) .none kV__law_draw dc__law_draw pm__law_draw an__law_draw cd__law_draw ct__law_draw,
    F__law_draw := fun_mk (st := s__law_draw) l__law_draw c__law_draw k__law_draw,
    b__law_draw := Fun.binds (ps := ["_law_purse_here", "_law_many"]) (fun_mk (st := s__law_draw) l__law_draw c__law_draw k__law_draw) fun _ _ _ _ _ _ us hl => match us, hl with | [_, _], _ => rfl,
    m__law_draw := PySem.W.mg_of X G a__law_draw,
    f__law_sort := f__law_sort,
    e__law_sort := PySem.W.fnOf "_law_sort" "_law_sort" (defArgs s__law_sort) (defBody s__law_sort) (defScope s__law_sort) .none kV__law_sort dc__law_sort pm__law_sort an__law_sort cd__law_sort ct__law_sort,
    F__law_sort := fun_mk (st := s__law_sort) l__law_sort c__law_sort k__law_sort,
    b__law_sort := Fun.binds (ps := ["_law_e"]) (fun_mk (st := s__law_sort) l__law_sort c__law_sort k__law_sort) fun _ _ _ _ _ _ us hl => match us, hl with | [_], _ => rfl,
    m__law_sort := PySem.W.mg_of X G a__law_sort,
    f_Book___repr__ := f_Book___repr__,
    e_Book___repr__ := PySem.W.fnOf "__repr__" "Book.__repr__" (defArgs s_Book___repr__) (defBody s_Book___repr__) (defScope s_Book___repr__) .none kV_Book___repr__ dc_Book___repr__ pm_Book___repr__ an_Book___repr__ cd_Book___repr__ ct_Book___repr__,
    F_Book___repr__ := fun_mk (st := s_Book___repr__) l_Book___repr__ c_Book___repr__ k_Book___repr__,
    b_Book___repr__ := Fun.binds (ps := ["self"]) (fun_mk (st := s_Book___repr__) l_Book___repr__ c_Book___repr__ k_Book___repr__) fun _ _ _ _ _ _ us hl => match us, hl with | [_], _ => rfl,
    h_Book___repr__ := ⟨a_Book___repr__, i_Book___repr__, k_Book___repr__⟩,
    f__law_attribute := f__law_attribute,
    e__law_attribute := PySem.W.fnOf "_law_attribute" "_law_attribute" (defArgs s__law_attribute) (defBody s__law_attribute) (defScope s__law_attribute) .none kV__law_attribute dc__law_attribute pm__law_attribute an__law_attribute cd__law_attribute ct__law_attribute,
    F__law_attribute := fun_mk (st := s__law_attribute) l__law_attribute c__law_attribute k__law_attribute,
    b__law_attribute := Fun.binds (ps := ["_law_e", "_law_word_here"]) (fun_mk (st := s__law_attribute) l__law_attribute c__law_attribute k__law_attribute) fun _ _ _ _ _ _ us hl => match us, hl with | [_, _], _ => rfl,
    m__law_attribute := PySem.W.mg_of X G a__law_attribute,
    f__law_told := f__law_told,
    e__law_told := PySem.W.fnOf "_law_told" "_law_told" (defArgs s__law_told) (defBody s__law_told) (defScope s__law_told) .none kV__law_told dc__law_told pm__law_told an__law_told cd__law_told ct__law_told,
    F__law_told := fun_mk (st := s__law_told) l__law_told c__law_told k__law_told,
    b__law_told := Fun.binds (ps := ["_law_job"]) (fun_mk (st := s__law_told) l__law_told c__law_told k__law_told) fun _ _ _ _ _ _ us hl => match us, hl with | [_], _ => rfl,
    m__law_told := PySem.W.mg_of X G a__law_told,
    f__law_labels := f__law_labels,
    e__law_labels := PySem.W.fnOf "_law_labels" "_law_labels" (defArgs s__law_labels) (defBody s__law_labels) (defScope s__law_labels) .none kV__law_labels dc__law_labels pm__law_labels an__law_labels cd__law_labels ct__law_labels,
    F__law_labels := fun_mk (st := s__law_labels) l__law_labels c__law_labels k__law_labels,
    b__law_labels := Fun.binds (ps := ["_law_purse_here", "_law_many"]) (fun_mk (st := s__law_labels) l__law_labels c__law_labels k__law_labels) fun _ _ _ _ _ _ us hl => match us, hl with | [_, _], _ => rfl,
    m__law_labels := PySem.W.mg_of X G a__law_labels,
    f__law_holds := f__law_holds,
    e__law_holds := PySem.W.fnOf "_law_holds" "_law_holds" (defArgs s__law_holds) (defBody s__law_holds) (defScope s__law_holds) .none kV__law_holds dc__law_holds pm__law_holds an__law_holds cd__law_holds ct__law_holds,
    F__law_holds := fun_mk (st := s__law_holds) l__law_holds c__law_holds k__law_holds,
    b__law_holds := Fun.binds (ps := ["_law_row_here", "_law_order_here"]) (fun_mk (st := s__law_holds) l__law_holds c__law_holds k__law_holds) fun _ _ _ _ _ _ us hl => match us, hl with | [_, _], _ => rfl,
    m__law_holds := PySem.W.mg_of X G a__law_holds,
    f__law_flipped := f__law_flipped,
    e__law_flipped := PySem.W.fnOf "_law_flipped" "_law_flipped" (defArgs s__law_flipped) (defBody s__law_flipped) (defScope s__law_flipped) .none kV__law_flipped dc__law_flipped pm__law_flipped an__law_flipped cd__law_flipped ct__law_flipped,
    F__law_flipped := fun_mk (st := s__law_flipped) l__law_flipped c__law_flipped k__law_flipped,
    b__law_flipped := Fun.binds (ps := ["_law_row_here"]) (fun_mk (st := s__law_flipped) l__law_flipped c__law_flipped k__law_flipped) fun _ _ _ _ _ _ us hl => match us, hl with | [_], _ => rfl,
    m__law_flipped := PySem.W.mg_of X G a__law_flipped,
    f__law_signs := f__law_signs,
    e__law_signs := PySem.W.fnOf "_law_signs" "_law_signs" (defArgs s__law_signs) (defBody s__law_signs) (defScope s__law_signs) .none kV__law_signs dc__law_signs pm__law_signs an__law_signs cd__law_signs ct__law_signs,
    F__law_signs := fun_mk (st := s__law_signs) l__law_signs c__law_signs k__law_signs,
    b__law_signs := Fun.binds (ps := ["_law_purse_here", "_law_many"]) (fun_mk (st := s__law_signs) l__law_signs c__law_signs k__law_signs) fun _ _ _ _ _ _ us hl => match us, hl with | [_, _], _ => rfl,
    m__law_signs := PySem.W.mg_of X G a__law_signs,
    f__law_rows := f__law_rows,
    e__law_rows := PySem.W.fnOf "_law_rows" "_law_rows" (defArgs s__law_rows) (defBody s__law_rows) (defScope s__law_rows) .none kV__law_rows dc__law_rows pm__law_rows an__law_rows cd__law_rows ct__law_rows,
    F__law_rows := fun_mk (st := s__law_rows) l__law_rows c__law_rows k__law_rows,
    b__law_rows := Fun.binds (ps := ["_law_purse_here", "_law_many", "_law_most", "_law_wrong"]) (fun_mk (st := s__law_rows) l__law_rows c__law_rows k__law_rows) fun _ _ _ _ _ _ us hl => match us, hl with | [_, _, _, _], _ => rfl,
    m__law_rows := PySem.W.mg_of X G a__law_rows,
    f__law_spelled := f__law_spelled,
    e__law_spelled := PySem.W.fnOf "_law_spelled" "_law_spelled" (defArgs s__law_spelled) (defBody s__law_spelled) (defScope s__law_spelled) .none kV__law_spelled dc__law_spelled pm__law_spelled an__law_spelled cd__law_spelled ct__law_spelled,
    F__law_spelled := fun_mk (st := s__law_spelled) l__law_spelled c__law_spelled k__law_spelled,
    b__law_spelled := Fun.binds (ps := ["_law_labels_here", "_law_rows_here"]) (fun_mk (st := s__law_spelled) l__law_spelled c__law_spelled k__law_spelled) fun _ _ _ _ _ _ us hl => match us, hl with | [_, _], _ => rfl,
    m__law_spelled := PySem.W.mg_of X G a__law_spelled,
    f__law_book := f__law_book,
    e__law_book := PySem.W.fnOf "_law_book" "_law_book" (defArgs s__law_book) (defBody s__law_book) (defScope s__law_book) .none kV__law_book dc__law_book pm__law_book an__law_book cd__law_book ct__law_book,
    F__law_book := fun_mk (st := s__law_book) l__law_book c__law_book k__law_book,
    b__law_book := Fun.binds (ps := ["_law_purse_here", "_law_least", "_law_span", "_law_most"]) (fun_mk (st := s__law_book) l__law_book c__law_book k__law_book) fun _ _ _ _ _ _ us hl => match us, hl with | [_, _, _, _], _ => rfl,
    m__law_book := PySem.W.mg_of X G a__law_book,
    f_Book_text := f_Book_text,
    e_Book_text := PySem.W.fnOf "text" "Book.text" (defArgs s_Book_text) (defBody s_Book_text) (defScope s_Book_text) .none kV_Book_text dc_Book_text pm_Book_text an_Book_text cd_Book_text ct_Book_text,
    F_Book_text := fun_mk (st := s_Book_text) l_Book_text c_Book_text k_Book_text,
    b_Book_text := Fun.binds (ps := ["self"]) (fun_mk (st := s_Book_text) l_Book_text c_Book_text k_Book_text) fun _ _ _ _ _ _ us hl => match us, hl with | [_], _ => rfl,
    q_Book_text := q_Book_text,
    p_Book_text := ⟨a_Book_text, g_Book_text, t_Book_text, ⟨_, r_Book_text⟩⟩,
    f_Book_names := f_Book_names,
    e_Book_names := PySem.W.fnOf "names" "Book.names" (defArgs s_Book_names) (defBody s_Book_names) (defScope s_Book_names) .none kV_Book_names dc_Book_names pm_Book_names an_Book_names cd_Book_names ct_Book_names,
    F_Book_names := fun_mk (st := s_Book_names) l_Book_names c_Book_names k_Book_names,
    b_Book_names := Fun.binds (ps := ["self"]) (fun_mk (st := s_Book_names) l_Book_names c_Book_names k_Book_names) fun _ _ _ _ _ _ us hl => match us, hl with | [_], _ => rfl,
    q_Book_names := q_Book_names,
    p_Book_names := ⟨a_Book_names, g_Book_names, t_Book_names, ⟨_, r_Book_names⟩⟩,
    f_Book_rows := f_Book_rows,
    e_Book_rows := PySem.W.fnOf "rows" "Book.rows" (defArgs s_Book_rows) (defBody s_Book_rows) (defScope s_Book_rows) .none kV_Book_rows dc_Book_rows pm_Book_rows an_Book_rows cd_Book_rows ct_Book_rows,
    F_Book_rows := fun_mk (st := s_Book_rows) l_Book_rows c_Book_rows k_Book_rows,
    b_Book_rows := Fun.binds (ps := ["self"]) (fun_mk (st := s_Book_rows) l_Book_rows c_Book_rows k_Book_rows) fun _ _ _ _ _ _ us hl => match us, hl with | [_], _ => rfl,
    q_Book_rows := q_Book_rows,
    p_Book_rows := ⟨a_Book_rows, g_Book_rows, t_Book_rows, ⟨_, r_Book_rows⟩⟩,
    f_Book___str__ := f_Book___str__,
    e_Book___str__ := PySem.W.fnOf "__str__" "Book.__str__" (defArgs s_Book___str__) (defBody s_Book___str__) (defScope s_Book___str__) .none kV_Book___str__ dc_Book___str__ pm_Book___str__ an_Book___str__ cd_Book___str__ ct_Book___str__,
    F_Book___str__ := fun_mk (st := s_Book___str__) l_Book___str__ c_Book___str__ k_Book___str__,
    b_Book___str__ := Fun.binds (ps := ["self"]) (fun_mk (st := s_Book___str__) l_Book___str__ c_Book___str__ k_Book___str__) fun _ _ _ _ _ _ us hl => match us, hl with | [_], _ => rfl,
    h_Book___str__ := ⟨a_Book___str__, i_Book___str__, k_Book___str__⟩,
    f_Book___eq__ := f_Book___eq__,
    e_Book___eq__ := PySem.W.fnOf "__eq__" "Book.__eq__" (defArgs s_Book___eq__) (defBody s_Book___eq__) (defScope s_Book___eq__) .none kV_Book___eq__ dc_Book___eq__ pm_Book___eq__ an_Book___eq__ cd_Book___eq__ ct_Book___eq__,
    F_Book___eq__ := fun_mk (st := s_Book___eq__) l_Book___eq__ c_Book___eq__ k_Book___eq__,
    b_Book___eq__ := Fun.binds (ps := ["self", "other"]) (fun_mk (st := s_Book___eq__) l_Book___eq__ c_Book___eq__ k_Book___eq__) fun _ _ _ _ _ _ us hl => match us, hl with | [_, _], _ => rfl,
    h_Book___eq__ := ⟨a_Book___eq__, i_Book___eq__, k_Book___eq__⟩,
    f__law_is := f__law_is,
    e__law_is := PySem.W.fnOf "_law_is" "_law_is" (defArgs s__law_is) (defBody s__law_is) (defScope s__law_is) .none kV__law_is dc__law_is pm__law_is an__law_is cd__law_is ct__law_is,
    F__law_is := fun_mk (st := s__law_is) l__law_is c__law_is k__law_is,
    b__law_is := Fun.binds (ps := ["_law_log", "_law_labels_here", "_law_rows_here"]) (fun_mk (st := s__law_is) l__law_is c__law_is k__law_is) fun _ _ _ _ _ _ us hl => match us, hl with | [_, _, _], _ => rfl,
    m__law_is := PySem.W.mg_of X G a__law_is,
    f_Book___init__ := f_Book___init__,
    e_Book___init__ := PySem.W.fnOf "__init__" "Book.__init__" (defArgs s_Book___init__) (defBody s_Book___init__) (defScope s_Book___init__) .none kV_Book___init__ dc_Book___init__ pm_Book___init__ an_Book___init__ cd_Book___init__ ct_Book___init__,
    F_Book___init__ := fun_mk (st := s_Book___init__) l_Book___init__ c_Book___init__ k_Book___init__,
    b_Book___init__ := Fun.binds (ps := ["self", "text"]) (fun_mk (st := s_Book___init__) l_Book___init__ c_Book___init__ k_Book___init__) fun _ _ _ _ _ _ us hl => match us, hl with | [_, _], _ => rfl,
    mk_Book := ⟨cmk_Book, a_Book___init__, i_Book___init__, ckc_Book⟩,
    f_Book_without := f_Book_without,
    e_Book_without := PySem.W.fnOf "without" "Book.without" (defArgs s_Book_without) (defBody s_Book_without) (defScope s_Book_without) .none kV_Book_without dc_Book_without pm_Book_without an_Book_without cd_Book_without ct_Book_without,
    F_Book_without := fun_mk (st := s_Book_without) l_Book_without c_Book_without k_Book_without,
    b_Book_without := Fun.binds (ps := ["self", "index"]) (fun_mk (st := s_Book_without) l_Book_without c_Book_without k_Book_without) fun _ _ _ _ _ _ us hl => match us, hl with | [_, _], _ => rfl,
    h_Book_without := ⟨a_Book_without, i_Book_without, k_Book_without⟩,
    f_TooMany___init__ := f_TooMany___init__,
    e_TooMany___init__ := PySem.W.fnOf "__init__" "TooMany.__init__" (defArgs s_TooMany___init__) (defBody s_TooMany___init__) (defScope s_TooMany___init__) .none kV_TooMany___init__ dc_TooMany___init__ pm_TooMany___init__ an_TooMany___init__ cd_TooMany___init__ ct_TooMany___init__,
    F_TooMany___init__ := fun_mk (st := s_TooMany___init__) l_TooMany___init__ c_TooMany___init__ k_TooMany___init__,
    b_TooMany___init__ := Fun.binds (ps := ["self", "number"]) (fun_mk (st := s_TooMany___init__) l_TooMany___init__ c_TooMany___init__ k_TooMany___init__) fun _ _ _ _ _ _ us hl => match us, hl with | [_, _], _ => rfl,
    f_Book_with_row := f_Book_with_row,
    e_Book_with_row := PySem.W.fnOf "with_row" "Book.with_row" (defArgs s_Book_with_row) (defBody s_Book_with_row) (defScope s_Book_with_row) .none kV_Book_with_row dc_Book_with_row pm_Book_with_row an_Book_with_row cd_Book_with_row ct_Book_with_row,
    F_Book_with_row := fun_mk (st := s_Book_with_row) l_Book_with_row c_Book_with_row k_Book_with_row,
    b_Book_with_row := Fun.binds (ps := ["self", "row"]) (fun_mk (st := s_Book_with_row) l_Book_with_row c_Book_with_row k_Book_with_row) fun _ _ _ _ _ _ us hl => match us, hl with | [_, _], _ => rfl,
    h_Book_with_row := ⟨a_Book_with_row, i_Book_with_row, k_Book_with_row⟩,
    f__law_right := f__law_right,
    e__law_right := PySem.W.fnOf "_law_right" "_law_right" (defArgs s__law_right) (defBody s__law_right) (defScope s__law_right) .none kV__law_right dc__law_right pm__law_right an__law_right (.ref lc__law_right) ct__law_right,
    F__law_right := fun_mk (st := s__law_right) l__law_right c__law_right k__law_right,
    b__law_right := Fun.binds (ps := ["_law_purse_here"]) (fun_mk (st := s__law_right) l__law_right c__law_right k__law_right) fun _ _ _ _ _ _ us hl => match us, hl with | [_], _ => rfl,
    lc__law_right := lc__law_right,
    lt__law_right := lt__law_right,
    FC__law_right := ⟨_, _, _, _, _, _, _, _, rfl, l__law_right, c__law_right⟩,
    m__law_right := PySem.W.mg_of X G a__law_right,
    f_law := fa,
    e_law := PySem.W.fnOf "law" "law" (defArgs s_law) (defBody s_law) (defScope s_law) .none kV_law dc_law pm_law an_law cd_law ct_law,
    F_law := fun_mk (st := s_law) l_law c_law k_law,
    b_law := Fun.binds (ps := ["_law_script"]) (fun_mk (st := s_law) l_law c_law k_law) fun _ _ _ _ _ _ us hl => match us, hl with | [_], _ => rfl,
    m_law := PySem.W.mg_of X G a_law,
    n_abs := PySem.W.mg_none_of X G z_abs,
    n_all := PySem.W.mg_none_of X G z_all,
    n_bool := PySem.W.mg_none_of X G z_bool,
    n_divmod := PySem.W.mg_none_of X G z_divmod,
    n_int := PySem.W.mg_none_of X G z_int,
    n_isinstance := PySem.W.mg_none_of X G z_isinstance,
    n_len := PySem.W.mg_none_of X G z_len,
    n_list := PySem.W.mg_none_of X G z_list,
    n_max := PySem.W.mg_none_of X G z_max,
    n_min := PySem.W.mg_none_of X G z_min,
    n_range := PySem.W.mg_none_of X G z_range,
    n_repr := PySem.W.mg_none_of X G z_repr,
    n_sorted := PySem.W.mg_none_of X G z_sorted,
    n_str := PySem.W.mg_none_of X G z_str,
    n_tuple := PySem.W.mg_none_of X G z_tuple,
    n_zip := PySem.W.mg_none_of X G z_zip,
    t_LETTERS := t_LETTERS,
    c_LETTERS := PySem.W.mg_of X G v_LETTERS,
    t_MOST_LETTERS := t_MOST_LETTERS,
    c_MOST_LETTERS := PySem.W.mg_of X G v_MOST_LETTERS,
    t_MOST_ROWS := t_MOST_ROWS,
    c_MOST_ROWS := PySem.W.mg_of X G v_MOST_ROWS,
    t_MOST_RULES := t_MOST_RULES,
    c_MOST_RULES := PySem.W.mg_of X G v_MOST_RULES,
    t_SIGNS := t_SIGNS,
    c_SIGNS := PySem.W.mg_of X G v_SIGNS,
    no_text := no1,
    no_names := no2,
    no_rows := no3,
    ins_Book := ⟨⟨cpg_Book, chd_Book, cpo_Book, csa_Book⟩, cia_Book, ihn, iht, cim_Book⟩,
    os_Book := a_Book___str__,
    or_Book := a_Book___repr__,
    oe_Book := a_Book___eq__,
    is_Book := i_Book___str__,
    ir_Book := i_Book___repr__,
    ie_Book := i_Book___eq__,
    om_Book := cim_Book,
    on_Book := no6,
    ob_Book := no4,
    ol_Book := no5,
    ct_Book := no7,
    kn_Book := kn_of l_Book___init__,
    kn_Book_with_row := kn_with l_Book_with_row,
    kn_Book_without := kn_out l_Book_without,
    tts := [(lt__law_right, qn__law_right f__law_right lc__law_right)], tabs := ok, hm__law_right := List.mem_cons_self }
  exact ⟨T.e_law, I, [(lc__law_right, lt__law_right, qn__law_right f__law_right lc__law_right)], fun s v => .of_eq rfl, ok, (f_cons o__law_right.1 f_nil), (f_cons ln__law_right f_nil), (f_cons o__law_right.2 f_nil), fun base hb => d_law T (hb _ List.mem_cons_self)⟩
end K02

open PySem PySem.W PyProof.Rows in
set_option maxRecDepth 100000 in
set_option maxHeartbeats 0 in
theorem PySem.Challenge.cw_rankedrules_k02_books_made_holds : PySem.Challenge.rw_rankedrules_k02_books_made.Holds := by
  w_on; o_law; k_head; (case hw => w_witness2)
  k_fill
  refine Dw.walk_GT (l := PySem.Challenge.rw_rankedrules_k02_books_made) (k := 10) (x := "_law_script") (sp := K02.spLaw) rfl rfl ⟨rfl, by decide, by decide⟩ (fun w h Y => PySem.W.km_in_of Y) (fun K ns h hb => ⟨ns, rfl, ⟨h, hb⟩, fun d h => h⟩) ?F
  case F =>
    intro w mg fa h KX G hmg tb
    refine' K02.all_mk KX G hmg tb ?cm_Book ?cpg_Book ?chd_Book ?cpo_Book ?csa_Book ?cmk_Book ?ckc_Book ?cia_Book ?cim_Book ?cm_Broken ?cm_InUse ?cm_InvalidCases ?cm_InvalidClaim ?cm_InvalidIndex ?cm_InvalidLot ?cm_InvalidName ?cm_InvalidNumber ?cm_InvalidOffers ?cm_InvalidRanking ?cm_InvalidRow ?cm_InvalidRule ?cm_InvalidText ?cm_NoAnswer ?cm_NoRanking ?cm_NotABook ?cm_NotACase ?cm_NotACourt ?cm_NothingToUndo ?cm_TooMany ?cm_UnknownName ?cm_WrongValue ?xh_Broken ?xt_Broken ?xh_InUse ?xt_InUse ?xh_InvalidCases ?xt_InvalidCases ?xh_InvalidClaim ?xt_InvalidClaim ?xh_InvalidIndex ?xt_InvalidIndex ?xh_InvalidLot ?xt_InvalidLot ?xh_InvalidName ?xt_InvalidName ?xh_InvalidNumber ?xt_InvalidNumber ?xh_InvalidOffers ?xt_InvalidOffers ?xh_InvalidRanking ?xt_InvalidRanking ?xh_InvalidRow ?xt_InvalidRow ?xh_InvalidRule ?xt_InvalidRule ?xh_InvalidText ?xt_InvalidText ?xh_NoAnswer ?xt_NoAnswer ?xh_NoRanking ?xt_NoRanking ?xh_NotABook ?xt_NotABook ?xh_NotACase ?xt_NotACase ?xh_NotACourt ?xt_NotACourt ?xh_NothingToUndo ?xt_NothingToUndo ?xh_TooMany ?xt_TooMany ?xh_UnknownName ?xt_UnknownName ?xh_WrongValue ?xt_WrongValue ?xs_NoAnswer ?xs_TooMany ?xs_WrongValue ?xga_TooMany ?xgt_TooMany ?xcl_TooMany ?xo_TooMany ?xp_TooMany ?xu_TooMany_InvalidText ?xn_TooMany_InvalidText ?xu_TooMany_InvalidNumber ?xn_TooMany_InvalidNumber ?xu_TooMany_InvalidName ?xn_TooMany_InvalidName ?xu_TooMany_InvalidIndex ?xn_TooMany_InvalidIndex ?xu_TooMany_InvalidClaim ?xn_TooMany_InvalidClaim ?xu_TooMany_InvalidRow ?xn_TooMany_InvalidRow ?xu_TooMany_InvalidRanking ?xn_TooMany_InvalidRanking ?xu_TooMany_InvalidRule ?xn_TooMany_InvalidRule ?xu_TooMany_UnknownName ?xn_TooMany_UnknownName ?xu_TooMany_NotABook ?xn_TooMany_NotABook ?xu_TooMany_NotACase ?xn_TooMany_NotACase ?xu_TooMany_NotACourt ?xn_TooMany_NotACourt ?xu_TooMany_InvalidLot ?xn_TooMany_InvalidLot ?xu_TooMany_InvalidOffers ?xn_TooMany_InvalidOffers ?xu_TooMany_InvalidCases ?xn_TooMany_InvalidCases ?xu_TooMany_NoRanking ?xn_TooMany_NoRanking ?xu_TooMany_TooMany ?xu_TooMany_Broken ?xn_TooMany_Broken ?xu_TooMany_InUse ?xn_TooMany_InUse ?xu_TooMany_NothingToUndo ?xn_TooMany_NothingToUndo ?xu_TooMany_WrongValue ?xn_TooMany_WrongValue ?xu_TooMany_NoAnswer ?xL_TooMany ?xR_TooMany ?xa_TooMany ?xn_TooMany_given ?xn_TooMany_index ?xn_TooMany_number ?xn_TooMany_told ?ihn ?iht ?a_is_name ?l_is_name ?c_is_name ?k_is_name ?a_are_names ?l_are_names ?c_are_names ?k_are_names ?a_is_any_row ?l_is_any_row ?c_is_any_row ?k_is_any_row ?a_is_row ?l_is_row ?c_is_row ?k_is_row ?a_is_whole ?l_is_whole ?c_is_whole ?k_is_whole ?a_is_index ?l_is_index ?c_is_index ?k_is_index ?a_check_row ?l_check_row ?c_check_row ?k_check_row ?a_check_index ?l_check_index ?c_check_index ?k_check_index ?a_read_book ?l_read_book ?c_read_book ?k_read_book ?a_write_book ?l_write_book ?c_write_book ?k_write_book ?a__law_purse ?l__law_purse ?c__law_purse ?k__law_purse ?a__law_draw ?l__law_draw ?c__law_draw ?k__law_draw ?a__law_sort ?l__law_sort ?c__law_sort ?k__law_sort ?a_Book___repr__ ?i_Book___repr__ ?l_Book___repr__ ?c_Book___repr__ ?k_Book___repr__ ?a__law_attribute ?l__law_attribute ?c__law_attribute ?k__law_attribute ?a__law_told ?l__law_told ?c__law_told ?k__law_told ?a__law_labels ?l__law_labels ?c__law_labels ?k__law_labels ?a__law_holds ?l__law_holds ?c__law_holds ?k__law_holds ?a__law_flipped ?l__law_flipped ?c__law_flipped ?k__law_flipped ?a__law_signs ?l__law_signs ?c__law_signs ?k__law_signs ?a__law_rows ?l__law_rows ?c__law_rows ?k__law_rows ?a__law_spelled ?l__law_spelled ?c__law_spelled ?k__law_spelled ?a__law_book ?l__law_book ?c__law_book ?k__law_book ?a_Book_text ?g_Book_text ?t_Book_text ?r_Book_text ?l_Book_text ?c_Book_text ?k_Book_text ?a_Book_names ?g_Book_names ?t_Book_names ?r_Book_names ?l_Book_names ?c_Book_names ?k_Book_names ?a_Book_rows ?g_Book_rows ?t_Book_rows ?r_Book_rows ?l_Book_rows ?c_Book_rows ?k_Book_rows ?a_Book___str__ ?i_Book___str__ ?l_Book___str__ ?c_Book___str__ ?k_Book___str__ ?a_Book___eq__ ?i_Book___eq__ ?l_Book___eq__ ?c_Book___eq__ ?k_Book___eq__ ?a__law_is ?l__law_is ?c__law_is ?k__law_is ?a_Book___init__ ?i_Book___init__ ?l_Book___init__ ?c_Book___init__ ?k_Book___init__ ?a_Book_without ?i_Book_without ?l_Book_without ?c_Book_without ?k_Book_without ?a_TooMany___init__ ?i_TooMany___init__ ?xy_TooMany ?l_TooMany___init__ ?c_TooMany___init__ ?k_TooMany___init__ ?a_Book_with_row ?i_Book_with_row ?l_Book_with_row ?c_Book_with_row ?k_Book_with_row ?a__law_right ?l__law_right ?c__law_right ?k__law_right ?lk__law_right ?lp__law_right ?ln__law_right ?lr__law_right ?a_law ?l_law ?c_law ?k_law ?z_abs ?z_all ?z_bool ?z_divmod ?z_int ?z_isinstance ?z_len ?z_list ?z_max ?z_min ?z_range ?z_repr ?z_sorted ?z_str ?z_tuple ?z_zip ?v_LETTERS ?v_MOST_LETTERS ?v_MOST_ROWS ?v_MOST_RULES ?v_SIGNS ?no1 ?no2 ?no3 ?no4 ?no5 ?no6 ?no7
    (case cm_Book => k_is)
    (case cpg_Book => k_is)
    (case chd_Book => k_is)
    (case cpo_Book => k_is)
    (case csa_Book => k_is)
    (case cmk_Book => k_is)
    (case ckc_Book => k_is)
    (case cia_Book => k_is)
    (case cim_Book => k_is)
    (case cm_Broken => k_is)
    (case cm_InUse => k_is)
    (case cm_InvalidCases => k_is)
    (case cm_InvalidClaim => k_is)
    (case cm_InvalidIndex => k_is)
    (case cm_InvalidLot => k_is)
    (case cm_InvalidName => k_is)
    (case cm_InvalidNumber => k_is)
    (case cm_InvalidOffers => k_is)
    (case cm_InvalidRanking => k_is)
    (case cm_InvalidRow => k_is)
    (case cm_InvalidRule => k_is)
    (case cm_InvalidText => k_is)
    (case cm_NoAnswer => k_is)
    (case cm_NoRanking => k_is)
    (case cm_NotABook => k_is)
    (case cm_NotACase => k_is)
    (case cm_NotACourt => k_is)
    (case cm_NothingToUndo => k_is)
    (case cm_TooMany => k_is)
    (case cm_UnknownName => k_is)
    (case cm_WrongValue => k_is)
    (case xh_Broken => k_is)
    (case xt_Broken => k_is)
    (case xh_InUse => k_is)
    (case xt_InUse => k_is)
    (case xh_InvalidCases => k_is)
    (case xt_InvalidCases => k_is)
    (case xh_InvalidClaim => k_is)
    (case xt_InvalidClaim => k_is)
    (case xh_InvalidIndex => k_is)
    (case xt_InvalidIndex => k_is)
    (case xh_InvalidLot => k_is)
    (case xt_InvalidLot => k_is)
    (case xh_InvalidName => k_is)
    (case xt_InvalidName => k_is)
    (case xh_InvalidNumber => k_is)
    (case xt_InvalidNumber => k_is)
    (case xh_InvalidOffers => k_is)
    (case xt_InvalidOffers => k_is)
    (case xh_InvalidRanking => k_is)
    (case xt_InvalidRanking => k_is)
    (case xh_InvalidRow => k_is)
    (case xt_InvalidRow => k_is)
    (case xh_InvalidRule => k_is)
    (case xt_InvalidRule => k_is)
    (case xh_InvalidText => k_is)
    (case xt_InvalidText => k_is)
    (case xh_NoAnswer => k_is)
    (case xt_NoAnswer => k_is)
    (case xh_NoRanking => k_is)
    (case xt_NoRanking => k_is)
    (case xh_NotABook => k_is)
    (case xt_NotABook => k_is)
    (case xh_NotACase => k_is)
    (case xt_NotACase => k_is)
    (case xh_NotACourt => k_is)
    (case xt_NotACourt => k_is)
    (case xh_NothingToUndo => k_is)
    (case xt_NothingToUndo => k_is)
    (case xh_TooMany => k_is)
    (case xt_TooMany => k_is)
    (case xh_UnknownName => k_is)
    (case xt_UnknownName => k_is)
    (case xh_WrongValue => k_is)
    (case xt_WrongValue => k_is)
    (case xs_NoAnswer => k_is)
    (case xs_TooMany => k_is)
    (case xs_WrongValue => k_is)
    (case xga_TooMany => k_is)
    (case xgt_TooMany => k_is)
    (case xcl_TooMany => k_is)
    (case xo_TooMany => k_is)
    (case xp_TooMany => k_is)
    (case xu_TooMany_InvalidText => k_is)
    (case xn_TooMany_InvalidText => first | rfl | decide)
    (case xu_TooMany_InvalidNumber => k_is)
    (case xn_TooMany_InvalidNumber => first | rfl | decide)
    (case xu_TooMany_InvalidName => k_is)
    (case xn_TooMany_InvalidName => first | rfl | decide)
    (case xu_TooMany_InvalidIndex => k_is)
    (case xn_TooMany_InvalidIndex => first | rfl | decide)
    (case xu_TooMany_InvalidClaim => k_is)
    (case xn_TooMany_InvalidClaim => first | rfl | decide)
    (case xu_TooMany_InvalidRow => k_is)
    (case xn_TooMany_InvalidRow => first | rfl | decide)
    (case xu_TooMany_InvalidRanking => k_is)
    (case xn_TooMany_InvalidRanking => first | rfl | decide)
    (case xu_TooMany_InvalidRule => k_is)
    (case xn_TooMany_InvalidRule => first | rfl | decide)
    (case xu_TooMany_UnknownName => k_is)
    (case xn_TooMany_UnknownName => first | rfl | decide)
    (case xu_TooMany_NotABook => k_is)
    (case xn_TooMany_NotABook => first | rfl | decide)
    (case xu_TooMany_NotACase => k_is)
    (case xn_TooMany_NotACase => first | rfl | decide)
    (case xu_TooMany_NotACourt => k_is)
    (case xn_TooMany_NotACourt => first | rfl | decide)
    (case xu_TooMany_InvalidLot => k_is)
    (case xn_TooMany_InvalidLot => first | rfl | decide)
    (case xu_TooMany_InvalidOffers => k_is)
    (case xn_TooMany_InvalidOffers => first | rfl | decide)
    (case xu_TooMany_InvalidCases => k_is)
    (case xn_TooMany_InvalidCases => first | rfl | decide)
    (case xu_TooMany_NoRanking => k_is)
    (case xn_TooMany_NoRanking => first | rfl | decide)
    (case xu_TooMany_TooMany => k_is)
    (case xu_TooMany_Broken => k_is)
    (case xn_TooMany_Broken => first | rfl | decide)
    (case xu_TooMany_InUse => k_is)
    (case xn_TooMany_InUse => first | rfl | decide)
    (case xu_TooMany_NothingToUndo => k_is)
    (case xn_TooMany_NothingToUndo => first | rfl | decide)
    (case xu_TooMany_WrongValue => k_is)
    (case xn_TooMany_WrongValue => first | rfl | decide)
    (case xu_TooMany_NoAnswer => k_is)
    (case xL_TooMany => k_is)
    (case xR_TooMany => first | rfl | decide +kernel)
    (case xa_TooMany => k_is)
    (case xn_TooMany_given => k_is)
    (case xn_TooMany_index => k_is)
    (case xn_TooMany_number => k_is)
    (case xn_TooMany_told => k_is)
    (case ihn => k_is)
    (case iht => k_is)
    (case a_is_name => k_is)
    (case l_is_name => k_is)
    (case c_is_name => k_is)
    (case k_is_name => k_is)
    (case a_are_names => k_is)
    (case l_are_names => k_is)
    (case c_are_names => k_is)
    (case k_are_names => k_is)
    (case a_is_any_row => k_is)
    (case l_is_any_row => k_is)
    (case c_is_any_row => k_is)
    (case k_is_any_row => k_is)
    (case a_is_row => k_is)
    (case l_is_row => k_is)
    (case c_is_row => k_is)
    (case k_is_row => k_is)
    (case a_is_whole => k_is)
    (case l_is_whole => k_is)
    (case c_is_whole => k_is)
    (case k_is_whole => k_is)
    (case a_is_index => k_is)
    (case l_is_index => k_is)
    (case c_is_index => k_is)
    (case k_is_index => k_is)
    (case a_check_row => k_is)
    (case l_check_row => k_is)
    (case c_check_row => k_is)
    (case k_check_row => k_is)
    (case a_check_index => k_is)
    (case l_check_index => k_is)
    (case c_check_index => k_is)
    (case k_check_index => k_is)
    (case a_read_book => k_is)
    (case l_read_book => k_is)
    (case c_read_book => k_is)
    (case k_read_book => k_is)
    (case a_write_book => k_is)
    (case l_write_book => k_is)
    (case c_write_book => k_is)
    (case k_write_book => k_is)
    (case a__law_purse => k_is)
    (case l__law_purse => k_is)
    (case c__law_purse => k_is)
    (case k__law_purse => k_is)
    (case a__law_draw => k_is)
    (case l__law_draw => k_is)
    (case c__law_draw => k_is)
    (case k__law_draw => k_is)
    (case a__law_sort => k_is)
    (case l__law_sort => k_is)
    (case c__law_sort => k_is)
    (case k__law_sort => k_is)
    (case a_Book___repr__ => k_is)
    (case i_Book___repr__ => k_is)
    (case l_Book___repr__ => k_is)
    (case c_Book___repr__ => k_is)
    (case k_Book___repr__ => k_is)
    (case a__law_attribute => k_is)
    (case l__law_attribute => k_is)
    (case c__law_attribute => k_is)
    (case k__law_attribute => k_is)
    (case a__law_told => k_is)
    (case l__law_told => k_is)
    (case c__law_told => k_is)
    (case k__law_told => k_is)
    (case a__law_labels => k_is)
    (case l__law_labels => k_is)
    (case c__law_labels => k_is)
    (case k__law_labels => k_is)
    (case a__law_holds => k_is)
    (case l__law_holds => k_is)
    (case c__law_holds => k_is)
    (case k__law_holds => k_is)
    (case a__law_flipped => k_is)
    (case l__law_flipped => k_is)
    (case c__law_flipped => k_is)
    (case k__law_flipped => k_is)
    (case a__law_signs => k_is)
    (case l__law_signs => k_is)
    (case c__law_signs => k_is)
    (case k__law_signs => k_is)
    (case a__law_rows => k_is)
    (case l__law_rows => k_is)
    (case c__law_rows => k_is)
    (case k__law_rows => k_is)
    (case a__law_spelled => k_is)
    (case l__law_spelled => k_is)
    (case c__law_spelled => k_is)
    (case k__law_spelled => k_is)
    (case a__law_book => k_is)
    (case l__law_book => k_is)
    (case c__law_book => k_is)
    (case k__law_book => k_is)
    (case a_Book_text => k_is)
    (case g_Book_text => k_is)
    (case t_Book_text => k_is)
    (case r_Book_text => k_is)
    (case l_Book_text => k_is)
    (case c_Book_text => k_is)
    (case k_Book_text => k_is)
    (case a_Book_names => k_is)
    (case g_Book_names => k_is)
    (case t_Book_names => k_is)
    (case r_Book_names => k_is)
    (case l_Book_names => k_is)
    (case c_Book_names => k_is)
    (case k_Book_names => k_is)
    (case a_Book_rows => k_is)
    (case g_Book_rows => k_is)
    (case t_Book_rows => k_is)
    (case r_Book_rows => k_is)
    (case l_Book_rows => k_is)
    (case c_Book_rows => k_is)
    (case k_Book_rows => k_is)
    (case a_Book___str__ => k_is)
    (case i_Book___str__ => k_is)
    (case l_Book___str__ => k_is)
    (case c_Book___str__ => k_is)
    (case k_Book___str__ => k_is)
    (case a_Book___eq__ => k_is)
    (case i_Book___eq__ => k_is)
    (case l_Book___eq__ => k_is)
    (case c_Book___eq__ => k_is)
    (case k_Book___eq__ => k_is)
    (case a__law_is => k_is)
    (case l__law_is => k_is)
    (case c__law_is => k_is)
    (case k__law_is => k_is)
    (case a_Book___init__ => k_is)
    (case i_Book___init__ => k_is)
    (case l_Book___init__ => k_is)
    (case c_Book___init__ => k_is)
    (case k_Book___init__ => k_is)
    (case a_Book_without => k_is)
    (case i_Book_without => k_is)
    (case l_Book_without => k_is)
    (case c_Book_without => k_is)
    (case k_Book_without => k_is)
    (case a_TooMany___init__ => k_is)
    (case i_TooMany___init__ => k_is)
    (case xy_TooMany => k_is)
    (case l_TooMany___init__ => k_is)
    (case c_TooMany___init__ => k_is)
    (case k_TooMany___init__ => k_is)
    (case a_Book_with_row => k_is)
    (case i_Book_with_row => k_is)
    (case l_Book_with_row => k_is)
    (case c_Book_with_row => k_is)
    (case k_Book_with_row => k_is)
    (case a__law_right => k_is)
    (case l__law_right => k_is)
    (case c__law_right => k_is)
    (case k__law_right => k_is)
    (case lk__law_right => k_is)
    (case lp__law_right => rfl)
    (case ln__law_right => first | rfl | kernel_rfl)
    (case lr__law_right => first | rfl | decide +kernel)
    (case a_law => k_is)
    (case l_law => k_is)
    (case c_law => k_is)
    (case k_law => k_is)
    (case z_abs => k_is)
    (case z_all => k_is)
    (case z_bool => k_is)
    (case z_divmod => k_is)
    (case z_int => k_is)
    (case z_isinstance => k_is)
    (case z_len => k_is)
    (case z_list => k_is)
    (case z_max => k_is)
    (case z_min => k_is)
    (case z_range => k_is)
    (case z_repr => k_is)
    (case z_sorted => k_is)
    (case z_str => k_is)
    (case z_tuple => k_is)
    (case z_zip => k_is)
    (case v_LETTERS => k_is)
    (case v_MOST_LETTERS => k_is)
    (case v_MOST_ROWS => k_is)
    (case v_MOST_RULES => k_is)
    (case v_SIGNS => k_is)
    (case no1 => k_is)
    (case no2 => k_is)
    (case no3 => k_is)
    (case no4 => k_is)
    (case no5 => k_is)
    (case no6 => k_is)
    (case no7 => k_is)
#print axioms PySem.Challenge.cw_rankedrules_k02_books_made_holds



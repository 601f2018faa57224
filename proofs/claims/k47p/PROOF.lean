import PyProof.Rows.All
import Wide.All
import OpenK.AllK
import Wide.FinOn
import HandS.ForMost
import HandS.ForExc
import HandS.IsInst
import HandS.SortRule
import HandS.SortInts
import HandS.Star
import HandS.Flow
import HandS.Style
import HandS.Zip
import HandS.Conv
import HandS.Deep
import HandS.ExcCtx
import HandS.HotCalls
import HandS.DictComp
import HandS.OwnEq
import KE.KExcInit
import PyProof.TupleIter
import KE.KDictKeyed
import KE.KDictWalk
import HandS.Walk
import KE.KDictSum
import KE.KDictCopyH
import KE.SortData
import HandS.DictEq
import KE.KDictDisplayH
import KE.GoesMore
import KE.GoesEnumKw
import HandS.SortKw
import HandS.SetKeys
import HandS.Steps
import HandS.TupAny
import PyProof.Rows.SetFrom
import HandS.SetFor
import HandS.Strs
import KE.KDictList
import HandS.Comp
import HandS.Text
import HandS.FStr
import HandS.TupLen
import HandS.RaiseMore
import PyProof.ListStr
import HandS.List
import PySem.Challenge.RW_twicedated_k47_whole_words
import HandS.JoinGen
import HandS.Codes
import KE.KExcLine

set_option Elab.async false
set_option linter.all false
set_option maxRecDepth 100000
set_option pp.maxSteps 1500
/-! Dicts whose keys are facts: (relation, names), names a tuple of texts. -/
namespace YjD
open PySem PySem.Spec PyProof.Rows L2
abbrev Fct := Str × List Str
def keyF (f : Fct) : NestedKey := .tup [.text f.1, .tup (f.2.map NestedKey.text)]
theorem texts_inj : ∀ {a b : List Str}, a.map NestedKey.text = b.map NestedKey.text → a = b
  | [], [], _ => rfl
  | [], _ :: _, h => by cases h
  | _ :: _, [], h => by cases h
  | x :: a, y :: b, h => by
    rw [List.map_cons, List.map_cons] at h
    injection h with h1 h2
    injection h1 with h1
    rw [h1, texts_inj h2]
theorem keyF_inj {f g : Fct} (h : keyF f = keyF g) : f = g := by
  obtain ⟨r, n⟩ := f
  obtain ⟨s, m⟩ := g
  unfold keyF at h
  injection h with h
  injection h with h1 h2
  injection h1 with h1
  injection h2 with h2 _
  injection h2 with h2
  exact Prod.ext h1 (texts_inj h2)
theorem depth_texts : ∀ n : List Str, NestedKey.depthAll (n.map NestedKey.text) = 0
  | [] => rfl
  | x :: n => by
    show max 0 (NestedKey.depthAll (n.map NestedKey.text)) = 0
    rw [depth_texts n]
    rfl
theorem depth_key (f : Fct) : (keyF f).depth ≤ 8 := by
  show max 0 (max (NestedKey.depthAll (f.2.map NestedKey.text) + 1) 0) + 1 ≤ 8
  rw [depth_texts]
  decide
/-- the fact f stands at a: a tuple of its relation and of a tuple of its names -/
def KeyAt (H : Hp) (a : Addr) (f : Fct) : Prop := ∃ n, H a = some (.tup [.str f.1, .ref n]) ∧ H n = some (.tup (f.2.map V.str))
theorem KeyAt.tups {H H' : Hp} {a : Addr} {f : Fct} (ht : ∀ b xs, H b = some (.tup xs) → H' b = some (.tup xs)) (h : KeyAt H a f) : KeyAt H' a f := by
  obtain ⟨n, h1, h2⟩ := h
  exact ⟨n, ht _ _ h1, ht _ _ h2⟩
theorem KeyAt.mono {H H' : Hp} {a : Addr} {f : Fct} (s : Same H H') (h : KeyAt H a f) : KeyAt H' a f := h.tups fun b xs e => s _ _ e
theorem strs_inj : ∀ {a b : List Str}, a.map V.str = b.map V.str → a = b
  | [], [], _ => rfl
  | [], _ :: _, h => by cases h
  | _ :: _, [], h => by cases h
  | x :: a, y :: b, h => by
    rw [List.map_cons, List.map_cons] at h
    injection h with h1 h2
    injection h1 with h1
    rw [h1, strs_inj h2]
theorem KeyAt.inj {H : Hp} {a : Addr} {f g : Fct} (h : KeyAt H a f) (k : KeyAt H a g) : f = g := by
  obtain ⟨n, h1, h2⟩ := h
  obtain ⟨m, k1, k2⟩ := k
  rw [h1] at k1
  injection k1 with k1
  injection k1 with k1
  injection k1 with e1 e2
  injection e1 with e1
  injection e2 with e2 _
  injection e2 with e2
  subst e2
  rw [h2] at k2
  injection k2 with k2
  injection k2 with k2
  exact Prod.ext e1 (strs_inj k2)
theorem texts_are {h : Heap} : ∀ {n : List Str} {us : List Value}, Vals (n.map V.str) us → NestedAll h (n.map NestedKey.text) us
  | [], _, r => by
    cases r
    exact .nil
  | x :: n, _, r => by
    cases r with
    | cons a t =>
      obtain ⟨k, rfl⟩ := (show ∃ t, _ = Value.str x t from a)
      exact .cons (.text x k) (texts_are t)
theorem fact_is {P : Program} {w : World} {H : Hp} {h : Heap} {a : Addr} {f : Fct} (ok : HOk P w H h) (k : KeyAt H a f) : (nestedKind P w).is h (keyF f) a := by
  obtain ⟨n, h1, h2⟩ := k
  obtain ⟨_, its, r, o, e1, e2, m, e3⟩ := (show ObjOk P w H h a _ from ok a _ h1)
  obtain ⟨_, jts, q, u, d1, d2, l, d3⟩ := (show ObjOk P w H h n _ from ok n _ h2)
  refine ⟨.tup e1 e2 e3 ?_, depth_key f⟩
  cases r with
  | cons r1 t1 =>
    cases t1 with
    | cons r2 t2 =>
      cases t2
      obtain ⟨k, rfl⟩ := (show ∃ t, _ = Value.str f.1 t from r1)
      obtain rfl := (show _ = Value.ref n from r2)
      refine .cons (.text _ _) (.cons (.tup d1 d2 d3 ?_) .nil)
      exact texts_are q
/-- the object o stands at d -/
def obO (d : Addr) (o : Obj) : HO := .ext fun h => h.get? d = some o
/-- entries told by values -/
abbrev FR (H : Hp) : List (Fct × V) → List (NestedKey × Addr × Value) → Prop := Paired fun p q => keyF p.1 = q.1 ∧ KeyAt H q.2.1 p.1 ∧ RelV p.2 q.2.2
/-- at d stands a dict with the facts and values kvs, in the order of insertion: the object o -/
structure FDo (P : Program) (w : World) (H : Hp) (d : Addr) (o : Obj) (kvs : List (Fct × V)) : Prop where
  sys : (d == sysModules) = false
  len : kvs.length ≤ sizeLine
  nod : (kvs.map (·.1)).Nodup
  here : H d = some (obO d o)
  exact' : o.ExactDict
  ent : ∃ es ep xs, o.data = .dict es ep ∧ es.toList = xs.map (entryOfKey (nestedKind P w)) ∧ FR H kvs xs
def FD (P : Program) (w : World) (H : Hp) (d : Addr) (kvs : List (Fct × V)) : Prop := ∃ o, FDo P w H d o kvs
theorem FD.sys {P : Program} {w : World} {H : Hp} {d : Addr} {kvs : List (Fct × V)} (F : FD P w H d kvs) : (d == sysModules) = false := let ⟨_, f⟩ := F; f.sys
theorem FD.len {P : Program} {w : World} {H : Hp} {d : Addr} {kvs : List (Fct × V)} (F : FD P w H d kvs) : kvs.length ≤ sizeLine := let ⟨_, f⟩ := F; f.len
theorem FD.nod {P : Program} {w : World} {H : Hp} {d : Addr} {kvs : List (Fct × V)} (F : FD P w H d kvs) : (kvs.map (·.1)).Nodup := let ⟨_, f⟩ := F; f.nod
theorem FR.tups {H H' : Hp} {kvs : List (Fct × V)} {xs : List (NestedKey × Addr × Value)} (ht : ∀ b ys, H b = some (.tup ys) → H' b = some (.tup ys)) (r : FR H kvs xs) : FR H' kvs xs :=
  Paired.mapP r fun _ _ z => ⟨z.1, z.2.1.tups ht, z.2.2⟩
theorem FDo.keep {P : Program} {w : World} {H H' : Hp} {d : Addr} {o : Obj} {kvs : List (Fct × V)} (F : FDo P w H d o kvs) (hd : H' d = H d) (ht : ∀ b ys, H b = some (.tup ys) → H' b = some (.tup ys)) : FDo P w H' d o kvs := by
  obtain ⟨s, l, n, h, x, es, ep, xs, e1, e2, r⟩ := F
  exact ⟨s, l, n, hd.trans h, x, es, ep, xs, e1, e2, r.tups ht⟩
theorem FD.keep {P : Program} {w : World} {H H' : Hp} {d : Addr} {kvs : List (Fct × V)} (F : FD P w H d kvs) (hd : H' d = H d) (ht : ∀ b ys, H b = some (.tup ys) → H' b = some (.tup ys)) : FD P w H' d kvs := by
  obtain ⟨o, F⟩ := F
  exact ⟨o, F.keep hd ht⟩
theorem FD.ext {P : Program} {w : World} {H : Hp} {d : Addr} {kvs : List (Fct × V)} (F : FD P w H d kvs) : ∃ φ, H d = some (.ext φ) := by
  obtain ⟨o, F⟩ := F
  exact ⟨_, F.here⟩
theorem FDo.mono {P : Program} {w : World} {H H' : Hp} {d : Addr} {o : Obj} {kvs : List (Fct × V)} (s : Same H H') (F : FDo P w H d o kvs) : FDo P w H' d o kvs := F.keep ((s _ _ F.here).trans F.here.symm) fun b ys e => s _ _ e
theorem FD.mono {P : Program} {w : World} {H H' : Hp} {d : Addr} {kvs : List (Fct × V)} (s : Same H H') (F : FD P w H d kvs) : FD P w H' d kvs := by
  obtain ⟨o, F⟩ := F
  exact ⟨o, F.mono s⟩
theorem FR.nodup {H : Hp} {kvs : List (Fct × V)} {xs : List (NestedKey × Addr × Value)} (r : FR H kvs xs) (n : (kvs.map (·.1)).Nodup) : (xs.map (·.1)).Nodup := by
  have e : xs.map (·.1) = (kvs.map (·.1)).map keyF := by
    clear n
    induction r with
    | nil => rfl
    | cons h t ih =>
      rw [List.map_cons, List.map_cons, List.map_cons, ih, h.1]
  rw [e]
  unfold List.Nodup at n ⊢
  rw [List.pairwise_map]
  exact n.imp fun h z => h (keyF_inj z)
theorem FR.all {P : Program} {w : World} {H : Hp} {h : Heap} (ok : HOk P w H h) {kvs : List (Fct × V)} {xs : List (NestedKey × Addr × Value)} (r : FR H kvs xs) : ∀ x ∈ xs, (nestedKind P w).is h x.1 x.2.1 := by
  induction r with
  | nil =>
    intro x hx
    cases hx
  | cons a t ih =>
    intro x hx
    rcases List.mem_cons.mp hx with e | hx
    · rw [e, ← a.1]
      exact fact_is ok a.2.1
    · exact ih x hx
/-- the library's own word of it -/
theorem FDo.of {P : Program} {w : World} {H : Hp} {h : Heap} {d : Addr} {o : Obj} {kvs : List (Fct × V)} (ok : HOk P w H h) (F : FDo P w H d o kvs) : h.get? d = some o ∧ ∃ xs, FR H kvs xs ∧ h.DictOfH (nestedKind P w) d xs := by
  obtain ⟨_, _, n, e, h2, es, ep, xs, h3, h4, r⟩ := F
  obtain ⟨h1, _⟩ := (show ObjOk P w H h d (obO d o) from ok d _ e)
  exact ⟨h1, xs, r, o, es, ep, h1, h2, h3, h4, r.all ok, r.nodup n⟩
theorem FD.of {P : Program} {w : World} {H : Hp} {h : Heap} {d : Addr} {kvs : List (Fct × V)} (ok : HOk P w H h) (F : FD P w H d kvs) : ∃ xs, FR H kvs xs ∧ h.DictOfH (nestedKind P w) d xs := by
  obtain ⟨o, F⟩ := F
  exact (F.of ok).2
theorem ob_new {P : Program} {w : World} {H : Hp} {h : Heap} {d : Addr} {o : Obj} (e : h.get? d = some o) : ObjOk P w H h d (obO d o) := ⟨e, ⟨o, e⟩, fun _ _ z k => k _ z⟩
theorem FR.val {H : Hp} {kvs : List (Fct × V)} {xs : List (NestedKey × Addr × Value)} (r : FR H kvs xs) (f : Fct) : RelO (valV kvs f) ((atKey xs (keyF f)).map (·.2)) := by
  induction r with
  | nil => exact True.intro
  | @cons p q ps qs a t ih =>
    by_cases e : p.1 = f
    · have e' : q.1 = keyF f := by rw [← a.1, e]
      have b : atKey (q :: qs) (keyF f) = some q.2 := by simp [atKey, List.find?_cons, e']
      rw [valV_pos e, b]
      exact a.2.2
    · have e' : ¬ q.1 = keyF f := fun z => e (keyF_inj (a.1.trans z))
      have b : atKey (q :: qs) (keyF f) = atKey qs (keyF f) := by simp [atKey, List.find?_cons, e']
      rw [valV_neg e, b]
      exact ih
theorem FR.swap {H : Hp} {kvs : List (Fct × V)} {xs : List (NestedKey × Addr × Value)} (r : FR H kvs xs) (f : Fct) {y : V} {u : Value} (ry : RelV y u) : FR H (kvs.map fun kv => if kv.1 = f then (kv.1, y) else kv) (xs.map (putAt (keyF f) u)) := by
  induction r with
  | nil => exact .nil
  | @cons p q ps qs a t ih =>
    refine .cons ?_ ih
    unfold putAt
    dsimp only
    by_cases e : p.1 = f
    · rw [if_pos e, if_pos (by rw [← a.1, e])]
      exact ⟨a.1, a.2.1, ry⟩
    · rw [if_neg e, if_neg fun z => e (keyF_inj (a.1.trans z))]
      exact a
theorem FR.put {H : Hp} {kvs : List (Fct × V)} {xs : List (NestedKey × Addr × Value)} (r : FR H kvs xs) (f : Fct) {b : Addr} {y : V} {u : Value} (hb : KeyAt H b f) (ry : RelV y u) : FR H (putK kvs f y) (storedH xs (keyF f) b u) := by
  have e : (kvs.any fun kv => decide (kv.1 = f)) = (atKey xs (keyF f)).isSome := by
    rw [valV_any, (r.val f).isSome_eq, Option.isSome_map]
  unfold putK storedH
  rw [e]
  by_cases q : (atKey xs (keyF f)).isSome = true
  · rw [if_pos q, if_pos q]
    exact r.swap f ry
  · rw [if_neg q, if_neg q]
    exact Paired.snoc r ⟨rfl, hb, ry⟩
theorem keys_put {kvs : List (Fct × V)} (f : Fct) (y : V) : (putK kvs f y).map (·.1) = if (valV kvs f).isSome then kvs.map (·.1) else kvs.map (·.1) ++ [f] := by
  unfold putK
  rw [valV_any]
  by_cases q : (valV kvs f).isSome = true
  · rw [if_pos q, if_pos q, List.map_map]
    refine List.map_congr_left fun p _ => ?_
    by_cases e : p.1 = f
    · simp [e]
    · simp [e]
  · rw [if_neg q, if_neg q, List.map_append]
    rfl
theorem valV_mem {kvs : List (Fct × V)} {f : Fct} (h : valV kvs f = none) : f ∉ kvs.map (·.1) := by
  induction kvs with
  | nil => intro z; cases z
  | cons p ps ih =>
    by_cases e : p.1 = f
    · rw [valV_pos e] at h
      cases h
    · rw [valV_neg e] at h
      intro z
      rcases List.mem_cons.mp z with z | z
      · exact e z.symm
      · exact ih h z
theorem nod_put {kvs : List (Fct × V)} (f : Fct) (y : V) (n : (kvs.map (·.1)).Nodup) : ((putK kvs f y).map (·.1)).Nodup := by
  rw [keys_put]
  split
  · exact n
  · rename_i h
    have h' : valV kvs f = none := by
      cases e : valV kvs f with
      | none => rfl
      | some v => rw [e] at h; exact absurd rfl h
    rw [List.nodup_append]
    exact ⟨n, List.nodup_cons.mpr ⟨List.not_mem_nil, List.nodup_nil⟩, fun a ha b hb => by
      rw [List.mem_singleton.mp hb]
      intro z
      exact valV_mem h' (z ▸ ha)⟩
section
variable {X : Cx} {pins : List (Addr × Obj)} {σ : L2.St} {H : Hp} {s : Shared}
/-- the dict at d behind a store -/
theorem FD.stored {d b : Addr} {kvs : List (Fct × V)} {f : Fct} {y : V} {u : Value} {xs : List (NestedKey × Addr × Value)} {h' : Heap} {t' : Nat} (I : Inv X pins σ H s) (F : FD X.prog X.w H d kvs) (hb : KeyAt H b f) (ry : RelV y u) (hl : kvs.length < sizeLine) (r : FR H kvs xs)
    (D : h'.DictOfH (nestedKind X.prog X.w) d (storedH xs (keyF f) b u)) (hs : Heap.SameBut d s.heap h') :
    ∃ o', Inv X pins σ (upd H d o') { s with heap := h', toks := t' } ∧ FD X.prog X.w (upd H d o') d (putK kvs f y) := by
  obtain ⟨φ, hd⟩ := F.ext
  obtain ⟨o, es, ep, h1, h2, h3, h4, _⟩ := D
  refine ⟨obO d o, d_write I (by rw [hd]; exact True.intro) hs ⟨o, h1⟩ (ob_new h1), o, F.sys, ?_, nod_put f y F.nod, upd_same, h2, es, ep, _, h3, h4, (r.put f hb ry).tups fun b ys e => ?_⟩
  · have := length_putK kvs f y
    omega
  · rw [upd_ne fun z => ?_]
    · exact e
    · rw [z, hd] at e
      cases e
variable {a e k v : Expr} {ta te tk tv : TE} {pos apos cpos : Pos}
/-- d[k], there -/
def tFGet (P : Program) (w : World) (ta tk : TE) : TE := fun σ H Q => ta σ H fun x H1 => tk σ H1 fun y H2 => ∃ d kvs b f v, x = .ref d ∧ y = .ref b ∧ FD P w H2 d kvs ∧ KeyAt H2 b f ∧ valV kvs f = some v ∧ Q v H2
theorem pe_fget (hu : X.A.units + 64 < cLine) (ho : PE X a ta) (hi : PE X k tk) (hs : NoSl k) : PE X (.Subscript a k pos) (tFGet X.prog X.w ta tk) := by
  refine ⟨fun pins s σ H Q I h => ?_⟩
  refine subD_of PySem.F.slot_dict_getitem.lookup hs ?_
  refine thn (ho.run pins s σ H _ I h) fun u s1 h1 => ?_
  obtain ⟨x, H1, I1, rx, q1⟩ := h1
  refine thn (hi.run pins s1 σ H1 _ I1 q1) fun j s2 h2 => ?_
  obtain ⟨y, H2, I2, ry, d, kvs, b, f, z, rfl, rfl, F, K, hv, q⟩ := h2
  obtain rfl : u = Value.ref d := rx
  obtain rfl : j = Value.ref b := ry
  obtain ⟨xs, r, D⟩ := F.of I2.hok
  obtain ⟨u', hu', ru⟩ := RelO.some_of (v := z) (o := (atKey xs (keyF f)).map (·.2)) (by rw [← hv]; exact r.val f)
  obtain ⟨p, hp, hp2⟩ := Option.map_eq_some_iff.mp hu'
  refine ⟨D.typeIs, wpAny_getItem_heap (by show X.A.units + 1 + 8 < cLine; omega) (fact_is I2.hok K) D hp ?_⟩
  rw [hp2]
  exact ⟨z, H2, I2.tok _, ru, q⟩
/-- d.get(k, e) -/
def tFOr (P : Program) (w : World) (ta tk te : TE) : TE := fun σ H Q => ta σ H fun x H1 => ∃ d kvs, x = .ref d ∧ FD P w H1 d kvs ∧ tk σ H1 fun y H2 => te σ H2 fun z H3 => ∃ b f, y = .ref b ∧ FD P w H3 d kvs ∧ KeyAt H3 b f ∧ Q ((valV kvs f).getD z) H3
theorem pe_for (hu : X.A.units + 64 < cLine) (ho : PE X a ta) (hk : PE X k tk) (he : PE X e te) (m : M2 X a "get" apos k e cpos) : PE X (.Call (.Attribute a "get" apos) [k, e] [] cpos) (tFOr X.prog X.w ta tk te) := by
  refine ⟨fun pins s σ H Q I h => ?_⟩
  refine wpAny_Call_method m.base m.few m.line PySem.F.plainAttrs_dict PySem.F.slot_dict_get PySem.F.type_dict_get (thn (ho.run pins s σ H _ I h) fun u s1 h1 => ?_)
  obtain ⟨x, H1, I1, rx, d, kvs, rfl, F, q1⟩ := h1
  obtain rfl : u = Value.ref d := rx
  obtain ⟨_, _, D1⟩ := F.of I1.hok
  have one : ∀ c, Value.ref d = .ref c → ∃ ob, s1.heap.get? c = some ob ∧ ob.dict = none := fun c z => by
    cases z
    obtain ⟨ob, _, _, h1, h2, _⟩ := D1
    exact ⟨ob, h1, h2.2.1⟩
  refine ⟨D1.typeIs, one, ?_⟩
  rw [m.trees]
  refine Calls.callWith_builtin rfl (Calls.evalArgs_plain (Calls.spliced_cons (thn (hk.run pins s1 σ H1 _ I1 q1) fun j s2 h2 => ?_)))
  obtain ⟨y, H2, I2, ry, q2⟩ := h2
  refine Calls.spliced_cons (thn (he.run pins s2 σ H2 _ I2 q2) fun l s3 h3 => Calls.spliced_nil ?_)
  obtain ⟨z, H3, I3, rz, b, f, rfl, F3, K, q⟩ := h3
  obtain rfl : j = Value.ref b := ry
  obtain ⟨xs, r, D⟩ := F3.of I3.hok
  refine call_meetsIn PySem.F.slot_dict_get D.typeIs PySem.F.entry_dict_get (PySem.F.args_dict_get_3 _ _ _) (meetsH_dict_get_default (nestedKind X.prog X.w) d b F3.sys l) ?_
  refine ⟨by show X.A.units + 1 + 8 < cLine; omega, keyF f, xs, fact_is I3.hok K, D, ?_⟩
  exact ⟨_, H3, I3.tok _, (r.val f).getD rz, q⟩
/-- k in d -/
def rInF (P : Program) (w : World) (neg : Bool) : R2 := fun x y H Q => ∃ d kvs b f, x = .ref b ∧ y = .ref d ∧ FD P w H d kvs ∧ KeyAt H b f ∧ Q (.bl (if neg then !(valV kvs f).isSome else (valV kvs f).isSome)) H
theorem op_inF (hu : X.A.units + 64 < cLine) : OpR X (compareOp .In) (rInF X.prog X.w false) := by
  intro pins s σ H x y v u Q I rx ry h
  obtain ⟨d, kvs, b, f, rfl, rfl, F, K, q⟩ := h
  obtain rfl : v = Value.ref b := rx
  obtain rfl : u = Value.ref d := ry
  obtain ⟨xs, r, D⟩ := F.of I.hok
  refine wpAny_in_heap (by show X.A.units + 1 + 8 < cLine; omega) (fact_is I.hok K) F.sys D ?_
  have e := (r.val f).isSome_eq
  rw [Option.isSome_map] at e
  rw [← e]
  exact ⟨.bl _, H, I.tok _, rfl, q⟩
theorem op_notInF (hu : X.A.units + 64 < cLine) : OpR X (compareOp .NotIn) (rInF X.prog X.w true) := by
  intro pins s σ H x y v u Q I rx ry h
  obtain ⟨d, kvs, b, f, rfl, rfl, F, K, q⟩ := h
  obtain rfl : v = Value.ref b := rx
  obtain rfl : u = Value.ref d := ry
  obtain ⟨xs, r, D⟩ := F.of I.hok
  refine wpAny_notIn_heap (by show X.A.units + 1 + 8 < cLine; omega) (fact_is I.hok K) F.sys D ?_
  have e := (r.val f).isSome_eq
  rw [Option.isSome_map] at e
  rw [← e]
  exact ⟨.bl _, H, I.tok _, rfl, q⟩
/-- d[k] = v -/
def tSetF (P : Program) (w : World) : V → V → V → Hp → (Hp → Prop) → Prop := fun o i v H Q => ∃ d kvs b f, o = .ref d ∧ i = .ref b ∧ FD P w H d kvs ∧ KeyAt H b f ∧ kvs.length < sizeLine ∧ ∀ o', FD P w (upd H d o') d (putK kvs f v) → Q (upd H d o')
theorem set_fact (hu : X.A.units + 64 < cLine) : PSet X (tSetF X.prog X.w) := by
  intro pins s σ H o i v ov iv u Q I ro ri rv h
  obtain ⟨d, kvs, b, f, rfl, rfl, F, K, hl, q⟩ := h
  obtain rfl : ov = Value.ref d := ro
  obtain rfl : iv = Value.ref b := ri
  obtain ⟨xs, r, D⟩ := F.of I.hok
  have e := Paired.length r
  refine wpAny_setItem_heap (hsz := by omega) (by show X.A.units + 1 + 8 < cLine; omega) (fact_is I.hok K) D fun h' D' hs => ?_
  obtain ⟨o', I', F'⟩ := F.stored (t' := s.toks + (nestedKind X.prog X.w).draws (keyF f)) I K rv hl r D' hs
  exact ⟨_, I', q o' F'⟩
/-- {}, to be a dict of facts -/
def tFNew (P : Program) (w : World) : TE := fun _ H Q => ∀ d o, H d = none → FD P w (upd H d o) d [] → Q (.ref d) (upd H d o)
def newO : Obj := { cls := .type "dict", data := .dict #[] }
theorem fd_empty {P : Program} {w : World} {H : Hp} {d : Addr} (hb : sysModules < d) : FD P w (upd H d (obO d newO)) d [] :=
  ⟨newO, beq_eq_false_iff_ne.mpr (Ne.symm (Nat.ne_of_lt hb)), Nat.zero_le _, List.nodup_nil, upd_same, ⟨rfl, rfl, rfl⟩, #[], 0, [], rfl, rfl, .nil⟩
theorem pe_fnew : PE X (.Dict [] [] pos) (tFNew X.prog X.w) := ⟨fun pins s σ H Q I h => by
  refine wpAny_Dict_empty ⟨.ref s.heap.objs.size, _, I.laid (a := s.heap.objs.size) (o := obO s.heap.objs.size newO) (t' := s.toks) (fun _ _ q => Heap.get?_push_of_some _ q) (Nat.le_refl _) (ob_new (Heap.get?_push_size _ rfl)), rfl, ?_⟩
  exact h _ _ (I.hok.fresh (Nat.le_refl _)) (fd_empty I.big)⟩
/-- len(d) -/
theorem call_lenF (hc : X.calm = true) : CallR X (.builtin "len") (fun vs H Q => ∃ d kvs, vs = [V.ref d] ∧ FD X.prog X.w H d kvs ∧ Q (.int (kvs.length : Nat)) H) := by
  intro pins s σ H vs us Q I r h
  obtain ⟨d, kvs, rfl, F, q⟩ := h
  obtain ⟨u, rfl, ru⟩ := vals1 r
  obtain rfl : u = Value.ref d := ru
  obtain ⟨xs, rr, D⟩ := F.of I.hok
  have e := Paired.length rr
  have hz := F.len
  have hz2 := sizeLine_eq
  refine PyProof.Rows.call_len_slot (n := xs.length) D.typeIs PySem.F.slot_dict_len (fun Q' hq => len_keyed F.sys ⟨xs, D, rfl⟩ (by rw [pairsH_length]; exact hq)) (by omega) (by omega) ?_
  rw [← e]
  exact ⟨.int _, H, I.tok _, ⟨_, rfl⟩, q⟩
end
end YjD
set_option Elab.async false
set_option linter.all false
set_option maxRecDepth 100000
set_option pp.maxSteps 1500
/-! A dict of facts, walked by its keys. -/
namespace YjD
open PySem PySem.Spec PyProof.Rows L2
theorem FDo.at {P : Program} {w : World} {H : Hp} {d : Addr} {o : Obj} {kvs : List (Fct × V)} {es : Array DictEntry} {ep : Nat} (F : FDo P w H d o kvs) (hod : o.data = .dict es ep) : es.size = kvs.length ∧
    ∀ i (hi : i < es.size), ∃ ka f v, kvs[i]? = some (f, v) ∧ es[i].key = .ref ka ∧ KeyAt H ka f ∧ RelV v es[i].val := by
  obtain ⟨_, _, _, _, _, es', ep', xs, e1, e2, r⟩ := F
  rw [hod] at e1
  cases e1
  have hl := Paired.length r
  have hs := size_of_entries e2
  refine ⟨hs.trans hl.symm, fun i hi => ?_⟩
  have he := entry_at e2 i
  have hx : i < xs.length := hs ▸ hi
  rw [Array.getElem?_eq_getElem hi, List.getElem?_eq_getElem hx, Option.map_some] at he
  have he := Option.some.inj he
  have g : ∀ {l : List (Fct × V)} {m : List (NestedKey × Addr × Value)}, FR H l m → ∀ (j : Nat) (hj : j < m.length), ∃ f v, l[j]? = some (f, v) ∧ KeyAt H m[j].2.1 f ∧ RelV v m[j].2.2 := by
    intro l m q
    induction q with
    | nil =>
      intro j hj
      exact absurd hj (Nat.not_lt_zero j)
    | @cons p q ps qs a t ih =>
      intro j hj
      cases j with
      | zero => exact ⟨p.1, p.2, rfl, a.2.1, a.2.2⟩
      | succ j => exact ih j (Nat.lt_of_succ_lt_succ hj)
  obtain ⟨f, v, h1, h2, h3⟩ := g r i hx
  refine ⟨xs[i].2.1, f, v, h1, ?_, h2, ?_⟩
  · rw [he]
    rfl
  · rw [he]
    exact h3
/-- the keys of the dict at d, one by one -/
def ItF (P : Program) (w : World) (d : Addr) (o : Obj) (kvs : List (Fct × V)) : It :=
  ⟨fun i H => FDo P w H d o kvs ∧ i < kvs.length, fun i H x H' => H' = H ∧ ∃ ka f v, x = .ref ka ∧ kvs[i]? = some (f, v) ∧ KeyAt H ka f, fun i H => FDo P w H d o kvs ∧ i = kvs.length⟩
theorem turn_facts {P : Program} {w : World} {K : PySem.W.Frag} {tg : Expr} {d : Addr} {o : Obj} {kvs : List (Fct × V)} {es : Array DictEntry} {ep : Nat} (it : Addr) (hod : o.data = .dict es ep) :
    Turn P w K tg (ItF P w d o kvs) [it] it (fun i h => h.IsKeyIter it d i es.size ep) := by
  refine ⟨by simp, fun i h st b hb => ?_, fun i h h' st k => st.at fun oi e => k it (by simp) oi e, ?_, ?_, fun A i s Q E st h => wpAny_pyIter_keyiter st h⟩
  · rw [List.mem_singleton.mp hb]
    obtain ⟨oi, e, _, dd⟩ := st
    exact ⟨oi, e, fun v z => by rw [dd] at z; cases z⟩
  · intro X hP hw hK hc i pins s σ H E I hf st hg
    subst hP hw hK
    obtain ⟨F, hi⟩ := hg
    obtain ⟨f0, f1, f2, f3, f4, f5⟩ := hf it (by simp)
    obtain ⟨hd, _⟩ := F.of I.hok
    obtain ⟨hs, hat⟩ := F.at hod
    obtain ⟨ka, f, v, h1, h2, h3, _⟩ := hat i (by omega)
    refine wpAny_pyNext_keys_item_raw st ⟨o, hd, F.exact', hod⟩ (by omega) fun h' st' sb => ?_
    have J : Inv X pins σ H { s with heap := h' } := I.turned (t' := s.toks) (fun b ob hb e => (sb.2 b hb).trans e) f0 f1 f3 f4 f5
    obtain ⟨oi, e, c, dd⟩ := id st'
    exact ⟨_, rfl, go_of (s := { s with heap := h' }) e c dd (by decide) ⟨.ref ka, H, J, h2, ⟨rfl, ka, f, v, rfl, h1, h3⟩, st', fun b hb => (hf b hb).1⟩⟩
  · intro X hP hw hK hc i pins s σ H E I hf st hg
    subst hP hw hK
    obtain ⟨F, hi⟩ := hg
    obtain ⟨f0, f1, f2, f3, f4, f5⟩ := hf it (by simp)
    obtain ⟨hd, _⟩ := F.of I.hok
    obtain ⟨hs, _⟩ := F.at hod
    exact wpAny_pyNext_keys_end_raw (I.ok.hd hc) st ⟨o, hd, F.exact', hod⟩ (by omega) fun h' eb => ⟨rfl, I.turned (t' := s.toks) (fun b ob hb e => eb b ob hb e) f0 f1 f3 f4 f5⟩
/-- a dict of facts, walked -/
def iFacts (P : Program) (w : World) (te : TE) : TI := fun σ H R => te σ H fun x H1 => ∃ d o kvs, x = .ref d ∧ FDo P w H1 d o kvs ∧ R (ItF P w d o kvs) H1
theorem pi_facts {X : Cx} {e tg : Expr} {te : TE} (ha : PE X e te) : PI X tg e (iFacts X.prog X.w te) := by
  refine ⟨fun pins s σ H R I h => ?_⟩
  refine thn (ha.run pins s σ H _ I h) fun u s1 h1 => ?_
  obtain ⟨x, H1, I1, rx, d, o, kvs, rfl, F, q⟩ := h1
  obtain rfl : u = Value.ref d := rx
  obtain ⟨hd, _⟩ := F.of I1.hok
  obtain ⟨es, ep, xs, e1, e2, r⟩ := F.ent
  refine wpAny_pyIter_dict_raw F.sys ⟨o, hd, F.exact', e1⟩ ?_
  have fp : ∀ b ∈ [s1.heap.objs.size], FpOk X pins H1 b := fun b hb => by
    rw [List.mem_singleton.mp hb]
    exact I1.fpOk (Nat.le_refl _) (I1.hok.fresh (Nat.le_refl _))
  refine ⟨s1.heap.objs.size, _, _, _, H1, rfl, I1.kept (t' := s1.toks) fun b ob z => Heap.get?_push_of_some _ z, turn_facts s1.heap.objs.size e1, ?_, fp, q⟩
  exact ⟨_, Heap.get?_push_size _ rfl, rfl, rfl⟩
theorem walk_facts {P : Program} {w : World} {d : Addr} {o : Obj} {kvs : List (Fct × V)} : Walk (ItF P w d o kvs) kvs.length (fun H => FDo P w H d o kvs) (fun i H x H' => H' = H ∧ ∃ ka f v, x = .ref ka ∧ kvs[i]? = some (f, v) ∧ KeyAt H ka f) :=
  ⟨fun i H hi q => ⟨q, hi⟩, fun H q => ⟨q, rfl⟩, fun i H x H' hi q y => y⟩
end YjD
set_option Elab.async false
set_option linter.all false
set_option maxRecDepth 100000
set_option pp.maxSteps 1500
/-! The facts of a dict as a list, and sorted. -/
namespace YjD
open PySem PySem.Spec PyProof.Rows L2
/-- references to facts that stand in the heap -/
abbrev KeysAt (H : Hp) : List V → List Fct → Prop := Paired fun u f => ∃ ka, u = V.ref ka ∧ KeyAt H ka f
theorem KeysAt.mono {H H' : Hp} (s : Same H H') {us : List V} {fs : List Fct} (h : KeysAt H us fs) : KeysAt H' us fs := Paired.mapP h fun _ _ ⟨ka, e, k⟩ => ⟨ka, e, k.mono s⟩
theorem KeysAt.get {H : Hp} {us : List V} {fs : List Fct} (h : KeysAt H us fs) : ∀ {i : Nat} {v : V}, us[i]? = some v → ∃ ka f, v = .ref ka ∧ fs[i]? = some f ∧ KeyAt H ka f := by
  induction h with
  | nil =>
    intro i v e
    cases e
  | @cons u f us fs a t ih =>
    intro i v e
    cases i with
    | zero =>
      obtain ⟨ka, e2, k⟩ := a
      have e := Option.some.inj e
      exact ⟨ka, f, e.symm.trans e2, rfl, k⟩
    | succ i => exact ih (i := i) e
def factD (f : Fct) : PyData := .tuple [.str f.1, .tuple (f.2.map PyData.str)]
def sortF (fs : List Fct) : List Fct := fs.mergeSort (PySem.W.dataLe false factD)
theorem alike_strs : ∀ a b : List Str, PySem.W.alikeAll (a.map PyData.str) (b.map PyData.str) = true
  | [], _ => by simp [PySem.W.alikeAll]
  | _ :: _, [] => by simp [PySem.W.alikeAll]
  | x :: a, y :: b => by
    show PySem.W.alikeAll (PyData.str x :: a.map PyData.str) (PyData.str y :: b.map PyData.str) = true
    rw [PySem.W.alikeAll, alike_strs a b]
    simp [PySem.W.alike]
theorem alike_facts (f g : Fct) : PySem.W.alike (factD f) (factD g) = true := by
  unfold factD
  rw [PySem.W.alike, PySem.W.alikeAll, PySem.W.alikeAll, PySem.W.alikeAll, PySem.W.alike, PySem.W.alike, alike_strs]
  rfl
theorem depth_strs : ∀ n : List Str, PyData.depthAll (n.map PyData.str) = 0
  | [] => by simp [PyData.depthAll]
  | x :: n => by
    show PyData.depthAll (PyData.str x :: n.map PyData.str) = 0
    rw [PyData.depthAll, depth_strs n]
    simp [PyData.depth]
theorem depth_fact (f : Fct) : (factD f).depth = 2 := by
  unfold factD
  rw [PyData.depth, PyData.depthAll, PyData.depthAll, PyData.depthAll, PyData.depth, PyData.depth, depth_strs]
  rfl
theorem reads_strs {h : Heap} : ∀ {n : List Str} {us : List Value}, Vals (n.map V.str) us → ReadsAll h us (n.map PyData.str) []
  | [], _, r => by
    cases r
    exact .nil
  | x :: n, _, r => by
    cases r with
    | cons a t =>
      obtain ⟨k, rfl⟩ := (show ∃ t, _ = Value.str x t from a)
      exact ReadsAll.cons (as := []) (bs := []) (.str x k) (reads_strs t)
theorem reads_fact {P : Program} {w : World} {H : Hp} {h : Heap} {a : Addr} {f : Fct} (ok : HOk P w H h) (k : KeyAt H a f) : Reads h (.ref a) (factD f) [] := by
  obtain ⟨n, h1, h2⟩ := k
  obtain ⟨_, its, r, o, e1, e2, m, e3⟩ := (show ObjOk P w H h a _ from ok a _ h1)
  obtain ⟨_, jts, q, u, d1, d2, l, d3⟩ := (show ObjOk P w H h n _ from ok n _ h2)
  refine .tuple e1 e2 e3 ?_
  cases r with
  | cons r1 t1 =>
    cases t1 with
    | cons r2 t2 =>
      cases t2
      obtain ⟨k, rfl⟩ := (show ∃ t, _ = Value.str f.1 t from r1)
      obtain rfl := (show _ = Value.ref n from r2)
      refine ReadsAll.cons (as := []) (bs := []) (.str _ _) (ReadsAll.cons (as := []) (bs := []) (.tuple d1 d2 d3 ?_) .nil)
      exact reads_strs q
theorem sortF_perm (fs : List Fct) : (sortF fs).Perm fs := List.mergeSort_perm fs _
section
variable {X : Cx}
/-- the values that a walk of the keys has collected -/
theorem keys_of {P : Program} {w : World} {H : Hp} {d : Addr} {o : Obj} {kvs : List (Fct × V)} {es : Array DictEntry} {ep : Nat} {acc : Array Value} (F : FDo P w H d o kvs) (hod : o.data = .dict es ep)
    (hacc : PySem.ItemsOf (fun i v => ∃ hi : i < es.size, v = es[i].key) acc es.size) : ∃ us, Vals us acc.toList ∧ KeysAt H us (kvs.map (·.1)) := by
  obtain ⟨hs, hat⟩ := F.at hod
  obtain ⟨h1, h2⟩ := hacc
  have g : ∀ (vs : List Value) (fs : List Fct), vs.length = fs.length → (∀ (i : Nat) (v : Value) (f : Fct), vs[i]? = some v → fs[i]? = some f → ∃ ka, v = Value.ref ka ∧ KeyAt H ka f) → ∃ us, Vals us vs ∧ KeysAt H us fs := by
    intro vs
    induction vs with
    | nil =>
      intro fs e _
      cases fs with
      | nil => exact ⟨[], .nil, .nil⟩
      | cons f fs => cases e
    | cons v vs ih =>
      intro fs e k
      cases fs with
      | nil => cases e
      | cons f fs =>
        obtain ⟨ka, e1, k1⟩ := k 0 v f rfl rfl
        obtain ⟨us, r1, r2⟩ := ih fs (Nat.succ.inj e) fun i => k (i + 1)
        exact ⟨.ref ka :: us, .cons e1 r1, .cons ⟨ka, rfl, k1⟩ r2⟩
  refine g acc.toList (kvs.map (·.1)) ?_ fun i v f ev ef => ?_
  · rw [Array.length_toList, List.length_map, h1, hs]
  · rw [Array.getElem?_toList] at ev
    obtain ⟨hi, rfl⟩ := h2 i v ev
    obtain ⟨ka, f', v', e1, e2, e3, _⟩ := hat i hi
    rw [List.getElem?_map, e1] at ef
    have ef := Option.some.inj ef
    dsimp only at ef
    subst ef
    exact ⟨ka, e2, e3⟩
/-- list(d) -/
def rListF (P : Program) (w : World) : List V → Hp → VK → Prop := fun vs H Q => ∃ d kvs, vs = [V.ref d] ∧ FD P w H d kvs ∧ ∀ us p, H p = none → KeysAt H us (kvs.map (·.1)) → Q (.ref p) (upd H p (.lst us))
theorem call_listF (hc : X.calm = true) : CallR X (.type "list") (rListF X.prog X.w) := by
  intro pins s σ H vs us Q I r h
  obtain ⟨d, kvs, rfl, ⟨o, F⟩, q⟩ := h
  obtain ⟨u, rfl, ru⟩ := vals1 r
  obtain rfl : u = Value.ref d := ru
  obtain ⟨hd, _⟩ := F.of I.hok
  obtain ⟨es, ep, xs, e1, e2, _⟩ := F.ent
  have hs := (F.at e1).1
  refine PySem.W.kdl_call (PySem.KdlSrc.rawDict F.sys) (I.ok.hd hc) ⟨o, hd, F.exact', e1⟩ (by have := F.len; omega) fun h' tk acc c hk hn hacc => ?_
  obtain ⟨ks, k1, k2⟩ := keys_of F e1 hacc
  refine ⟨.ref s.heap.objs.size, upd H s.heap.objs.size (.lst ks), I.laid (t' := tk) hk (Nat.le_refl _) ?_, rfl, q ks _ (I.hok.fresh (Nat.le_refl _)) k2⟩
  refine ⟨?_, acc.toList, c, k1, ?_⟩
  · have := Paired.length k2
    rw [List.length_map] at this
    have := F.len
    omega
  · rw [Array.toArray_toList]
    exact hn
/-- sorted(d) -/
def rSortF (P : Program) (w : World) : List V → Hp → VK → Prop := fun vs H Q => ∃ d kvs, vs = [V.ref d] ∧ FD P w H d kvs ∧ ∀ us p, H p = none → KeysAt H us (sortF (kvs.map (·.1))) → Q (.ref p) (upd H p (.lst us))
theorem each_paired {α β : Type} {F : α → β → Prop} : ∀ {l : List α} {m : List β}, PySem.W.EachIs F l m → Paired F l m
  | _, _, .nil => .nil
  | _, _, .cons a t => .cons a (each_paired t)
theorem cr_sortF (hc : X.calm = true) (hu : X.A.units + 64 < cLine) : CallR X (.builtin "sorted") (rSortF X.prog X.w) := by
  intro pins s σ H vs us Q I r h
  obtain ⟨d, kvs, rfl, ⟨o, F⟩, q⟩ := h
  obtain ⟨u, rfl, ru⟩ := vals1 r
  obtain rfl : u = Value.ref d := ru
  obtain ⟨hd, _⟩ := F.of I.hok
  obtain ⟨es, ep, xs, e1, e2, _⟩ := F.ent
  have hs := (F.at e1).1
  have hlen := F.len
  refine Calls.call_function_entry PyProof.Rows.kind_sorted PyProof.Rows.plain_sorted PyProof.Rows.entry_sorted (PyProof.Rows.args_sorted1 _) ?_
  unfold Builtin.«sorted»
  refine wpAny_bind (m := checkCount "sorted" 1 1 _) (wpAny_pure ?_)
  refine wpAny_bind (PySem.W.kdu_collect (A := X.A.in1) (PySem.KdlSrc.rawDict F.sys) (I.ok.hd hc) ⟨o, hd, F.exact', e1⟩ (by omega) fun h' tk acc hk hacc => ?_)
  obtain ⟨ks, k1, k2⟩ := keys_of F e1 hacc
  have I1 : Inv X pins σ H { s with heap := h', toks := tk } := I.kept hk
  have hal : acc.toList.length = kvs.length := by rw [Array.length_toList, hacc.1, hs]
  refine wpAny_bind (wpAny_newList ?_ (by omega))
  have hoL : (h'.push (seqObj "list" acc.toList.toArray 0)).get? h'.objs.size = some (seqObj "list" acc.toList.toArray 0) := Heap.get?_push_size _ rfl
  show wpAny _ _ _ _ _ { s with heap := h'.push (seqObj "list" acc.toList.toArray 0), toks := tk }
  have old : ∀ b ob, h'.get? b = some ob → (h'.push (seqObj "list" acc.toList.toArray 0)).get? b = some ob := fun b ob e => Heap.get?_push_of_some _ e
  have each : ∀ {R : Value → Fct → Prop}, (∀ v ka f, KeyAt H ka f → v = .ref ka → R v f) → PySem.W.EachIs R acc.toList (kvs.map (·.1)) := by
    intro R hR
    have g : ∀ {us : List V} {vs : List Value} {fs : List Fct}, Vals us vs → KeysAt H us fs → PySem.W.EachIs R vs fs := by
      intro us vs fs a b
      induction b generalizing vs with
      | nil =>
        cases a
        exact .nil
      | cons x t ih =>
        cases a with
        | cons a1 a2 =>
          obtain ⟨ka, rfl, kk⟩ := x
          exact .cons (hR _ ka _ kk a1) (ih a2)
    exact g k1 k2
  refine wpAny_bind (wpAny_holding ?_)
  refine PySem.W.list_sort_data (s := { s with heap := h'.push (seqObj "list" acc.toList.toArray 0), toks := tk }) (bs := kvs.map (·.1)) (enc := factD) (R := fun v f => ∃ ka, v = Value.ref ka ∧ KeyAt H ka f) hoL
    (each fun v ka f kk e => ⟨ka, e, kk⟩) (each fun v ka f kk e => ⟨[], by rw [e]; exact PyProof.Rows.Reads.keeps old (reads_fact I1.hok kk), List.not_mem_nil⟩) (PySem.W.AllAlike.of alike_facts) (PySem.W.Sortable.tuples fun f => ⟨_, _, rfl⟩) (by rw [List.length_map]; omega)
    (fun f _ => by rw [depth_fact]; show X.A.units + 1 + 1 + 2 < cLine; omega) fun out ho hout => ?_
  obtain ⟨c, hc'⟩ := PyProof.Rows.sortedHeap_at (vs := acc.toList) (out := List.toArray out) hoL
  have back : ∀ {vs : List Value} {fs : List Fct}, PySem.W.EachIs (fun v f => ∃ ka, v = Value.ref ka ∧ KeyAt H ka f) vs fs → ∃ us, Vals us vs ∧ KeysAt H us fs := by
    intro vs fs a
    induction a with
    | nil => exact ⟨[], .nil, .nil⟩
    | cons a t ih =>
      obtain ⟨us, r1, r2⟩ := ih
      obtain ⟨ka, rfl, kk⟩ := a
      exact ⟨.ref ka :: us, .cons rfl r1, .cons ⟨ka, rfl, kk⟩ r2⟩
  obtain ⟨us, u1, u2⟩ := back hout
  have hz : us.length ≤ sizeLine := by
    have h1 := Paired.length u1
    rw [List.length_map] at ho
    omega
  refine wpAny_pure ⟨_, rfl, .ref h'.objs.size, upd H h'.objs.size (.lst us), I1.laid (t' := tk) (fun b u e => ?_) (Nat.le_refl _) ⟨hz, out, c, u1, hc'⟩, rfl, q us _ (I1.hok.fresh (Nat.le_refl _)) u2⟩
  have hb : b < h'.objs.size := Heap.lt_size e
  rw [PyProof.Rows.sortedHeap_old (Nat.ne_of_lt hb) (by rw [size_push']; exact Nat.lt_succ_of_lt hb)]
  exact old _ _ e
end
end YjD
set_option Elab.async false
set_option linter.all false
set_option maxRecDepth 100000
set_option maxHeartbeats 1000000
set_option pp.maxSteps 1500
/-! {fact: value for .. in .. if ..} -/
namespace YjD
open PySem PySem.Spec PyProof.Rows L2
/-- one turn's end: the pair is stored, or there was none -/
def FcEnd (P : Program) (w : World) (D : Addr) (tk tv : TE) (Nx : Hp → Prop) (σ : L2.St) (b : Bool) (H : Hp) : Prop :=
  if b = true then tk σ H fun y H4 => tv σ H4 fun z H5 => ∃ kvs a f, y = .ref a ∧ FD P w H5 D kvs ∧ KeyAt H5 a f ∧ kvs.length < sizeLine ∧ ∀ o', FD P w (upd H5 D o') D (putK kvs f z) → Nx (upd H5 D o') else Nx H
/-- what is left to show of the turns: W says what holds ahead of the i-th -/
def FcTurns (P : Program) (w : World) (D : Addr) (J : It) (g : TG) (tt : TT) (tk tv : TE) (vs : List Nat) (σ : L2.St) (Qd : Hp → Prop) (W : Nat → Nat → Hp → Prop) : Prop :=
  ∀ i m H, W i m H → (J.stop i H ∧ Qd H) ∨ (J.go i H ∧ ∃ Nx : Hp → Prop, (∀ H', Nx H' → ∃ m', m' < m ∧ W (i + 1) m' H') ∧
    ∀ x H', J.yld i H x H' → g x (wipe σ vs) H' fun σ2 H2 => wipe σ2 vs = wipe σ vs ∧ tt σ2 H2 (FcEnd P w D tk tv Nx σ2))
def tFc (P : Program) (w : World) (wi : TI) (g : TG) (tt : TT) (tk tv : TE) (vs : List Nat) : TE := fun σ H Q =>
  wi σ H fun J H1 => ∀ D o0, H1 D = none → FD P w (upd H1 D o0) D [] → ∃ W : Nat → Nat → Hp → Prop, (∃ m, W 0 m (upd H1 D o0)) ∧ FcTurns P w D J g tt tk tv vs σ (Q (.ref D)) W
section
variable {X : Cx} {kx vx tg iter : Expr} {ifs : List Expr} {scope : Scope} {own : List (Str × Nat)} {pos pos' : Pos} {wi : TI} {g : TG} {tt : TT} {tk tv : TE}
/-- the parts of the comprehension, each read in the comprehension's own frame -/
structure FcParts (X : Cx) (scope : Scope) (tg kx vx : Expr) (ifs : List Expr) (g : TG) (tt : TT) (tk tv : TE) : Prop where
  pg : ∀ (s : Shared) (H : Hp) (C : Addr) (cl : List (Str × Addr)) (fp : List Addr), PG (X.blk s H scope (compEnvC scope cl C X.env) fp) tg g
  pt : ∀ (s : Shared) (H : Hp) (C : Addr) (cl : List (Str × Addr)) (fp : List Addr), PTs (X.blk s H scope (compEnvC scope cl C X.env) fp) ifs tt
  pk : ∀ (s : Shared) (H : Hp) (C : Addr) (cl : List (Str × Addr)) (fp : List Addr), PE (X.blk s H scope (compEnvC scope cl C X.env) fp) kx tk
  pv : ∀ (s : Shared) (H : Hp) (C : Addr) (cl : List (Str × Addr)) (fp : List Addr), PE (X.blk s H scope (compEnvC scope cl C X.env) fp) vx tv
/-- the loop, in its frame B: from W at the start to Qd at the end -/
theorem fc_loop {B : Cx} {pins : List (Addr × Obj)} {J : It} {fp : List Addr} {it D C : Addr} {tn : Nat → Heap → Prop} {W : Nat → Nat → Hp → Prop} {σ : L2.St} {Qd : Hp → Prop} {R : Result → Shared → Prop} {ce : Env} {vs : List Nat} {s3 : Shared} {H3 : Hp}
    (hB : B = X.blk s3 H3 scope ce fp) (hc : X.calm = true) (hu : X.A.units + 64 < cLine) (T : Turn X.prog X.w X.K tg J fp it tn) (pg : PG B tg g) (pt : PTs B ifs tt) (pk : PE B kx tk) (pv : PE B vx tv)
    (turns : FcTurns X.prog X.w D J g tt tk tv vs σ Qd W)
    (hx : ∀ {σ' : L2.St} {H' : Hp} {s' : Shared}, Inv B [] σ' H' s' → (∀ b ∈ fp, H' b = none) → ∀ b ∈ fp, FpOk B [] H' b) (hend : ∀ s' H', Inv B [] (wipe σ vs) H' s' → Qd H' → R (.ok .next) s')
    {n : Nat} {s4 : Shared} {H4 : Hp} (I4 : Inv B [] (wipe σ vs) H4 s4) (st4 : tn 0 s4.heap) (n4 : ∀ b ∈ fp, H4 b = none) (w4 : W 0 n H4) :
    codeAny (model X.prog X.w) X.A (.compLoop (.DictComp kx vx [⟨tg, iter, ifs, 0⟩] scope pos) 0 (.ref it) (.ref D) ce) R s4 := by
  subst hB
  refine L2.compLoop_anyD (fun n s' => ∃ i H', Inv (X.blk s3 H3 scope ce fp) [] (wipe σ vs) H' s' ∧ tn i s'.heap ∧ (∀ b ∈ fp, H' b = none) ∧ W i n H') (fun n s5 z => ?_) n ⟨0, H4, I4, st4, n4, w4⟩
  obtain ⟨i, H5, I5, st5, n5, w5⟩ := z
  rcases turns i n H5 w5 with ⟨stop, qd⟩ | ⟨go, Nx, hNx, step⟩
  · refine thnF (T.done (X.blk s3 H3 scope ce fp) rfl rfl rfl hc i [] s5 _ H5 (fun _ _ => False) I5 (hx I5 n5) st5 stop) ?_
    rintro r s6 ⟨rfl, I6⟩
    exact hend s6 H5 I6 qd
  refine thnF (T.item (X.blk s3 H3 scope ce fp) rfl rfl rfl hc i [] s5 _ H5 (fun _ _ => False) I5 (hx I5 n5) st5 go) ?_
  rintro r s6 ⟨u, rfl, h6⟩
  refine thnF h6 ?_
  rintro _ s7 ⟨x, H7, I7, r7, y7, st7, n7⟩
  have P7 := I7.pinned (hx I7 n7) (T.obj _ _ st7)
  refine thnF (pg.run _ s7 _ H7 x u _ P7 r7 (step x H7 y7)) ?_
  rintro _ s8 ⟨σ8, H8, I8, hw, q8⟩
  refine thnF (pt.run _ s8 σ8 H8 _ I8 q8) ?_
  rintro b s9 ⟨H9, I9, q9⟩
  have ended : ∀ {s' : Shared} {H' : Hp}, Inv (X.blk s3 H3 scope ce fp) ([] ++ pinsAt fp s7.heap) σ8 H' s' → Nx H' →
      ∃ m, m < n ∧ ∃ i H', Inv (X.blk s3 H3 scope ce fp) [] (wipe σ vs) H' s' ∧ tn i s'.heap ∧ (∀ b ∈ fp, H' b = none) ∧ W i m H' := by
    intro s' H' J' nx
    obtain ⟨m', hm, w'⟩ := hNx H' nx
    have still : ∀ b ∈ fp, ∀ o, s7.heap.get? b = some o → s'.heap.get? b = some o ∧ H' b = none := by
      intro b hb o e
      have z := J'.pin (b, o) (List.mem_append_right _ (List.mem_append_right _ (mem_pinsAt hb e)))
      exact ⟨z.1, z.2.1⟩
    refine ⟨m', hm, i + 1, H', (J'.unpinned (pins := [])).weak (by rw [← hw, wipe_length]) (fun j v e => ?_), T.keep _ _ _ st7 fun b hb o e => (still b hb o e).1, fun b hb => ?_, w'⟩
    · rw [← hw] at e
      exact (wipe_some e).1
    · obtain ⟨o, e, _⟩ := T.obj _ _ st7 b hb
      exact (still b hb o e).2
  unfold FcEnd at q9
  cases b with
  | false => exact ended I9 q9
  | true =>
    refine thnF (pk.run _ s9 σ8 H9 _ I9 q9) ?_
    rintro zk s10 ⟨yk, H10, I10, r10, q10⟩
    refine thnF (pv.run _ s10 σ8 H10 _ I10 q10) ?_
    rintro zv s11 ⟨yv, H11, I11, r11, kvs, a, f, rfl, F11, K11, hl, nx⟩
    obtain rfl : zk = Value.ref a := r10
    obtain ⟨xs, rr, DD⟩ := F11.of I11.hok
    have e := Paired.length rr
    refine wpAny_dictSet_heap (hsz := by omega) (by show X.A.units + 8 < cLine; omega) (fact_is I11.hok K11) DD fun h' D' hs => ?_
    obtain ⟨o', I', F'⟩ := FD.stored (X := X.blk s3 H3 scope ce fp) (t' := s11.toks + (nestedKind X.prog X.w).draws (keyF f)) I11 F11 K11 r11 hl rr D' hs
    exact ended I' (nx o' F')
/-- up to the loop: the new dict, the comprehension's own frame -/
theorem fc_core {pins : List (Addr × Obj)} {s : Shared} {σ : L2.St} {H : Hp} {Q : VK} {use : Option (Value → Sem Unit)} {Qf : Value → Shared → Prop}
    (hc : X.calm = true) (hu : X.A.units + 64 < cLine) (hN : X.N.Nodup) (I : Inv X pins σ H s) (hi : PI X tg iter wi) (ok : BlkOk X.N X.env.scope scope own) (G : FcParts X scope tg kx vx ifs g tt tk tv)
    (hs : ∀ x, foldedSetIterable iter X.env x = pure x) (h : tFc X.prog X.w wi g tt tk tv (own.map (·.2)) σ H Q)
    (hRR : ∀ D C s' m H', Inv X pins σ H' s' → Q (.ref D) H' → s'.heap.Ns C m → FpOk X pins H' C → compPost (model X.prog X.w) X.A X.xe use Qf (.ref D) C (.ok .next) s') :
    wpAny (model X.prog X.w) X.A (comprehension (.DictComp kx vx [⟨tg, iter, ifs, 0⟩] scope pos) scope X.env pos' newDict false (eval iter X.env) use) Qf X.xe s := by
  have bound : ∀ y ∈ scope.names, y.2 = .free → ∃ c, X.env.cells.lookup y.1 = some c := by
    intro y hy e
    rcases ok.free y hy e with k | k
    · exact I.ok.has _ (.inl k)
    · exact I.ok.has _ (.inr k)
  have walked := thn (hi.run pins s σ H _ I h) (Q' := fun v s1 => wpAny (model X.prog X.w) X.A (pyIter v) (PIE X pins σ tg (fun J H1 => ∀ D o0, H1 D = none → FD X.prog X.w (upd H1 D o0) D [] → ∃ W : Nat → Nat → Hp → Prop, (∃ m, W 0 m (upd H1 D o0)) ∧ FcTurns X.prog X.w D J g tt tk tv (own.map (·.2)) σ (Q (.ref D)) W)) X.xe s1) fun _ _ z => z
  refine wpAny_comprehension_free (use := use) rfl hs (closure_ok bound) ok.kind (fun y hy e => by rw [ok.uniq y hy, e]) (thn walked fun xv s1 hx => thn hx fun itv s2 h2 => ?_)
  obtain ⟨it, fp, tn, J, H2, rfl, I2, T, st2, f2, q⟩ := h2
  have fresh : H2 s2.heap.objs.size = none := I2.hok.fresh (Nat.le_refl _)
  obtain ⟨W, ⟨m0, w0⟩, turns⟩ := q _ _ fresh (fd_empty I2.big)
  have I3 : Inv X pins σ (upd H2 s2.heap.objs.size (obO s2.heap.objs.size newO)) { s2 with heap := s2.heap.push newO } :=
    I2.laid (t' := s2.toks) (fun _ _ e => Heap.get?_push_of_some _ e) (Nat.le_refl _) (ob_new (Heap.get?_push_size _ rfl))
  have old : ∀ b ∈ fp, b < s2.heap.objs.size := by
    intro b hb
    obtain ⟨o, e, _⟩ := T.obj _ _ st2 b hb
    exact Heap.lt_size e
  have f3 : ∀ b ∈ fp, FpOk X pins (upd H2 s2.heap.objs.size (obO s2.heap.objs.size newO)) b ∧ b < (s2.heap.push newO).objs.size := by
    intro b hb
    have lt := old b hb
    refine ⟨⟨?_, (f2 b hb).2⟩, by rw [Heap.size_push]; exact Nat.lt_succ_of_lt lt⟩
    rw [upd_ne (Nat.ne_of_lt lt)]
    exact (f2 b hb).1
  have st3 : tn 0 (s2.heap.push newO) := T.keep _ _ _ st2 fun b _ o e => Heap.get?_push_of_some _ e
  refine wpAny_newObj_type (newEnv_comp ?_)
  show codeAny _ _ (.compStart (.DictComp kx vx [⟨tg, iter, ifs, 0⟩] scope pos) 0 (.ref it) (.ref s2.heap.objs.size) (compEnvC scope (cellsFrom ((s2.heap.push newO).objs.size + 1) scope.names (cloFrom X.env.cells scope.names [])) (s2.heap.push newO).objs.size X.env))
    (compPost (model X.prog X.w) X.A X.xe use Qf (.ref s2.heap.objs.size) (s2.heap.push newO).objs.size) { s2 with heap := pushCells ((s2.heap.push newO).push { cls := .type "dict", data := .dict #[] }) scope.names }
  generalize hs3 : ({ s2 with heap := s2.heap.push newO } : Shared) = s3 at I3
  have h3 : s3.heap = s2.heap.push newO := by rw [← hs3]
  rw [← h3] at f3 st3 ⊢
  generalize s2.heap.objs.size = D at *
  generalize hH3 : upd H2 D (obO D newO) = H3 at I3 f3 w0
  have I4 := block_start I3 ok hN f3
  have pg := G.pg s3 H3 s3.heap.objs.size (cellsFrom (s3.heap.objs.size + 1) scope.names (cloFrom X.env.cells scope.names [])) fp
  have pt := G.pt s3 H3 s3.heap.objs.size (cellsFrom (s3.heap.objs.size + 1) scope.names (cloFrom X.env.cells scope.names [])) fp
  have pk := G.pk s3 H3 s3.heap.objs.size (cellsFrom (s3.heap.objs.size + 1) scope.names (cloFrom X.env.cells scope.names [])) fp
  have pv := G.pv s3 H3 s3.heap.objs.size (cellsFrom (s3.heap.objs.size + 1) scope.names (cloFrom X.env.cells scope.names [])) fp
  generalize hce : compEnvC scope (cellsFrom (s3.heap.objs.size + 1) scope.names (cloFrom X.env.cells scope.names [])) s3.heap.objs.size X.env = ce at I4 pg pt pk pv ⊢
  have cL : ce.locals = s3.heap.objs.size := by
    rw [← hce]
    rfl
  have e4 : ({ s2 with heap := pushCells (s3.heap.push { cls := .type "dict", data := .dict #[] }) scope.names } : Shared) = { s3 with heap := pushCells (s3.heap.push { cls := .type "dict", data := .dict #[] }) scope.names } := by rw [← hs3]
  rw [e4]
  have st4 : tn 0 (pushCells (s3.heap.push { cls := .type "dict", data := .dict #[] }) scope.names) := T.keep _ _ _ st3 fun b _ o e => pushCells_keeps _ _ _ _ (Heap.get?_push_of_some _ e)
  have mine : ∀ {σ' : L2.St} {H' : Hp} {s' : Shared}, Inv (X.blk s3 H3 scope ce fp) [] σ' H' s' → (∀ b ∈ fp, H' b = none) → ∀ b ∈ fp, FpOk (X.blk s3 H3 scope ce fp) [] H' b := by
    intro σ' H' s' J' n b hb
    exact ⟨n b hb, (J'.ok.exf b hb).1, J'.ok.exfs b hb, .inl hb, fun x c e => (J'.ok.exf b hb).2 x c e, fun p hp => nomatch (show p ∈ ([] : List (Addr × Obj)) ++ [] from hp)⟩
  have out : ∀ s' H', Inv (X.blk s3 H3 scope ce fp) [] (wipe σ (own.map (·.2))) H' s' → Q (.ref D) H' → compPost (model X.prog X.w) X.A X.xe use Qf (.ref D) s3.heap.objs.size (.ok .next) s' := by
    intro s' H' J' qd
    have back : Inv X pins σ H' s' := I3.call' (ch := fp) J'.os J'.base J'.hok J'.bare fun b hb => ⟨(f3 b hb).1.2.2.2.1, (f3 b hb).1.2.1, (f3 b hb).1.2.2.2.2.1, (f3 b hb).1.2.2.2.2.2⟩
    have nC : H' s3.heap.objs.size = none := by
      have z : H' ce.locals = none := J'.free
      rw [cL] at z
      exact z
    obtain ⟨m, hn, _⟩ := J'.loc
    have hn : s'.heap.Ns ce.locals m := hn
    rw [cL] at hn
    exact hRR D _ s' m H' back qd hn (I3.fpOk (Nat.le_refl _) nC)
  have loop := fc_loop (C := s3.heap.objs.size) (pins := pins) (kx := kx) (vx := vx) (tg := tg) (iter := iter) (ifs := ifs) (scope := scope) (pos := pos) (D := D) (it := it) rfl hc hu T pg pt pk pv turns mine out I4 st4 (fun b hb => (f3 b hb).1.1) w0
  exact codeAny_compStart_dict loop (T.self X.A 0 _ _ _ st4 loop)
/-- as a value -/
theorem pe_fc (hc : X.calm = true) (hu : X.A.units + 64 < cLine) (hN : X.N.Nodup) (hi : PI X tg iter wi) (ok : BlkOk X.N X.env.scope scope own) (G : FcParts X scope tg kx vx ifs g tt tk tv) (hs : ∀ x, foldedSetIterable iter X.env x = pure x := by intro _; rfl) :
    PE X (.DictComp kx vx [⟨tg, iter, ifs, 0⟩] scope pos) (tFc X.prog X.w wi g tt tk tv (own.map (·.2))) := by
  refine ⟨fun pins s σ H Q I h => ?_⟩
  rw [arm_eval_DictComp]
  refine fc_core hc hu hN I hi ok G hs h fun D C s' m H' J q hn f => ⟨m, hn, fun h'' sb => ?_⟩
  obtain ⟨f0, f1, f2, f3, f4, f5⟩ := f
  exact ⟨.ref D, H', J.turned (t' := s'.toks) (fun b o hb e => (sb.2 b hb).trans e) f0 f1 f3 f4 f5, rfl, q⟩
/-- the turns of a comprehension over a walk, by what holds ahead of each -/
theorem fc_it {J : It} {n : Nat} {Gd : Hp → Prop} {Y : Nat → Hp → V → Hp → Prop} (w : Walk J n Gd Y) {P : Program} {wd : World} {vs : List Nat} {σ : L2.St} {H1 : Hp} {D : Addr} {Qd : Hp → Prop} (Pv : Nat → Hp → Prop) (h0 : Pv 0 H1) (hG : ∀ i H, i ≤ n → Pv i H → Gd H)
    (hs : ∀ i x H H', i < n → Pv i H → Y i H x H' → g x (wipe σ vs) H' fun σ2 H2 => wipe σ2 vs = wipe σ vs ∧ tt σ2 H2 (FcEnd P wd D tk tv (Pv (i + 1)) σ2)) (hd : ∀ H, Pv n H → Qd H) :
    ∃ W : Nat → Nat → Hp → Prop, (∃ m, W 0 m H1) ∧ FcTurns P wd D J g tt tk tv vs σ Qd W := by
  refine ⟨fun i m H => m = n - i ∧ i ≤ n ∧ Pv i H, ⟨n, rfl, Nat.zero_le _, h0⟩, ?_⟩
  rintro i m H ⟨rfl, hi, p⟩
  have gd := hG i H hi p
  by_cases lt : i < n
  · refine .inr ⟨w.1 i H lt gd, Pv (i + 1), fun H' p' => ⟨n - (i + 1), by omega, rfl, lt, p'⟩, fun x H' y => ?_⟩
    exact hs i x H H' lt p (w.3 i H x H' lt gd y)
  · have e : i = n := by omega
    subst e
    exact .inl ⟨w.2 H gd, hd H p⟩
end
end YjD
set_option Elab.async false
set_option linter.all false
set_option maxRecDepth 100000
set_option maxHeartbeats 1000000
set_option pp.maxSteps 1500
/-! name = {fact: value for ..}; == of dicts of facts. -/
namespace YjD
open PySem PySem.Spec PyProof.Rows L2
section
variable {X : Cx} {kx vx tg iter : Expr} {ifs : List Expr} {scope : Scope} {own : List (Str × Nat)} {pos spos py : Pos} {wi : TI} {g : TG} {tt : TT} {tk tv : TE} {i : Nat} {y : Str}
theorem ps_setFc (hc : X.calm = true) (hu : X.A.units + 64 < cLine) (hN : X.N.Nodup) (hy : X.N[i]? = some y) (hyl : X.env.scope.names.lookup y = some .local)
    (hsw : swapsWith (.DictComp kx vx [⟨tg, iter, ifs, 0⟩] scope pos) (some (.Name y py)) spos.line X.env = pure true) (hi : PI X tg iter wi) (ok : BlkOk X.N X.env.scope scope own) (G : FcParts X scope tg kx vx ifs g tt tk tv)
    (hs : ∀ x, foldedSetIterable iter X.env x = pure x := by intro _; rfl) :
    PS X (.Assign [.Name y py] (.DictComp kx vx [⟨tg, iter, ifs, 0⟩] scope pos) spos) (tAsg (tFc X.prog X.w wi g tt tk tv (own.map (·.2))) (gName i)) := by
  refine ⟨fun pins s σ H D I h => ?_⟩
  have h0 : tFc X.prog X.w wi g tt tk tv (own.map (·.2)) σ H (fun x H1 => gName i x σ H1 D.nx) := h
  have stored : ∀ L C s' m H', Inv X pins σ H' s' → gName i (V.ref L) σ H' D.nx → s'.heap.Ns C m → FpOk X pins H' C →
      compPost (model X.prog X.w) X.A X.xe (some (assign (.Name y py) X.env)) (fun _ s' => SP X pins D .next s') (.ref L) C (.ok .next) s' := by
    intro L C s' m H' J q hn f
    obtain ⟨f0, f1, f2, f3, f4, f5⟩ := f
    show wpAny _ _ (assign (.Name y py) X.env (.ref L)) _ _ _
    refine wpAny_assign_Name (store_ok2 (v := V.ref L) J hN hy (.inl hyl) rfl (fun s2 I2 z => ?_) (.inr hyl))
    obtain ⟨a, sb, ha⟩ := z
    have apart : C ≠ a := by
      rcases ha with z | z
      · rw [z]
        exact f1
      · exact fun e => f4 y a z e.symm
    refine ⟨m, hn.sameBut sb apart, fun h3 sb3 => ?_⟩
    exact ⟨_, H', I2.turned (t' := s2.toks) (fun b o hb e => (sb3.2 b hb).trans e) f0 f1 f3 f4 f5, q⟩
  rw [exec_Assign_Name_used _ _ _ _ hsw]
  refine wpAny_bind (wpAny_standAt (wpAny_bind ?_))
  refine wpAny_bind (thn (fc_core (use := some (assign (.Name y py) X.env)) (pos' := firstIterPos [⟨tg, iter, ifs, 0⟩] pos) hc hu hN I hi ok G hs h0 stored) fun _ s' hq => ?_)
  exact wpAny_pure (wpAny_pure hq)
theorem sw_dc {env : Env} {l : Nat} (kd : env.scope.kind = .function) (lo : env.scope.names.lookup y = some .local) (ln : (py.line == pos.line) = true)
    (no : (scope.names.any fun (n, k) => n == y && (k == .local || k == .cell)) = false) : swapsWith (.DictComp kx vx [⟨tg, iter, ifs, 0⟩] scope pos) (some (.Name y py)) l env = pure true := by
  have k1 : env.kindOf y = some .local := lo
  have k2 : env.blockKind = .function := by
    unfold Env.blockKind
    rw [kd]
    rfl
  unfold swapsWith
  simp only [k2, k1, no, Expr.pos, ln]
  rfl
end
end YjD
set_option Elab.async false
set_option linter.all false
set_option maxRecDepth 100000
set_option maxHeartbeats 1000000
set_option pp.maxSteps 1500
/-! == of dicts of facts. -/
namespace YjD
open PySem PySem.Spec PyProof.Rows L2
section
variable {prog : Program} {w : World} {A : Around} {E : Value → Shared → Prop} {s : Shared} {T : Type} [DecidableEq T] {knd : HeapKind prog w T}
/-- all pairs of one are the other's: e tells of each key whether both values are equal -/
def allIn (xb : List (T × Addr × Value)) (e : T → Bool) (xa : List (T × Addr × Value)) : Bool := xa.all fun x => (atKey xb x.1).isSome && e x.1
theorem pairs_facts {nm : String} {a b : Addr} {xa xb : List (T × Addr × Value)} {e : T → Bool} {Q : Bool → Shared → Prop} (ha : (a == sysModules) = false) (hb : (b == sysModules) = false) (hu : knd.room A) (da : s.heap.DictOfH knd a xa) (db : s.heap.DictOfH knd b xb)
    (eq : ∀ x ∈ xa, ∀ p, atKey xb x.1 = some p → SeqAt.EqP prog w A s x.2.2 p.2 (e x.1)) (h : Q (xa.length == xb.length && allIn xb e xa) s) : wpAny (model prog w) A (Builtin.Dict.samePairs nm a b) Q E s := by
  obtain ⟨oa, es, ep, hoa, _, hda, hea, hia, hna⟩ := da
  obtain ⟨ob, es', ep', hob, _, hdb, heb, hib, hnb⟩ := db
  have la := size_of_entries hea
  have lb := size_of_entries heb
  rw [← la, ← lb] at h
  unfold Builtin.Dict.samePairs Builtin.Dict.showsAll
  rw [if_neg (by rw [ha]; exact Bool.false_ne_true), if_neg (by rw [hb]; exact Bool.false_ne_true)]
  refine wpAny_bind (wpAny_pure (wpAny_bind (wpAny_pure (wpAny_bind (wpAny_dictEntries hoa hda ?_)))))
  dsimp only
  refine wpAny_bind (wpAny_dictEntries hob hdb ?_)
  by_cases hsz : es.size = es'.size
  case neg =>
    rw [if_pos (by simpa using hsz)]
    rw [show (es.size == es'.size) = false by simpa using hsz, Bool.false_and] at h
    exact wpAny_bind (wpAny_rule (wpAny_pure h))
  rw [show (es.size == es'.size) = true by simpa using hsz, Bool.true_and] at h
  rw [if_neg (by rw [hsz]; simp)]
  refine wpAny_bind (wpAny_dictEpoch hoa hda (wpAny_bind ?_))
  rw [Std.Legacy.Range.forIn_eq_forIn_range']
  simp only [Std.Legacy.Range.size, Nat.sub_zero, Nat.add_sub_cancel, Nat.div_one]
  have cut : ∀ {x i : Nat} {rest : List Nat}, x :: rest = List.range' i (es.size - i) → i < es.size ∧ x = i ∧ rest = List.range' (i + 1) (es.size - (i + 1)) := by
    intro x i rest hr
    have lt : i < es.size := by
      rcases Nat.lt_or_ge i es.size with z | z
      · exact z
      · rw [Nat.sub_eq_zero_of_le z] at hr
        cases hr
    rw [show es.size - i = (es.size - (i + 1)) + 1 by omega, List.range'_succ] at hr
    injection hr with h1 h2
    exact ⟨lt, h1, h2⟩
  refine wpAny_forIn_list _ (fun rest q s' => s' = s ∧ q = (none, ()) ∧ ∃ i, rest = List.range' i (es.size - i) ∧ i ≤ es.size ∧ Q (allIn xb e (xa.drop i)) s) _ ?_ ?_ _ _ ⟨rfl, rfl, 0, by simp, Nat.zero_le _, h⟩
  · rintro x rest q s' ⟨rfl, rfl, i, hr, hi, hq⟩
    obtain ⟨lt, rfl, hrest⟩ := cut hr
    have lt' : x < xa.length := by omega
    have hx : xa[x]? = some xa[x] := List.getElem?_eq_getElem lt'
    have ent := entry_at hea x
    rw [Array.getElem?_eq_getElem lt, hx, Option.map_some] at ent
    have ent := Option.some.inj ent
    rw [List.drop_eq_getElem_cons lt'] at hq
    have memx : xa[x] ∈ xa := List.getElem_mem lt'
    refine wpAny_bind (wpAny_dictEntries hoa hda ?_)
    rw [Array.getElem?_eq_getElem lt]
    show wpAny _ _ (holding [es[x].key, es[x].val] _ >>= _) _ _ _
    rw [ent]
    generalize xa[x] = y at hq memx
    have step : ∀ p, atKey xb y.1 = some p → SeqAt.EqP prog w A s' y.2.2 p.2 (e y.1) := eq y memx
    refine wpAny_bind (wpAny_holding (wpAny_bind ?_))
    show wpAny _ _ (dictFind b (.ref y.2.1) (knd.hash y.1)) _ _ _
    refine wpAny_dictFind_heap hu (hia y memx) hob hdb heb hib hnb (fun hno => ?_) (fun j p hj => ?_)
    · refine wpAny_pure ?_
      show wpAny _ _ (if (!false) = true then _ else _) _ _ _
      rw [if_pos (by decide)]
      have z : allIn xb e (y :: xa.drop (x + 1)) = false := by
        show ((atKey xb y.1).isSome && e y.1 && _) = false
        rw [atKey_none_of_get hno]
        rfl
      rw [z] at hq
      exact wpAny_pure (wpAny_pure hq)
    · have hp := atKey_of_get hnb hj
      refine wpAny_bind (wpAny_dictEntries hob hdb ?_)
      have ent2 := entry_at heb j
      rw [hj, Option.map_some] at ent2
      rw [ent2]
      refine wpAny_holding (step p hp _ _ ?_)
      have z : allIn xb e (y :: xa.drop (x + 1)) = (e y.1 && allIn xb e (xa.drop (x + 1))) := by
        show ((atKey xb y.1).isSome && e y.1 && _) = _
        rw [hp]
        rfl
      rw [z] at hq
      cases ee : e y.1 with
      | false =>
        rw [ee, Bool.false_and] at hq
        show wpAny _ _ (if (!false) = true then _ else _) _ _ _
        rw [if_pos (by decide)]
        exact wpAny_pure (wpAny_pure hq)
      | true =>
        rw [ee, Bool.true_and] at hq
        show wpAny _ _ (if (!true) = true then _ else _) _ _ _
        rw [if_neg (by decide)]
        refine wpAny_bind (wpAny_dictEpoch hoa hda ?_)
        rw [if_neg (by simp)]
        exact wpAny_pure ⟨rfl, rfl, x + 1, hrest, lt, hq⟩
  · rintro q s' ⟨rfl, rfl, i, hr, hi, hq⟩
    have full : i = es.size := by
      rcases Nat.lt_or_ge i es.size with z | z
      · rw [show es.size - i = (es.size - (i + 1)) + 1 by omega, List.range'_succ] at hr
        cases hr
      · exact Nat.le_antisymm hi z
    refine wpAny_pure ?_
    rw [full, la, List.drop_length] at hq
    exact hq
/-- what == and != answer, whichever it is -/
theorem cmp_facts {a b : Addr} {xa xb : List (T × Addr × Value)} {e : T → Bool} {Q : Value → Shared → Prop} (ha : (a == sysModules) = false) (hb : (b == sysModules) = false) (hr : knd.room A.in1) (hu : A.units < cLine) (da : s.heap.DictOfH knd a xa) (db : s.heap.DictOfH knd b xb)
    (eq : ∀ x ∈ xa, ∀ p, atKey xb x.1 = some p → SeqAt.EqP prog w A.in1 s x.2.2 p.2 (e x.1)) :
    (Q (.bool (xa.length == xb.length && allIn xb e xa)) s → wpAny (model prog w) A (compareOp .Eq (.ref a) (.ref b)) Q E s) ∧
    (Q (.bool (!(xa.length == xb.length && allIn xb e xa))) s → wpAny (model prog w) A (compareOp .NotEq (.ref a) (.ref b)) Q E s) := by
  constructor
  · intro h
    refine wpAny_richCompare_same_room (op := .Eq) da.typeIs db.typeIs PySem.F.slot_dict_eq (wpAny_call_entry PySem.F.slot_dict_eq da.typeIs PySem.F.entry_dict_eq ?_ (PySem.F.args_dict_eq_2 _ _)) hu
    show wpAny _ _ (Builtin.Dict.dictSlotArgs "__eq__" ⟨[.ref a, .ref b], []⟩ >>= _) _ _ s
    unfold Builtin.Dict.dictSlotArgs
    refine wpAny_bind (wpAny_bind (wpAny_notOrdered_dict da.typeIs ?_))
    show wpAny _ _ (pure (Value.ref a, Value.ref b)) _ _ s
    refine wpAny_pure (wpAny_bind (wpAny_isInstance (T := "dict") db.typeIs PySem.F.sub_dict_dict ?_))
    simp only [Bool.not_true, Bool.false_eq_true, if_false]
    refine wpAny_bind (wpAny_pure (wpAny_bind (wpAny_pure (wpAny_bind (pairs_facts ha hb hr da db eq ?_)))))
    exact wpAny_pure ⟨_, rfl, (fun x => nomatch x), by simpa using h⟩
  · intro h
    refine wpAny_richCompare_same_room (op := .NotEq) da.typeIs db.typeIs PySem.F.slot_dict_ne (wpAny_call_entry PySem.F.slot_dict_ne da.typeIs PySem.F.entry_dict_ne ?_ (PySem.F.args_dict_ne_2 _ _)) hu
    show wpAny _ _ (Builtin.Dict.dictSlotArgs "__ne__" ⟨[.ref a, .ref b], []⟩ >>= _) _ _ s
    unfold Builtin.Dict.dictSlotArgs
    refine wpAny_bind (wpAny_bind (wpAny_notOrdered_dict da.typeIs ?_))
    show wpAny _ _ (pure (Value.ref a, Value.ref b)) _ _ s
    refine wpAny_pure (wpAny_bind (wpAny_isInstance (T := "dict") db.typeIs PySem.F.sub_dict_dict ?_))
    simp only [Bool.not_true, Bool.false_eq_true, if_false]
    refine wpAny_bind (wpAny_pure (wpAny_bind (wpAny_pure (wpAny_bind (pairs_facts ha hb hr da db eq ?_)))))
    exact wpAny_pure ⟨_, rfl, (fun x => nomatch x), by simpa using h⟩
end
theorem room128 {k : Nat} {A : Around} (r : Room k A) : A.units + 128 < cLine := by
  have := r.un
  omega
/-- whether two dicts of facts are equal, their values by data -/
def eqF (ka kb : List (Fct × V)) (da db : Fct → PyData) : Bool := ka.length == kb.length && ka.all fun p => (valV kb p.1).isSome && PyData.eqv (da p.1) (db p.1)
/-- the values of a dict of facts, as data -/
def DataF (K : PySem.W.Frag) (H : Hp) (ka : List (Fct × V)) (da : Fct → PyData) : Prop := ∀ p ∈ ka, Dp K H p.2 (da p.1) ∧ SeqAt.shaped (da p.1) = true
def rEqF (P : Program) (w : World) (K : PySem.W.Frag) (neg : Bool) : R2 := fun x y H Q => ∃ a b ka kb da db, x = .ref a ∧ y = .ref b ∧ FD P w H a ka ∧ FD P w H b kb ∧ DataF K H ka da ∧ DataF K H kb db ∧ Q (.bl (if neg then !eqF ka kb da db else eqF ka kb da db)) H
theorem valV_in {ka : List (Fct × V)} {f : Fct} {v : V} (h : valV ka f = some v) : (f, v) ∈ ka := by
  induction ka with
  | nil => cases h
  | cons p ps ih =>
    by_cases e : p.1 = f
    · rw [valV_pos e] at h
      have h := Option.some.inj h
      rw [← e, ← h]
      exact List.mem_cons_self ..
    · rw [valV_neg e] at h
      exact List.mem_cons_of_mem _ (ih h)
theorem FR.mem {H : Hp} {kvs : List (Fct × V)} {xs : List (NestedKey × Addr × Value)} (r : FR H kvs xs) : ∀ x ∈ xs, ∃ p ∈ kvs, keyF p.1 = x.1 ∧ RelV p.2 x.2.2 := by
  induction r with
  | nil =>
    intro x hx
    cases hx
  | cons a t ih =>
    intro x hx
    rcases List.mem_cons.mp hx with e | hx
    · rw [e]
      exact ⟨_, List.mem_cons_self .., a.1, a.2.2⟩
    · obtain ⟨p, hp, h⟩ := ih x hx
      exact ⟨p, List.mem_cons_of_mem _ hp, h⟩
theorem allIn_facts {H : Hp} {ka kb : List (Fct × V)} {xa xb : List (NestedKey × Addr × Value)} {e : NestedKey → Bool} (ra : FR H ka xa) (rb : FR H kb xb) : allIn xb e xa = ka.all fun p => (valV kb p.1).isSome && e (keyF p.1) := by
  induction ra with
  | nil => rfl
  | @cons p q ps qs a t ih =>
    show ((atKey xb q.1).isSome && e q.1 && allIn xb e qs) = ((valV kb p.1).isSome && e (keyF p.1) && ps.all _)
    have z := (rb.val p.1).isSome_eq
    rw [Option.isSome_map] at z
    rw [ih, ← a.1, z]
open Classical in
theorem cmp_F {X : Cx} {pins : List (Addr × Obj)} {σ : L2.St} {H : Hp} {s : Shared} (hu : X.A.units + 128 < cLine) (I : Inv X pins σ H s) {a b : Addr} {ka kb : List (Fct × V)} {da db : Fct → PyData} {Q : Value → Shared → Prop} (Fa : FD X.prog X.w H a ka) (Fb : FD X.prog X.w H b kb) (Da : DataF X.K H ka da) (Db : DataF X.K H kb db) :
    (Q (.bool (eqF ka kb da db)) s → wpAny (model X.prog X.w) X.A (compareOp .Eq (.ref a) (.ref b)) Q X.xe s) ∧ (Q (.bool (!eqF ka kb da db)) s → wpAny (model X.prog X.w) X.A (compareOp .NotEq (.ref a) (.ref b)) Q X.xe s) := by
  obtain ⟨xa, ra, A1⟩ := Fa.of I.hok
  obtain ⟨xb, rb, B1⟩ := Fb.of I.hok
  obtain ⟨e, he⟩ : ∃ e : NestedKey → Bool, ∀ f, e (keyF f) = PyData.eqv (da f) (db f) := by
    refine ⟨fun k => if h : ∃ f, keyF f = k then PyData.eqv (da h.choose) (db h.choose) else false, fun f => ?_⟩
    have h : ∃ g, keyF g = keyF f := ⟨f, rfl⟩
    dsimp only
    rw [dif_pos h, keyF_inj h.choose_spec]
  have e1 : (xa.length == xb.length && allIn xb e xa) = eqF ka kb da db := by
    unfold eqF
    rw [allIn_facts ra rb, Paired.length ra, Paired.length rb]
    congr 1
    refine congrArg _ (funext fun p => ?_)
    rw [he]
  rw [← e1]
  refine cmp_facts Fa.sys Fb.sys (by show X.A.units + 1 + 8 < cLine; omega) (by omega) A1 B1 fun x hx p hp => ?_
  obtain ⟨q, hq, k1, r1⟩ := ra.mem x hx
  have z := rb.val q.1
  rw [k1, hp] at z
  obtain ⟨v, hv, r2⟩ : ∃ v, valV kb q.1 = some v ∧ RelV v p.2 := by
    cases ev : valV kb q.1 with
    | none =>
      rw [ev] at z
      exact z.elim
    | some v =>
      rw [ev] at z
      exact ⟨v, rfl, z⟩
  obtain ⟨d1, s1⟩ := Da q hq
  obtain ⟨d2, s2⟩ := Db _ (valV_in hv)
  obtain ⟨as, w1⟩ := Dp.reads I _ q.2 _ d1 r1
  obtain ⟨bs, w2⟩ := Dp.reads I _ v _ d2 r2
  rw [← k1, he]
  exact (PySem.W.keq_at (A := X.A) w1 w2 s1 s2 (by show X.A.units + 1 + 64 < cLine; omega)).eqP
section
variable {X : Cx}
theorem op_eqF (hu : X.A.units + 128 < cLine) : OpR X (compareOp .Eq) (rEqF X.prog X.w X.K false) := by
  intro pins s σ H x y v u Q I rx ry h
  obtain ⟨a, b, ka, kb, da, db, rfl, rfl, Fa, Fb, Da, Db, q⟩ := h
  obtain rfl : v = Value.ref a := rx
  obtain rfl : u = Value.ref b := ry
  exact (cmp_F hu I Fa Fb Da Db).1 ⟨.bl _, H, I, rfl, q⟩
theorem op_neF (hu : X.A.units + 128 < cLine) : OpR X (compareOp .NotEq) (rEqF X.prog X.w X.K true) := by
  intro pins s σ H x y v u Q I rx ry h
  obtain ⟨a, b, ka, kb, da, db, rfl, rfl, Fa, Fb, Da, Db, q⟩ := h
  obtain rfl : v = Value.ref a := rx
  obtain rfl : u = Value.ref b := ry
  exact (cmp_F hu I Fa Fb Da Db).2 ⟨.bl _, H, I, rfl, q⟩
end
end YjD
set_option Elab.async false
set_option linter.all false
set_option maxRecDepth 100000
set_option maxHeartbeats 1000000
set_option pp.maxSteps 1500
/-! The same rules by names of the program, the world and the written part: for a comprehension's block. -/
namespace YjD
open PySem PySem.Spec PyProof.Rows L2
section
variable {X : Cx} {P : Program} {w : World} {K : PySem.W.Frag} {a e k tg : Expr} {ta te tk : TE} {pos apos cpos : Pos} {f : Str}
theorem pe_fldK (he : PE X e ta) (hb : attributeBase e f X.env (eval e X.env) = eval e X.env) (hK : X.K = K := by rfl) : PE X (.Attribute e f pos) (tFld K ta f) := by
  subst hK
  exact pe_fld he hb
theorem pe_fgetK (hu : X.A.units + 64 < cLine) (ho : PE X a ta) (hi : PE X k tk) (hs : NoSl k) (hP : X.prog = P := by rfl) (hw : X.w = w := by rfl) : PE X (.Subscript a k pos) (tFGet P w ta tk) := by
  subst hP hw
  exact pe_fget hu ho hi hs
theorem pe_forK (hu : X.A.units + 64 < cLine) (ho : PE X a ta) (hk : PE X k tk) (he : PE X e te) (m : M2 X a "get" apos k e cpos) (hP : X.prog = P := by rfl) (hw : X.w = w := by rfl) : PE X (.Call (.Attribute a "get" apos) [k, e] [] cpos) (tFOr P w ta tk te) := by
  subst hP hw
  exact pe_for hu ho hk he m
theorem op_inFK (hu : X.A.units + 64 < cLine) (hP : X.prog = P := by rfl) (hw : X.w = w := by rfl) : OpR X (compareOp .In) (rInF P w false) := by
  subst hP hw
  exact op_inF hu
theorem op_eqDK (hu : X.A.units + 64 < cLine) (hK : X.K = K := by rfl) : OpR X (compareOp .Eq) (rEqD K) := by
  subst hK
  exact op_eqD hu
theorem op_neDK (hu : X.A.units + 64 < cLine) (hK : X.K = K := by rfl) : OpR X (compareOp .NotEq) (rNeD K) := by
  subst hK
  exact op_neD hu
theorem op_inDK (hu : X.A.units + 65 < cLine) (hK : X.K = K := by rfl) : OpR X (compareOp .In) (rInD K) := by
  subst hK
  exact op_inD hu
theorem pi_factsK (ha : PE X e te) (hP : X.prog = P := by rfl) (hw : X.w = w := by rfl) : PI X tg e (iFacts P w te) := by
  subst hP hw
  exact pi_facts ha
theorem set_factK (hu : X.A.units + 64 < cLine) (hP : X.prog = P := by rfl) (hw : X.w = w := by rfl) : PSet X (tSetF P w) := by
  subst hP hw
  exact set_fact hu
theorem cr_sortFK (hc : X.calm = true) (hu : X.A.units + 64 < cLine) (hP : X.prog = P := by rfl) (hw : X.w = w := by rfl) : CallR X (.builtin "sorted") (rSortF P w) := by
  subst hP hw
  exact cr_sortF hc hu
theorem call_listFK (hc : X.calm = true) (hP : X.prog = P := by rfl) (hw : X.w = w := by rfl) : CallR X (.type "list") (rListF P w) := by
  subst hP hw
  exact call_listF hc
theorem op_eqFK (hu : X.A.units + 128 < cLine) (hP : X.prog = P := by rfl) (hw : X.w = w := by rfl) (hK : X.K = K := by rfl) : OpR X (compareOp .Eq) (rEqF P w K false) := by
  subst hP hw hK
  exact op_eqF hu
theorem op_neFK (hu : X.A.units + 128 < cLine) (hP : X.prog = P := by rfl) (hw : X.w = w := by rfl) (hK : X.K = K := by rfl) : OpR X (compareOp .NotEq) (rEqF P w K true) := by
  subst hP hw hK
  exact op_neF hu
theorem call_isiKK (hK : X.K = K := by rfl) : CallR X (.builtin "isinstance") (rIsi K) := by
  subst hK
  exact call_isi
end
/-- a room for all of these rules -/
theorem room65 {k : Nat} {A : Around} (r : Room k A) : A.units + 65 < cLine := by
  have := r.un
  omega
end YjD
set_option Elab.async false
set_option linter.all false
set_option maxRecDepth 100000
set_option maxHeartbeats 1000000
set_option pp.maxSteps 1500
/-! A class with its own __eq__. -/
namespace YjD
open PySem PySem.Spec PyProof.Rows L2
/-- what the top has left of a class at C whose __eq__ is the def at f, and that has no __ne__ of its own -/
structure OwnEq (K : PySem.W.Frag) (C f : Addr) : Prop where
  at_ : PySem.W.findIn K (.ref C) "__eq__" = some (some (.ref f))
  fn : PySem.W.isFn K (.ref f) = true
  nf : PySem.W.notFirst K C (.ref C) = true
  nd : PySem.W.notFirst K C (.type "dict") = true
  ne : PySem.W.findIn K (.ref C) "__ne__" = some (some (.builtin "object.__ne__"))
  ob : PySem.W.mroIn K C (.type "object") = some true
/-- the turns of a dict comprehension with keys that are texts or ints, over a walk, by what holds ahead of each -/
theorem dc_it {J : It} {n : Nat} {Gd : Hp → Prop} {Y : Nat → Hp → V → Hp → Prop} (wk : Walk J n Gd Y) {g : TG} {tt : TT} {tk tv : TE} {vs : List Nat} {σ : L2.St} {H1 : Hp} {D : Addr} {Qd : Hp → Prop} (Pv : Nat → Hp → Prop) (h0 : Pv 0 (upd H1 D (.dK []))) (hG : ∀ i H, i ≤ n → Pv i H → Gd H)
    (hs : ∀ i x H H', i < n → Pv i H → Y i H x H' → g x (wipe σ vs) H' fun σ2 H2 => wipe σ2 vs = wipe σ vs ∧ tt σ2 H2 fun b H3 =>
      if b = true then tk σ2 H3 fun y H4 => tv σ2 H4 fun z H5 => ∃ kvs k, y = kV k ∧ H5 D = some (.dK kvs) ∧ kvs.length < sizeLine ∧ Pv (i + 1) (upd H5 D (.dK (putK kvs k z))) else Pv (i + 1) H3) (hd : ∀ H, Pv n H → Qd H) :
    ∃ W : Nat → Nat → Hp → Prop, (∃ m, W 0 m (upd H1 D (.dK []))) ∧ ∀ i m H, W i m H →
      (J.stop i H ∧ Qd H) ∨ (J.go i H ∧ ∃ Nx : Hp → Prop, (∀ H', Nx H' → ∃ m', m' < m ∧ W (i + 1) m' H') ∧ ∀ x H', J.yld i H x H' → g x (wipe σ vs) H' fun σ2 H2 => wipe σ2 vs = wipe σ vs ∧ tt σ2 H2 fun b H3 =>
        if b = true then tk σ2 H3 fun y H4 => tv σ2 H4 fun z H5 => ∃ kvs k, y = kV k ∧ H5 D = some (.dK kvs) ∧ kvs.length < sizeLine ∧ Nx (upd H5 D (.dK (putK kvs k z))) else Nx H3) := by
  refine ⟨fun i m H => m = n - i ∧ i ≤ n ∧ Pv i H, ⟨n, rfl, Nat.zero_le _, h0⟩, ?_⟩
  rintro i m H ⟨rfl, hi, p⟩
  have gd := hG i H hi p
  by_cases lt : i < n
  · refine .inr ⟨wk.goes i H lt gd, Pv (i + 1), fun H' p' => ⟨n - (i + 1), by omega, rfl, lt, p'⟩, fun x H' y => ?_⟩
    exact hs i x H H' lt p (wk.yields i H x H' lt gd y)
  · have e : i = n := by omega
    subst e
    exact .inl ⟨wk.stops H gd, hd H p⟩
end YjD
set_option Elab.async false
set_option linter.all false
set_option maxRecDepth 100000
set_option maxHeartbeats 1000000
set_option pp.maxSteps 1500
/-! isinstance of a dict of facts; == and != of instances with an own __eq__; d.values(); a display of one fact. -/
namespace YjD
open PySem PySem.Spec PyProof.Rows L2
/-- isinstance(x, c), where x may be a dict of facts -/
def rIsiF (P : Program) (w : World) (K : PySem.W.Frag) : List V → Hp → VK → Prop := fun xs H Q => ∃ (x c : V) (t u : Value) (b : Bool), xs = [x, c] ∧ ClsV c u ∧ (TyX K H x t ∨ ∃ d kvs, x = .ref d ∧ FD P w H d kvs ∧ t = .type "dict") ∧ PySem.W.kitOne K t u = some b ∧ Q (.bl b) H
section
variable {X : Cx}
theorem call_isiF : CallR X (.builtin "isinstance") (rIsiF X.prog X.w X.K) := by
  intro pins s σ H xs us Q I r h
  obtain ⟨x, c, t, u, b, rfl, k, ty, e, q⟩ := h
  rcases ty with ty | ⟨d, kvs, rfl, F, rfl⟩
  · exact call_isi pins s σ H _ us Q I r ⟨x, c, t, u, b, rfl, k, ty, e, q⟩
  · obtain ⟨v, z, rfl, r1, r2⟩ := vals2 r
    obtain rfl : v = Value.ref d := r1
    obtain rfl := k.eq r2
    obtain ⟨_, _, D⟩ := F.of I.hok
    obtain ⟨o, _, _, h1, h2, _⟩ := D
    exact PySem.W.kia_one PySem.W.kitx_dict I.kIn ⟨o, h1, h2.1⟩ e (fun z => nomatch z) fun tk => ⟨.bl b, H, I.tok tk, rfl, q⟩
theorem call_isiFK {P : Program} {w : World} {K : PySem.W.Frag} (hP : X.prog = P := by rfl) (hw : X.w = w := by rfl) (hK : X.K = K := by rfl) : CallR X (.builtin "isinstance") (rIsiF P w K) := by
  subst hP hw hK
  exact call_isiF
/-! ### == and != by an own __eq__ -/
/-- the operand on the right: an instance of the same class, or a dict of facts -/
def RightOp (P : Program) (w : World) (C : Addr) (dct : Bool) (H : Hp) (y : V) : Prop := (∃ b dx fs, y = .ref b ∧ H b = some (.ins C dx fs)) ∨ (dct = true ∧ ∃ d kvs, y = .ref d ∧ FD P w H d kvs)
def rOwn (P : Program) (w : World) (C : Addr) (sp : Sp) (neg : Bool) : R2 := fun x y H Q => ∃ a dx fs, x = .ref a ∧ H a = some (.ins C dx fs) ∧ RightOp P w C (!neg) H y ∧ sp [x, y] H (fun v H' => ∃ r, v = .bl r ∧ Q (.bl (if neg then !r else r)) H') E0
theorem looks_cls {M : Model} {h : Heap} {a : Addr} {o : Obj} (e : h.get? a = some o) : PySem.W.Looks M h (typeOf (.ref a)) o.cls := (PySem.W.Looks.ld e).andThen .now
variable {k : Nat} {C f : Addr} {fd : FuncData} {ps : List Str} {sp : Sp}
/-- the call of the own __eq__, somewhere below -/
theorem own_call (F : FnOk X.prog X.w X.K X.mg X.base CX0 k f fd ps sp) (hb : Binds X.K fd ps []) {A : Around} (hr : Room k A) (hA : A.frames = X.A.frames) {pins : List (Addr × Obj)} {σ : L2.St} {H : Hp} {s : Shared} (I : Inv X pins σ H s) {x y : V} {u v : Value} (rx : RelV x u) (ry : RelV y v) {Q : VK} {R : Value → Shared → Prop}
    (h : sp [x, y] H Q E0) (hR : ∀ z H' w s', Inv X pins σ H' s' → RelV z w → Q z H' → R w s') : wpAny (model X.prog X.w) A (call (.ref f) [u, v]) R X.xe s := by
  have e0 : Env0 X.prog X.w X.K X.mg X.base A X.stack s H := by
    have e := I.env0
    exact ⟨by rw [hA]; exact e.frames, e.mod, e.bs, e.bsz, e.funs, e.frf, e.hok, e.bare⟩
  have hl := F.len _ _ _ _ h
  have bd := hb s [u, v] I.kIn (by simpa using hl)
  rw [List.append_nil] at bd
  refine wpAny_call (codeAny_mono (F.run A X.stack s H ⟨[u, v], []⟩ [u, v] [x, y] Q E0 hr e0 bd (.cons rx (.cons ry .nil)) h) fun r s' hq => ?_)
  cases r with
  | error e => exact pass0 pins σ H s e s' I hq
  | ok fl =>
    cases fl with
    | ret z =>
      obtain ⟨zz, H', I', rz, ez⟩ := I.after hq
      exact hR zz H' z s' I' rz ez
    | next => exact False.elim hq
    | brk => exact False.elim hq
    | cont => exact False.elim hq
theorem right_looks {dct : Bool} (O : OwnEq X.K C f) {pins : List (Addr × Obj)} {σ : L2.St} {H : Hp} {s : Shared} (I : Inv X pins σ H s) {y : V} {v : Value} (ry : RelV y v) (h : RightOp X.prog X.w C dct H y) :
    ∃ t, PySem.W.Looks (model X.prog X.w) s.heap (typeOf v) t ∧ PySem.W.notFirst X.K C t = true ∧ (dct = false → t = .ref C) := by
  rcases h with ⟨b, dx, fs, rfl, hb⟩ | ⟨e, d, kvs, rfl, F⟩
  · obtain rfl : v = Value.ref b := ry
    obtain ⟨mB, J, _⟩ := ins_get I.hok hb
    obtain ⟨od, J, _⟩ := J.look
    exact ⟨.ref C, J.type, O.nf, fun _ => rfl⟩
  · obtain rfl : v = Value.ref d := ry
    obtain ⟨_, _, D⟩ := F.of I.hok
    obtain ⟨o, _, _, h1, h2, _⟩ := D
    refine ⟨.type "dict", ?_, O.nd, fun z => ?_⟩
    · have z := looks_cls (M := model X.prog X.w) h1
      rw [h2.1] at z
      exact z
    · rw [e] at z
      cases z
theorem op_own (O : OwnEq X.K C f) (F : FnOk X.prog X.w X.K X.mg X.base CX0 k f fd ps sp) (hb : Binds X.K fd ps []) (hr : Room k X.A) : OpR X (compareOp .Eq) (rOwn X.prog X.w C sp false) := by
  intro pins s σ H x y v u Q I rx ry h
  obtain ⟨a, dx, fs, rfl, ha, hy, hsp⟩ := h
  obtain rfl : v = Value.ref a := rx
  obtain ⟨mA, J, _⟩ := ins_get I.hok ha
  obtain ⟨od, J, _⟩ := J.look
  obtain ⟨m, hF⟩ := I.fr
  obtain ⟨t, L, n, _⟩ := right_looks O I ry hy
  show wpAny (model X.prog X.w) X.A (richCompare .Eq (.ref a) u) (EP X pins σ Q) X.xe s
  refine PySem.W.cmp_K (op := .Eq) (tb := t) hr.units0 hF I.ok.mod.kin J L n O.at_ O.fn ?_
  refine own_call (x := .ref a) (u := .ref a) F hb hr rfl I rfl ry hsp fun z H' w s' I' rz hz => ?_
  obtain ⟨r, rfl, q⟩ := hz
  obtain rfl : w = Value.bool r := rz
  exact ⟨.bl r, H', I', rfl, q⟩
theorem op_nown (O : OwnEq X.K C f) (F : FnOk X.prog X.w X.K X.mg X.base CX0 k f fd ps sp) (hb : Binds X.K fd ps []) (hr : Room (k + 1) X.A) : OpR X (compareOp .NotEq) (rOwn X.prog X.w C sp true) := by
  intro pins s σ H x y v u Q I rx ry h
  obtain ⟨a, dx, fs, rfl, ha, hy, hsp⟩ := h
  obtain rfl : v = Value.ref a := rx
  obtain ⟨mA, J, _⟩ := ins_get I.hok ha
  obtain ⟨od, J, _⟩ := J.look
  have KI := I.kIn
  obtain ⟨t, L, n, ht⟩ := right_looks O I ry hy
  obtain rfl := ht rfl
  show wpAny (model X.prog X.w) X.A (richCompare .NotEq (.ref a) u) (EP X pins σ Q) X.xe s
  have inner : wpAny (model X.prog X.w) X.A.in1 (Builtin.«object.__ne__» ⟨[.ref a, u], []⟩) (fun fin s' => ∃ r, fin = .done (.ret (.bool (!r))) ∧ EP X pins σ Q (.bool (!r)) s') X.xe s := by
    unfold Builtin.«object.__ne__»
    refine wpAny_bind (m := slotArgs "__ne__" 1 ⟨[.ref a, u], []⟩) (wpAny_pure ?_)
    refine wpAny_bind (wpAny_cRoomFor (hr.in1).units0 ?_)
    refine wpAny_bind (PySem.W.ifBound_K KI J O.at_ O.fn (own_call (x := .ref a) (u := .ref a) F hb hr.in1 rfl I rfl ry hsp fun z H' w s' I' rz hz => ?_))
    obtain ⟨r, rfl, q⟩ := hz
    obtain rfl : w = Value.bool r := rz
    refine wpAny_bind (wpAny_truthy_bool ?_)
    exact wpAny_pure ⟨r, rfl, .bl (!r), H', I', rfl, q⟩
  have isObj : PySem.W.Looks (model X.prog X.w) s.heap (isInstance (.ref a) (.type "object")) true := J.type.andThen (PySem.W.looks_mroIn KI O.ob)
  have called : wpAny (model X.prog X.w) X.A (call (.builtin "object.__ne__") [.ref a, u]) (fun v s' => ∃ r, v = .bool r ∧ EP X pins σ Q v s') X.xe s := by
    refine wpAny_call (codeAny_call_builtin PySem.F.cmp_object.ne.plain PySem.F.cmpEntry_ne (PySem.W.check_slot PySem.F.cmpKind_ne PySem.F.cmpSplit_ne isObj (PySem.F.cmpArgs_ne _ _) ?_))
    refine wpAny_mono inner (fun fin s' z => ?_) fun _ _ e => e
    obtain ⟨r, rfl, q⟩ := z
    exact ⟨_, rfl, q⟩
  have bound : wpAny (model X.prog X.w) X.A (callSpecialIfBound? (.ref a) "__ne__" [u]) (fun r s' => ∃ b, r = some (.bool b) ∧ EP X pins σ Q (.bool b) s') X.xe s := by
    simp only [callSpecialIfBound?, bindSpecialIfBound?]
    refine wpAny_holding (wpAny_bind (wpAny_bind (wpAny_bind (J.type.here ((PySem.W.looks_findIn KI O.ne).here ?_)))))
    simp only [PySem.F.cmp_object.ne.bind]
    refine wpAny_bind (wpAny_askSetting (wpAny_ite ?_))
    have fin : wpAny (model X.prog X.w) X.A (call (.builtin "object.__ne__") ([.ref a] ++ [u]) >>= fun v => pure (some v)) (fun r s' => ∃ b, r = some (.bool b) ∧ EP X pins σ Q (.bool b) s') X.xe s :=
      wpAny_bind (wpAny_mono called (fun v s' z => by obtain ⟨r, rfl, q⟩ := z; exact wpAny_pure ⟨r, rfl, q⟩) fun _ _ e => e)
    split
    · exact wpAny_bind (wpAny_pure (wpAny_pure fin))
    · exact wpAny_tryCatch (wpAny_bind (wpAny_pure (wpAny_pure fin)))
  have one : wpAny (model X.prog X.w) X.A (tryCompare (.ref a) "__ne__" u) (fun r s' => ∃ v, r = some v ∧ EP X pins σ Q v s') X.xe s := by
    unfold tryCompare
    refine wpAny_bind (wpAny_mono bound (fun r s' z => ?_) fun _ _ e => e)
    obtain ⟨b, rfl, q⟩ := z
    exact wpAny_pure ⟨_, rfl, q⟩
  unfold richCompare
  simp only [oneThing_ref]
  refine wpAny_holding (wpAny_bind (wpAny_cRoomFor hr.units0 ?_))
  refine wpAny_bind (J.type.here (wpAny_bind (L.here ?_)))
  rw [show (Value.ref C != Value.ref C) = false by simp]
  simp only [Bool.false_eq_true, if_false]
  refine wpAny_bind (wpAny_pure ?_)
  simp only [Bool.false_eq_true, if_false]
  refine wpAny_bind (wpAny_mono one (fun r s' z => ?_) fun _ _ e => e)
  obtain ⟨v, rfl, q⟩ := z
  exact wpAny_pure q
/-! ### d.values() -/
def viewV (d : Addr) : Obj := { cls := .type "dict_values", data := .fields #[.ref d] }
def tVals (P : Program) (w : World) (td : TE) : TE := fun σ H Q => td σ H fun x H1 => ∃ d kvs, x = .ref d ∧ FD P w H1 d kvs ∧ ∀ v, H1 v = none → Q (.ref v) (upd H1 v (obO v (viewV d)))
theorem pe_valuesF {e : Expr} {apos cpos : Pos} {td : TE} (he : PE X e td) (hbase : attributeBase e "values" X.env (eval e X.env) = eval e X.env := by rfl) (hline : (apos.endLine == cpos.line) = true := by rfl) :
    PE X (.Call (.Attribute e "values" apos) [] [] cpos) (tVals X.prog X.w td) := by
  refine ⟨fun pins s σ H Q I h => ?_⟩
  refine wpAny_Call_method0_late hbase hline (thn (he.run pins s σ H _ I h) fun v s1 z => ?_)
  obtain ⟨x, H1, I1, rx, d, kvs, rfl, ⟨o, F⟩, q⟩ := z
  obtain rfl : v = Value.ref d := rx
  obtain ⟨hd, _⟩ := F.of I1.hok
  obtain ⟨es, ep, xs, e1, _, _⟩ := F.ent
  have raw : s1.heap.DictRaw d es ep := ⟨o, hd, F.exact', e1⟩
  refine ⟨"dict", "dict.values", PySem.F.plainAttrs_dict, PySem.F.slot_dict_values, PySem.F.type_dict_values, raw.typeIs, fun b z => ?_, Calls.callWith_builtin rfl (PySem.evalArgs_none ?_)⟩
  · cases z
    exact ⟨o, hd, F.exact'.2.1⟩
  refine call_meetsIn PySem.F.slot_dict_values raw.typeIs PySem.F.entry_dict_values (PySem.F.args_dict_values_1 _) (PySem.meets_dict_values_raw d F.sys) ⟨⟨es, ep, raw⟩, ?_⟩
  exact ⟨.ref s1.heap.objs.size, upd H1 s1.heap.objs.size (obO s1.heap.objs.size (viewV d)), I1.laid (t' := s1.toks) (fun b u e => Heap.get?_push_of_some _ e) (Nat.le_refl _) (ob_new (Heap.get?_push_size _ rfl)), rfl, q _ (I1.hok.fresh (Nat.le_refl _))⟩
theorem vals_of {P : Program} {w : World} {H : Hp} {d : Addr} {o : Obj} {kvs : List (Fct × V)} {es : Array DictEntry} {ep : Nat} {acc : Array Value} (F : FDo P w H d o kvs) (hod : o.data = .dict es ep)
    (hacc : PySem.ItemsOf (fun i v => ∃ hi : i < es.size, v = es[i].val) acc es.size) : Vals (kvs.map (·.2)) acc.toList := by
  obtain ⟨hs, hat⟩ := F.at hod
  obtain ⟨h1, h2⟩ := hacc
  have g : ∀ (vs : List Value) (xs : List V), vs.length = xs.length → (∀ (i : Nat) (v : Value) (x : V), vs[i]? = some v → xs[i]? = some x → RelV x v) → Vals xs vs := by
    intro vs
    induction vs with
    | nil =>
      intro xs e _
      cases xs with
      | nil => exact .nil
      | cons x xs => cases e
    | cons v vs ih =>
      intro xs e k
      cases xs with
      | nil => cases e
      | cons x xs => exact .cons (k 0 v x rfl rfl) (ih xs (Nat.succ.inj e) fun i => k (i + 1))
  refine g acc.toList (kvs.map (·.2)) ?_ fun i v x ev ex => ?_
  · rw [Array.length_toList, List.length_map, h1, hs]
  · rw [Array.getElem?_toList] at ev
    obtain ⟨hi, rfl⟩ := h2 i v ev
    obtain ⟨ka, f', v', e1, _, _, e4⟩ := hat i hi
    rw [List.getElem?_map, e1] at ex
    obtain rfl := Option.some.inj ex
    exact e4
/-- list(d.values()) -/
def rListV (P : Program) (w : World) : List V → Hp → VK → Prop := fun vs H Q => ∃ v d kvs, vs = [V.ref v] ∧ H v = some (obO v (viewV d)) ∧ FD P w H d kvs ∧ ∀ p, H p = none → Q (.ref p) (upd H p (.lst (kvs.map (·.2))))
theorem call_listV (hc : X.calm = true) : CallR X (.type "list") (rListV X.prog X.w) := by
  intro pins s σ H vs us Q I r h
  obtain ⟨v, d, kvs, rfl, hv, ⟨o, F⟩, q⟩ := h
  obtain ⟨u, rfl, ru⟩ := vals1 r
  obtain rfl : u = Value.ref v := ru
  obtain ⟨hd, _⟩ := F.of I.hok
  obtain ⟨hview, _, _⟩ : ObjOk X.prog X.w H s.heap v (obO v (viewV d)) := I.hok v _ hv
  obtain ⟨es, ep, xs, e1, e2, _⟩ := F.ent
  have hs := (F.at e1).1
  refine PySem.W.kdl_call (PySem.KdlSrc.rawValues (r := v) (d := d)) (I.ok.hd hc) ⟨⟨viewV d, hview, rfl, rfl⟩, o, hd, F.exact', e1⟩ (by have := F.len; omega) fun h' tk acc c hk hn hacc => ?_
  have k1 := vals_of F e1 hacc
  refine ⟨.ref s.heap.objs.size, upd H s.heap.objs.size (.lst (kvs.map (·.2))), I.laid (t' := tk) hk (Nat.le_refl _) ?_, rfl, q _ (I.hok.fresh (Nat.le_refl _))⟩
  refine ⟨?_, acc.toList, c, k1, ?_⟩
  · rw [List.length_map]
    exact F.len
  · rw [Array.toArray_toList]
    exact hn
/-! ### {fact: value} -/
def tDisp1 (P : Program) (w : World) (tk tv : TE) : TE := fun σ H Q => ∀ d o, H d = none → FD P w (upd H d o) d [] → tk σ (upd H d o) fun y H1 => tv σ H1 fun z H2 => ∃ b f, y = .ref b ∧ FD P w H2 d [] ∧ KeyAt H2 b f ∧ ∀ o', FD P w (upd H2 d o') d [(f, z)] → Q (.ref d) (upd H2 d o')
end
/-! ### dict comprehensions, their parts one by one -/
section
variable {X : Cx} {kx vx tg iter : Expr} {ifs : List Expr} {scope : Scope} {own : List (Str × Nat)} {pos spos py : Pos} {wi : TI} {g : TG} {tt : TT} {tk tv : TE} {i : Nat} {y : Str}
theorem pe_fc4 (hc : X.calm = true) (hu : X.A.units + 64 < cLine) (hN : X.N.Nodup) (hi : PI X tg iter wi) (ok : BlkOk X.N X.env.scope scope own)
    (pg : ∀ (s : Shared) (H : Hp) (C : Addr) (cl : List (Str × Addr)) (fp : List Addr), PG (X.blk s H scope (compEnvC scope cl C X.env) fp) tg g) (pt : ∀ (s : Shared) (H : Hp) (C : Addr) (cl : List (Str × Addr)) (fp : List Addr), PTs (X.blk s H scope (compEnvC scope cl C X.env) fp) ifs tt)
    (pk : ∀ (s : Shared) (H : Hp) (C : Addr) (cl : List (Str × Addr)) (fp : List Addr), PE (X.blk s H scope (compEnvC scope cl C X.env) fp) kx tk) (pv : ∀ (s : Shared) (H : Hp) (C : Addr) (cl : List (Str × Addr)) (fp : List Addr), PE (X.blk s H scope (compEnvC scope cl C X.env) fp) vx tv)
    (hs : ∀ x, foldedSetIterable iter X.env x = pure x := by intro _; rfl) : PE X (.DictComp kx vx [⟨tg, iter, ifs, 0⟩] scope pos) (tFc X.prog X.w wi g tt tk tv (own.map (·.2))) := pe_fc hc hu hN hi ok ⟨pg, pt, pk, pv⟩ hs
theorem ps_setFc4 (hc : X.calm = true) (hu : X.A.units + 64 < cLine) (hN : X.N.Nodup) (hy : X.N[i]? = some y) (hyl : X.env.scope.names.lookup y = some .local)
    (hsw : swapsWith (.DictComp kx vx [⟨tg, iter, ifs, 0⟩] scope pos) (some (.Name y py)) spos.line X.env = pure true) (hi : PI X tg iter wi) (ok : BlkOk X.N X.env.scope scope own)
    (pg : ∀ (s : Shared) (H : Hp) (C : Addr) (cl : List (Str × Addr)) (fp : List Addr), PG (X.blk s H scope (compEnvC scope cl C X.env) fp) tg g) (pt : ∀ (s : Shared) (H : Hp) (C : Addr) (cl : List (Str × Addr)) (fp : List Addr), PTs (X.blk s H scope (compEnvC scope cl C X.env) fp) ifs tt)
    (pk : ∀ (s : Shared) (H : Hp) (C : Addr) (cl : List (Str × Addr)) (fp : List Addr), PE (X.blk s H scope (compEnvC scope cl C X.env) fp) kx tk) (pv : ∀ (s : Shared) (H : Hp) (C : Addr) (cl : List (Str × Addr)) (fp : List Addr), PE (X.blk s H scope (compEnvC scope cl C X.env) fp) vx tv)
    (hs : ∀ x, foldedSetIterable iter X.env x = pure x := by intro _; rfl) : PS X (.Assign [.Name y py] (.DictComp kx vx [⟨tg, iter, ifs, 0⟩] scope pos) spos) (tAsg (tFc X.prog X.w wi g tt tk tv (own.map (·.2))) (gName i)) := ps_setFc hc hu hN hy hyl hsw hi ok ⟨pg, pt, pk, pv⟩ hs
end
theorem pt_truthK {X : Cx} {K : PySem.W.Frag} {a : Expr} {ta : TE} (ha : PE X a ta) (he : ∀ whole, isTrue a X.env whole = (do let v ← whole; standAt a.pos; holding [v] (truthy v))) (hK : X.K = K := by rfl) :
    PT X a (fun σ H Q => ta σ H fun x H' => ∃ k, TruV K x H' k ∧ Q k H') := by
  subst hK
  exact pt_truth ha he
end YjD
set_option Elab.async false
set_option linter.all false
set_option maxRecDepth 100000
set_option maxHeartbeats 1000000
set_option pp.maxSteps 1500
/-! {fact: value}; isinstance with an own class. -/
namespace YjD
open PySem PySem.Spec PyProof.Rows L2
/-- what the top has left of the class at C, asked by isinstance -/
structure IsCls (K : PySem.W.Frag) (C : Addr) : Prop where
  ha : PySem.W.findIn K (.ref C) "__class__" = some (some (.builtin "object.__class__"))
  hn : PySem.W.specialIn K (.builtin "object.__class__") "__get__" = some (some (.builtin "getset_descriptor.__get__"))
  ht : PySem.W.takesIn K (.builtin "object.__class__") = some true
  hm : PySem.W.mroIn K C (.type "object") = some true
  me : PySem.W.kitOne K (.ref C) (.ref C) = some true
  dict : PySem.W.kitOne K (.type "dict") (.ref C) = some false
theorem IsCls.ty {K : PySem.W.Frag} {C : Addr} (z : IsCls K C) (cl : Cls K C) {H : Hp} {a dx : Addr} {fs : List (Str × V)} (e : H a = some (.ins C dx fs)) : TyX K H (.ref a) (.ref C) := .base (.ins e cl z.ha z.hn z.ht z.hm)
section
variable {X : Cx} {k v : Expr} {tk tv : TE} {pos : Pos}
theorem pe_fdisp1 (hu : X.A.units + 64 < cLine) (hk : PE X k tk) (hv : PE X v tv) : PE X (.Dict [some k] [v] pos) (tDisp1 X.prog X.w tk tv) := by
  refine ⟨fun pins s σ H Q I h => ?_⟩
  have hn := I.hok.fresh (Nat.le_refl s.heap.objs.size)
  have I1 := I.laid (a := s.heap.objs.size) (o := obO s.heap.objs.size newO) (h' := s.heap.push { cls := .type "dict", data := .dict #[] }) (t' := s.toks) (fun _ _ q => Heap.get?_push_of_some _ q) (Nat.le_refl _) (ob_new (Heap.get?_push_size _ rfl))
  have shape : (evalEachOpt [some k] X.env).zip ((evalEach [v] X.env).map fun v => do let x ← v; standAt pos; pure x) = [(eval k X.env, (do let x ← eval v X.env; standAt pos; pure x : Sem Value))].map fun p => (some p.1, p.2) := rfl
  rw [arm_eval_Dict, shape, dictDisplay_pairs _ (by simp) (by show 1 < 17; decide)]
  refine wpAny_bind (wpAny_standAt (wpAny_bind (wpAny_subDictH (knd := nestedKind X.prog X.w) (Q := fun d s' => wpAny (model X.prog X.w) X.A (pure (Value.ref d)) (EP X pins σ Q) X.xe s') (by show X.A.units + 8 < cLine; omega) (by show 1 ≤ 15; decide) ?_)))
  refine evalPairs_cons (thn (hk.run pins _ σ _ _ I1 (h _ _ hn (fd_empty I.big))) fun kv s1 z => ?_)
  obtain ⟨y, H1, I2, ry, q1⟩ := z
  refine wpAny_bind (thn (hv.run pins s1 σ H1 _ I2 q1) fun vv s2 z => ?_)
  obtain ⟨z, H2, I3, rz, b, f, rfl, F, K, q⟩ := z
  obtain rfl : kv = Value.ref b := ry
  refine wpAny_bind (wpAny_standAt (wpAny_pure (evalPairs_nil ?_)))
  obtain ⟨xs, rr, DD⟩ := F.of I3.hok
  cases rr
  refine ⟨[(keyF f, b, vv)], ⟨rfl, rfl, fact_is I3.hok K, trivial⟩, DD, fun h' tk D' hs => wpAny_pure ?_⟩
  obtain ⟨o', I', F'⟩ := FD.stored (t' := tk) I3 F K rz (by rw [sizeLine_eq]; show 0 < _; omega) .nil D' hs
  exact ⟨.ref _, _, I', rfl, q o' F'⟩
end
end YjD
set_option Elab.async false
set_option linter.all false
set_option maxRecDepth 100000
set_option maxHeartbeats 1000000
set_option pp.maxSteps 1500
/-! Methods and makings whose errors are handled: what is promised of an error may speak of the slots. -/
namespace YjD
open PySem PySem.Spec PyProof.Rows L2
section
variable {X : Cx} {CX : CXT} {k : Nat} {f C : Addr} {fd : FuncData} {ps : List Str} {sp : Sp} {Er : L2.St → XK} {x m : Str} {p pos apos : Pos} {e o : Expr} {es : List Expr} {ta : TE} {t : TA}
def tMethE (C : Addr) (m : Str) (sp : Sp) (Er : L2.St → XK) (ta : TE) (t : TA) : TE := fun σ H Q => ta σ H fun y H1 => ∃ a dx fs, y = .ref a ∧ H1 a = some (.ins C dx fs) ∧ fs.lookup m = none ∧ t σ H1 fun ys H2 => sp (y :: ys) H2 Q (Er σ)
theorem pe_methE {line : Sem Bool} (onit : PE X o ta) (c : Cls X.K C) (has : Meth X.K C m f) (F : FnOk X.prog X.w X.K X.mg X.base CX k f fd ps sp) (room : Room k X.A) (bind : Binds X.K fd ps []) (out : ∀ σ, PassesAt CX X σ (Er σ)) (args : PA X (e :: es) t)
    (h1 : starEach (e :: es) X.env = (false, eval e X.env) :: starEach es X.env := by rfl) (h2 : (backTo pos (starEach es X.env)).any (·.1) = false := by rfl)
    (h3 : eval (.Call (.Attribute o m apos) (e :: es) [] pos) X.env = (do
      let who ← eval o X.env
      standAt apos.atName
      let (g, one) ← holding [who] (getMethod who m line)
      callWith pos g one (backTo pos (starEach (e :: es) X.env)) (backToKw pos (keywordEach [] X.env))) := by rfl) : PE X (.Call (.Attribute o m apos) (e :: es) [] pos) (tMethE C m sp Er ta t) := by
  refine ⟨fun held s0 σ H Q I0 want => PySem.W.methodCall_KW (pl := line) (thn (onit.run held s0 σ H _ I0 want) fun u s1 got => ?_) h3⟩
  obtain ⟨y, H1, I1, ry, a, dx, fs, rfl, ea, none', rest⟩ := got
  obtain rfl : u = Value.ref a := ry
  refine getmeth_ok I1 ea c has none' (PySem.W.callWith_K (first := [.ref a]) (h₀ := X.base) I1.ok.mod.kin has.kp (thn (args.run pos held s1 σ H1 _ I1 rest) fun us s2 got => ?_) h1 h2)
  obtain ⟨ys, H2, I2, r, done⟩ := got
  exact ⟨I2.kIn, run_fnS (us := .ref a :: us) (vs := .ref a :: ys) F room bind (out σ) I2 (.cons rfl r) done⟩
def tMakeE (C : Addr) (sp : Sp) (Er : L2.St → XK) (t : TA) : TE := fun σ H Q => t σ H fun ys H1 => ∀ z dz, H1 z = none → H1 dz = none → dz ≠ z → sp (.ref z :: ys) (upd (upd H1 dz (.own z)) z (.ins C dz [])) (fun v H2 => v = .non ∧ Q (.ref z) H2) (Er σ)
theorem pe_makeE (M : Mk X.K C f) (F : FnOk X.prog X.w X.K X.mg X.base CX k f fd ps sp) (room : Room (k + 1) X.A) (free : Gl X x) (top : X.mg x = some (.ref C)) (bind : Binds X.K fd ps []) (out : ∀ σ, PassesAt CX X σ (Er σ)) (args : PA X (e :: es) t)
    (nd : (x == ("__debug__" : Str)) = false := by decide) (h1 : starEach (e :: es) X.env = (false, eval e X.env) :: starEach es X.env := by rfl) (h2 : (backTo pos (starEach es X.env)).any (·.1) = false := by rfl) : PE X (.Call (.Name x p) (e :: es) [] pos) (tMakeE C sp Er t) := by
  refine ⟨fun held s0 σ H Q I0 want => wpAny_Call_Name_kw (ld_glob I0 free top ?_ nd)⟩
  refine PySem.W.callWith_K (h₀ := X.base) I0.ok.mod.kin M.kp (thn (args.run pos held s0 σ H _ I0 want) fun us s got => ?_) h1 h2
  obtain ⟨ys, H1, I, r, rest⟩ := got
  refine ⟨I.kIn, ?_⟩
  have now := rest (s.heap.objs.size + 1) s.heap.objs.size (I.hok.fresh (Nat.le_succ _)) (I.hok.fresh (Nat.le_refl _)) (Nat.ne_of_lt (Nat.lt_succ_self _))
  have J := Inv.made (C := C) I
  have rr : Vals (V.ref (s.heap.objs.size + 1) :: ys) (Value.ref (s.heap.objs.size + 1) :: us) := .cons rfl r
  have count : ((Value.ref (s.heap.objs.size + 1) :: us) ++ []).length = ps.length := by
    have z := rr.length
    rw [F.len _ _ _ _ now] at z
    rw [List.append_nil]
    exact z.symm
  have bd := bind _ (Value.ref (s.heap.objs.size + 1) :: us) J.kIn count
  rw [List.append_nil] at bd
  refine wpAny_call (make_map (f := f) I.kIn M.makes M.init (beq_iff_eq.mp M.fn) (codeAny_mono (F.run _ X.stack _ _ ⟨Value.ref (s.heap.objs.size + 1) :: us, []⟩ _ _ _ (Er σ) (room.make C us []) (J.env0.make C us []) bd rr now) fun way s' got => ?_))
  match way, got with
  | .error err, got => exact out σ held _ _ err s' J got
  | .ok (.ret u), got =>
    obtain ⟨v, H', I3, rv, rfl, last⟩ := J.after got
    exact ⟨rv, ⟨V.ref (s.heap.objs.size + 1), H', I3, rfl, last⟩⟩
  | .ok .next, got => exact False.elim got
  | .ok .brk, got => exact False.elim got
  | .ok .cont, got => exact False.elim got
end
theorem pe_fdisp1K {X : Cx} {P : Program} {w : World} {k v : Expr} {tk tv : TE} {pos : Pos} (hu : X.A.units + 64 < cLine) (hk : PE X k tk) (hv : PE X v tv) (hP : X.prog = P := by rfl) (hw : X.w = w := by rfl) : PE X (.Dict [some k] [v] pos) (tDisp1 P w tk tv) := by
  subst hP hw
  exact pe_fdisp1 hu hk hv
end YjD
set_option Elab.async false
set_option linter.all false
set_option maxRecDepth 100000
set_option maxHeartbeats 4000000
set_option pp.maxSteps 1500
/-! What is never reached; a new dict walked at once; enumerate(.., start=1) over a list or a tuple. -/
namespace YjE
open PySem PySem.Spec PyProof.Rows L2
theorem pe_never {X : Cx} {e : Expr} : PE X e (fun _ _ _ => False) := ⟨fun _ _ _ _ _ _ h => h.elim⟩
theorem pss_never {X : Cx} {st : List Stmt} : PSs X st (fun _ _ _ => False) := ⟨fun _ _ _ _ _ _ h => h.elim⟩
theorem ps_skip {X : Cx} {st : Stmt} : PS X st (fun _ _ _ => False) := ⟨fun _ _ _ _ _ _ h => h.elim⟩
/-- an object that nothing else will ever see, locked for good -/
def tFrz (te : TE) : TE := fun σ H Q => te σ H fun x H1 => ∃ d u, x = .ref d ∧ H1 d = some u ∧ Mut (some u) ∧ ∀ od, Q x (upd H1 d (.frz od u))
theorem pe_frz {X : Cx} {e : Expr} {te : TE} (h : PE X e te) : PE X e (tFrz te) := ⟨fun pins s σ H Q I hw => thn (h.run pins s σ H _ I hw) fun v s1 q => by
  obtain ⟨x, H1, I1, r, d, u, rfl, hd, mu, q⟩ := q
  obtain ⟨od, I2⟩ := I1.lock hd mu
  exact ⟨_, _, I2, r, q od⟩⟩
/-! ### enumerate(.., start=1) -/
theorem shiftD {prog : Program} {w : World} {A : Around} {it : Addr} {fp : List Addr} {n : Nat} {P : Nat → Value → Prop} {St : Nat → Heap → Prop} (D : Draws prog w A it fp n P St) :
    Draws prog w A it fp (n + 1) (fun i v => ∃ j, i = j + 1 ∧ P j v) (fun i h => ∃ j, i = j + 1 ∧ St j h) where
  live := fun i h ⟨j, _, st⟩ => D.live j h st
  frame := fun i h h' ⟨j, e, st⟩ k => ⟨j, e, D.frame j h h' st k⟩
  item := fun i s Q E lt ⟨j, e, st⟩ hq => D.item j s Q E (by omega) st fun x h' tk p st' sb => hq x h' tk ⟨j, e, p⟩ ⟨j + 1, by omega, st'⟩ sb
  done := fun s Q E ⟨j, e, st⟩ hq => by
    have z : n = j := by omega
    subst z
    exact D.done s Q E st hq
/-- each item in a new pair with its place, from 1 on; R tells what is walked -/
def IteS (R : Hp → List V → Prop) : It :=
  ⟨fun i H => ∃ (xs : List V) (x : V), R H xs ∧ xs[i]? = some x, fun i H v H' => ∃ T x, v = .ref T ∧ H T = none ∧ H' = upd H T (.tup [.int ((i : Nat) + 1 : Int), x]) ∧ ∀ xs, R H xs → xs[i]? = some x, fun i H => ∃ xs : List V, R H xs ∧ xs.length = i⟩
theorem kindsE {h : Heap} {a b : Addr} {o u : Obj} (ha : h.get? a = some o) (hb : h.get? b = some u) (hc : o.cls ≠ u.cls) : a ≠ b := fun z => by
  subst z
  rw [ha] at hb
  cases hb
  exact hc rfl
theorem turn_enumST {P : Program} {w : World} {K : PySem.W.Frag} {elts : List Expr} {kk : Nat} {tpos : Pos} (a e it : Addr) :
    Turn P w K (.Tuple elts kk tpos) (IteS fun H xs => SqT K H a xs) [e, it] e (fun i h => (∃ old, IsEnum h e it ((i + 1 : Nat) : Int) old) ∧ h.IsTupleIter it a i ∧ e ≠ it) where
  mem := List.mem_cons_self ..
  obj := fun i h st b hb => by
    obtain ⟨⟨old, he⟩, ⟨o, ho, hc, hd⟩, _⟩ := st
    rcases (by simpa using hb : b = e ∨ b = it) with z | z
    · rw [z]
      exact ⟨_, he, fun v q => nomatch q⟩
    · exact ⟨o, by rw [z]; exact ho, fun v q => by rw [hd] at q; cases q⟩
  keep := fun i h h' st k => ⟨by
    obtain ⟨⟨old, he⟩, _⟩ := st
    exact ⟨old, k e (by simp) _ he⟩, st.2.1.at fun o q => k it (by simp) o q, st.2.2⟩
  item := by
    rintro X rfl rfl rfl hc i pins s σ H E I hf st hg
    have hh : X.A.in1.handled = none := I.ok.hd hc
    obtain ⟨⟨old, he⟩, hit, hne⟩ := st
    obtain ⟨xs, x, hq, hx⟩ := hg
    obtain ⟨its, rv, p0, hz⟩ := I.tuple hq
    have p := p0
    obtain ⟨u, hu, ru⟩ := rv.get hx
    have lte : e < s.heap.objs.size := Heap.lt_size he
    have lti : it < s.heap.objs.size := by
      obtain ⟨_, q, _⟩ := hit
      exact Heap.lt_size q
    obtain ⟨ot, hot, hct, hdt⟩ := id p
    obtain ⟨oi, hoi, hci, hdi⟩ := id hit
    have nai : a ≠ it := kindsE hot hoi (by rw [hct, hci]; intro z; exact absurd (Value.type.inj z) (by decide))
    have nae : a ≠ e := kindsE hot he (by rw [hct]; intro z; exact absurd (Value.type.inj z) (by decide))
    refine wpAny_pyNext_enum_itemD (shiftD (Draws.tuple hh it a nai its.toArray)) he ⟨i, rfl, hit, p⟩ (i := i + 1) ?_ hne (by simp [hne, Ne.symm nae]) fun y h' tk hy ho hit' hT hsz hk => ?_
    · have := (List.getElem?_eq_some_iff.mp hu).1
      simpa using this
    obtain ⟨j, ej, hy⟩ := hy
    obtain ⟨j', ej', hit'⟩ := hit'
    have e0 : j = i := by omega
    have e1 : j' = i + 1 := by omega
    subst e0 e1
    have ey : y = u := by
      have z : its.toArray[j]? = some y := hy
      rw [List.getElem?_toArray, hu] at z
      exact (Option.some.inj z).symm
    subst ey
    refine ⟨_, rfl, wpAny_letOwnedTupleGo_enum (s := { s with heap := h', toks := tk + 1 }) ho fun h'' he' sb => ?_⟩
    have hT2 := (sb.2 _ (Nat.ne_of_gt lte)).trans hT
    have ec : (((j + 1 : Nat) : Int)) = (j : Int) + 1 := by omega
    have new : ObjOk X.prog X.w (upd H s.heap.objs.size (.tup [.int ((j : Nat) + 1 : Int), x])) h'' s.heap.objs.size (.tup [.int ((j : Nat) + 1 : Int), x]) :=
      ⟨by show 2 ≤ sizeLine; decide, [.int (j + 1 : Nat) tk, y], .cons ⟨tk, by rw [← ec]⟩ (.cons ru .nil), ⟨_, hT2, rfl, _, rfl⟩⟩
    have I1 : Inv X pins σ (upd H s.heap.objs.size (.tup [.int ((j : Nat) + 1 : Int), x])) { s with heap := h'', toks := tk + 1 } :=
      I.turnedNew (ch := [e, it]) (fun b ob hb q => (sb.2 b (fun z => hb (by simp [z]))).trans (hk b ob (fun z => hb (by simp [z])) (fun z => hb (by simp [z])) q)) hf (Nat.le_refl _) new
    refine ⟨.ref s.heap.objs.size, _, I1, rfl, ⟨_, x, rfl, I.hok.fresh (Nat.le_refl _), rfl, fun ys hy => by rw [I.tuple_inj hy hq]; exact hx⟩, ⟨⟨y, ?_⟩, hit'.1.at fun o q => (sb.2 it (Ne.symm hne)).trans q, hne⟩, fun b hb => ?_⟩
    · have e2 : ((j + 1 + 1 : Nat) : Int) = ((j + 1 : Nat) : Int) + 1 := by omega
      rw [e2]
      exact he'
    · have hb' : b < s.heap.objs.size := by
        rcases (by simpa using hb : b = e ∨ b = it) with z | z <;> rw [z] <;> assumption
      rw [upd_ne (Nat.ne_of_lt hb')]
      exact (hf b hb).1
  done := by
    rintro X rfl rfl rfl hc i pins s σ H E I hf st hg
    have hh : X.A.in1.handled = none := I.ok.hd hc
    obtain ⟨⟨old, he⟩, hit, hne⟩ := st
    obtain ⟨xs, hq, hx⟩ := hg
    obtain ⟨its, rv, p0, hz⟩ := I.tuple hq
    have p := p0
    obtain ⟨f0, f1, f2, f3, f4, f5⟩ := hf it (by simp)
    obtain ⟨ot, hot, hct, hdt⟩ := id p
    obtain ⟨oi, hoi, hci, hdi⟩ := id hit
    have nai : a ≠ it := kindsE hot hoi (by rw [hct, hci]; intro z; exact absurd (Value.type.inj z) (by decide))
    have ei : its.toArray.size = i := by
      have hl := rv.length
      rw [List.size_toArray]
      omega
    refine wpAny_pyNext_enum_endD (shiftD (Draws.tuple hh it a nai its.toArray)) he ?_ fun h' eb => ⟨rfl, I.turned (t' := s.toks) (fun b o hb q => eb b o hb q) f0 f1 f3 f4 f5⟩
    exact ⟨i, by rw [ei], hit, p⟩
  self := fun A i s Q E st h => by
    obtain ⟨⟨_, he⟩, _⟩ := st
    exact wpAny_pyIter_enum he h
theorem turn_enumSL {P : Program} {w : World} {K : PySem.W.Frag} {elts : List Expr} {kk : Nat} {tpos : Pos} (a e it : Addr) :
    Turn P w K (.Tuple elts kk tpos) (IteS fun H xs => SqL K H a xs) [e, it] e (fun i h => (∃ old, IsEnum h e it ((i + 1 : Nat) : Int) old) ∧ h.IsListIter it a i ∧ e ≠ it) where
  mem := List.mem_cons_self ..
  obj := fun i h st b hb => by
    obtain ⟨⟨old, he⟩, ⟨o, ho, hc, hd⟩, _⟩ := st
    rcases (by simpa using hb : b = e ∨ b = it) with z | z
    · rw [z]
      exact ⟨_, he, fun v q => nomatch q⟩
    · exact ⟨o, by rw [z]; exact ho, fun v q => by rw [hd] at q; cases q⟩
  keep := fun i h h' st k => ⟨by
    obtain ⟨⟨old, he⟩, _⟩ := st
    exact ⟨old, k e (by simp) _ he⟩, st.2.1.at fun o q => k it (by simp) o q, st.2.2⟩
  item := by
    rintro X rfl rfl rfl hc i pins s σ H E I hf st hg
    have hh : X.A.in1.handled = none := I.ok.hd hc
    obtain ⟨⟨old, he⟩, hit, hne⟩ := st
    obtain ⟨xs, x, hq, hx⟩ := hg
    obtain ⟨its, rv, p0, hz⟩ := I.list hq
    have p := p0.isList
    obtain ⟨u, hu, ru⟩ := rv.get hx
    have lte : e < s.heap.objs.size := Heap.lt_size he
    have lti : it < s.heap.objs.size := by
      obtain ⟨_, q, _⟩ := hit
      exact Heap.lt_size q
    obtain ⟨ot, hot, hct, hdt⟩ := id p
    obtain ⟨oi, hoi, hci, hdi⟩ := id hit
    have nai : a ≠ it := kindsE hot hoi (by rw [hct, hci]; intro z; exact absurd (Value.type.inj z) (by decide))
    have nae : a ≠ e := kindsE hot he (by rw [hct]; intro z; exact absurd (Value.type.inj z) (by decide))
    refine wpAny_pyNext_enum_itemD (shiftD (Draws.list hh it a nai its.toArray)) he ⟨i, rfl, hit, p⟩ (i := i + 1) ?_ hne (by simp [hne, Ne.symm nae]) fun y h' tk hy ho hit' hT hsz hk => ?_
    · have := (List.getElem?_eq_some_iff.mp hu).1
      simpa using this
    obtain ⟨j, ej, hy⟩ := hy
    obtain ⟨j', ej', hit'⟩ := hit'
    have e0 : j = i := by omega
    have e1 : j' = i + 1 := by omega
    subst e0 e1
    have ey : y = u := by
      have z : its.toArray[j]? = some y := hy
      rw [List.getElem?_toArray, hu] at z
      exact (Option.some.inj z).symm
    subst ey
    refine ⟨_, rfl, wpAny_letOwnedTupleGo_enum (s := { s with heap := h', toks := tk + 1 }) ho fun h'' he' sb => ?_⟩
    have hT2 := (sb.2 _ (Nat.ne_of_gt lte)).trans hT
    have ec : (((j + 1 : Nat) : Int)) = (j : Int) + 1 := by omega
    have new : ObjOk X.prog X.w (upd H s.heap.objs.size (.tup [.int ((j : Nat) + 1 : Int), x])) h'' s.heap.objs.size (.tup [.int ((j : Nat) + 1 : Int), x]) :=
      ⟨by show 2 ≤ sizeLine; decide, [.int (j + 1 : Nat) tk, y], .cons ⟨tk, by rw [← ec]⟩ (.cons ru .nil), ⟨_, hT2, rfl, _, rfl⟩⟩
    have I1 : Inv X pins σ (upd H s.heap.objs.size (.tup [.int ((j : Nat) + 1 : Int), x])) { s with heap := h'', toks := tk + 1 } :=
      I.turnedNew (ch := [e, it]) (fun b ob hb q => (sb.2 b (fun z => hb (by simp [z]))).trans (hk b ob (fun z => hb (by simp [z])) (fun z => hb (by simp [z])) q)) hf (Nat.le_refl _) new
    refine ⟨.ref s.heap.objs.size, _, I1, rfl, ⟨_, x, rfl, I.hok.fresh (Nat.le_refl _), rfl, fun ys hy => by rw [I.list_inj hy hq]; exact hx⟩, ⟨⟨y, ?_⟩, hit'.1.at fun o q => (sb.2 it (Ne.symm hne)).trans q, hne⟩, fun b hb => ?_⟩
    · have e2 : ((j + 1 + 1 : Nat) : Int) = ((j + 1 : Nat) : Int) + 1 := by omega
      rw [e2]
      exact he'
    · have hb' : b < s.heap.objs.size := by
        rcases (by simpa using hb : b = e ∨ b = it) with z | z <;> rw [z] <;> assumption
      rw [upd_ne (Nat.ne_of_lt hb')]
      exact (hf b hb).1
  done := by
    rintro X rfl rfl rfl hc i pins s σ H E I hf st hg
    have hh : X.A.in1.handled = none := I.ok.hd hc
    obtain ⟨⟨old, he⟩, hit, hne⟩ := st
    obtain ⟨xs, hq, hx⟩ := hg
    obtain ⟨its, rv, p0, hz⟩ := I.list hq
    have p := p0.isList
    obtain ⟨f0, f1, f2, f3, f4, f5⟩ := hf it (by simp)
    obtain ⟨ot, hot, hct, hdt⟩ := id p
    obtain ⟨oi, hoi, hci, hdi⟩ := id hit
    have nai : a ≠ it := kindsE hot hoi (by rw [hct, hci]; intro z; exact absurd (Value.type.inj z) (by decide))
    have ei : its.toArray.size = i := by
      have hl := rv.length
      rw [List.size_toArray]
      omega
    refine wpAny_pyNext_enum_endD (shiftD (Draws.list hh it a nai its.toArray)) he ?_ fun h' eb => ⟨rfl, I.turned (t' := s.toks) (fun b o hb q => eb b o hb q) f0 f1 f3 f4 f5⟩
    exact ⟨i, by rw [ei], hit, p⟩
  self := fun A i s Q E st h => by
    obtain ⟨⟨_, he⟩, _⟩ := st
    exact wpAny_pyIter_enum he h
section
variable {M : Model} {A : Around} {E : Value → Shared → Prop} {s : Shared}
theorem callWith_typeK {pos : Pos} {T : String} {args : List (Bool × Sem Value)} {keywords : List (Option Str × Sem Value)} {Q : Value → Shared → Prop} (hp : args.any (·.1) = false) (hn : keywords.any (·.1.isNone) = false)
    (h : wpAny M A (evalArgs (.type T) true args keywords) (fun a s1 => wpAny M A (call (.type T) a.pos a.kw) Q E s1) E s) : wpAny M A (callWith pos (.type T) [] args keywords) Q E s := by
  unfold callWith
  refine wpAny_bind (wpAny_holding (wpAny_mono h (fun a s1 h1 => wpAny_bind (wpAny_standAt ?_)) fun _ _ z => z))
  simp only [hp, hn, Bool.or_false]
  exact wpAny_bind (wpAny_pure (wpAny_bind (wpAny_mono h1 (fun r s2 hr => wpAny_bind (wpAny_holding (wpAny_point (wpAny_pure hr)))) fun _ _ z => z)))
end
/-- a list or a tuple with places from 1 on -/
def iEnumS (K : PySem.W.Frag) (ta : TA) : TI := fun σ H R => ta σ H fun vs H1 => ∃ a xs, vs = [.ref a] ∧ ((SqL K H1 a xs ∧ R (IteS fun H xs => SqL K H a xs) H1) ∨ (SqT K H1 a xs ∧ R (IteS fun H xs => SqT K H a xs) H1))
theorem pi_enumS {X : Cx} {e : Expr} {ta : TA} {p p1 kp pos tpos : Pos} {kc : Nat} {elts : List Expr} {kk : Nat} (hg : Gl X "enumerate") (hm : X.mg "enumerate" = none) (ha : PA X [e] ta) (hs : starEach [e] X.env = [(false, eval e X.env)] := by rfl) :
    PI X (.Tuple elts kk tpos) (.Call (.Name "enumerate" p) [e] [⟨some "start", .Constant (.int 1) kc p1, kp⟩] pos) (iEnumS X.K ta) := by
  refine ⟨fun pins s σ H R I h => ?_⟩
  refine wpAny_Call_Name_kw (ld_blt I hg hm boot_enumerate ?_)
  have e0 : backTo pos (starEach [e] X.env) = [(false, eval e X.env)] := by rw [hs]; rfl
  refine callWith_typeK (by rw [e0]; rfl) rfl ?_
  have ha1 := ha.run pos pins s σ H _ I h
  rw [e0] at ha1 ⊢
  refine evalArgs_kwB rfl (thn ha1 fun us s1 ⟨vs, H1, I1, r1, q1⟩ => kws_cons (thn ((pe_int (X := X)).run pins s1 σ H1 (fun v H2 => v = .int 1 ∧ H2 = H1) I1 ⟨rfl, rfl⟩) fun u s2 ⟨v, H2, I2, r2, e2, e3⟩ => kws_nil ?_))
  subst e2 e3
  obtain ⟨tk, rfl⟩ := r2
  obtain ⟨a, xs, rfl, q⟩ := q1
  obtain ⟨u, rfl, ru⟩ := vals1 r1
  obtain rfl : u = Value.ref a := ru
  have fp : ∀ b ∈ [s2.heap.objs.size + 1, s2.heap.objs.size], FpOk X pins H2 b := fun b hb => by
    have hle : s2.heap.objs.size ≤ b := by
      rcases (by simpa using hb : b = s2.heap.objs.size + 1 ∨ b = s2.heap.objs.size) with z | z <;> omega
    exact I2.fpOk hle (I2.hok.fresh hle)
  rcases q with ⟨hq, q⟩ | ⟨hq, q⟩
  · obtain ⟨its, rv, p', hz⟩ := I2.list hq
    refine enum_begins_start (begins_list a its.toArray) p'.isList (by decide) (by decide) fun h' he hit hsz hk => wpAny_pyIter_enum he ?_
    exact ⟨s2.heap.objs.size + 1, _, _, _, H2, rfl, I2.kept (t' := s2.toks) hk, turn_enumSL a (s2.heap.objs.size + 1) s2.heap.objs.size, ⟨⟨.none, he⟩, ⟨_, hit, rfl, rfl⟩, Nat.succ_ne_self _⟩, fp, q⟩
  · obtain ⟨its, rv, p', hz⟩ := I2.tuple hq
    refine enum_begins_start (begins_tuple a its.toArray) p' (by decide) (by decide) fun h' he hit hsz hk => wpAny_pyIter_enum he ?_
    exact ⟨s2.heap.objs.size + 1, _, _, _, H2, rfl, I2.kept (t' := s2.toks) hk, turn_enumST a (s2.heap.objs.size + 1) s2.heap.objs.size, ⟨⟨.none, he⟩, ⟨_, hit, rfl, rfl⟩, Nat.succ_ne_self _⟩, fp, q⟩
theorem walk_enumS {R : Hp → List V → Prop} {xs : List V} : Walk (IteS R) xs.length (fun H => R H xs) (YPair (fun i => some (.int ((i : Nat) + 1 : Int))) (fun i => xs[i]?)) := by
  refine ⟨fun i H hi q => ⟨xs, xs[i], q, by simp [hi]⟩, fun H q => ⟨xs, q, rfl⟩, fun i H v H' hi q y => ?_⟩
  obtain ⟨T, x, h1, h2, h3, h4⟩ := y
  exact ⟨T, .int ((i : Nat) + 1 : Int), x, h1, h2, h3, rfl, h4 xs q⟩
theorem call_tupleK {X : Cx} {K : PySem.W.Frag} (hK : X.K = K := by rfl) : CallR X (.type "tuple") (fun xs H Q => ∃ p ys, xs = [V.ref p] ∧ ((SqL K H p ys ∧ ∀ l, H l = none → Q (.ref l) (upd H l (.tup ys))) ∨ (SqT K H p ys ∧ Q (.ref p) H))) := by
  subst hK
  exact call_tuple_of
theorem sl_tupK {X : Cx} {K : PySem.W.Frag} (hK : X.K = K := by rfl) : SlR X (rSlA K) := by
  subst hK
  exact sl_tupA
end YjE
namespace Yj
open PySem PySem.Spec PyProof.Rows L2
theorem takesN0 {X : Cx} : L2N.Takes X (fun _ _ _ _ => False) := fun _ _ x => by
  obtain ⟨_, _, _, _, _, _, _, _, _, _, _, _, _, _, _, _, z⟩ := x
  exact z.elim
end Yj
set_option Elab.async false
set_option linter.all false
set_option maxRecDepth 100000
set_option maxHeartbeats 4000000
set_option pp.maxSteps 1500
/-! setdefault on a dict of facts; set(..) of a list of ints, so that it can be sorted. -/
namespace YjE
open PySem PySem.Spec PyProof.Rows L2 YjD
section
variable {X : Cx}
variable {a e k : Expr} {ta te tk : TE} {apos cpos : Pos} {P : Program} {w : World}
/-- d.setdefault(k, e), d a dict of facts -/
def tFSetd (P : Program) (w : World) (ta tk te : TE) : TE := fun σ H Q => ta σ H fun x H1 => ∃ d kvs0, x = .ref d ∧ FD P w H1 d kvs0 ∧ tk σ H1 fun y H2 => te σ H2 fun z H3 => ∃ b f kvs, y = .ref b ∧ FD P w H3 d kvs ∧ KeyAt H3 b f ∧
  kvs.length < sizeLine ∧ (∀ v, valV kvs f = some v → Q v H3) ∧ (valV kvs f = none → ∀ o, FD P w (upd H3 d o) d (putK kvs f z) → Q z (upd H3 d o))
theorem pe_fsetd (hu : X.A.units + 64 < cLine) (ho : PE X a ta) (hk : PE X k tk) (he : PE X e te) (m : M2 X a "setdefault" apos k e cpos) (hP : X.prog = P := by rfl) (hw : X.w = w := by rfl) :
    PE X (.Call (.Attribute a "setdefault" apos) [k, e] [] cpos) (tFSetd P w ta tk te) := by
  subst hP
  subst hw
  refine ⟨fun pins s σ H Q I h => ?_⟩
  refine wpAny_Call_method m.base m.few m.line PySem.F.plainAttrs_dict PySem.F.slot_dict_setdefault PySem.F.type_dict_setdefault (thn (ho.run pins s σ H _ I h) fun u s1 h1 => ?_)
  obtain ⟨x, H1, I1, rx, d, kvs0, rfl, F, q1⟩ := h1
  obtain rfl : u = Value.ref d := rx
  obtain ⟨_, _, D1⟩ := F.of I1.hok
  have one : ∀ c, Value.ref d = .ref c → ∃ ob, s1.heap.get? c = some ob ∧ ob.dict = none := fun c z => by
    cases z
    obtain ⟨ob, _, _, h1, h2, _⟩ := D1
    exact ⟨ob, h1, h2.2.1⟩
  refine ⟨D1.typeIs, one, ?_⟩
  rw [m.trees]
  refine Calls.callWith_builtin rfl (Calls.evalArgs_plain (Calls.spliced_cons (thn (hk.run pins s1 σ H1 _ I1 q1) fun j s2 h2 => ?_)))
  obtain ⟨y, H2, I2, ry, q2⟩ := h2
  refine Calls.spliced_cons (thn (he.run pins s2 σ H2 _ I2 q2) fun l s3 h3 => Calls.spliced_nil ?_)
  obtain ⟨z, H3, I3, rz, b, f, kvs, rfl, F3, K, hl, q1, q2⟩ := h3
  obtain rfl : j = Value.ref b := ry
  obtain ⟨xs, r, D⟩ := F3.of I3.hok
  have el := Paired.length r
  have rv := r.val f
  refine call_setdefault_heap (knd := nestedKind X.prog X.w) (by show X.A.units + 1 + 8 < cLine; omega) (fact_is I3.hok K) F3.sys D (fun p hp => ?_) (fun hn h' D' hs => ?_) (by omega)
  · rw [hp] at rv
    cases e : valV kvs f with
    | none =>
      rw [e] at rv
      cases rv
    | some v =>
      rw [e] at rv
      exact ⟨v, H3, I3.tok _, rv, q1 v e⟩
  · rw [hn] at rv
    cases e : valV kvs f with
    | some v =>
      rw [e] at rv
      cases rv
    | none =>
      obtain ⟨o', I', F'⟩ := F3.stored (t' := s3.toks + (nestedKind X.prog X.w).draws (keyF f)) I3 K rz hl r D' hs
      exact ⟨z, _, I', rz, q2 e o' F'⟩
end
/-! ### set(..) of a list of ints -/
section
variable {P : Program} {w : World} {A : Around} {E : Value → Shared → Prop} {s : Shared}
def emptySet (w : World) : Obj := { cls := .type "set", dict := none, data := .set #[] 0 (.fresh 0 0 (!w.params.followText "set-order")) }
def FullSet (w : World) (S : Addr) (ns : List Int) (s s' : Shared) : Prop := ∃ h' tk c, s' = { s with heap := h', toks := tk } ∧ SetR w h' S (fun j => decide (j ∈ ns)) c ∧ c ≤ ns.length ∧ ∀ b o, b ≠ S → s.heap.get? b = some o → h'.get? b = some o
/-- what __init__ does with a list of ints -/
theorem fill_list {S l : Addr} {items : Array Value} {ns : List Int} (hh : A.handled = none) (hS : s.heap.get? S = some (emptySet w)) (hl : s.heap.IsList l items) (hi : IntsAre items.toList ns) (hb : ns.length + 1 < scanBound) :
    codeAny (model P w) A (.call (.builtin "set.__init__") ⟨[.ref S, .ref l], []⟩) (wants (fun r s' => r = .none ∧ FullSet w S ns s s') E) s := by
  have sz : items.size = ns.length := by
    have q := IntsAre.length hi
    rwa [Array.length_toList] at q
  obtain ⟨ol, hol, hcl, nl, hdl⟩ := id hl
  have lS : l ≠ S := fun z => by
    rw [z, hS] at hol
    cases hol
    exact absurd (show (Value.type "set") = Value.type "list" from hcl) (by decide)
  have ll : l < s.heap.objs.size := Heap.lt_size hol
  have ls : S < s.heap.objs.size := Heap.lt_size hS
  have ty : s.TypeIs (.ref S) "set" := ⟨_, hS, rfl⟩
  refine codeAny_call_builtin F.called_set.init.plain F.entry_set_init (check_set_init_1 ty ?_)
  obtain ⟨ocls, odict, odata, oslots⟩ := ol
  simp only at hcl hdl
  subst hcl; subst hdl
  have g1 := F.sub_list_set
  have g2 := F.sub_list_frozenset
  have g3 : (Value.type "list" == Value.type "dict") = false := by decide
  unfold Builtin.«set.__init__» noKeywords Builtin.Frozenset.updateFrom
  generalize hPI : pyIter = PI
  wp_walk
  subst hPI
  refine wpAny_pyIter_list hl ?_
  refine wpAny_bind (wpAny_runValue ?_)
  have hh3 : A.in1.in1.handled = none := by simp [hh]
  have nI : l ≠ s.heap.objs.size := Nat.ne_of_lt ll
  have nS : S ∉ [s.heap.objs.size, l] := by
    simp only [List.mem_cons, List.mem_singleton, List.not_mem_nil, or_false, not_or]
    exact ⟨Nat.ne_of_lt ls, lS.symm⟩
  have hval : ∀ (i : Nat) (v : Value), items[i]? = some v → ∃ k t, ns[i]? = some k ∧ v = .int k t := fun i v hv => by
    have lt : i < ns.length := sz ▸ (Array.getElem?_eq_some_iff.mp hv).1
    obtain ⟨t, e⟩ := IntsAre.int_at hi i v (by rw [Array.getElem?_toList]; exact hv)
    exact ⟨ns[i], t, List.getElem?_eq_getElem lt, by rw [e, List.getD_eq_getElem?_getD, List.getElem?_eq_getElem lt]; rfl⟩
  refine set_update_ints ((Walks.list hh3 _ l nI items).toS) S nS ns sz hb hval (items.size - 0) 0 _ (by omega) (Nat.zero_le _) ?_ ?_ ?_
  · exact ⟨⟨_, Heap.get?_push_size _ rfl, rfl, rfl⟩, hl.push _⟩
  · exact ⟨0, Nat.le_refl 0, setR_new_at (Heap.get?_push_of_some _ hS)⟩
  · intro s' c' hm hc' hS'
    obtain ⟨h', g2, d', tk', os'⟩ := s'
    obtain rfl : g2 = s.gens := hm.gens
    obtain rfl : d' = s.drawn := hm.drawn
    obtain rfl : os' = s.os := hm.os
    refine wpAny_pure (wpAny_pure ⟨rfl, h', tk', c', rfl, hS', by omega, fun b o hb e => ?_⟩)
    have lb : b < s.heap.objs.size := Heap.lt_size e
    exact hm.heap b o (by
      simp only [List.mem_cons, List.mem_singleton, List.not_mem_nil, or_false, not_or]
      exact ⟨hb, Nat.ne_of_lt lb⟩) (Heap.get?_push_of_some _ e)
theorem set_from_list {l : Addr} {items : Array Value} {ns : List Int} {Q : Value → Shared → Prop} (hh : A.handled = none) (hl : s.heap.IsList l items) (hi : IntsAre items.toList ns) (hb : ns.length + 1 < scanBound)
    (h : ∀ (h' : Heap) (tk c : Nat), SetR w h' s.heap.objs.size (fun j => decide (j ∈ ns)) c → c ≤ ns.length → (∀ b o, s.heap.get? b = some o → h'.get? b = some o) → Q (.ref s.heap.objs.size) { s with heap := h', toks := tk }) :
    wpAny (model P w) A (call (.type "set") [.ref l]) Q E s := by
  obtain ⟨c, tl, hmro⟩ := F.called_set.mro
  have y1 := F.called_set.made
  have y2 := F.called_set.sub
  have y3 := F.called_set.notType
  have y4 := F.called_set.canCreate
  have y5 := F.typeCall_set_1 (.ref l)
  refine wpAny_call (codeAny_of_tree (wpAny_pure ⟨Code.quiet_builtin _ (by decide +kernel), codeAny_builtin F.entry_type_call ?_⟩))
  rw [Around.under_plain (weight_type_call_type "set" [.ref l] []) rfl]
  repeat (any_goals (first | assumption | wp_step))
  refine codeAny_mono (code_set_led1 (.ref l) (E := E) (Q₁ := fun v s1 => v = .ref s.heap.objs.size ∧ s1 = { s with heap := s.heap.push (emptySet w) }) ⟨rfl, rfl⟩) fun r s1 hr => ?_
  rcases r with e | f
  · exact hr
  · cases f with
    | ret v =>
      obtain ⟨rfl, rfl⟩ := hr
      have at0 : (s.heap.push (emptySet w)).get? s.heap.objs.size = some (emptySet w) := Heap.get?_push_size _ rfl
      have ty : Shared.TypeIs { s with heap := s.heap.push (emptySet w) } (.ref s.heap.objs.size) "set" := ⟨_, at0, rfl⟩
      have y6 := F.called_set.init.lookup
      have y7 := F.called_set.init.bind (.ref s.heap.objs.size)
      repeat (any_goals (first | assumption | wp_step))
      refine codeAny_mono (fill_list (s := { s with heap := s.heap.push (emptySet w) }) (E := E) (by simp [hh]) at0 (hl.push _) hi hb) fun r2 s2 hr2 => ?_
      rcases r2 with e | f
      · exact hr2
      · cases f with
        | ret v =>
          obtain ⟨rfl, h', tk, c', rfl, z1, z2, z3⟩ := hr2
          repeat (any_goals (first | assumption | wp_step))
          exact h _ _ _ z1 z2 fun b o e => z3 b o (Nat.ne_of_lt (Heap.lt_size e)) (Heap.get?_push_of_some _ e)
        | _ => exact hr2.elim
    | _ => exact hr.elim
end
/-- set(ns), ns a list of ints -/
def rSetL (w : World) (K : PySem.W.Frag) : List V → Hp → VK → Prop := fun vs H Q => ∃ (a : Addr) (ns : List Int), vs = [V.ref a] ∧ SqL K H a (ns.map V.int) ∧ ns.length + 1 < scanBound ∧
  ∀ p c, H p = none → c ≤ ns.length → Q (.ref p) (upd H p (SetO w p (fun j => decide (j ∈ ns)) c))
theorem cr_setL {X : Cx} (hc : X.calm = true) : CallR X (.type "set") (rSetL X.w X.K) := by
  intro pins s σ H vs us Q I r h
  obtain ⟨a, ns, rfl, hs, hb, q⟩ := h
  obtain ⟨its, rv, hl, _⟩ := I.list hs
  rw [Vals.ref1 r]
  refine set_from_list (I.ok.hd hc) hl.isList (by have := rv.ints; simpa using this) hb fun h' tk c z1 z2 z3 => ?_
  exact ⟨.ref _, _, I.laid (t' := tk) z3 (Nat.le_refl _) (setO_new z1), rfl, q _ c (I.hok.fresh (Nat.le_refl _)) z2⟩
/-! ### *d in a display, d a dict of facts -/
section
variable {P : Program} {w : World} {A : Around} {E : Value → Shared → Prop} {s : Shared} {T : String} {r d : Addr} {n : Nat} {Pv : Nat → Value → Prop} {OK : Heap → Prop}
theorem collect_kdl {Q : List Value → Shared → Prop} (K : PySem.W.KdlSrc P w T r d n Pv OK) (hh : A.handled = none) (hok : OK s.heap) (hn : n ≤ sizeLine)
    (hQ : ∀ h' tk (acc : Array Value), (∀ b o, s.heap.get? b = some o → h'.get? b = some o) → ItemsOf Pv acc n → Q acc.toList { s with heap := h', toks := tk }) : wpAny (model P w) A (collect (.ref r)) Q E s := by
  obtain ⟨lr, ld⟩ := K.there _ hok
  unfold collect
  refine wpAny_bind (wpAny_runValue (codeAny_builtin F.entry_proto_collect ?_))
  rw [Around.under_plainId F.plain_proto_collect _]
  refine wpAny_bind (wpAny_newObj_type ?_)
  refine wpAny_pure ⟨plainId_quiet F.plain_list_iadd _, codeAny_builtin F.entry_list_iadd ?_⟩
  rw [Around.under_plainId F.plain_list_iadd _]
  have hS : (s.heap.push { cls := .type "list", data := .seq ([] : List Value).toArray }).get? s.heap.objs.size = some { cls := .type "list", data := .seq #[] 0 } := Heap.get?_push_size _ rfl
  have key : ∀ (r' : Result) (s' : Shared), (∃ h' tk acc c', r' = .ok (.ret (.ref s.heap.objs.size)) ∧ s' = { s with heap := h', toks := tk } ∧ (∀ b o, b ≠ s.heap.objs.size → (s.heap.push { cls := .type "list", data := .seq ([] : List Value).toArray }).get? b = some o → h'.get? b = some o) ∧
      h'.get? s.heap.objs.size = some { cls := .type "list", dict := none, data := .seq acc c', slots := #[] } ∧ ItemsOf Pv acc n) →
      ∃ h' tk acc c', r' = .ok (.ret (.ref s.heap.objs.size)) ∧ s' = { s with heap := h', toks := tk } ∧ wpAny (model P w) A (load s.heap.objs.size >>= fun o => match o.data with
        | .seq xs _ => pure xs.toList
        | _ => unsupported "internal:collect") Q E s' := fun r' s' ⟨h', tk, acc, c', e1, e2, hk, hS', hacc⟩ => by
    subst e2
    refine ⟨h', tk, acc, c', e1, rfl, wpAny_bind (wpAny_load hS' (wpAny_pure (hQ h' tk acc (fun b o e => hk b o (Nat.ne_of_lt (Heap.lt_size e)) (Heap.get?_push_of_some _ e)) hacc)))⟩
  refine wpAny_mono (PySem.W.kdl_extend (s := { s with heap := s.heap.push { cls := .type "list", data := .seq ([] : List Value).toArray } }) (A := A) (R := fun r' s' => ∃ h' tk acc c', r' = .ok (.ret (.ref s.heap.objs.size)) ∧ s' = { s with heap := h', toks := tk } ∧ (∀ b o, b ≠ s.heap.objs.size → (s.heap.push { cls := .type "list", data := .seq ([] : List Value).toArray }).get? b = some o → h'.get? b = some o) ∧
      h'.get? s.heap.objs.size = some { cls := .type "list", dict := none, data := .seq acc c', slots := #[] } ∧ ItemsOf Pv acc n) K hh (K.keep _ _ hok fun b _ o e => Heap.get?_push_of_some _ e) s.heap.objs.size (Nat.ne_of_gt lr) (Nat.ne_of_gt ld) (.ref s.heap.objs.size) 0 hS
      (fun h' tk acc c' hk hS' hacc => ⟨h', tk, acc, c', rfl, rfl, hk, hS', hacc⟩) hn) (fun fin s' z => ?_) fun e s' z => ?_
  · cases fin with
    | done f =>
      obtain ⟨_, _, _, _, e1, _, z2⟩ := key _ _ z
      cases e1
      exact z2
    | again c' =>
      refine ⟨z.1, codeAny_mono z.2 fun r2 s2 z3 => ?_⟩
      obtain ⟨_, _, _, _, e1, _, z2⟩ := key _ _ z3
      subst e1
      exact z2
  · obtain ⟨_, _, _, _, e1, _⟩ := z
    cases e1
end
section
variable {X : Cx} {e : Expr} {es : List Expr} {te : TE} {t : TA} {p : Pos} {P : Program} {w : World}
def tStarF (P : Program) (w : World) (te : TE) (t : TA) : TA := fun σ H Q => te σ H fun x H1 => ∃ d kvs, x = .ref d ∧ FD P w H1 d kvs ∧ ∀ us, KeysAt H1 us (kvs.map (·.1)) → t σ H1 fun ys H2 => Q (us ++ ys) H2
theorem pa_starF (hc : X.calm = true) (he : PE X e te) (hr : PA X es t) (hs : starEach (.Starred e p :: es) X.env = (true, eval e X.env) :: starEach es X.env := by rfl) (hP : X.prog = P := by rfl) (hw : X.w = w := by rfl) :
    PA X (.Starred e p :: es) (tStarF P w te t) := by
  subst hP
  subst hw
  refine ⟨fun pos pins s σ H Q I h => ?_⟩
  refine PySem.W.items_star (thn (he.run pins s σ H _ I h) fun v s1 ⟨y, H1, I1, ry, d, kvs, ey, ⟨o, F⟩, q⟩ => ?_) hs
  subst ey
  obtain rfl : v = Value.ref d := ry
  obtain ⟨hd, _⟩ := F.of I1.hok
  obtain ⟨ee, ep, xs, e1, e2, _⟩ := F.ent
  have len := (F.at e1).1
  have ty : s1.TypeIs (.ref d) "dict" := ⟨o, hd, F.exact'.1⟩
  unfold PySem.W.StarOf notIterableAtAll
  refine wpAny_bind (wpAny_specialOf ty PySem.F.slot_dict_iter.lookup (wpAny_pure ⟨rfl, ?_⟩))
  refine collect_kdl (PySem.KdlSrc.rawDict F.sys) (I1.ok.hd hc) ⟨o, hd, F.exact', e1⟩ (by have := F.len; omega) fun h' tk acc hk hacc => ?_
  obtain ⟨ks, k1, k2⟩ := keys_of F e1 hacc
  exact thn (hr.run pos pins _ σ H1 _ (I1.kept (t' := tk) hk) (q ks k2)) fun ws s3 ⟨vs, H3, I3, r3, q3⟩ => ⟨ks ++ vs, H3, I3, k1.append r3, q3⟩
/-- *d, d a dict whose keys are ints and texts -/
def tStarK (te : TE) (t : TA) : TA := fun σ H Q => te σ H fun x H1 => ∃ (d : Addr) (kvs : List (Key × V)), x = .ref d ∧ Rd H1 d (.dK kvs) ∧ t σ H1 fun ys H2 => Q ((kvs.map fun kv => kV kv.1) ++ ys) H2
theorem pa_starK (hc : X.calm = true) (he : PE X e te) (hr : PA X es t) (hs : starEach (.Starred e p :: es) X.env = (true, eval e X.env) :: starEach es X.env := by rfl) : PA X (.Starred e p :: es) (tStarK te t) := by
  refine ⟨fun pos pins s σ H Q I h => ?_⟩
  refine PySem.W.items_star (thn (he.run pins s σ H _ I h) fun v s1 ⟨y, H1, I1, ry, d, kvs, ey, hd, q⟩ => ?_) hs
  subst ey
  obtain rfl : v = Value.ref d := ry
  obtain ⟨z, lo, vs, rel, dd⟩ := dk_rd I1.hok hd
  obtain ⟨ep, hat⟩ := dd.dictAt
  have ek : (kvs.map fun kv => kV kv.1) = vs.map fun p => kV p.1 := by
    have e := congrArg (List.map kV) rel.keys
    rw [List.map_map, List.map_map] at e
    exact e
  unfold PySem.W.StarOf notIterableAtAll
  refine wpAny_bind (wpAny_specialOf dd.typeIs PySem.F.slot_dict_iter.lookup (wpAny_pure ⟨rfl, ?_⟩))
  refine collect_kdl (PySem.W.kdl_dict (knd := mixKind X.prog X.w) (kvs := vs) (ep := ep) lo) (I1.ok.hd hc) hat (by rw [← rel.length]; exact z) fun h' tk acc hk hacc => ?_
  have hv : Vals (vs.map fun p => kV p.1) acc.toList := keys_at (by rw [Array.length_toList]; exact hacc.1) fun j v e => hacc.2 j v (by rw [← Array.getElem?_toList]; exact e)
  rw [← ek] at hv
  exact thn (hr.run pos pins _ σ H1 _ (I1.kept (t' := tk) hk) q) fun ws s3 ⟨us, H3, I3, r3, q3⟩ => ⟨_, H3, I3, hv.append r3, q3⟩
end
end YjE
set_option Elab.async false
set_option linter.all false
set_option maxRecDepth 100000
set_option maxHeartbeats 4000000
set_option pp.maxSteps 1500
/-! Two fors in one comprehension, turn by turn. -/
namespace YjF
open PySem PySem.Spec PyProof.Rows L2 YjD
/-- the inner for of a turn: Nx holds behind it -/
abbrev Lc2In (J1 : It) (g1 : TG) (tt1 : TT) (te : TE) (vs1 : List Nat) (D : Addr) (σ2 : L2.St) (Nx : Hp → Prop) (H4 : Hp) : Prop :=
  ∃ W1 : Nat → Nat → Hp → Prop, (∃ m, W1 0 m H4) ∧ ∀ j k H, W1 j k H → (J1.stop j H ∧ Nx H) ∨ (J1.go j H ∧ ∃ Nx1 : Hp → Prop, (∀ H', Nx1 H' → ∃ k', k' < k ∧ W1 (j + 1) k' H') ∧ ∀ x H', J1.yld j H x H' → g1 x (wipe σ2 vs1) H' fun σ3 H5 => wipe σ3 vs1 = wipe σ2 vs1 ∧ tt1 σ3 H5 fun b H6 =>
    if b = true then te σ3 H6 fun y H7 => ∃ acc, H7 D = some (.lst acc) ∧ acc.length < sizeLine ∧ Nx1 (upd H7 D (.lst (acc ++ [y]))) else Nx1 H6)
theorem lc2_in {J1 : It} {n1 : Nat} {G1 : Hp → Prop} {Y1 : Nat → Hp → V → Hp → Prop} (wk : Walk J1 n1 G1 Y1) {g1 : TG} {tt1 : TT} {te : TE} {vs1 : List Nat} {D : Addr} {σ2 : L2.St} {Nx : Hp → Prop} {H4 : Hp} (Pv : Nat → Hp → Prop) (h0 : Pv 0 H4) (hG : ∀ i H, i ≤ n1 → Pv i H → G1 H)
    (hs : ∀ i x H H', i < n1 → Pv i H → Y1 i H x H' → g1 x (wipe σ2 vs1) H' fun σ3 H5 => wipe σ3 vs1 = wipe σ2 vs1 ∧ tt1 σ3 H5 fun b H6 =>
      if b = true then te σ3 H6 fun y H7 => ∃ acc, H7 D = some (.lst acc) ∧ acc.length < sizeLine ∧ Pv (i + 1) (upd H7 D (.lst (acc ++ [y]))) else Pv (i + 1) H6) (hd : ∀ H, Pv n1 H → Nx H) : Lc2In J1 g1 tt1 te vs1 D σ2 Nx H4 := by
  refine ⟨fun i m H => m = n1 - i ∧ i ≤ n1 ∧ Pv i H, ⟨n1, rfl, Nat.zero_le _, h0⟩, ?_⟩
  rintro i m H ⟨rfl, hi, p⟩
  have gd := hG i H hi p
  by_cases lt : i < n1
  · exact .inr ⟨wk.goes i H lt gd, Pv (i + 1), fun H' p' => ⟨n1 - (i + 1), by omega, rfl, lt, p'⟩, fun x H' y => hs i x H H' lt p (wk.yields i H x H' lt gd y)⟩
  · have e : i = n1 := by omega
    subst e
    exact .inl ⟨wk.stops H gd, hd H p⟩
theorem lc2_it {J : It} {n : Nat} {Gd : Hp → Prop} {Y : Nat → Hp → V → Hp → Prop} (wk : Walk J n Gd Y) {g g1 : TG} {tt tt1 : TT} {wi1 : TI} {te : TE} {vs vs1 : List Nat} {σ : L2.St} {H1 : Hp} {D : Addr} {Qd : Hp → Prop} (Pv : Nat → Hp → Prop) (h0 : Pv 0 (upd H1 D (.lst []))) (hG : ∀ i H, i ≤ n → Pv i H → Gd H)
    (hs : ∀ i x H H', i < n → Pv i H → Y i H x H' → g x (wipe σ vs) H' fun σ2 H2 => wipe σ2 vs = wipe σ vs ∧ tt σ2 H2 fun b H3 => if b = true then wi1 σ2 H3 fun J1 H4 => Lc2In J1 g1 tt1 te vs1 D σ2 (Pv (i + 1)) H4 else Pv (i + 1) H3) (hd : ∀ H, Pv n H → Qd H) :
    ∃ W : Nat → Nat → Hp → Prop, (∃ m, W 0 m (upd H1 D (.lst []))) ∧ ∀ i m H, W i m H → (J.stop i H ∧ Qd H) ∨ (J.go i H ∧ ∃ Nx : Hp → Prop, (∀ H', Nx H' → ∃ m', m' < m ∧ W (i + 1) m' H') ∧ ∀ x H', J.yld i H x H' → g x (wipe σ vs) H' fun σ2 H2 => wipe σ2 vs = wipe σ vs ∧ tt σ2 H2 fun b H3 =>
      if b = true then wi1 σ2 H3 fun J1 H4 => Lc2In J1 g1 tt1 te vs1 D σ2 Nx H4 else Nx H3) := by
  refine ⟨fun i m H => m = n - i ∧ i ≤ n ∧ Pv i H, ⟨n, rfl, Nat.zero_le _, h0⟩, ?_⟩
  rintro i m H ⟨rfl, hi, p⟩
  have gd := hG i H hi p
  by_cases lt : i < n
  · exact .inr ⟨wk.goes i H lt gd, Pv (i + 1), fun H' p' => ⟨n - (i + 1), by omega, rfl, lt, p'⟩, fun x H' y => hs i x H H' lt p (wk.yields i H x H' lt gd y)⟩
  · have e : i = n := by omega
    subst e
    exact .inl ⟨wk.stops H gd, hd H p⟩
end YjF
set_option Elab.async false
set_option linter.all false
set_option maxRecDepth 100000
set_option maxHeartbeats 1000000
set_option pp.maxSteps 1500
/-! {k: v for .. in .. if ..}, keys tuples of ints and texts. -/
namespace YjG
open PySem PySem.Spec PyProof.Rows L2
theorem t_dictSet {X : Cx} {pins : List (Addr × Obj)} {σ : L2.St} {H : Hp} {s : Shared} {E : Value → Shared → Prop} {D b : Addr} {kvs : List (List L2.Key × V)} {k : List L2.Key} {v : V} {r : Value} {Q : Unit → Shared → Prop} (hu : X.A.units + 64 < cLine) (I : Inv X pins σ H s) (hD : H D = some (.dT kvs)) (hk : H b = some (.tup (k.map kV))) (hz : kvs.length < sizeLine)
    (rv : RelV v r) (h : ∀ s', Inv X pins σ (upd H D (.dT (putK kvs k v))) s' → Q () s') : wpAny (model X.prog X.w) X.A (dictSet D (.ref b) r) Q E s := by
  obtain ⟨z, hd, xs, rel, dd⟩ := dt_of I.hok hD
  have hzv : xs.length ≤ sizeLine := by rw [← Paired.length rel]; exact z
  have hl : (putK kvs k v).length ≤ sizeLine := by have := length_putK kvs k v; omega
  refine wpAny_dictSet_heap (hsz := hzv) (by show X.A.units < cLine; omega) (key_of I.hok hk) dd fun h' dd' hs => h _ ?_
  obtain ⟨q, es, ep, hq, h2, h3, h4, _, h5⟩ := dd'
  refine d_write I (by rw [hD]; exact True.intro) hs ⟨q, hq⟩ ⟨hl, hd, _, (rel.put k hk rv).keeps fun c ys ec => ?_, q, es, ep, hq, h2, h3, h4, h5⟩
  rw [upd_ne fun z => ?_]
  · exact ec
  · rw [z, hD] at ec
    cases ec
/-- one turn's end: the pair is stored, or there was none -/
def TcEnd (P : Program) (w : World) (D : Addr) (tk tv : TE) (Nx : Hp → Prop) (σ : L2.St) (b : Bool) (H : Hp) : Prop :=
  if b = true then tk σ H fun y H4 => tv σ H4 fun z H5 => ∃ (kvs : List (List L2.Key × V)) (a : Addr) (k : List L2.Key), y = .ref a ∧ H5 D = some (.dT kvs) ∧ H5 a = some (.tup (k.map kV)) ∧ kvs.length < sizeLine ∧ Nx (upd H5 D (.dT (putK kvs k z))) else Nx H
/-- what is left to show of the turns: W says what holds ahead of the i-th -/
def TcTurns (P : Program) (w : World) (D : Addr) (J : It) (g : TG) (tt : TT) (tk tv : TE) (vs : List Nat) (σ : L2.St) (Qd : Hp → Prop) (W : Nat → Nat → Hp → Prop) : Prop :=
  ∀ i m H, W i m H → (J.stop i H ∧ Qd H) ∨ (J.go i H ∧ ∃ Nx : Hp → Prop, (∀ H', Nx H' → ∃ m', m' < m ∧ W (i + 1) m' H') ∧
    ∀ x H', J.yld i H x H' → g x (wipe σ vs) H' fun σ2 H2 => wipe σ2 vs = wipe σ vs ∧ tt σ2 H2 (TcEnd P w D tk tv Nx σ2))
def tTc (P : Program) (w : World) (wi : TI) (g : TG) (tt : TT) (tk tv : TE) (vs : List Nat) : TE := fun σ H Q =>
  wi σ H fun J H1 => ∀ D, H1 D = none → ∃ W : Nat → Nat → Hp → Prop, (∃ m, W 0 m (upd H1 D (.dT []))) ∧ TcTurns P w D J g tt tk tv vs σ (Q (.ref D)) W
section
variable {X : Cx} {kx vx tg iter : Expr} {ifs : List Expr} {scope : Scope} {own : List (Str × Nat)} {pos pos' : Pos} {wi : TI} {g : TG} {tt : TT} {tk tv : TE}
/-- the parts of the comprehension, each read in the comprehension's own frame -/
structure TcParts (X : Cx) (scope : Scope) (tg kx vx : Expr) (ifs : List Expr) (g : TG) (tt : TT) (tk tv : TE) : Prop where
  pg : ∀ (s : Shared) (H : Hp) (C : Addr) (cl : List (Str × Addr)) (fp : List Addr), PG (X.blk s H scope (compEnvC scope cl C X.env) fp) tg g
  pt : ∀ (s : Shared) (H : Hp) (C : Addr) (cl : List (Str × Addr)) (fp : List Addr), PTs (X.blk s H scope (compEnvC scope cl C X.env) fp) ifs tt
  pk : ∀ (s : Shared) (H : Hp) (C : Addr) (cl : List (Str × Addr)) (fp : List Addr), PE (X.blk s H scope (compEnvC scope cl C X.env) fp) kx tk
  pv : ∀ (s : Shared) (H : Hp) (C : Addr) (cl : List (Str × Addr)) (fp : List Addr), PE (X.blk s H scope (compEnvC scope cl C X.env) fp) vx tv
/-- the loop, in its frame B: from W at the start to Qd at the end -/
theorem tc_loop {B : Cx} {pins : List (Addr × Obj)} {J : It} {fp : List Addr} {it D C : Addr} {tn : Nat → Heap → Prop} {W : Nat → Nat → Hp → Prop} {σ : L2.St} {Qd : Hp → Prop} {R : Result → Shared → Prop} {ce : Env} {vs : List Nat} {s3 : Shared} {H3 : Hp}
    (hB : B = X.blk s3 H3 scope ce fp) (hc : X.calm = true) (hu : X.A.units + 64 < cLine) (T : Turn X.prog X.w X.K tg J fp it tn) (pg : PG B tg g) (pt : PTs B ifs tt) (pk : PE B kx tk) (pv : PE B vx tv)
    (turns : TcTurns X.prog X.w D J g tt tk tv vs σ Qd W)
    (hx : ∀ {σ' : L2.St} {H' : Hp} {s' : Shared}, Inv B [] σ' H' s' → (∀ b ∈ fp, H' b = none) → ∀ b ∈ fp, FpOk B [] H' b) (hend : ∀ s' H', Inv B [] (wipe σ vs) H' s' → Qd H' → R (.ok .next) s')
    {n : Nat} {s4 : Shared} {H4 : Hp} (I4 : Inv B [] (wipe σ vs) H4 s4) (st4 : tn 0 s4.heap) (n4 : ∀ b ∈ fp, H4 b = none) (w4 : W 0 n H4) :
    codeAny (model X.prog X.w) X.A (.compLoop (.DictComp kx vx [⟨tg, iter, ifs, 0⟩] scope pos) 0 (.ref it) (.ref D) ce) R s4 := by
  subst hB
  refine L2.compLoop_anyD (fun n s' => ∃ i H', Inv (X.blk s3 H3 scope ce fp) [] (wipe σ vs) H' s' ∧ tn i s'.heap ∧ (∀ b ∈ fp, H' b = none) ∧ W i n H') (fun n s5 z => ?_) n ⟨0, H4, I4, st4, n4, w4⟩
  obtain ⟨i, H5, I5, st5, n5, w5⟩ := z
  rcases turns i n H5 w5 with ⟨stop, qd⟩ | ⟨go, Nx, hNx, step⟩
  · refine thnF (T.done (X.blk s3 H3 scope ce fp) rfl rfl rfl hc i [] s5 _ H5 (fun _ _ => False) I5 (hx I5 n5) st5 stop) ?_
    rintro r s6 ⟨rfl, I6⟩
    exact hend s6 H5 I6 qd
  refine thnF (T.item (X.blk s3 H3 scope ce fp) rfl rfl rfl hc i [] s5 _ H5 (fun _ _ => False) I5 (hx I5 n5) st5 go) ?_
  rintro r s6 ⟨u, rfl, h6⟩
  refine thnF h6 ?_
  rintro _ s7 ⟨x, H7, I7, r7, y7, st7, n7⟩
  have P7 := I7.pinned (hx I7 n7) (T.obj _ _ st7)
  refine thnF (pg.run _ s7 _ H7 x u _ P7 r7 (step x H7 y7)) ?_
  rintro _ s8 ⟨σ8, H8, I8, hw, q8⟩
  refine thnF (pt.run _ s8 σ8 H8 _ I8 q8) ?_
  rintro b s9 ⟨H9, I9, q9⟩
  have ended : ∀ {s' : Shared} {H' : Hp}, Inv (X.blk s3 H3 scope ce fp) ([] ++ pinsAt fp s7.heap) σ8 H' s' → Nx H' →
      ∃ m, m < n ∧ ∃ i H', Inv (X.blk s3 H3 scope ce fp) [] (wipe σ vs) H' s' ∧ tn i s'.heap ∧ (∀ b ∈ fp, H' b = none) ∧ W i m H' := by
    intro s' H' J' nx
    obtain ⟨m', hm, w'⟩ := hNx H' nx
    have still : ∀ b ∈ fp, ∀ o, s7.heap.get? b = some o → s'.heap.get? b = some o ∧ H' b = none := by
      intro b hb o e
      have z := J'.pin (b, o) (List.mem_append_right _ (List.mem_append_right _ (mem_pinsAt hb e)))
      exact ⟨z.1, z.2.1⟩
    refine ⟨m', hm, i + 1, H', (J'.unpinned (pins := [])).weak (by rw [← hw, wipe_length]) (fun j v e => ?_), T.keep _ _ _ st7 fun b hb o e => (still b hb o e).1, fun b hb => ?_, w'⟩
    · rw [← hw] at e
      exact (wipe_some e).1
    · obtain ⟨o, e, _⟩ := T.obj _ _ st7 b hb
      exact (still b hb o e).2
  unfold TcEnd at q9
  cases b with
  | false => exact ended I9 q9
  | true =>
    refine thnF (pk.run _ s9 σ8 H9 _ I9 q9) ?_
    rintro zk s10 ⟨yk, H10, I10, r10, q10⟩
    refine thnF (pv.run _ s10 σ8 H10 _ I10 q10) ?_
    rintro zv s11 ⟨yv, H11, I11, r11, kvs, a, k, rfl, hD, hk, hl, nx⟩
    obtain rfl : zk = Value.ref a := r10
    exact t_dictSet (X := X.blk s3 H3 scope ce fp) (show X.A.units + 64 < cLine from hu) I11 hD hk hl r11 fun s' I' => ended I' nx
/-- up to the loop: the new dict, the comprehension's own frame -/
theorem tc_core {pins : List (Addr × Obj)} {s : Shared} {σ : L2.St} {H : Hp} {Q : VK} {use : Option (Value → Sem Unit)} {Qf : Value → Shared → Prop}
    (hc : X.calm = true) (hu : X.A.units + 64 < cLine) (hN : X.N.Nodup) (I : Inv X pins σ H s) (hi : PI X tg iter wi) (ok : BlkOk X.N X.env.scope scope own) (G : TcParts X scope tg kx vx ifs g tt tk tv)
    (hs : ∀ x, foldedSetIterable iter X.env x = pure x) (h : tTc X.prog X.w wi g tt tk tv (own.map (·.2)) σ H Q)
    (hRR : ∀ D C s' m H', Inv X pins σ H' s' → Q (.ref D) H' → s'.heap.Ns C m → FpOk X pins H' C → compPost (model X.prog X.w) X.A X.xe use Qf (.ref D) C (.ok .next) s') :
    wpAny (model X.prog X.w) X.A (comprehension (.DictComp kx vx [⟨tg, iter, ifs, 0⟩] scope pos) scope X.env pos' newDict false (eval iter X.env) use) Qf X.xe s := by
  have bound : ∀ y ∈ scope.names, y.2 = .free → ∃ c, X.env.cells.lookup y.1 = some c := by
    intro y hy e
    rcases ok.free y hy e with k | k
    · exact I.ok.has _ (.inl k)
    · exact I.ok.has _ (.inr k)
  have walked := thn (hi.run pins s σ H _ I h) (Q' := fun v s1 => wpAny (model X.prog X.w) X.A (pyIter v) (PIE X pins σ tg (fun J H1 => ∀ D, H1 D = none → ∃ W : Nat → Nat → Hp → Prop, (∃ m, W 0 m (upd H1 D (.dT []))) ∧ TcTurns X.prog X.w D J g tt tk tv (own.map (·.2)) σ (Q (.ref D)) W)) X.xe s1) fun _ _ z => z
  refine wpAny_comprehension_free (use := use) rfl hs (closure_ok bound) ok.kind (fun y hy e => by rw [ok.uniq y hy, e]) (thn walked fun xv s1 hx => thn hx fun itv s2 h2 => ?_)
  obtain ⟨it, fp, tn, J, H2, rfl, I2, T, st2, f2, q⟩ := h2
  have fresh : H2 s2.heap.objs.size = none := I2.hok.fresh (Nat.le_refl _)
  obtain ⟨W, ⟨m0, w0⟩, turns⟩ := q _ fresh
  have I3 : Inv X pins σ (upd H2 s2.heap.objs.size (.dT [])) { s2 with heap := s2.heap.push { cls := .type "dict", data := .dict #[] } } :=
    I2.laid (t' := s2.toks) (fun _ _ e => Heap.get?_push_of_some _ e) (Nat.le_refl _) (dt_empty s2.heap I2.big)
  have old : ∀ b ∈ fp, b < s2.heap.objs.size := by
    intro b hb
    obtain ⟨o, e, _⟩ := T.obj _ _ st2 b hb
    exact Heap.lt_size e
  have f3 : ∀ b ∈ fp, FpOk X pins (upd H2 s2.heap.objs.size (.dT [])) b ∧ b < (s2.heap.push { cls := .type "dict", data := .dict #[] }).objs.size := by
    intro b hb
    have lt := old b hb
    refine ⟨⟨?_, (f2 b hb).2⟩, by rw [Heap.size_push]; exact Nat.lt_succ_of_lt lt⟩
    rw [upd_ne (Nat.ne_of_lt lt)]
    exact (f2 b hb).1
  have st3 : tn 0 (s2.heap.push { cls := .type "dict", data := .dict #[] }) := T.keep _ _ _ st2 fun b _ o e => Heap.get?_push_of_some _ e
  refine wpAny_newObj_type (newEnv_comp ?_)
  show codeAny _ _ (.compStart (.DictComp kx vx [⟨tg, iter, ifs, 0⟩] scope pos) 0 (.ref it) (.ref s2.heap.objs.size) (compEnvC scope (cellsFrom ((s2.heap.push { cls := .type "dict", data := .dict #[] }).objs.size + 1) scope.names (cloFrom X.env.cells scope.names [])) (s2.heap.push { cls := .type "dict", data := .dict #[] }).objs.size X.env))
    (compPost (model X.prog X.w) X.A X.xe use Qf (.ref s2.heap.objs.size) (s2.heap.push { cls := .type "dict", data := .dict #[] }).objs.size) { s2 with heap := pushCells ((s2.heap.push { cls := .type "dict", data := .dict #[] }).push { cls := .type "dict", data := .dict #[] }) scope.names }
  generalize hs3 : ({ s2 with heap := s2.heap.push { cls := .type "dict", data := .dict #[] } } : Shared) = s3 at I3
  have h3 : s3.heap = s2.heap.push { cls := .type "dict", data := .dict #[] } := by rw [← hs3]
  rw [← h3] at f3 st3 ⊢
  generalize s2.heap.objs.size = D at *
  generalize hH3 : upd H2 D (.dT []) = H3 at I3 f3 w0
  have I4 := block_start I3 ok hN f3
  have pg := G.pg s3 H3 s3.heap.objs.size (cellsFrom (s3.heap.objs.size + 1) scope.names (cloFrom X.env.cells scope.names [])) fp
  have pt := G.pt s3 H3 s3.heap.objs.size (cellsFrom (s3.heap.objs.size + 1) scope.names (cloFrom X.env.cells scope.names [])) fp
  have pk := G.pk s3 H3 s3.heap.objs.size (cellsFrom (s3.heap.objs.size + 1) scope.names (cloFrom X.env.cells scope.names [])) fp
  have pv := G.pv s3 H3 s3.heap.objs.size (cellsFrom (s3.heap.objs.size + 1) scope.names (cloFrom X.env.cells scope.names [])) fp
  generalize hce : compEnvC scope (cellsFrom (s3.heap.objs.size + 1) scope.names (cloFrom X.env.cells scope.names [])) s3.heap.objs.size X.env = ce at I4 pg pt pk pv ⊢
  have cL : ce.locals = s3.heap.objs.size := by
    rw [← hce]
    rfl
  have e4 : ({ s2 with heap := pushCells (s3.heap.push { cls := .type "dict", data := .dict #[] }) scope.names } : Shared) = { s3 with heap := pushCells (s3.heap.push { cls := .type "dict", data := .dict #[] }) scope.names } := by rw [← hs3]
  rw [e4]
  have st4 : tn 0 (pushCells (s3.heap.push { cls := .type "dict", data := .dict #[] }) scope.names) := T.keep _ _ _ st3 fun b _ o e => pushCells_keeps _ _ _ _ (Heap.get?_push_of_some _ e)
  have mine : ∀ {σ' : L2.St} {H' : Hp} {s' : Shared}, Inv (X.blk s3 H3 scope ce fp) [] σ' H' s' → (∀ b ∈ fp, H' b = none) → ∀ b ∈ fp, FpOk (X.blk s3 H3 scope ce fp) [] H' b := by
    intro σ' H' s' J' n b hb
    exact ⟨n b hb, (J'.ok.exf b hb).1, J'.ok.exfs b hb, .inl hb, fun x c e => (J'.ok.exf b hb).2 x c e, fun p hp => nomatch (show p ∈ ([] : List (Addr × Obj)) ++ [] from hp)⟩
  have out : ∀ s' H', Inv (X.blk s3 H3 scope ce fp) [] (wipe σ (own.map (·.2))) H' s' → Q (.ref D) H' → compPost (model X.prog X.w) X.A X.xe use Qf (.ref D) s3.heap.objs.size (.ok .next) s' := by
    intro s' H' J' qd
    have back : Inv X pins σ H' s' := I3.call' (ch := fp) J'.os J'.base J'.hok J'.bare fun b hb => ⟨(f3 b hb).1.2.2.2.1, (f3 b hb).1.2.1, (f3 b hb).1.2.2.2.2.1, (f3 b hb).1.2.2.2.2.2⟩
    have nC : H' s3.heap.objs.size = none := by
      have z : H' ce.locals = none := J'.free
      rw [cL] at z
      exact z
    obtain ⟨m, hn, _⟩ := J'.loc
    have hn : s'.heap.Ns ce.locals m := hn
    rw [cL] at hn
    exact hRR D _ s' m H' back qd hn (I3.fpOk (Nat.le_refl _) nC)
  have loop := tc_loop (C := s3.heap.objs.size) (pins := pins) (kx := kx) (vx := vx) (tg := tg) (iter := iter) (ifs := ifs) (scope := scope) (pos := pos) (D := D) (it := it) rfl hc hu T pg pt pk pv turns mine out I4 st4 (fun b hb => (f3 b hb).1.1) w0
  exact codeAny_compStart_dict loop (T.self X.A 0 _ _ _ st4 loop)
/-- as a value -/
theorem pe_tc (hc : X.calm = true) (hu : X.A.units + 64 < cLine) (hN : X.N.Nodup) (hi : PI X tg iter wi) (ok : BlkOk X.N X.env.scope scope own) (G : TcParts X scope tg kx vx ifs g tt tk tv) (hs : ∀ x, foldedSetIterable iter X.env x = pure x := by intro _; rfl) :
    PE X (.DictComp kx vx [⟨tg, iter, ifs, 0⟩] scope pos) (tTc X.prog X.w wi g tt tk tv (own.map (·.2))) := by
  refine ⟨fun pins s σ H Q I h => ?_⟩
  rw [arm_eval_DictComp]
  refine tc_core hc hu hN I hi ok G hs h fun D C s' m H' J q hn f => ⟨m, hn, fun h'' sb => ?_⟩
  obtain ⟨f0, f1, f2, f3, f4, f5⟩ := f
  exact ⟨.ref D, H', J.turned (t' := s'.toks) (fun b o hb e => (sb.2 b hb).trans e) f0 f1 f3 f4 f5, rfl, q⟩
/-- the turns over a walk, by what holds ahead of each -/
theorem tc_it {J : It} {n : Nat} {Gd : Hp → Prop} {Y : Nat → Hp → V → Hp → Prop} (w : Walk J n Gd Y) {P : Program} {wd : World} {vs : List Nat} {σ : L2.St} {H1 : Hp} {D : Addr} {Qd : Hp → Prop} (Pv : Nat → Hp → Prop) (h0 : Pv 0 H1) (hG : ∀ i H, i ≤ n → Pv i H → Gd H)
    (hs : ∀ i x H H', i < n → Pv i H → Y i H x H' → g x (wipe σ vs) H' fun σ2 H2 => wipe σ2 vs = wipe σ vs ∧ tt σ2 H2 (TcEnd P wd D tk tv (Pv (i + 1)) σ2)) (hd : ∀ H, Pv n H → Qd H) :
    ∃ W : Nat → Nat → Hp → Prop, (∃ m, W 0 m H1) ∧ TcTurns P wd D J g tt tk tv vs σ Qd W := by
  refine ⟨fun i m H => m = n - i ∧ i ≤ n ∧ Pv i H, ⟨n, rfl, Nat.zero_le _, h0⟩, ?_⟩
  rintro i m H ⟨rfl, hi, p⟩
  have gd := hG i H hi p
  by_cases lt : i < n
  · refine .inr ⟨w.1 i H lt gd, Pv (i + 1), fun H' p' => ⟨n - (i + 1), by omega, rfl, lt, p'⟩, fun x H' y => ?_⟩
    exact hs i x H H' lt p (w.3 i H x H' lt gd y)
  · have e : i = n := by omega
    subst e
    exact .inl ⟨w.2 H gd, hd H p⟩
end
section
variable {X : Cx} {kx vx tg iter : Expr} {ifs : List Expr} {scope : Scope} {own : List (Str × Nat)} {pos : Pos} {wi : TI} {g : TG} {tt : TT} {tk tv : TE}
theorem pe_tc4 (hc : X.calm = true) (hu : X.A.units + 64 < cLine) (hN : X.N.Nodup) (hi : PI X tg iter wi) (ok : BlkOk X.N X.env.scope scope own)
    (pg : ∀ (s : Shared) (H : Hp) (C : Addr) (cl : List (Str × Addr)) (fp : List Addr), PG (X.blk s H scope (compEnvC scope cl C X.env) fp) tg g) (pt : ∀ (s : Shared) (H : Hp) (C : Addr) (cl : List (Str × Addr)) (fp : List Addr), PTs (X.blk s H scope (compEnvC scope cl C X.env) fp) ifs tt)
    (pk : ∀ (s : Shared) (H : Hp) (C : Addr) (cl : List (Str × Addr)) (fp : List Addr), PE (X.blk s H scope (compEnvC scope cl C X.env) fp) kx tk) (pv : ∀ (s : Shared) (H : Hp) (C : Addr) (cl : List (Str × Addr)) (fp : List Addr), PE (X.blk s H scope (compEnvC scope cl C X.env) fp) vx tv)
    (hs : ∀ x, foldedSetIterable iter X.env x = pure x := by intro _; rfl) : PE X (.DictComp kx vx [⟨tg, iter, ifs, 0⟩] scope pos) (tTc X.prog X.w wi g tt tk tv (own.map (·.2))) := pe_tc hc hu hN hi ok ⟨pg, pt, pk, pv⟩ hs
end
/-- a tuple of the top: it stands in the written part -/
def WrT (K : PySem.W.Frag) (a : Addr) (xs : List V) : Prop := ∃ (o : Obj) (its : Array Value) (n : Nat), K.lookup a = some o ∧ o.cls = .type "tuple" ∧ o.data = .seq its n ∧ its.size ≤ sizeLine ∧ Vals xs its.toList
theorem WrT.sq {K : PySem.W.Frag} {a : Addr} {xs : List V} (h : WrT K a xs) {H : Hp} : SqT K H a xs := .inr h
theorem vals_by : ∀ (xs : List V) (vs : List Value), vs.length = xs.length → (∀ (j : Nat) (v : Value), vs[j]? = some v → ∃ x, xs[j]? = some x ∧ RelV x v) → Vals xs vs
  | [], [], _, _ => .nil
  | [], _ :: _, h, _ => nomatch h
  | _ :: _, [], h, _ => nomatch h
  | x :: xs, v :: vs, h, g => by
    obtain ⟨y, e, r⟩ := g 0 v rfl
    obtain rfl := Option.some.inj e
    exact .cons r (vals_by xs vs (Nat.succ.inj h) fun j u e => g (j + 1) u e)
theorem callR_or {X : Cx} {f : Value} {r1 r2 : List V → Hp → VK → Prop} (a : CallR X f r1) (b : CallR X f r2) : CallR X f (fun xs H Q => r1 xs H Q ∨ r2 xs H Q) := by
  intro pins s σ H vs us Q I r h
  rcases h with h | h
  · exact a pins s σ H vs us Q I r h
  · exact b pins s σ H vs us Q I r h
/-- a text's signs, as texts -/
def signsOf (x : Str) : List Str := x.cps.toList.map fun c => ⟨#[c]⟩
/-- list(x), x a text -/
def rListS : List V → Hp → VK → Prop := fun vs H Q => ∃ x : Str, vs = [V.str x] ∧ x.length ≤ sizeLine ∧ ∀ p, H p = none → Q (.ref p) (upd H p (.lst ((signsOf x).map V.str)))
theorem call_listS {X : Cx} (hc : X.calm = true) : CallR X (.type "list") rListS := by
  intro pins s σ H vs us Q I r h
  obtain ⟨x, rfl, hz, q⟩ := h
  obtain ⟨u, rfl, ru⟩ := vals1 r
  obtain ⟨t, rfl⟩ := (show ∃ t, u = Value.str x t from ru)
  refine call_list_str (I.ok.hd hc) x t (hn := hz) fun h' tk acc' c' hk hS' hacc => ?_
  have len : ((signsOf x).map V.str).length = x.cps.size := by
    unfold signsOf
    rw [List.length_map, List.length_map, Array.length_toList]
  refine ⟨.ref s.heap.objs.size, upd H s.heap.objs.size (.lst ((signsOf x).map V.str)), I.laid (t' := tk) hk (Nat.le_refl _) ⟨by rw [len]; exact hz, acc'.toList, c', vals_by _ _ (by rw [len, Array.length_toList]; exact hacc.1) fun j v e => ?_, hS'⟩, rfl, q _ (I.hok.fresh (Nat.le_refl _))⟩
  rw [Array.getElem?_toList] at e
  obtain ⟨c, u, hc', rfl⟩ := hacc.2 j v e
  refine ⟨.str ⟨#[c]⟩, ?_, ⟨u, rfl⟩⟩
  unfold signsOf
  rw [List.getElem?_map, List.getElem?_map, Array.getElem?_toList, hc']
  rfl
section
variable {X : Cx} {K : PySem.W.Frag} {tg l e : Expr} {es : List Expr} {tl te : TE} {t : TA} {p : Pos}
theorem pi_tupK (hl : PE X l tl) (hK : X.K = K := by rfl) : PI X tg l (iTup K tl) := by
  subst hK
  exact pi_tup hl
theorem pi_listK (hl : PE X l tl) (hK : X.K = K := by rfl) : PI X tg l (iList K tl) := by
  subst hK
  exact pi_list hl
theorem sl_tupK (hK : X.K = K := by rfl) : SlR X (rSlT K) := by
  subst hK
  exact sl_tup
theorem pa_starTK (he : PE X e te) (hr : PA X es t) (hs : starEach (.Starred e p :: es) X.env = (true, eval e X.env) :: starEach es X.env := by rfl) (hK : X.K = K := by rfl) : PA X (.Starred e p :: es) (StX.tStar K te t) := by
  subst hK
  exact StX.pa_star he hr hs
variable {kx vx iter : Expr} {ifs : List Expr} {scope : Scope} {own : List (Str × Nat)} {pos spos py : Pos} {wi : TI} {g : TG} {tt : TT} {tk tv : TE} {i : Nat} {y : Str}
/-- name = {k: v for ..}, keys texts or ints, name a plain local -/
theorem ps_setDc (hc : X.calm = true) (hN : X.N.Nodup) (hy : X.N[i]? = some y) (hyl : X.env.scope.names.lookup y = some .local)
    (hsw : swapsWith (.DictComp kx vx [⟨tg, iter, ifs, 0⟩] scope pos) (some (.Name y py)) spos.line X.env = pure true) (hi : PI X tg iter wi) (ok : BlkOk X.N X.env.scope scope own)
    (hg : ∀ (s : Shared) (H : Hp) (C : Addr) (cl : List (Str × Addr)) (fp : List Addr), PG (X.blk s H scope (compEnvC scope cl C X.env) fp) tg g) (ht : ∀ (s : Shared) (H : Hp) (C : Addr) (cl : List (Str × Addr)) (fp : List Addr), PTs (X.blk s H scope (compEnvC scope cl C X.env) fp) ifs tt)
    (hk : ∀ (s : Shared) (H : Hp) (C : Addr) (cl : List (Str × Addr)) (fp : List Addr), PE (X.blk s H scope (compEnvC scope cl C X.env) fp) kx tk) (he : ∀ (s : Shared) (H : Hp) (C : Addr) (cl : List (Str × Addr)) (fp : List Addr), PE (X.blk s H scope (compEnvC scope cl C X.env) fp) vx tv)
    (hs : ∀ x, foldedSetIterable iter X.env x = pure x := by intro _; rfl) :
    PS X (.Assign [.Name y py] (.DictComp kx vx [⟨tg, iter, ifs, 0⟩] scope pos) spos) (tAsg (tDc wi g tt tk tv (own.map (·.2))) (gName i)) := by
  refine ⟨fun pins s σ H D I h => ?_⟩
  have h0 : tDc wi g tt tk tv (own.map (·.2)) σ H (fun x H1 => gName i x σ H1 D.nx) := h
  have stored : ∀ L C s' m H', Inv X pins σ H' s' → gName i (V.ref L) σ H' D.nx → s'.heap.Ns C m → FpOk X pins H' C →
      compPost (model X.prog X.w) X.A X.xe (some (assign (.Name y py) X.env)) (fun _ s' => SP X pins D .next s') (.ref L) C (.ok .next) s' := by
    intro L C s' m H' J q hn f
    obtain ⟨f0, f1, f2, f3, f4, f5⟩ := f
    show wpAny _ _ (assign (.Name y py) X.env (.ref L)) _ _ _
    refine wpAny_assign_Name (store_ok2 (v := V.ref L) J hN hy (.inl hyl) rfl (fun s2 I2 z => ?_) (.inr hyl))
    obtain ⟨a, sb, ha⟩ := z
    have apart : C ≠ a := by
      rcases ha with z | z
      · rw [z]
        exact f1
      · exact fun e => f4 y a z e.symm
    refine ⟨m, hn.sameBut sb apart, fun h3 sb3 => ?_⟩
    exact ⟨_, H', I2.turned (t' := s2.toks) (fun b o hb e => (sb3.2 b hb).trans e) f0 f1 f3 f4 f5, q⟩
  rw [exec_Assign_Name_used _ _ _ _ hsw]
  refine wpAny_bind (wpAny_standAt (wpAny_bind ?_))
  refine wpAny_bind (thn (dc_core (use := some (assign (.Name y py) X.env)) (pos' := firstIterPos [⟨tg, iter, ifs, 0⟩] pos) hc hN I hi ok hg ht hk he hs h0 stored) fun _ s' hq => ?_)
  exact wpAny_pure (wpAny_pure hq)
end
end YjG
set_option Elab.async false
set_option linter.all false
set_option maxRecDepth 100000
set_option maxHeartbeats 1000000
set_option pp.maxSteps 1500
/-! a + b of two tuples, one answer for both ways. -/
namespace YjG
open PySem PySem.Spec PyProof.Rows L2
def rCatT2 : R2 := fun x y H Q => ∃ a b xs ys, x = .ref a ∧ y = .ref b ∧ H a = some (.tup xs) ∧ H b = some (.tup ys) ∧ xs ≠ [] ∧ xs.length + ys.length ≤ sizeLine ∧
  ∀ H1 q, (∀ c o, H c = some o → H1 c = some o) → H1 q = some (.tup (xs ++ ys)) → Q (.ref q) H1
theorem op_catT2 {X : Cx} : OpR X (binaryOp .Add) rCatT2 := by
  intro pins s σ H x y v u Q I rx ry h
  obtain ⟨a, b, xs, ys, rfl, rfl, ha, hb, ne, hl, q⟩ := h
  refine op_catT pins s σ H _ _ v u Q I rx ry ⟨a, b, xs, ys, rfl, rfl, SqT.of ha, SqT.of hb, ne, hl, fun e => q H a (fun _ _ h => h) (by rw [e, List.append_nil]; exact ha), fun _ p np => q _ p (fun c o h => ?_) upd_same⟩
  rw [upd_ne fun z => by rw [z, np] at h; cases h]
  exact h
end YjG
set_option Elab.async false
set_option linter.all false
set_option maxRecDepth 100000
namespace Yj
open PySem PySem.Spec PyProof.Rows L2
/-! ### the text -/
def topS (i : Nat) : Stmt := PySem.Challenge.pw_twicedated_k47_whole_words.main.body.getD i (.Pass ⟨0, 0, 0, 0⟩)
abbrev s_is_integer : Stmt := topS 8
abbrev N_is_integer : List Str := ["thing"]
theorem sc_is_integer : FnScope N_is_integer ["thing"] (defScope s_is_integer) := ⟨rfl, rfl, rfl, by decide +kernel, rfl, by decide +kernel, by decide +kernel⟩
abbrev s_is_name : Stmt := topS 9
abbrev N_is_name : List Str := ["thing", "sign"]
theorem sc_is_name : FnScope N_is_name ["thing"] (defScope s_is_name) := ⟨rfl, rfl, rfl, by decide +kernel, rfl, by decide +kernel, by decide +kernel⟩
abbrev s_is_day : Stmt := topS 10
abbrev N_is_day : List Str := ["thing"]
theorem sc_is_day : FnScope N_is_day ["thing"] (defScope s_is_day) := ⟨rfl, rfl, rfl, by decide +kernel, rfl, by decide +kernel, by decide +kernel⟩
abbrev s_is_pair : Stmt := topS 15
abbrev N_is_pair : List Str := ["thing", "mark"]
theorem sc_is_pair : FnScope N_is_pair ["thing", "mark"] (defScope s_is_pair) := ⟨rfl, rfl, rfl, by decide +kernel, rfl, by decide +kernel, by decide +kernel⟩
abbrev s_is_variable_name : Stmt := topS 16
abbrev N_is_variable_name : List Str := ["thing"]
theorem sc_is_variable_name : FnScope N_is_variable_name ["thing"] (defScope s_is_variable_name) := ⟨rfl, rfl, rfl, by decide +kernel, rfl, by decide +kernel, by decide +kernel⟩
abbrev s_is_name_term : Stmt := topS 17
abbrev N_is_name_term : List Str := ["thing"]
theorem sc_is_name_term : FnScope N_is_name_term ["thing"] (defScope s_is_name_term) := ⟨rfl, rfl, rfl, by decide +kernel, rfl, by decide +kernel, by decide +kernel⟩
abbrev s_is_variable_day : Stmt := topS 18
abbrev N_is_variable_day : List Str := ["thing"]
theorem sc_is_variable_day : FnScope N_is_variable_day ["thing"] (defScope s_is_variable_day) := ⟨rfl, rfl, rfl, by decide +kernel, rfl, by decide +kernel, by decide +kernel⟩
abbrev s_is_now : Stmt := topS 19
abbrev N_is_now : List Str := ["thing"]
theorem sc_is_now : FnScope N_is_now ["thing"] (defScope s_is_now) := ⟨rfl, rfl, rfl, by decide +kernel, rfl, by decide +kernel, by decide +kernel⟩
abbrev s_is_day_term : Stmt := topS 20
abbrev N_is_day_term : List Str := ["thing"]
theorem sc_is_day_term : FnScope N_is_day_term ["thing"] (defScope s_is_day_term) := ⟨rfl, rfl, rfl, by decide +kernel, rfl, by decide +kernel, by decide +kernel⟩
abbrev s_is_test : Stmt := topS 21
abbrev N_is_test : List Str := ["thing", "word", "one", "other"]
theorem sc_is_test : FnScope N_is_test ["thing"] (defScope s_is_test) := ⟨rfl, rfl, rfl, by decide +kernel, rfl, by decide +kernel, by decide +kernel⟩
abbrev s_number_by : Stmt := topS 24
abbrev N_number_by : List Str := ["word", "sign"]
theorem sc_number_by : FnScope N_number_by ["word"] (defScope s_number_by) := ⟨rfl, rfl, rfl, by decide +kernel, rfl, by decide +kernel, by decide +kernel⟩
abbrev s_names_word : Stmt := topS 25
abbrev N_names_word : List Str := ["names"]
theorem sc_names_word : FnScope N_names_word ["names"] (defScope s_names_word) := ⟨rfl, rfl, rfl, by decide +kernel, rfl, by decide +kernel, by decide +kernel⟩
abbrev s__term_text : Stmt := topS 31
abbrev N__term_text : List Str := ["term"]
theorem sc__term_text : FnScope N__term_text ["term"] (defScope s__term_text) := ⟨rfl, rfl, rfl, by decide +kernel, rfl, by decide +kernel, by decide +kernel⟩
abbrev s_variable_of : Stmt := topS 32
abbrev N_variable_of : List Str := ["word"]
theorem sc_variable_of : FnScope N_variable_of ["word"] (defScope s_variable_of) := ⟨rfl, rfl, rfl, by decide +kernel, rfl, by decide +kernel, by decide +kernel⟩
abbrev s__name_of : Stmt := topS 33
abbrev N__name_of : List Str := ["word"]
theorem sc__name_of : FnScope N__name_of ["word"] (defScope s__name_of) := ⟨rfl, rfl, rfl, by decide +kernel, rfl, by decide +kernel, by decide +kernel⟩
abbrev s__day_of : Stmt := topS 34
abbrev N__day_of : List Str := ["word"]
theorem sc__day_of : FnScope N__day_of ["word"] (defScope s__day_of) := ⟨rfl, rfl, rfl, by decide +kernel, rfl, by decide +kernel, by decide +kernel⟩
abbrev s_atom_text : Stmt := topS 35
abbrev N_atom_text : List Str := ["atom", "relation", "names", "day", "inner", "term"]
theorem sc_atom_text : FnScope N_atom_text ["atom"] (defScope s_atom_text) := ⟨rfl, rfl, rfl, by decide +kernel, rfl, by decide +kernel, by decide +kernel⟩
abbrev s_atom_of : Stmt := topS 36
abbrev N_atom_of : List Str := ["word", "relation", "_", "rest", "inner", "last", "names", "day", "part", "name"]
theorem sc_atom_of : FnScope N_atom_of ["word"] (defScope s_atom_of) := ⟨rfl, rfl, rfl, by decide +kernel, rfl, by decide +kernel, by decide +kernel⟩
abbrev s_test_text : Stmt := topS 37
abbrev N_test_text : List Str := ["test", "signs", "sign", "word"]
theorem sc_test_text : FnScope N_test_text ["test"] (defScope s_test_text) := ⟨rfl, rfl, rfl, by decide +kernel, rfl, by decide +kernel, by decide +kernel⟩
abbrev s__tells_day : Stmt := topS 38
abbrev N__tells_day : List Str := ["word", "days"]
theorem sc__tells_day : FnScope N__tells_day ["word", "days"] (defScope s__tells_day) := ⟨rfl, rfl, rfl, by decide +kernel, rfl, by decide +kernel, by decide +kernel⟩
abbrev s__test_or_none : Stmt := topS 40
abbrev N__test_or_none : List Str := ["kind", "one", "other"]
theorem sc__test_or_none : FnScope N__test_or_none ["kind", "one", "other"] (defScope s__test_or_none) := ⟨rfl, rfl, rfl, by decide +kernel, rfl, by decide +kernel, by decide +kernel⟩
abbrev s_test_of : Stmt := topS 39
abbrev N_test_of : List Str := ["word", "days", "sign", "kind", "one", "_", "other"]
theorem sc_test_of : FnScope N_test_of ["word", "days"] (defScope s_test_of) := ⟨rfl, rfl, rfl, by decide +kernel, rfl, by decide +kernel, by decide +kernel⟩
abbrev s_clause_text : Stmt := topS 41
abbrev N_clause_text : List Str := ["clause", "atom", "test"]
theorem sc_clause_text : FnScope N_clause_text ["clause"] (defScope s_clause_text) := ⟨rfl, rfl, rfl, by decide +kernel, rfl, by decide +kernel, by decide +kernel⟩
abbrev s_answers_text : Stmt := topS 42
abbrev N_answers_text : List Str := ["answers", "names"]
theorem sc_answers_text : FnScope N_answers_text ["answers"] (defScope s_answers_text) := ⟨rfl, rfl, rfl, by decide +kernel, rfl, by decide +kernel, by decide +kernel⟩
abbrev s__is_row : Stmt := topS 51
abbrev N__is_row : List Str := ["thing", "least", "most"]
theorem sc__is_row : FnScope N__is_row ["thing", "least", "most"] (defScope s__is_row) := ⟨rfl, rfl, rfl, by decide +kernel, rfl, by decide +kernel, by decide +kernel⟩
abbrev s__check_atom : Stmt := topS 52
abbrev N__check_atom : List Str := ["thing", "relation", "names", "day", "term"]
theorem sc__check_atom : FnScope N__check_atom ["thing"] (defScope s__check_atom) := ⟨rfl, rfl, rfl, by decide +kernel, rfl, by decide +kernel, by decide +kernel⟩
abbrev s__is_variable : Stmt := topS 53
abbrev N__is_variable : List Str := ["term"]
theorem sc__is_variable : FnScope N__is_variable ["term"] (defScope s__is_variable) := ⟨rfl, rfl, rfl, by decide +kernel, rfl, by decide +kernel, by decide +kernel⟩
abbrev s_variables_of : Stmt := topS 55
abbrev N_variables_of : List Str := ["atoms", "terms", "_", "names", "day", "term"]
theorem sc_variables_of : FnScope N_variables_of ["atoms"] (defScope s_variables_of) := ⟨rfl, rfl, rfl, by decide +kernel, rfl, by decide +kernel, by decide +kernel⟩
abbrev s__are_clauses : Stmt := topS 56
abbrev N__are_clauses : List Str := ["thing", "least", "clause"]
theorem sc__are_clauses : FnScope N__are_clauses ["thing", "least"] (defScope s__are_clauses) := ⟨rfl, rfl, rfl, by decide +kernel, rfl, by decide +kernel, by decide +kernel⟩
abbrev s_minds : Stmt := topS 57
abbrev N_minds : List Str := ["clauses", "told", "many", "clause", "relation", "names", "_"]
theorem sc_minds : FnScope N_minds ["clauses", "told"] (defScope s_minds) := ⟨rfl, rfl, rfl, by decide +kernel, rfl, by decide +kernel, by decide +kernel⟩
abbrev s_Clause___init__ : Stmt := inClass (topS 54) 0
abbrev N_Clause___init__ : List Str := ["self", "atoms", "tests", "atom", "here", "test", "term"]
theorem sc_Clause___init__ : FnScope N_Clause___init__ ["self", "atoms", "tests"] (defScope s_Clause___init__) := ⟨rfl, rfl, rfl, by decide +kernel, rfl, by decide +kernel, by decide +kernel⟩
abbrev s_Question___init__ : Stmt := inClass (topS 58) 0
abbrev N_Question___init__ : List Str := ["self", "head", "clauses", "unless", "clause", "here", "term"]
theorem sc_Question___init__ : FnScope N_Question___init__ ["self", "head", "clauses", "unless"] (defScope s_Question___init__) := ⟨rfl, rfl, rfl, by decide +kernel, rfl, by decide +kernel, by decide +kernel⟩
abbrev s__law_take : Stmt := topS 60
abbrev N__law_take : List Str := ["draw", "many", "cell", "turn", "step", "mixed"]
theorem sc__law_take : FnScope N__law_take ["draw", "many"] (defScope s__law_take) := ⟨rfl, rfl, rfl, by decide +kernel, rfl, by decide +kernel, by decide +kernel⟩
abbrev s__law_pick : Stmt := topS 61
abbrev N__law_pick : List Str := ["draw", "things"]
theorem sc__law_pick : FnScope N__law_pick ["draw", "things"] (defScope s__law_pick) := ⟨rfl, rfl, rfl, by decide +kernel, rfl, by decide +kernel, by decide +kernel⟩
abbrev s__law_name_term : Stmt := topS 62
abbrev N__law_name_term : List Str := ["draw"]
theorem sc__law_name_term : FnScope N__law_name_term ["draw"] (defScope s__law_name_term) := ⟨rfl, rfl, rfl, by decide +kernel, rfl, by decide +kernel, by decide +kernel⟩
abbrev s__law_day_term : Stmt := topS 63
abbrev N__law_day_term : List Str := ["draw", "with_now"]
theorem sc__law_day_term : FnScope N__law_day_term ["draw", "with_now"] (defScope s__law_day_term) := ⟨rfl, rfl, rfl, by decide +kernel, rfl, by decide +kernel, by decide +kernel⟩
abbrev s__law_atom : Stmt := topS 64
abbrev N__law_atom : List Str := ["draw", "with_now"]
theorem sc__law_atom : FnScope N__law_atom ["draw", "with_now"] (defScope s__law_atom) := ⟨rfl, rfl, rfl, by decide +kernel, rfl, by decide +kernel, by decide +kernel⟩
abbrev s__law_clause : Stmt := topS 65
abbrev N__law_clause : List Str := ["draw", "head", "most", "with_now", "atoms", "term", "names", "days", "relation", "terms", "day", "tests", "turn", "other"]
theorem sc__law_clause : FnScope N__law_clause ["draw", "head", "most", "with_now"] (defScope s__law_clause) := ⟨rfl, rfl, rfl, by decide +kernel, rfl, by decide +kernel, by decide +kernel⟩
abbrev s__law_question : Stmt := topS 66
abbrev N__law_question : List Str := ["draw", "head", "clauses", "unless", "turn"]
theorem sc__law_question : FnScope N__law_question ["draw"] (defScope s__law_question) := ⟨rfl, rfl, rfl, by decide +kernel, rfl, by decide +kernel, by decide +kernel⟩
abbrev s__law_rules : Stmt := topS 67
abbrev N__law_rules : List Str := ["draw", "one", "other", "t", "home", "none", "old", "rule"]
theorem sc__law_rules : FnScope N__law_rules ["draw"] (defScope s__law_rules) := ⟨rfl, rfl, rfl, by decide +kernel, rfl, by decide +kernel, by decide +kernel⟩
abbrev s__law_word : Stmt := topS 76
abbrev N__law_word : List Str := ["term"]
theorem sc__law_word : FnScope N__law_word ["term"] (defScope s__law_word) := ⟨rfl, rfl, rfl, by decide +kernel, rfl, by decide +kernel, by decide +kernel⟩
abbrev s__law_words : Stmt := topS 77
abbrev N__law_words : List Str := ["clause", "found", "relation", "names", "day", "signs", "term", "word", "one", "other"]
theorem sc__law_words : FnScope N__law_words ["clause"] (defScope s__law_words) := ⟨rfl, rfl, rfl, by decide +kernel, rfl, by decide +kernel, by decide +kernel⟩
abbrev s_law : Stmt := topS 78
abbrev N_law : List Str := ["script", "draw", "question", "clause", "days", "atom", "test", "rows", "word", "due", "told", "relation", "names", "day"]
theorem sc_law : FnScope N_law ["script"] (defScope s_law) := ⟨rfl, rfl, rfl, by decide +kernel, rfl, by decide +kernel, by decide +kernel⟩
structure Txt (K : PySem.W.Frag) (mg : Str → Option Value) (ad : Nat → Addr) (fds : Nat → FuncData) (cs : Nat → Value) : Prop where
  g_is_integer : mg "is_integer" = some (.ref (ad 8))
  F_is_integer : Fun K "is_integer" "is_integer" s_is_integer (ad 8) (fds 8)
  g_is_name : mg "is_name" = some (.ref (ad 9))
  F_is_name : Fun K "is_name" "is_name" s_is_name (ad 9) (fds 9)
  g_is_day : mg "is_day" = some (.ref (ad 10))
  F_is_day : Fun K "is_day" "is_day" s_is_day (ad 10) (fds 10)
  g_is_pair : mg "is_pair" = some (.ref (ad 15))
  F_is_pair : Fun K "is_pair" "is_pair" s_is_pair (ad 15) (fds 15)
  g_is_variable_name : mg "is_variable_name" = some (.ref (ad 16))
  F_is_variable_name : Fun K "is_variable_name" "is_variable_name" s_is_variable_name (ad 16) (fds 16)
  g_is_name_term : mg "is_name_term" = some (.ref (ad 17))
  F_is_name_term : Fun K "is_name_term" "is_name_term" s_is_name_term (ad 17) (fds 17)
  g_is_variable_day : mg "is_variable_day" = some (.ref (ad 18))
  F_is_variable_day : Fun K "is_variable_day" "is_variable_day" s_is_variable_day (ad 18) (fds 18)
  g_is_now : mg "is_now" = some (.ref (ad 19))
  F_is_now : Fun K "is_now" "is_now" s_is_now (ad 19) (fds 19)
  g_is_day_term : mg "is_day_term" = some (.ref (ad 20))
  F_is_day_term : Fun K "is_day_term" "is_day_term" s_is_day_term (ad 20) (fds 20)
  g_is_test : mg "is_test" = some (.ref (ad 21))
  F_is_test : Fun K "is_test" "is_test" s_is_test (ad 21) (fds 21)
  g_number_by : mg "number_by" = some (.ref (ad 24))
  F_number_by : Fun K "number_by" "number_by" s_number_by (ad 24) (fds 24)
  g_names_word : mg "names_word" = some (.ref (ad 25))
  F_names_word : Fun K "names_word" "names_word" s_names_word (ad 25) (fds 25)
  g__term_text : mg "_term_text" = some (.ref (ad 31))
  F__term_text : Fun K "_term_text" "_term_text" s__term_text (ad 31) (fds 31)
  g_variable_of : mg "variable_of" = some (.ref (ad 32))
  F_variable_of : Fun K "variable_of" "variable_of" s_variable_of (ad 32) (fds 32)
  g__name_of : mg "_name_of" = some (.ref (ad 33))
  F__name_of : Fun K "_name_of" "_name_of" s__name_of (ad 33) (fds 33)
  g__day_of : mg "_day_of" = some (.ref (ad 34))
  F__day_of : Fun K "_day_of" "_day_of" s__day_of (ad 34) (fds 34)
  g_atom_text : mg "atom_text" = some (.ref (ad 35))
  F_atom_text : Fun K "atom_text" "atom_text" s_atom_text (ad 35) (fds 35)
  g_atom_of : mg "atom_of" = some (.ref (ad 36))
  F_atom_of : Fun K "atom_of" "atom_of" s_atom_of (ad 36) (fds 36)
  g_test_text : mg "test_text" = some (.ref (ad 37))
  F_test_text : Fun K "test_text" "test_text" s_test_text (ad 37) (fds 37)
  g__tells_day : mg "_tells_day" = some (.ref (ad 38))
  F__tells_day : Fun K "_tells_day" "_tells_day" s__tells_day (ad 38) (fds 38)
  g__test_or_none : mg "_test_or_none" = some (.ref (ad 40))
  F__test_or_none : Fun K "_test_or_none" "_test_or_none" s__test_or_none (ad 40) (fds 40)
  g_test_of : mg "test_of" = some (.ref (ad 39))
  F_test_of : Fun K "test_of" "test_of" s_test_of (ad 39) (fds 39)
  g_clause_text : mg "clause_text" = some (.ref (ad 41))
  F_clause_text : Fun K "clause_text" "clause_text" s_clause_text (ad 41) (fds 41)
  g_answers_text : mg "answers_text" = some (.ref (ad 42))
  F_answers_text : Fun K "answers_text" "answers_text" s_answers_text (ad 42) (fds 42)
  g__is_row : mg "_is_row" = some (.ref (ad 51))
  F__is_row : Fun K "_is_row" "_is_row" s__is_row (ad 51) (fds 51)
  g__check_atom : mg "_check_atom" = some (.ref (ad 52))
  F__check_atom : Fun K "_check_atom" "_check_atom" s__check_atom (ad 52) (fds 52)
  g__is_variable : mg "_is_variable" = some (.ref (ad 53))
  F__is_variable : Fun K "_is_variable" "_is_variable" s__is_variable (ad 53) (fds 53)
  g_variables_of : mg "variables_of" = some (.ref (ad 55))
  F_variables_of : Fun K "variables_of" "variables_of" s_variables_of (ad 55) (fds 55)
  g__are_clauses : mg "_are_clauses" = some (.ref (ad 56))
  F__are_clauses : Fun K "_are_clauses" "_are_clauses" s__are_clauses (ad 56) (fds 56)
  g_minds : mg "minds" = some (.ref (ad 57))
  F_minds : Fun K "minds" "minds" s_minds (ad 57) (fds 57)
  F_Clause___init__ : Fun K "__init__" "Clause.__init__" s_Clause___init__ (ad 55000) (fds 55000)
  F_Question___init__ : Fun K "__init__" "Question.__init__" s_Question___init__ (ad 59000) (fds 59000)
  g__law_take : mg "_law_take" = some (.ref (ad 60))
  F__law_take : Fun K "_law_take" "_law_take" s__law_take (ad 60) (fds 60)
  g__law_pick : mg "_law_pick" = some (.ref (ad 61))
  F__law_pick : Fun K "_law_pick" "_law_pick" s__law_pick (ad 61) (fds 61)
  g__law_name_term : mg "_law_name_term" = some (.ref (ad 62))
  F__law_name_term : Fun K "_law_name_term" "_law_name_term" s__law_name_term (ad 62) (fds 62)
  g__law_day_term : mg "_law_day_term" = some (.ref (ad 63))
  F__law_day_term : Fun K "_law_day_term" "_law_day_term" s__law_day_term (ad 63) (fds 63)
  g__law_atom : mg "_law_atom" = some (.ref (ad 64))
  F__law_atom : Fun K "_law_atom" "_law_atom" s__law_atom (ad 64) (fds 64)
  g__law_clause : mg "_law_clause" = some (.ref (ad 65))
  F__law_clause : Fun K "_law_clause" "_law_clause" s__law_clause (ad 65) (fds 65)
  g__law_question : mg "_law_question" = some (.ref (ad 66))
  F__law_question : Fun K "_law_question" "_law_question" s__law_question (ad 66) (fds 66)
  g__law_rules : mg "_law_rules" = some (.ref (ad 67))
  F__law_rules : Fun K "_law_rules" "_law_rules" s__law_rules (ad 67) (fds 67)
  g__law_word : mg "_law_word" = some (.ref (ad 76))
  F__law_word : Fun K "_law_word" "_law_word" s__law_word (ad 76) (fds 76)
  g__law_words : mg "_law_words" = some (.ref (ad 77))
  F__law_words : Fun K "_law_words" "_law_words" s__law_words (ad 77) (fds 77)
  g_law : mg "law" = some (.ref (ad 78))
  F_law : Fun K "law" "law" s_law (ad 78) (fds 78)
  g_Clause : mg "Clause" = some (.ref (ad 55999))
  cl_Clause : Cls K (ad 55999)
  mk_Clause : Mk K (ad 55999) (ad 55000)
  na_Clause_atoms : NoAttr K (ad 55999) "atoms"
  na_Clause_tests : NoAttr K (ad 55999) "tests"
  is_Clause : YjD.IsCls K (ad 55999)
  g_Question : mg "Question" = some (.ref (ad 59999))
  cl_Question : Cls K (ad 59999)
  mk_Question : Mk K (ad 59999) (ad 59000)
  na_Question_head : NoAttr K (ad 59999) "head"
  na_Question_clauses : NoAttr K (ad 59999) "clauses"
  na_Question_unless : NoAttr K (ad 59999) "unless"
  is_Question : YjD.IsCls K (ad 59999)
  z_isinstance : mg "isinstance" = none
  z_len : mg "len" = none
  z_all : mg "all" = none
  z_any : mg "any" = none
  z_max : mg "max" = none
  z_tuple : mg "tuple" = none
  z_list : mg "list" = none
  z_int : mg "int" = none
  z_str : mg "str" = none
  z_range : mg "range" = none
  z_bool : mg "bool" = none
  c_NOW : mg "NOW" = some (.ref (ad 12))
  w_NOW : YjG.WrT K (ad 12) [.str "now"]
  c_DAY_WORDS : mg "DAY_WORDS" = some (.ref (ad 13))
  w_DAY_WORDS : YjG.WrT K (ad 13) [.str "less", .str "most", .str "same", .str "unlike"]
  c_NAME_WORDS : mg "NAME_WORDS" = some (.ref (ad 14))
  w_NAME_WORDS : YjG.WrT K (ad 14) [.str "same", .str "unlike"]
  c_SIGNS : mg "SIGNS" = some (.ref (ad 29))
  w_SIGNS : ∃ t0 t1 t2 t3 : Addr, YjG.WrT K (ad 29) [.ref t0, .ref t1, .ref t2, .ref t3] ∧ YjG.WrT K t0 [.str "!=", .str "unlike"] ∧ YjG.WrT K t1 [.str "<=", .str "most"] ∧ YjG.WrT K t2 [.str "<", .str "less"] ∧ YjG.WrT K t3 [.str "=", .str "same"]
  c_OF_NAMES : mg "OF_NAMES" = some (.ref (ad 30))
  w_OF_NAMES : YjG.WrT K (ad 30) [.str "same", .str "unlike"]
  c_LETTERS : mg "LETTERS" = some (cs 3)
  r_LETTERS : RelV (.str "abcdefghijklmnopqrstuvwxyz") (cs 3)
  c_FIGURES : mg "FIGURES" = some (cs 4)
  r_FIGURES : RelV (.str "0123456789") (cs 4)
  c_LONGEST_NAME : mg "LONGEST_NAME" = some (cs 5)
  r_LONGEST_NAME : RelV (.int 8) (cs 5)
  c_LAST_DAY : mg "LAST_DAY" = some (cs 6)
  r_LAST_DAY : RelV (.int 999999) (cs 6)
  c_MOST_NAMES : mg "MOST_NAMES" = some (cs 7)
  r_MOST_NAMES : RelV (.int 4) (cs 7)
  c_MOST_FIGURES : mg "MOST_FIGURES" = some (cs 23)
  r_MOST_FIGURES : RelV (.int 6) (cs 23)
  c_VARIABLE : mg "VARIABLE" = some (cs 27)
  r_VARIABLE : RelV (.str "?") (cs 27)
  c_NOW_WORD : mg "NOW_WORD" = some (cs 28)
  r_NOW_WORD : RelV (.str "now") (cs 28)
  c_MOST_ATOMS : mg "MOST_ATOMS" = some (cs 47)
  r_MOST_ATOMS : RelV (.int 3) (cs 47)
  c_MOST_TESTS : mg "MOST_TESTS" = some (cs 48)
  r_MOST_TESTS : RelV (.int 6) (cs 48)
  c_MOST_CLAUSES : mg "MOST_CLAUSES" = some (cs 49)
  r_MOST_CLAUSES : RelV (.int 3) (cs 49)
  c_LONGEST_HEAD : mg "LONGEST_HEAD" = some (cs 50)
  r_LONGEST_HEAD : RelV (.int 4) (cs 50)
section
variable {P : Program} {w : World} {K : PySem.W.Frag} {mg : Str → Option Value} {base : Heap} {ad : Nat → Addr} {fds : Nat → FuncData} {cs : Nat → Value}
theorem bi_is_integer (T : Txt K mg ad fds cs) : Binds K (fds 8) ["thing"] [] := T.F_is_integer.binds (ps := ["thing"]) fun _ _ _ _ _ _ us hl => match us, hl with | [_], _ => rfl
theorem bi_is_name (T : Txt K mg ad fds cs) : Binds K (fds 9) ["thing"] [] := T.F_is_name.binds (ps := ["thing"]) fun _ _ _ _ _ _ us hl => match us, hl with | [_], _ => rfl
theorem bi_is_day (T : Txt K mg ad fds cs) : Binds K (fds 10) ["thing"] [] := T.F_is_day.binds (ps := ["thing"]) fun _ _ _ _ _ _ us hl => match us, hl with | [_], _ => rfl
theorem bi_is_pair (T : Txt K mg ad fds cs) : Binds K (fds 15) ["thing", "mark"] [] := T.F_is_pair.binds (ps := ["thing", "mark"]) fun _ _ _ _ _ _ us hl => match us, hl with | [_, _], _ => rfl
theorem bi_is_variable_name (T : Txt K mg ad fds cs) : Binds K (fds 16) ["thing"] [] := T.F_is_variable_name.binds (ps := ["thing"]) fun _ _ _ _ _ _ us hl => match us, hl with | [_], _ => rfl
theorem bi_is_name_term (T : Txt K mg ad fds cs) : Binds K (fds 17) ["thing"] [] := T.F_is_name_term.binds (ps := ["thing"]) fun _ _ _ _ _ _ us hl => match us, hl with | [_], _ => rfl
theorem bi_is_variable_day (T : Txt K mg ad fds cs) : Binds K (fds 18) ["thing"] [] := T.F_is_variable_day.binds (ps := ["thing"]) fun _ _ _ _ _ _ us hl => match us, hl with | [_], _ => rfl
theorem bi_is_now (T : Txt K mg ad fds cs) : Binds K (fds 19) ["thing"] [] := T.F_is_now.binds (ps := ["thing"]) fun _ _ _ _ _ _ us hl => match us, hl with | [_], _ => rfl
theorem bi_is_day_term (T : Txt K mg ad fds cs) : Binds K (fds 20) ["thing"] [] := T.F_is_day_term.binds (ps := ["thing"]) fun _ _ _ _ _ _ us hl => match us, hl with | [_], _ => rfl
theorem bi_is_test (T : Txt K mg ad fds cs) : Binds K (fds 21) ["thing"] [] := T.F_is_test.binds (ps := ["thing"]) fun _ _ _ _ _ _ us hl => match us, hl with | [_], _ => rfl
theorem bi_number_by (T : Txt K mg ad fds cs) : Binds K (fds 24) ["word"] [] := T.F_number_by.binds (ps := ["word"]) fun _ _ _ _ _ _ us hl => match us, hl with | [_], _ => rfl
theorem bi_names_word (T : Txt K mg ad fds cs) : Binds K (fds 25) ["names"] [] := T.F_names_word.binds (ps := ["names"]) fun _ _ _ _ _ _ us hl => match us, hl with | [_], _ => rfl
theorem bi__term_text (T : Txt K mg ad fds cs) : Binds K (fds 31) ["term"] [] := T.F__term_text.binds (ps := ["term"]) fun _ _ _ _ _ _ us hl => match us, hl with | [_], _ => rfl
theorem bi_variable_of (T : Txt K mg ad fds cs) : Binds K (fds 32) ["word"] [] := T.F_variable_of.binds (ps := ["word"]) fun _ _ _ _ _ _ us hl => match us, hl with | [_], _ => rfl
theorem bi__name_of (T : Txt K mg ad fds cs) : Binds K (fds 33) ["word"] [] := T.F__name_of.binds (ps := ["word"]) fun _ _ _ _ _ _ us hl => match us, hl with | [_], _ => rfl
theorem bi__day_of (T : Txt K mg ad fds cs) : Binds K (fds 34) ["word"] [] := T.F__day_of.binds (ps := ["word"]) fun _ _ _ _ _ _ us hl => match us, hl with | [_], _ => rfl
theorem bi_atom_text (T : Txt K mg ad fds cs) : Binds K (fds 35) ["atom"] [] := T.F_atom_text.binds (ps := ["atom"]) fun _ _ _ _ _ _ us hl => match us, hl with | [_], _ => rfl
theorem bi_atom_of (T : Txt K mg ad fds cs) : Binds K (fds 36) ["word"] [] := T.F_atom_of.binds (ps := ["word"]) fun _ _ _ _ _ _ us hl => match us, hl with | [_], _ => rfl
theorem bi_test_text (T : Txt K mg ad fds cs) : Binds K (fds 37) ["test"] [] := T.F_test_text.binds (ps := ["test"]) fun _ _ _ _ _ _ us hl => match us, hl with | [_], _ => rfl
theorem bi__tells_day (T : Txt K mg ad fds cs) : Binds K (fds 38) ["word", "days"] [] := T.F__tells_day.binds (ps := ["word", "days"]) fun _ _ _ _ _ _ us hl => match us, hl with | [_, _], _ => rfl
theorem bi__test_or_none (T : Txt K mg ad fds cs) : Binds K (fds 40) ["kind", "one", "other"] [] := T.F__test_or_none.binds (ps := ["kind", "one", "other"]) fun _ _ _ _ _ _ us hl => match us, hl with | [_, _, _], _ => rfl
theorem bi_test_of (T : Txt K mg ad fds cs) : Binds K (fds 39) ["word", "days"] [] := T.F_test_of.binds (ps := ["word", "days"]) fun _ _ _ _ _ _ us hl => match us, hl with | [_, _], _ => rfl
theorem bi_clause_text (T : Txt K mg ad fds cs) : Binds K (fds 41) ["clause"] [] := T.F_clause_text.binds (ps := ["clause"]) fun _ _ _ _ _ _ us hl => match us, hl with | [_], _ => rfl
theorem bi_answers_text (T : Txt K mg ad fds cs) : Binds K (fds 42) ["answers"] [] := T.F_answers_text.binds (ps := ["answers"]) fun _ _ _ _ _ _ us hl => match us, hl with | [_], _ => rfl
theorem bi__is_row (T : Txt K mg ad fds cs) : Binds K (fds 51) ["thing", "least", "most"] [] := T.F__is_row.binds (ps := ["thing", "least", "most"]) fun _ _ _ _ _ _ us hl => match us, hl with | [_, _, _], _ => rfl
theorem bi__check_atom (T : Txt K mg ad fds cs) : Binds K (fds 52) ["thing"] [] := T.F__check_atom.binds (ps := ["thing"]) fun _ _ _ _ _ _ us hl => match us, hl with | [_], _ => rfl
theorem bi__is_variable (T : Txt K mg ad fds cs) : Binds K (fds 53) ["term"] [] := T.F__is_variable.binds (ps := ["term"]) fun _ _ _ _ _ _ us hl => match us, hl with | [_], _ => rfl
theorem bi_variables_of (T : Txt K mg ad fds cs) : Binds K (fds 55) ["atoms"] [] := T.F_variables_of.binds (ps := ["atoms"]) fun _ _ _ _ _ _ us hl => match us, hl with | [_], _ => rfl
theorem bi__are_clauses (T : Txt K mg ad fds cs) : Binds K (fds 56) ["thing", "least"] [] := T.F__are_clauses.binds (ps := ["thing", "least"]) fun _ _ _ _ _ _ us hl => match us, hl with | [_, _], _ => rfl
theorem bi_minds (T : Txt K mg ad fds cs) : Binds K (fds 57) ["clauses", "told"] [] := T.F_minds.binds (ps := ["clauses", "told"]) fun _ _ _ _ _ _ us hl => match us, hl with | [_, _], _ => rfl
theorem bi_Clause___init__ (T : Txt K mg ad fds cs) : Binds K (fds 55000) ["self", "atoms", "tests"] [] := T.F_Clause___init__.binds (ps := ["self", "atoms", "tests"]) fun _ _ _ _ _ _ us hl => match us, hl with | [_, _, _], _ => rfl
theorem bi_Question___init__ (T : Txt K mg ad fds cs) : Binds K (fds 59000) ["self", "head", "clauses", "unless"] [] := T.F_Question___init__.binds (ps := ["self", "head", "clauses", "unless"]) fun _ _ _ _ _ _ us hl => match us, hl with | [_, _, _, _], _ => rfl
theorem bi__law_take (T : Txt K mg ad fds cs) : Binds K (fds 60) ["draw", "many"] [] := T.F__law_take.binds (ps := ["draw", "many"]) fun _ _ _ _ _ _ us hl => match us, hl with | [_, _], _ => rfl
theorem bi__law_pick (T : Txt K mg ad fds cs) : Binds K (fds 61) ["draw", "things"] [] := T.F__law_pick.binds (ps := ["draw", "things"]) fun _ _ _ _ _ _ us hl => match us, hl with | [_, _], _ => rfl
theorem bi__law_name_term (T : Txt K mg ad fds cs) : Binds K (fds 62) ["draw"] [] := T.F__law_name_term.binds (ps := ["draw"]) fun _ _ _ _ _ _ us hl => match us, hl with | [_], _ => rfl
theorem bi__law_day_term (T : Txt K mg ad fds cs) : Binds K (fds 63) ["draw", "with_now"] [] := T.F__law_day_term.binds (ps := ["draw", "with_now"]) fun _ _ _ _ _ _ us hl => match us, hl with | [_, _], _ => rfl
theorem bi__law_atom (T : Txt K mg ad fds cs) : Binds K (fds 64) ["draw", "with_now"] [] := T.F__law_atom.binds (ps := ["draw", "with_now"]) fun _ _ _ _ _ _ us hl => match us, hl with | [_, _], _ => rfl
theorem bi__law_clause (T : Txt K mg ad fds cs) : Binds K (fds 65) ["draw", "head", "most", "with_now"] [] := T.F__law_clause.binds (ps := ["draw", "head", "most", "with_now"]) fun _ _ _ _ _ _ us hl => match us, hl with | [_, _, _, _], _ => rfl
theorem bi__law_question (T : Txt K mg ad fds cs) : Binds K (fds 66) ["draw"] [] := T.F__law_question.binds (ps := ["draw"]) fun _ _ _ _ _ _ us hl => match us, hl with | [_], _ => rfl
theorem bi__law_rules (T : Txt K mg ad fds cs) : Binds K (fds 67) ["draw"] [] := T.F__law_rules.binds (ps := ["draw"]) fun _ _ _ _ _ _ us hl => match us, hl with | [_], _ => rfl
theorem bi__law_word (T : Txt K mg ad fds cs) : Binds K (fds 76) ["term"] [] := T.F__law_word.binds (ps := ["term"]) fun _ _ _ _ _ _ us hl => match us, hl with | [_], _ => rfl
theorem bi__law_words (T : Txt K mg ad fds cs) : Binds K (fds 77) ["clause"] [] := T.F__law_words.binds (ps := ["clause"]) fun _ _ _ _ _ _ us hl => match us, hl with | [_], _ => rfl
theorem bi_law (T : Txt K mg ad fds cs) : Binds K (fds 78) ["script"] [] := T.F_law.binds (ps := ["script"]) fun _ _ _ _ _ _ us hl => match us, hl with | [_], _ => rfl
theorem passN {X : Cx} : Passes (L2N.CX X.prog X.w) X E0 := fun _ _ _ _ _ _ _ h => by
  obtain ⟨_, _, _, _, _, _, _, _, _, _, _, _, z⟩ := h
  exact z.elim
end
end Yj
set_option Elab.async false
set_option linter.all false
set_option maxRecDepth 100000
set_option maxHeartbeats 4000000
set_option pp.maxSteps 1500
namespace Yj
open PySem PySem.Spec PyProof.Rows L2 RZ
/-! ### things -/
/-- a thing of anybody's, as it stands in the heap -/
inductive Pl (H : Hp) : V → Prop
  | non : Pl H .non
  | bl (b : Bool) : Pl H (.bl b)
  | int (i : Int) : Pl H (.int i)
  | str (x : Str) : Pl H (.str x)
  | lst {a : Addr} {xs : List V} (h : H a = some (.lst xs)) : Pl H (.ref a)
  | tup {a : Addr} {xs : List V} (h : H a = some (.tup xs)) : Pl H (.ref a)
def isI : V → Bool
  | .int _ => true
  | _ => false
end Yj
set_option Elab.async false
set_option linter.all false
set_option maxRecDepth 100000
set_option maxHeartbeats 4000000
set_option pp.maxSteps 1500
namespace Yj
open PySem PySem.Spec PyProof.Rows L2 RZ
section
variable {P : Program} {w : World} {K : PySem.W.Frag} {mg : Str → Option Value} {base : Heap} {ad : Nat → Addr} {fds : Nat → FuncData} {cs : Nat → Value}
def spInteger : Sp := fun vs H Q _ => ∃ x, vs = [x] ∧ Pl H x ∧ Q (.bl (isI x)) H
theorem ok_is_integer (T : Txt K mg ad fds cs) : FnOk P w K mg base CX0 1 (ad 8) (fds 8) ["thing"] spInteger := by
  refine T.F_is_integer.ok sc_is_integer (fun vs H Q E h => ?_) (fun cdv A outer s H vs Q E hr h => ?_)
  · obtain ⟨x, rfl, _⟩ := h
    rfl
  · obtain ⟨x, rfl, hx, q⟩ := h
    refine ⟨_, (pss_one (ps_ret (pe_and (pe_callB call_isi (by rfl) T.z_isinstance (by decide +kernel) (pa_cons (pv 0) (pa_cons (pe_bltn (v := .ty "int") (u := .type "int") (by rfl) T.z_int (by decide +kernel) rfl) pa_nil))) (pe_one (pe_not (pe_callB call_isi (by rfl) T.z_isinstance (by decide +kernel) (pa_cons (pv 0) (pa_cons (pe_bltn (v := .ty "bool") (u := .type "bool") (by rfl) T.z_bool (by decide +kernel) rfl) pa_nil)))))))), ?_⟩
    cases hx with
    | non => exact ⟨_, rfl, _, _, _, _, false, rfl, ClsV.ty _, TyX.base .non, kit_ty (by decide +kernel), _, rfl, iteF q⟩
    | bl b => exact ⟨_, rfl, _, _, _, _, true, rfl, ClsV.ty _, TyX.base (.bl b), kit_ty (by decide +kernel), _, rfl, iteT ⟨_, rfl, _, _, _, _, true, rfl, ClsV.ty _, TyX.base (.bl b), kit_ty (by decide +kernel), _, rfl, q⟩⟩
    | int i => exact ⟨_, rfl, _, _, _, _, true, rfl, ClsV.ty _, TyX.base (.int i), kit_ty (by decide +kernel), _, rfl, iteT ⟨_, rfl, _, _, _, _, false, rfl, ClsV.ty _, TyX.base (.int i), kit_ty (by decide +kernel), _, rfl, q⟩⟩
    | str x => exact ⟨_, rfl, _, _, _, _, false, rfl, ClsV.ty _, TyX.base (.str x), kit_ty (by decide +kernel), _, rfl, iteF q⟩
    | lst h => exact ⟨_, rfl, _, _, _, _, false, rfl, ClsV.ty _, TyX.base (.lst h), kit_ty (by decide +kernel), _, rfl, iteF q⟩
    | tup h => exact ⟨_, rfl, _, _, _, _, false, rfl, ClsV.ty _, TyX.base (.tup h), kit_ty (by decide +kernel), _, rfl, iteF q⟩
end
end Yj
set_option Elab.async false
set_option linter.all false
set_option maxRecDepth 100000
set_option maxHeartbeats 4000000
set_option pp.maxSteps 1500
namespace Yj
open PySem PySem.Spec PyProof.Rows L2 RZ
/-! ### rows of spans: the mathematics -/
abbrev Sps := List (Int × Int)
/-- a day is in one of the spans -/
def Mem : Sps → Int → Prop
  | [], _ => False
  | p :: x, d => (p.1 ≤ d ∧ d ≤ p.2) ∨ Mem x d
instance memDec : (l : Sps) → (d : Int) → Decidable (Mem l d)
  | [], _ => .isFalse id
  | p :: x, d => @instDecidableOr _ _ _ (memDec x d)
/-- the one form: from lo on, ascending, a day between each two -/
def Nf : Int → Sps → Prop
  | _, [] => True
  | lo, p :: x => lo ≤ p.1 ∧ p.1 ≤ p.2 ∧ Nf (p.2 + 2) x
/-- all spans are such -/
def Val : Sps → Prop
  | [] => True
  | p :: x => (0 ≤ p.1 ∧ p.1 ≤ p.2 ∧ p.2 ≤ 999999) ∧ Val x
theorem Nf.mono : ∀ {l : Sps} {lo lo' : Int}, Nf lo l → lo' ≤ lo → Nf lo' l
  | [], _, _, _, _ => True.intro
  | p :: x, _, _, h, e => ⟨Int.le_trans e h.1, h.2.1, h.2.2⟩
theorem Nf.low : ∀ {l : Sps} {lo d : Int}, Nf lo l → Mem l d → lo ≤ d
  | [], _, _, _, h => h.elim
  | p :: x, lo, d, ⟨h1, h2, h3⟩, h => by
    rcases h with h | h
    · omega
    · have := h3.low h
      omega
theorem Nf.val : ∀ {l : Sps} {lo : Int}, Nf lo l → ∀ p ∈ l, p.1 ≤ p.2
  | [], _, _, p, h => by cases h
  | q :: x, lo, ⟨h1, h2, h3⟩, p, h => by
    rcases List.mem_cons.mp h with e | h
    · rw [e]
      exact h2
    · exact h3.val p h
theorem Nf.uniq : ∀ {l m : Sps} {lo lo' : Int}, Nf lo l → Nf lo' m → (∀ d, Mem l d ↔ Mem m d) → l = m
  | [], [], _, _, _, _, _ => rfl
  | [], q :: y, _, _, _, hm, h => ((h q.1).mpr (.inl ⟨Int.le_refl _, hm.2.1⟩)).elim
  | p :: x, [], _, _, hl, _, h => ((h p.1).mp (.inl ⟨Int.le_refl _, hl.2.1⟩)).elim
  | (a, b) :: x, (c, d) :: y, _, _, ⟨l1, l2, l3⟩, ⟨m1, m2, m3⟩, h => by
    dsimp only at l1 l2 l3 m1 m2 m3
    have lx : ∀ e, Mem x e → b + 2 ≤ e := fun e z => l3.low z
    have ly : ∀ e, Mem y e → d + 2 ≤ e := fun e z => m3.low z
    have hh : ∀ e, ((a ≤ e ∧ e ≤ b) ∨ Mem x e) ↔ ((c ≤ e ∧ e ≤ d) ∨ Mem y e) := h
    have hac : a = c := by
      have h1 := (hh a).mp (.inl ⟨Int.le_refl _, l2⟩)
      have h2 := (hh c).mpr (.inl ⟨Int.le_refl _, m2⟩)
      rcases h1 with h1 | h1
      · rcases h2 with h2 | h2
        · omega
        · have := lx _ h2
          omega
      · have := ly _ h1
        rcases h2 with h2 | h2
        · omega
        · have := lx _ h2
          omega
    subst hac
    have hbd : b = d := by
      rcases Int.lt_trichotomy b d with z | z | z
      · have h1 := (hh (b + 1)).mpr (.inl ⟨by omega, by omega⟩)
        rcases h1 with h1 | h1
        · omega
        · have := lx _ h1
          omega
      · exact z
      · have h1 := (hh (d + 1)).mp (.inl ⟨by omega, by omega⟩)
        rcases h1 with h1 | h1
        · omega
        · have := ly _ h1
          omega
    subst hbd
    have : x = y := Nf.uniq l3 m3 fun e => by
      constructor
      · intro z
        have g := lx _ z
        rcases (hh e).mp (.inr z) with q | q
        · omega
        · exact q
      · intro z
        have g := ly _ z
        rcases (hh e).mpr (.inr z) with q | q
        · omega
        · exact q
    rw [this]
theorem Val.mem : ∀ {l : Sps} {d : Int}, Val l → Mem l d → 0 ≤ d ∧ d ≤ 999999
  | [], _, _, h => h.elim
  | p :: x, d, ⟨v, vx⟩, h => by
    rcases h with h | h
    · omega
    · exact vx.mem h
theorem Val.all : ∀ {l : Sps}, Val l → ∀ p ∈ l, 0 ≤ p.1 ∧ p.1 ≤ p.2 ∧ p.2 ≤ 999999
  | [], _, _, h => by cases h
  | q :: x, ⟨v, vx⟩, p, h => by
    rcases List.mem_cons.mp h with e | h
    · rw [e]
      exact v
    · exact vx.all p h
theorem val_of : ∀ {l : Sps}, (∀ p ∈ l, 0 ≤ p.1 ∧ p.1 ≤ p.2 ∧ p.2 ≤ 999999) → Val l
  | [], _ => True.intro
  | q :: x, h => ⟨h q (List.mem_cons_self ..), val_of fun p z => h p (List.mem_cons_of_mem _ z)⟩
theorem mem_iff : ∀ {l : Sps} {d : Int}, Mem l d ↔ ∃ p ∈ l, p.1 ≤ d ∧ d ≤ p.2
  | [], d => ⟨fun h => h.elim, fun ⟨_, h, _⟩ => by cases h⟩
  | q :: x, d => by
    constructor
    · intro h
      rcases h with h | h
      · exact ⟨q, List.mem_cons_self .., h⟩
      · obtain ⟨p, hp, h⟩ := mem_iff.mp h
        exact ⟨p, List.mem_cons_of_mem _ hp, h⟩
    · rintro ⟨p, hp, h⟩
      rcases List.mem_cons.mp hp with e | hp
      · rw [e] at h
        exact .inl h
      · exact .inr (mem_iff.mpr ⟨p, hp, h⟩)
theorem mem_append {l m : Sps} {d : Int} : Mem (l ++ m) d ↔ Mem l d ∨ Mem m d := by
  rw [mem_iff, mem_iff, mem_iff]
  constructor
  · rintro ⟨p, hp, h⟩
    rcases List.mem_append.mp hp with z | z
    · exact .inl ⟨p, z, h⟩
    · exact .inr ⟨p, z, h⟩
  · rintro (⟨p, hp, h⟩ | ⟨p, hp, h⟩)
    · exact ⟨p, List.mem_append_left _ hp, h⟩
    · exact ⟨p, List.mem_append_right _ hp, h⟩
/-- a row: in its one form, of days -/
def Row (l : Sps) : Prop := Nf 0 l ∧ Val l
theorem Row.uniq {l m : Sps} (a : Row l) (b : Row m) (h : ∀ d, 0 ≤ d → d ≤ 999999 → (Mem l d ↔ Mem m d)) : l = m := a.1.uniq b.1 fun d => by
  constructor
  · intro z
    obtain ⟨h1, h2⟩ := a.2.mem z
    exact (h d h1 h2).mp z
  · intro z
    obtain ⟨h1, h2⟩ := b.2.mem z
    exact (h d h1 h2).mpr z
/-! melting -/
def meltM : Int × Int → Sps → Sps
  | c, [] => [c]
  | c, p :: x => if p.1 ≤ c.2 + 1 then meltM (c.1, if p.2 > c.2 then p.2 else c.2) x else c :: meltM p x
def melt : Sps → Sps
  | [] => []
  | p :: x => meltM p x
/-- ascending by their first days, each above -/
def Asc : Int → Sps → Prop
  | _, [] => True
  | lo, p :: x => lo ≤ p.1 ∧ p.1 ≤ p.2 ∧ Asc p.1 x
theorem Asc.mono : ∀ {l : Sps} {lo lo' : Int}, Asc lo l → lo' ≤ lo → Asc lo' l
  | [], _, _, _, _ => True.intro
  | p :: x, _, _, h, e => ⟨Int.le_trans e h.1, h.2.1, h.2.2⟩
theorem meltM_nf : ∀ {x : Sps} {c : Int × Int} {lo : Int}, lo ≤ c.1 → c.1 ≤ c.2 → Asc c.1 x → Nf lo (meltM c x)
  | [], c, lo, h1, h2, _ => ⟨h1, h2, True.intro⟩
  | p :: x, c, lo, h1, h2, ⟨a1, a2, a3⟩ => by
    unfold meltM
    split
    · refine meltM_nf h1 ?_ (a3.mono a1)
      dsimp only
      split <;> omega
    · refine ⟨h1, h2, meltM_nf ?_ a2 a3⟩
      omega
theorem meltM_mem : ∀ {x : Sps} {c : Int × Int} {d : Int}, c.1 ≤ c.2 → Asc c.1 x → (Mem (meltM c x) d ↔ (c.1 ≤ d ∧ d ≤ c.2) ∨ Mem x d)
  | [], c, d, _, _ => Iff.rfl
  | p :: x, c, d, h2, ⟨a1, a2, a3⟩ => by
    unfold meltM
    split
    · rename_i h
      have hc : c.1 ≤ (if p.2 > c.2 then p.2 else c.2) := by split <;> omega
      have e := meltM_mem (x := x) (c := (c.1, if p.2 > c.2 then p.2 else c.2)) (d := d) hc (a3.mono a1)
      rw [e]
      show _ ↔ (c.1 ≤ d ∧ d ≤ c.2) ∨ ((p.1 ≤ d ∧ d ≤ p.2) ∨ Mem x d)
      by_cases m : Mem x d
      · simp only [m, or_true]
      · simp only [m, or_false]
        split <;> omega
    · show (c.1 ≤ d ∧ d ≤ c.2) ∨ Mem (meltM p x) d ↔ (c.1 ≤ d ∧ d ≤ c.2) ∨ ((p.1 ≤ d ∧ d ≤ p.2) ∨ Mem x d)
      rw [meltM_mem a2 a3]
theorem meltM_val : ∀ {x : Sps} {c : Int × Int}, (0 ≤ c.1 ∧ c.1 ≤ c.2 ∧ c.2 ≤ 999999) → Val x → Val (meltM c x)
  | [], c, h, _ => ⟨h, True.intro⟩
  | p :: x, c, h, ⟨v, vx⟩ => by
    unfold meltM
    split
    · refine meltM_val ?_ vx
      dsimp only
      split <;> omega
    · exact ⟨h, meltM_val v vx⟩
theorem meltM_len : ∀ {x : Sps} {c : Int × Int}, (meltM c x).length ≤ x.length + 1
  | [], c => Nat.le_refl _
  | p :: x, c => by
    unfold meltM
    split
    · exact Nat.le_trans meltM_len (Nat.le_succ _)
    · exact Nat.succ_le_succ meltM_len
theorem melt_row : ∀ {l : Sps}, Asc 0 l → Val l → Row (melt l) ∧ (∀ d, Mem (melt l) d ↔ Mem l d) ∧ (melt l).length ≤ l.length
  | [], _, _ => ⟨⟨True.intro, True.intro⟩, fun _ => Iff.rfl, Nat.le_refl _⟩
  | p :: x, ⟨a1, a2, a3⟩, ⟨v, vx⟩ => ⟨⟨meltM_nf a1 a2 a3, meltM_val v vx⟩, fun d => meltM_mem a2 a3, meltM_len⟩
/-! meeting -/
def meetM : Sps → Sps → Sps
  | [], _ => []
  | _ :: _, [] => []
  | a :: x, b :: y =>
    let f := if b.1 > a.1 then b.1 else a.1
    let g := if b.2 < a.2 then b.2 else a.2
    let r := if a.2 < b.2 then meetM x (b :: y) else meetM (a :: x) y
    if f ≤ g then (f, g) :: r else r
termination_by l m => l.length + m.length
theorem meetM_nil (m : Sps) : meetM [] m = [] := by unfold meetM; rfl
theorem meetM_nil2 (l : Sps) : meetM l [] = [] := by cases l <;> (unfold meetM; rfl)
theorem meetM_cons (a b : Int × Int) (x y : Sps) : meetM (a :: x) (b :: y) =
    if (if b.1 > a.1 then b.1 else a.1) ≤ (if b.2 < a.2 then b.2 else a.2) then ((if b.1 > a.1 then b.1 else a.1), (if b.2 < a.2 then b.2 else a.2)) :: (if a.2 < b.2 then meetM x (b :: y) else meetM (a :: x) y)
    else (if a.2 < b.2 then meetM x (b :: y) else meetM (a :: x) y) := by
  rw [meetM]
theorem meetM_nf : ∀ (n : Nat) {l m : Sps} {lo lo' : Int}, l.length + m.length ≤ n → Nf lo l → Nf lo' m → Nf lo (meetM l m) ∧ Nf lo' (meetM l m) ∧ (∀ d, Mem (meetM l m) d ↔ Mem l d ∧ Mem m d) ∧ (meetM l m).length ≤ l.length + m.length
  | _, [], m, _, _, _, _, _ => by
    rw [meetM_nil]
    exact ⟨True.intro, True.intro, fun d => ⟨fun h => h.elim, fun h => h.1.elim⟩, Nat.zero_le _⟩
  | _, _ :: _, [], _, _, _, _, _ => by
    rw [meetM_nil2]
    exact ⟨True.intro, True.intro, fun d => ⟨fun h => h.elim, fun h => h.2.elim⟩, Nat.zero_le _⟩
  | 0, _ :: _, _ :: _, _, _, hn, _, _ => by simp at hn
  | n + 1, (a, a') :: x, (b, b') :: y, lo, lo', hn, ⟨l1, l2, l3⟩, ⟨m1, m2, m3⟩ => by
    rw [meetM_cons]
    simp only [List.length_cons] at hn
    dsimp only at l1 l2 l3 m1 m2 m3 ⊢
    have lx : ∀ e, Mem x e → a' + 2 ≤ e := fun e z => l3.low z
    have ly : ∀ e, Mem y e → b' + 2 ≤ e := fun e z => m3.low z
    by_cases c : a' < b'
    · rw [if_pos c]
      obtain ⟨r1, r2, r3, r4⟩ := meetM_nf n (l := x) (m := (b, b') :: y) (by simp only [List.length_cons]; omega) l3 ⟨m1, m2, m3⟩
      have key : ∀ d, ((a ≤ d ∧ d ≤ a') ∨ Mem x d) ∧ ((b ≤ d ∧ d ≤ b') ∨ Mem y d) ↔ ((if b > a then b else a) ≤ d ∧ d ≤ (if b' < a' then b' else a')) ∨ (Mem x d ∧ ((b ≤ d ∧ d ≤ b') ∨ Mem y d)) := by
        intro d
        have q1 := lx d
        have q2 := ly d
        by_cases mx : Mem x d
        · simp only [mx, or_true, true_and]
          have := q1 mx
          split <;> split <;> by_cases my : Mem y d <;> simp only [my, or_true, or_false, or_iff_right_iff_imp] <;> omega
        · by_cases my : Mem y d
          · simp only [mx, my, or_true, or_false, and_true, false_and]
            have := q2 my
            split <;> split <;> omega
          · simp only [mx, my, or_false, false_and]
            split <;> split <;> omega
      by_cases f : (if b > a then b else a) ≤ (if b' < a' then b' else a')
      · rw [if_pos f]
        have e : (if b' < a' then b' else a') = a' := by rw [if_neg (by omega)]
        refine ⟨⟨?_, f, ?_⟩, ⟨?_, f, ?_⟩, fun d => ?_, ?_⟩
        · dsimp only
          split <;> omega
        · dsimp only
          rw [e]
          exact r1
        · dsimp only
          split <;> omega
        · dsimp only
          rw [e]
          exact r1
        · exact Iff.trans (or_congr Iff.rfl (r3 d)) (key d).symm
        · simp only [List.length_cons] at r4 ⊢
          omega
      · rw [if_neg f]
        refine ⟨r1.mono (by omega), r2, fun d => ?_, ?_⟩
        · rw [r3 d]
          refine Iff.trans ?_ (key d).symm
          show Mem x d ∧ ((b ≤ d ∧ d ≤ b') ∨ Mem y d) ↔ _
          constructor
          · exact .inr
          · rintro (z | z)
            · omega
            · exact z
        · simp only [List.length_cons] at r4 ⊢
          omega
    · rw [if_neg c]
      obtain ⟨r1, r2, r3, r4⟩ := meetM_nf n (l := (a, a') :: x) (m := y) (by simp only [List.length_cons]; omega) ⟨l1, l2, l3⟩ m3
      have key : ∀ d, ((a ≤ d ∧ d ≤ a') ∨ Mem x d) ∧ ((b ≤ d ∧ d ≤ b') ∨ Mem y d) ↔ ((if b > a then b else a) ≤ d ∧ d ≤ (if b' < a' then b' else a')) ∨ (((a ≤ d ∧ d ≤ a') ∨ Mem x d) ∧ Mem y d) := by
        intro d
        have q1 := lx d
        have q2 := ly d
        by_cases my : Mem y d
        · simp only [my, or_true, and_true]
          have := q2 my
          split <;> split <;> by_cases mx : Mem x d <;> simp only [mx, or_true, or_false, or_iff_right_iff_imp] <;> omega
        · by_cases mx : Mem x d
          · simp only [mx, my, or_true, or_false, true_and, and_false]
            have := q1 mx
            split <;> split <;> omega
          · simp only [mx, my, or_false, and_false]
            split <;> split <;> omega
      by_cases f : (if b > a then b else a) ≤ (if b' < a' then b' else a')
      · rw [if_pos f]
        have e : (if b' < a' then b' else a') = b' := by split <;> omega
        refine ⟨⟨?_, f, ?_⟩, ⟨?_, f, ?_⟩, fun d => ?_, ?_⟩
        · dsimp only
          split <;> omega
        · dsimp only
          rw [e]
          exact r2
        · dsimp only
          split <;> omega
        · dsimp only
          rw [e]
          exact r2
        · exact Iff.trans (or_congr Iff.rfl (r3 d)) (key d).symm
        · simp only [List.length_cons] at r4 ⊢
          omega
      · rw [if_neg f]
        refine ⟨r1, r2.mono (by omega), fun d => ?_, ?_⟩
        · rw [r3 d]
          refine Iff.trans ?_ (key d).symm
          show ((a ≤ d ∧ d ≤ a') ∨ Mem x d) ∧ Mem y d ↔ _
          constructor
          · exact .inr
          · rintro (z | z)
            · omega
            · exact z
        · simp only [List.length_cons] at r4 ⊢
          omega
theorem nf_val {l : Sps} (h : ∀ {d}, Mem l d → d ≤ 999999) : ∀ {m : Sps} {lo : Int}, 0 ≤ lo → Nf lo m → (∀ d, Mem m d → d ≤ 999999) → Val m
  | [], _, _, _, _ => True.intro
  | p :: x, lo, h0, ⟨h1, h2, h3⟩, k => ⟨⟨by omega, h2, k p.2 (.inl ⟨h2, Int.le_refl _⟩)⟩, nf_val @h (lo := p.2 + 2) (by omega) h3 fun d z => k d (.inr z)⟩
theorem row_of {l : Sps} (h : Nf 0 l) (k : ∀ d, Mem l d → d ≤ 999999) : Row l := ⟨h, nf_val (l := l) (fun {d} z => k d z) (Int.le_refl 0) h k⟩
theorem meet_row {l m : Sps} (hl : Row l) (hm : Row m) : Row (meetM l m) ∧ (∀ d, Mem (meetM l m) d ↔ Mem l d ∧ Mem m d) ∧ (meetM l m).length ≤ l.length + m.length := by
  obtain ⟨r1, r2, r3, r4⟩ := meetM_nf (l.length + m.length) (Nat.le_refl _) hl.1 hm.1
  exact ⟨row_of r1 fun d z => (hl.2.mem ((r3 d).mp z).1).2, r3, r4⟩
/-! others -/
def othersM : Int → Sps → Sps
  | f, [] => if f ≤ 999999 then [(f, 999999)] else []
  | f, p :: x => if f < p.1 then (f, p.1 - 1) :: othersM (p.2 + 1) x else othersM (p.2 + 1) x
theorem othersM_nf : ∀ {l : Sps} {f : Int}, Nf f l → Val l → Nf f (othersM f l) ∧ (∀ d, Mem (othersM f l) d ↔ f ≤ d ∧ d ≤ 999999 ∧ ¬ Mem l d) ∧ (othersM f l).length ≤ l.length + 1
  | [], f, _, _ => by
    unfold othersM
    by_cases c : f ≤ 999999
    · rw [if_pos c]
      refine ⟨⟨Int.le_refl _, c, True.intro⟩, fun d => ?_, Nat.le_refl _⟩
      simp [Mem]
    · rw [if_neg c]
      refine ⟨True.intro, fun d => ?_, Nat.zero_le _⟩
      simp [Mem]
      omega
  | (a, b) :: x, f, ⟨h1, h2, h3⟩, ⟨v, vx⟩ => by
    dsimp only at h1 h2 h3 v
    unfold othersM
    dsimp only
    obtain ⟨r1, r2, r3⟩ := othersM_nf (l := x) (f := b + 1) (h3.mono (by omega)) vx
    have lx : ∀ e, Mem x e → b + 2 ≤ e := fun e z => h3.low z
    by_cases c : f < a
    · rw [if_pos c]
      refine ⟨⟨Int.le_refl _, by dsimp only; omega, by dsimp only; exact r1.mono (by omega)⟩, fun d => ?_, by simp only [List.length_cons]; omega⟩
      show (f ≤ d ∧ d ≤ a - 1) ∨ Mem (othersM (b + 1) x) d ↔ f ≤ d ∧ d ≤ 999999 ∧ ¬ ((a ≤ d ∧ d ≤ b) ∨ Mem x d)
      rw [r2 d]
      have q := lx d
      by_cases mx : Mem x d
      · have := q mx
        simp only [mx, or_true, not_true_eq_false, and_false, or_false, iff_false]
        omega
      · simp only [mx, or_false, not_false_eq_true, and_true]
        omega
    · rw [if_neg c]
      refine ⟨r1.mono (by omega), fun d => ?_, by simp only [List.length_cons]; omega⟩
      rw [r2 d]
      show b + 1 ≤ d ∧ d ≤ 999999 ∧ ¬ Mem x d ↔ f ≤ d ∧ d ≤ 999999 ∧ ¬ ((a ≤ d ∧ d ≤ b) ∨ Mem x d)
      by_cases mx : Mem x d
      · simp only [mx, or_true, not_true_eq_false, and_false]
      · simp only [mx, or_false, not_false_eq_true, and_true]
        omega
theorem others_row {l : Sps} (h : Row l) : Row (othersM 0 l) ∧ (∀ d, Mem (othersM 0 l) d ↔ 0 ≤ d ∧ d ≤ 999999 ∧ ¬ Mem l d) ∧ (othersM 0 l).length ≤ l.length + 1 := by
  obtain ⟨r1, r2, r3⟩ := othersM_nf h.1 h.2
  exact ⟨row_of r1 fun d z => ((r2 d).mp z).2.1, r2, r3⟩
/-! how many -/
def card : Sps → Int
  | [] => 0
  | p :: x => p.2 - p.1 + 1 + card x
/-- how many of the days 0, 1 .. below n are so -/
def cnt (P : Int → Prop) [DecidablePred P] : Nat → Int
  | 0 => 0
  | n + 1 => (if P n then 1 else 0) + cnt P n
theorem cnt_congr {P Q : Int → Prop} [DecidablePred P] [DecidablePred Q] : ∀ n : Nat, (∀ d : Int, 0 ≤ d → d < n → (P d ↔ Q d)) → cnt P n = cnt Q n
  | 0, _ => rfl
  | n + 1, h => by
    unfold cnt
    rw [cnt_congr n fun d h0 h1 => h d h0 (by omega)]
    have e := h n (by omega) (by omega)
    by_cases p : P n
    · rw [if_pos p, if_pos (e.mp p)]
    · rw [if_neg p, if_neg fun z => p (e.mpr z)]
theorem cnt_or {P Q : Int → Prop} [DecidablePred P] [DecidablePred Q] : ∀ n : Nat, cnt (fun d => P d ∨ Q d) n + cnt (fun d => P d ∧ Q d) n = cnt P n + cnt Q n
  | 0 => rfl
  | n + 1 => by
    unfold cnt
    have := cnt_or (P := P) (Q := Q) n
    by_cases p : P n <;> by_cases q : Q n <;> simp only [p, q, or_true, or_false, and_true, and_false, if_true, if_false] <;> omega
theorem cnt_not {P : Int → Prop} [DecidablePred P] : ∀ n : Nat, cnt P n + cnt (fun d => ¬ P d) n = n
  | 0 => rfl
  | n + 1 => by
    unfold cnt
    have := cnt_not (P := P) n
    by_cases p : P n <;> simp only [p, not_true_eq_false, not_false_eq_true, if_true, if_false] <;> omega
theorem cnt_span (a b : Int) : ∀ n : Nat, 0 ≤ a → a ≤ b + 1 → cnt (fun d => a ≤ d ∧ d ≤ b) n = if (n : Int) ≤ a then 0 else if (n : Int) ≤ b then n - a else b + 1 - a
  | 0, h0, h1 => by
    unfold cnt
    rw [if_pos (by omega)]
  | n + 1, h0, h1 => by
    unfold cnt
    rw [cnt_span a b n h0 h1]
    split <;> split <;> split <;> (try split) <;> omega
theorem cnt_none {P : Int → Prop} [DecidablePred P] : ∀ n : Nat, (∀ d : Int, ¬ P d) → cnt P n = 0
  | 0, _ => rfl
  | n + 1, h => by
    unfold cnt
    rw [if_neg (h _), cnt_none n h]
    rfl
theorem card_cnt : ∀ {l : Sps} {lo : Int}, 0 ≤ lo → Nf lo l → Val l → card l = cnt (fun d => Mem l d) 1000000
  | [], _, _, _, _ => (cnt_none 1000000 fun _ => id).symm
  | (a, b) :: x, lo, h0, ⟨h1, h2, h3⟩, ⟨v, vx⟩ => by
    dsimp only at h1 h2 h3 v
    have e := cnt_or (P := fun d => a ≤ d ∧ d ≤ b) (Q := fun d => Mem x d) 1000000
    have e0 : cnt (fun d => (a ≤ d ∧ d ≤ b) ∧ Mem x d) 1000000 = 0 := cnt_none 1000000 fun d z => by
      have := h3.low z.2
      omega
    have e1 := cnt_span a b 1000000 (by omega) (by omega)
    rw [if_neg (by omega), if_neg (by omega)] at e1
    have e2 := card_cnt (lo := b + 2) (by omega) h3 vx
    have e3 : cnt (fun d => Mem ((a, b) :: x) d) 1000000 = cnt (fun d => (a ≤ d ∧ d ≤ b) ∨ Mem x d) 1000000 := cnt_congr _ fun d _ _ => Iff.rfl
    rw [e3]
    show b - a + 1 + card x = _
    omega
theorem Row.card {l : Sps} (h : Row l) : card l = cnt (fun d => Mem l d) 1000000 := card_cnt (Int.le_refl 0) h.1 h.2
theorem card_others {l m : Sps} (h : Row l) (hm : Row m) (k : ∀ d, Mem m d ↔ 0 ≤ d ∧ d ≤ 999999 ∧ ¬ Mem l d) : card l + card m = 1000000 := by
  rw [h.card, hm.card]
  have e := cnt_not (P := fun d => Mem l d) 1000000
  rw [cnt_congr (P := fun d => Mem m d) (Q := fun d => ¬ Mem l d) 1000000 fun d h0 h1 => ?_]
  · exact e
  · rw [k d]
    constructor
    · exact fun z => z.2.2
    · exact fun z => ⟨h0, by omega, z⟩
theorem card_union {l m u t : Sps} (hl : Row l) (hm : Row m) (hu : Row u) (ht : Row t) (k : ∀ d, Mem u d ↔ Mem l d ∨ Mem m d) (k2 : ∀ d, Mem t d ↔ Mem l d ∧ Mem m d) : card u = card l + card m - card t := by
  rw [hl.card, hm.card, hu.card, ht.card]
  have e := cnt_or (P := fun d => Mem l d) (Q := fun d => Mem m d) 1000000
  rw [cnt_congr (P := fun d => Mem u d) (Q := fun d => Mem l d ∨ Mem m d) 1000000 fun d _ _ => k d, cnt_congr (P := fun d => Mem t d) (Q := fun d => Mem l d ∧ Mem m d) 1000000 fun d _ _ => k2 d]
  omega
/-! breaks -/
def brk : Sps → List Int
  | [] => []
  | p :: x => p.1 :: (p.2 + 1) :: brk x
theorem brk_len : ∀ l : Sps, (brk l).length = 2 * l.length
  | [] => rfl
  | p :: x => by
    show (brk x).length + 1 + 1 = 2 * (x.length + 1)
    rw [brk_len x]
    omega
theorem brk_low : ∀ {l : Sps} {lo : Int}, Nf lo l → ∀ z ∈ brk l, lo ≤ z
  | [], _, _, z, h => by cases h
  | p :: x, lo, ⟨h1, h2, h3⟩, z, h => by
    rcases List.mem_cons.mp h with e | h
    · omega
    · rcases List.mem_cons.mp h with e | h
      · omega
      · have := brk_low h3 z h
        omega
theorem brk_asc : ∀ {l : Sps} {lo : Int}, Nf lo l → (brk l).Pairwise (· ≤ ·)
  | [], _, _ => .nil
  | p :: x, lo, ⟨h1, h2, h3⟩ => by
    have k := brk_low h3
    refine .cons (fun z h => ?_) (.cons (fun z h => ?_) (brk_asc h3))
    · rcases List.mem_cons.mp h with e | h
      · omega
      · have := k z h
        omega
    · have := k z h
      omega
theorem brk_mem : ∀ {l : Sps} {lo : Int}, Nf lo l → ∀ d, d ∈ brk l ↔ ¬ (Mem l d ↔ Mem l (d - 1))
  | [], _, _, d => by simp [brk, Mem]
  | (a, b) :: x, lo, ⟨h1, h2, h3⟩, d => by
    dsimp only at h1 h2 h3
    have ih := brk_mem h3 d
    have q1 : Mem x d → b + 2 ≤ d := fun z => h3.low z
    have q2 : Mem x (d - 1) → b + 2 ≤ d - 1 := fun z => h3.low z
    have q3 : d ∈ brk x → b + 2 ≤ d := fun z => brk_low h3 d z
    show d ∈ a :: (b + 1) :: brk x ↔ ¬ ((a ≤ d ∧ d ≤ b) ∨ Mem x d ↔ (a ≤ d - 1 ∧ d - 1 ≤ b) ∨ Mem x (d - 1))
    rw [List.mem_cons, List.mem_cons, ih]
    by_cases m1 : Mem x d <;> by_cases m2 : Mem x (d - 1) <;> simp only [m1, m2, or_true, or_false, true_iff, iff_true, false_iff, iff_false, not_true_eq_false, not_false_eq_true, true_implies, iff_self] at ih q1 q2 q3 ⊢ <;> omega
end Yj
set_option Elab.async false
set_option linter.all false
set_option maxRecDepth 100000
set_option maxHeartbeats 4000000
set_option pp.maxSteps 1500
/-! Over tuples: enumerate, sorted; an item of a list as the left side of an augmented store. -/
namespace PySem
open Sem (wp)
open AutoSeq1 (wpAny_loadPart')
theorem meets_enumT (l : Addr) (o : Obj) (items : Array Value) (n : Nat) (hc : o.cls = .type "tuple") (hd : o.data = .seq items n) :
    Meets (Builtin.«enumerate.__new__» ⟨[.type "enumerate", .ref l], []⟩) (fun _ R s => s.heap.get? l = some o ∧
      R (.ok (.ret (.ref (s.heap.push { cls := .type "tuple_iterator", data := .fields #[.ref l, .int 0 0] }).objs.size)))
        { s with heap := (s.heap.push { cls := .type "tuple_iterator", data := .fields #[.ref l, .int 0 0] }).push { cls := .type "enumerate", data := .fields #[.none, .bool false, .ref s.heap.objs.size, rawInt 0, .none, .none] } }) :=
  .of_wp fun prog w A R s h => by
    obtain ⟨hp, g, d, tk, os⟩ := s
    obtain ⟨hl, h⟩ := h
    have sub := sub_enumerate
    have hL : Heap.IsTuple (Shared.heap ⟨hp, g, d, tk, os⟩) l items := ⟨o, hl, hc, n, hd⟩
    wp_walk using wpAny_loadPart' hl
    refine wpAny_stack_any fun st => wpAny_pure ?_
    split
    · rename_i c _ _ _ _ _
      cases (c == Value.type "enumerate") <;> (wp_walk using wpAny_loadPart' hl, wpAny_pyIter_tuple hL; exact ⟨_, rfl, h⟩)
    · (wp_walk using wpAny_loadPart' hl, wpAny_pyIter_tuple hL); exact ⟨_, rfl, h⟩
theorem call_enumT {prog : Program} {w : World} {A : Around} {E : Value → Shared → Prop} {s : Shared} {l : Addr} {items : Array Value} {Q : Value → Shared → Prop} (hL : s.heap.IsTuple l items)
    (h : ∀ h', IsEnum h' (s.heap.objs.size + 1) s.heap.objs.size 0 .none → h'.IsTupleIter s.heap.objs.size l 0 → h'.objs.size = s.heap.objs.size + 2 →
      (∀ b o, s.heap.get? b = some o → h'.get? b = some o) → Q (.ref (s.heap.objs.size + 1)) { s with heap := h' }) :
    wpAny (model prog w) A (call (.type "enumerate") [.ref l]) Q E s := by
  obtain ⟨o, hl, hc, n, hd⟩ := hL
  refine callType_new F.called_enumerate (by decide) (F.typeCall_enumerate_1 _) (F.newCall_enumerate_1 _) (fun obj => F.args_object_init_2 obj _) F.entry_enumerate_new (meets_enumT l o items n hc hd) ⟨hl, ?_⟩
  have hz : (s.heap.push { cls := .type "tuple_iterator", data := .fields #[.ref l, .int 0 0] }).objs.size = s.heap.objs.size + 1 := Heap.size_push ..
  show _ ∧ _
  rw [hz]
  have he : IsEnum ((s.heap.push { cls := .type "tuple_iterator", data := .fields #[.ref l, .int 0 0] }).push
      { cls := .type "enumerate", data := .fields #[.none, .bool false, .ref s.heap.objs.size, rawInt 0, .none, .none] }) (s.heap.objs.size + 1) s.heap.objs.size 0 .none := by
    have q := Heap.get?_push_size (s.heap.push { cls := .type "tuple_iterator", data := .fields #[.ref l, .int 0 0] })
      (o := { cls := .type "enumerate", data := .fields #[.none, .bool false, .ref s.heap.objs.size, rawInt 0, .none, .none] }) rfl
    rw [hz] at q
    exact q
  refine ⟨⟨_, he, rfl⟩, h _ he ⟨_, Heap.get?_push_of_some _ (Heap.get?_push_size _ rfl), rfl, rfl⟩ (by rw [Heap.size_push, hz]) fun b o x => ?_⟩
  exact Heap.get?_push_of_some _ (Heap.get?_push_of_some _ x)
end PySem
namespace SrtO
open PySem PyProof.Rows Srt
section
variable {prog : Program} {w : World} {A : Around} {E : Value → Shared → Prop} {s : Shared}
/-- all of a tuple collected into a new list -/
theorem collect_tup {l : Addr} {o : Obj} {n : Nat} {vs : List Value} {Q : List Value → Shared → Prop} (ho : s.heap.get? l = some o) (hc : o.cls = .type "tuple") (hd : o.data = .seq vs.toArray n) (hz : vs.length ≤ sizeLine)
    (h : Q vs { s with heap := (s.heap.push (seqObj "list" #[] 0)).update s.heap.objs.size (Obj.mapSeq (· ++ vs.toArray)) }) : wpAny (model prog w) A (collect (.ref l)) Q E s := by
  have hS : (s.heap.push (seqObj "list" #[] 0)).get? s.heap.objs.size = some (seqObj "list" #[] 0) := Heap.get?_push_size _ rfl
  have hS2 := Heap.get?_update_self (Obj.mapSeq (· ++ vs.toArray)) hS rfl
  have ho2 : (s.heap.push (seqObj "list" #[] 0)).get? l = some o := Heap.get?_push_of_some _ ho
  have here : ∀ (r : Result) (s' : Shared), (r = Except.ok (Flow.ret (.ref s.heap.objs.size)) ∧ s' = { s with heap := (s.heap.push (seqObj "list" #[] 0)).update s.heap.objs.size (Obj.mapSeq (· ++ vs.toArray)) }) →
      r = Except.ok (.ret (.ref s.heap.objs.size)) ∧ wpAny (model prog w) A (do
        let o ← load s.heap.objs.size
        match o.data with
        | .seq xs _ => pure xs.toList
        | _ => unsupported "internal:collect") Q E s' := by
    rintro r s' ⟨rfl, rfl⟩
    refine ⟨rfl, wpAny_bind (wpAny_load hS2 ?_)⟩
    show wpAny _ _ (pure ((#[] : Array Value) ++ vs.toArray).toList) Q E _
    have e : ((#[] : Array Value) ++ vs.toArray).toList = vs := by simp
    rw [e]
    exact wpAny_pure h
  unfold collect
  refine wpAny_bind (wpAny_runValue (codeAny_builtin F.entry_proto_collect ?_))
  rw [Around.under_plainId F.plain_proto_collect _]
  show wpAny _ A.in1 (newList [] >>= fun k => again (.builtin "list.__iadd__" ⟨[k, .ref l], []⟩)) _ _ s
  refine wpAny_bind (wpAny_newObj_type (wpAny_pure ⟨plainId_quiet F.plain_list_iadd _, codeAny_builtin F.entry_list_iadd ?_⟩))
  rw [Around.under_plainId F.plain_list_iadd _]
  refine wpAny_mono (wpAny_extend_seq (A := A) (s := { s with heap := s.heap.push (seqObj "list" #[] 0) })
    (R := fun r s' => r = .ok (.ret (.ref s.heap.objs.size)) ∧ s' = { s with heap := (s.heap.push (seqObj "list" #[] 0)).update s.heap.objs.size (Obj.mapSeq (· ++ vs.toArray)) })
    s.heap.objs.size l (.ref s.heap.objs.size) 0 (.inr rfl) hS ho2 hc hd ⟨rfl, rfl⟩ (by rw [List.size_toArray]; exact hz)) (fun fin s' hf => ?_) (fun e s' hf => nomatch hf.1)
  cases fin with
  | done f =>
    obtain ⟨e, z⟩ := here _ _ hf
    cases e
    exact z
  | again c' =>
    refine ⟨hf.1, codeAny_mono hf.2 fun r s2 hr => ?_⟩
    obtain ⟨e, z⟩ := here _ _ hr
    subst e
    exact z
/-- sorted(t), t a tuple of pairs of ints -/
theorem sorted_tupO {l : Addr} {o : Obj} {n : Nat} {vs : List Value} {k : Value → Int × Int} {Q : Value → Shared → Prop} (ho : s.heap.get? l = some o) (hc : o.cls = .type "tuple") (hd : o.data = .seq vs.toArray n) (hz : vs.length ≤ sizeLine) (hp : ∀ v ∈ vs, IsPair s.heap v (k v).1 (k v).2)
    (h : ∀ (h' : Heap) (d : Addr) (out : List Value), Srtd (fun v u => lexB (k v) (k u)) out → Stb (fun v u => lexB (k v) (k u)) out vs → (∀ b o, s.heap.get? b = some o → h'.get? b = some o) → s.heap.objs.size ≤ d → (∃ n, h'.get? d = some (seqObj "list" out.toArray n)) → Q (.ref d) { s with heap := h' }) :
    wpAny (model prog w) A (call (.builtin "sorted") [.ref l]) Q E s := by
  refine Calls.call_function_entry kind_sorted plain_sorted entry_sorted (args_sorted1 _) ?_
  unfold Builtin.«sorted»
  refine wpAny_bind (m := checkCount "sorted" 1 1 _) (wpAny_pure ?_)
  refine wpAny_bind (collect_tup ho hc hd hz (wpAny_bind (wpAny_newList ?_ hz)))
  have hsz : ((s.heap.push (seqObj "list" #[] 0)).update s.heap.objs.size (Obj.mapSeq (· ++ vs.toArray))).objs.size = s.heap.objs.size + 1 := by
    rw [Heap.size_update]
    exact size_push' _ _
  have old : ∀ b o, s.heap.get? b = some o → b ≠ s.heap.objs.size + 1 ∧ (((s.heap.push (seqObj "list" #[] 0)).update s.heap.objs.size (Obj.mapSeq (· ++ vs.toArray))).push (seqObj "list" vs.toArray 0)).get? b = some o := fun b o q => by
    have hlt : b < s.heap.objs.size := Heap.lt_size q
    refine ⟨Nat.ne_of_lt (Nat.lt_succ_of_lt hlt), Heap.get?_push_of_some _ ((Heap.get?_update_ne _ _ _ _ (Nat.ne_of_lt hlt)).trans (Heap.get?_push_of_some _ q))⟩
  have hoL : (((s.heap.push (seqObj "list" #[] 0)).update s.heap.objs.size (Obj.mapSeq (· ++ vs.toArray))).push (seqObj "list" vs.toArray 0)).get? (s.heap.objs.size + 1) = some (seqObj "list" vs.toArray 0) := by
    rw [← hsz]
    exact Heap.get?_push_size _ rfl
  have hS : 2 ≤ vs.length → SortableO prog w A.in1.in1 { s with heap := ((s.heap.push (seqObj "list" #[] 0)).update s.heap.objs.size (Obj.mapSeq (· ++ vs.toArray))).push (seqObj "list" vs.toArray 0) } (s.heap.objs.size + 1) vs fun v u => lexB (k v) (k u) := fun h2 => by
    refine pairs_sortableO (s := { s with heap := ((s.heap.push (seqObj "list" #[] 0)).update s.heap.objs.size (Obj.mapSeq (· ++ vs.toArray))).push (seqObj "list" vs.toArray 0) }) (by omega) (fun v hm => (hp v hm).keeps fun b o e _ => (old b o e).2) fun o e c => ?_
    have e' := e.symm.trans hoL
    cases e'
    exact absurd (Value.type.inj c) (by decide)
  show wpAny _ _ _ _ _ { s with heap := ((s.heap.push (seqObj "list" #[] 0)).update s.heap.objs.size (Obj.mapSeq (· ++ vs.toArray))).push (seqObj "list" vs.toArray 0) }
  rw [hsz]
  refine wpAny_bind (wpAny_holding (wpAny_call_entry slot_list_sort ⟨_, hoL, rfl⟩ entry_list_sort (list_sort_ord (swo_lex k) hoL hz hS fun out hs hb => ⟨_, rfl, ?_⟩) (args_list_sort _)))
  have fin := h (sortedAll s.heap vs out.toArray) (s.heap.objs.size + 1) out hs hb (fun b o e => sortedAll_old e) (Nat.le_succ _) (sortedAll_at s.heap vs out.toArray)
  exact wpAny_pure ⟨_, rfl, fin⟩
end
end SrtO
namespace Yj
open PySem PySem.Spec PyProof.Rows L2
/-- a row's spans in either a list or a tuple -/
def RowA (H : Hp) (a : Addr) (us : List V) : Prop := H a = some (.lst us) ∨ H a = some (.tup us)
def rSortedPA : List V → Hp → VK → Prop := fun vs H Q => ∃ (a : Addr) (xs : List V) (k : V → Int × Int), vs = [V.ref a] ∧ RowA H a xs ∧ (∀ x ∈ xs, ∃ t, x = V.ref t ∧ H t = some (.tup [.int (k x).1, .int (k x).2])) ∧
  ∀ ys p, SrtO.Srtd (ltP k) ys → SrtO.Stb (ltP k) ys xs → H p = none → Q (.ref p) (upd H p (.lst ys))
section
variable {X : Cx}
theorem cr_sortedPA : CallR X (.builtin "sorted") rSortedPA := by
  intro pins s σ H vs us Q I r h
  obtain ⟨a, xs, k, rfl, hs, hx, q⟩ := h
  rcases hs with hs | hs
  · exact cr_sortedPO pins s σ H _ us Q I r ⟨a, xs, k, rfl, SqL.of hs, hx, q⟩
  obtain ⟨its, rv, ⟨o, ho, hc, n, hd⟩, hz⟩ := I.tuple (SqT.of (K := X.K) hs)
  obtain ⟨u, rfl, ru⟩ := vals1 r
  obtain rfl : u = Value.ref a := ru
  obtain ⟨e1, e2⟩ := refs_back rv fun x m => (hx x m).imp fun t h => h.1
  have hlen := rv.length
  refine SrtO.sorted_tupO (k := fun u => k (backV u)) ho hc hd (by omega) (fun v hv => ?_) fun h' d out h1 h2 kp hfar hn => ?_
  · obtain ⟨t, rfl⟩ := e2 v hv
    have hm : V.ref t ∈ xs := by
      rw [e1]
      exact List.mem_map.mpr ⟨_, hv, rfl⟩
    obtain ⟨t', e, ht⟩ := hx _ hm
    cases e
    obtain ⟨_, its2, r2, o2, ho2, hc2, n2, hd2⟩ := I.hok _ _ ht
    obtain ⟨u1, u2, rfl, ⟨t1, rfl⟩, ⟨t2, rfl⟩⟩ := vals2 r2
    exact ⟨t, o2, t1, t2, n2, rfl, ho2, hc2, hd2⟩
  · have h3 : ∀ u ∈ out, ∃ a, u = Value.ref a := fun u hu => e2 u (h2.perm.mem_iff.mp hu)
    obtain ⟨n', hn⟩ := hn
    have hb : SrtO.Stb (ltP k) (out.map backV) xs := by
      have z := SrtO.Stb.map (ltP_swo k) backV h2
      rw [e1]
      exact z
    have hz2 : (out.map backV).length ≤ sizeLine := by
      have z := hb.perm.length_eq
      omega
    exact ⟨.ref d, upd H d (.lst (out.map backV)), I.laid (t' := s.toks) kp hfar ⟨hz2, out, n', vals_back h3, hn⟩, rfl, q _ d (SrtO.srtd_map h1) hb (I.hok.fresh hfar)⟩
/-- a list's item at a place from the left, by values -/
theorem pget_list : PGet X (fun o i H Q => ∃ p xs, ∃ k : Nat, ∃ v, o = .ref p ∧ i = .int k ∧ SqL X.K H p xs ∧ xs[k]? = some v ∧ Q v H) := by
  intro pins s σ H o i ov iv Q I ro ri h
  obtain ⟨p, xs, k, v, rfl, rfl, hs, hv, q⟩ := h
  obtain rfl : ov = Value.ref p := ro
  obtain ⟨t, rfl⟩ := ri
  obtain ⟨its, r, pl, hz⟩ := I.list hs
  obtain ⟨u, hu, ru⟩ := r.get hv
  have hk : k < xs.length := (List.getElem?_eq_some_iff.mp hv).1
  have hn := line63
  exact wpAny_getItem_list pl.isList (by omega) (by omega) (by simpa using hu) ⟨v, H, I, ru, q⟩
end
end Yj
set_option Elab.async false
set_option linter.all false
set_option maxRecDepth 100000
set_option maxHeartbeats 4000000
set_option pp.maxSteps 1500
namespace Yj
open PySem PySem.Spec PyProof.Rows L2 RZ
/-! ### rows in the heap -/
/-- a span: a new tuple of two ints -/
def Pr (H : Hp) (v : V) (p : Int × Int) : Prop := ∃ t, v = .ref t ∧ H t = some (.tup [.int p.1, .int p.2])
inductive Prs (H : Hp) : List V → Sps → Prop
  | nil : Prs H [] []
  | cons {v : V} {vs : List V} {p : Int × Int} {l : Sps} : Pr H v p → Prs H vs l → Prs H (v :: vs) (p :: l)
theorem Pr.mono {H H' : Hp} {v : V} {p : Int × Int} (s : Same H H') (h : Pr H v p) : Pr H' v p := by
  obtain ⟨t, e, h⟩ := h
  exact ⟨t, e, s _ _ h⟩
theorem Prs.mono {H H' : Hp} (s : Same H H') : ∀ {vs : List V} {l : Sps}, Prs H vs l → Prs H' vs l
  | _, _, .nil => .nil
  | _, _, .cons h t => .cons (h.mono s) (t.mono s)
theorem Prs.len {H : Hp} : ∀ {vs : List V} {l : Sps}, Prs H vs l → vs.length = l.length
  | _, _, .nil => rfl
  | _, _, .cons h t => congrArg (· + 1) t.len
theorem Prs.get {H : Hp} : ∀ {vs : List V} {l : Sps} {i : Nat} {v : V}, Prs H vs l → vs[i]? = some v → ∃ p, l[i]? = some p ∧ Pr H v p
  | _, _, _, _, .nil, h => by simp at h
  | _, _, 0, _, .cons h t, e => by
    have e' := Option.some.inj e
    rw [← e']
    exact ⟨_, rfl, h⟩
  | _, _, i + 1, _, .cons h t, e => t.get (i := i) e
theorem Prs.at {H : Hp} : ∀ {vs : List V} {l : Sps} {i : Nat} {p : Int × Int}, Prs H vs l → l[i]? = some p → ∃ v, vs[i]? = some v ∧ Pr H v p
  | _, _, _, _, .nil, h => by simp at h
  | _, _, 0, _, .cons h t, e => by
    have e' := Option.some.inj e
    rw [← e']
    exact ⟨_, rfl, h⟩
  | _, _, i + 1, _, .cons h t, e => t.at (i := i) e
theorem Prs.app {H : Hp} : ∀ {vs us : List V} {l m : Sps}, Prs H vs l → Prs H us m → Prs H (vs ++ us) (l ++ m)
  | _, _, _, _, .nil, h => h
  | _, _, _, _, .cons h t, k => .cons h (t.app k)
theorem Prs.snoc {H : Hp} {vs : List V} {l : Sps} {v : V} {p : Int × Int} (h : Prs H vs l) (k : Pr H v p) : Prs H (vs ++ [v]) (l ++ [p]) := h.app (.cons k .nil)
/-- the last one apart -/
theorem Prs.last {H : Hp} : ∀ {l : Sps} {vs : List V} {p : Int × Int}, Prs H vs (l ++ [p]) → ∃ us v, vs = us ++ [v] ∧ Prs H us l ∧ Pr H v p
  | [], _, p, .cons h .nil => ⟨[], _, rfl, .nil, h⟩
  | q :: l, _, p, .cons h t => by
    obtain ⟨us, v, e, k1, k2⟩ := Prs.last t
    exact ⟨_ :: us, v, by rw [e]; rfl, .cons h k1, k2⟩
theorem same_upd {H : Hp} {p : Addr} {o : HO} (h : H p = none) : Same H (upd H p o) := fun b x e => by
  rw [upd_ne (ne_of_none e h)]
  exact e
theorem same_at {H H' : Hp} {p : Addr} {o : HO} (s : Same H H') (h : H p = none) : Same H (upd H' p o) := fun b x e => by
  rw [upd_ne (ne_of_none e h)]
  exact s _ _ e
/-- spans stay when the list at r is changed -/
theorem Pr.off {H : Hp} {r : Addr} {xs : List V} {o : HO} {v : V} {p : Int × Int} (hr : H r = some (.lst xs)) (h : Pr H v p) : Pr (upd H r o) v p := by
  obtain ⟨t, e, h⟩ := h
  refine ⟨t, e, ?_⟩
  rw [upd_ne fun z => ?_]
  · exact h
  · rw [z, hr] at h
    cases h
theorem Prs.off {H : Hp} {r : Addr} {xs : List V} {o : HO} (hr : H r = some (.lst xs)) : ∀ {vs : List V} {l : Sps}, Prs H vs l → Prs (upd H r o) vs l
  | _, _, .nil => .nil
  | _, _, .cons h t => .cons (h.off hr) (t.off hr)
theorem ifT {c : Prop} [Decidable c] {A B : Prop} (hc : c) (h : A) : if decide c = true then A else B := by
  rw [decide_eq_true hc]
  exact iteT h
theorem ifF {c : Prop} [Decidable c] {A B : Prop} (hc : ¬ c) (h : B) : if decide c = true then A else B := by
  rw [decide_eq_false hc]
  exact iteF h
theorem ofNat_lt {n : Nat} (h : n ≤ 1000000) : n < sizeLine := by
  rw [sizeLine_eq]
  omega
theorem ofNat_le {n : Nat} (h : n ≤ 1000000) : n ≤ sizeLine := Nat.le_of_lt (ofNat_lt h)
/-- what a def that changes nothing hands back: a new tuple of spans -/
def BackT (H : Hp) (Q : VK) (l : Sps) : Prop := ∀ H' p us, Same H H' → H p = none → H' p = some (.tup us) → Prs H' us l → Q (.ref p) H'
def RowT (H : Hp) (a : Addr) (l : Sps) : Prop := ∃ us, H a = some (.tup us) ∧ Prs H us l
theorem RowT.mono {H H' : Hp} {a : Addr} {l : Sps} (s : Same H H') (h : RowT H a l) : RowT H' a l := by
  obtain ⟨us, h, k⟩ := h
  exact ⟨us, s _ _ h, k.mono s⟩
theorem drop_get {α : Type} {l : List α} {i : Nat} {p : α} (h : l[i]? = some p) : l.drop i = p :: l.drop (i + 1) := by
  obtain ⟨hi, e⟩ := List.getElem?_eq_some_iff.mp h
  rw [List.drop_eq_getElem_cons hi, e]
theorem drop_end {α : Type} (l : List α) : l.drop l.length = [] := List.drop_eq_nil_of_le (Nat.le_refl _)
end Yj
set_option Elab.async false
set_option linter.all false
set_option maxRecDepth 100000
set_option maxHeartbeats 4000000
set_option pp.maxSteps 1500
namespace Yj
open PySem PySem.Spec PyProof.Rows L2
/-! ### enumerate over a tuple -/
/-- the tuple at a, each item in a new pair with its place -/
def IteT (K : PySem.W.Frag) (a : Addr) : It :=
  ⟨fun i H => ∃ (xs : List V) (x : V), SqT K H a xs ∧ xs[i]? = some x, fun i H v H' => ∃ T x, v = .ref T ∧ H T = none ∧ H' = upd H T (.tup [.int (i : Nat), x]) ∧ ∀ xs, SqT K H a xs → xs[i]? = some x, fun i H => ∃ xs : List V, SqT K H a xs ∧ xs.length = i⟩
theorem kinds_ne {h : Heap} {a b : Addr} {o u : Obj} (ha : h.get? a = some o) (hb : h.get? b = some u) (hc : o.cls ≠ u.cls) : a ≠ b := fun z => by
  subst z
  rw [ha] at hb
  cases hb
  exact hc rfl
theorem turn_enumT {P : Program} {w : World} {K : PySem.W.Frag} {elts : List Expr} {kk : Nat} {tpos : Pos} (a e it : Addr) :
    Turn P w K (.Tuple elts kk tpos) (IteT K a) [e, it] e (fun i h => (∃ old, IsEnum h e it ((i : Nat) : Int) old) ∧ h.IsTupleIter it a i ∧ e ≠ it) where
  mem := by simp
  obj := fun i h st b hb => by
    obtain ⟨⟨old, he⟩, ⟨o, ho, hc, hd⟩, _⟩ := st
    rcases (by simpa using hb : b = e ∨ b = it) with z | z
    · rw [z]
      exact ⟨_, he, fun v q => nomatch q⟩
    · rw [z]
      exact ⟨o, ho, fun v q => by rw [hd] at q; cases q⟩
  keep := fun i h h' st k => by
    obtain ⟨⟨old, he⟩, hi, hne⟩ := st
    exact ⟨⟨old, k e (by simp) _ he⟩, hi.at fun o q => k it (by simp) o q, hne⟩
  item := by
    intro X hP hw hK hc i pins s σ H E I hf st hg
    subst hP hw hK
    obtain ⟨⟨old, he⟩, hit, hne⟩ := st
    obtain ⟨xs, x, hq, hx⟩ := hg
    obtain ⟨its, rv, p, hz⟩ := I.tuple hq
    obtain ⟨u, hu, ru⟩ := rv.get hx
    have hel : e < s.heap.objs.size := Heap.lt_size he
    have hil : it < s.heap.objs.size := by
      obtain ⟨_, q, _⟩ := hit
      exact Heap.lt_size q
    obtain ⟨ot, hot, hct, hdt⟩ := id p
    obtain ⟨oi, hoi, hci, hdi⟩ := id hit
    have nai : a ≠ it := kinds_ne hot hoi (by rw [hct, hci]; intro z; exact absurd (Value.type.inj z) (by decide))
    have nae : a ≠ e := kinds_ne hot he (by rw [hct]; intro z; exact absurd (Value.type.inj z) (by decide))
    have hh : X.A.in1.handled = none := I.ok.hd hc
    refine wpAny_pyNext_enum_itemD (Draws.tuple hh it a nai its.toArray) he ⟨hit, p⟩ (i := i) ?_ hne (by simp [hne, Ne.symm nae]) fun y h' tk hy ho hit' hT hsz hk => ?_
    · have := (List.getElem?_eq_some_iff.mp hu).1
      simpa using this
    have ey : y = u := by
      have : its.toArray[i]? = some y := hy
      rw [List.getElem?_toArray, hu] at this
      exact (Option.some.inj this).symm
    subst ey
    refine ⟨_, rfl, wpAny_letOwnedTupleGo_enum (s := { s with heap := h', toks := tk + 1 }) ho fun h'' he' sb => ?_⟩
    have hT2 : h''.get? s.heap.objs.size = some { cls := .type "tuple", data := .seq #[.int i tk, y] } := (sb.2 _ (Nat.ne_of_gt hel)).trans hT
    have new : ObjOk X.prog X.w (upd H s.heap.objs.size (.tup [.int (i : Nat), x])) h'' s.heap.objs.size (.tup [.int (i : Nat), x]) :=
      ⟨by show 2 ≤ sizeLine; decide, [.int i tk, y], .cons ⟨_, rfl⟩ (.cons ru .nil), ⟨_, hT2, rfl, _, rfl⟩⟩
    have I1 : Inv X pins σ (upd H s.heap.objs.size (.tup [.int (i : Nat), x])) { s with heap := h'', toks := tk + 1 } :=
      I.turnedNew (ch := [e, it]) (fun b ob hb q => (sb.2 b (fun z => hb (by simp [z]))).trans (hk b ob (fun z => hb (by simp [z])) (fun z => hb (by simp [z])) q)) hf (Nat.le_refl _) new
    refine ⟨.ref s.heap.objs.size, _, I1, rfl, ⟨_, x, rfl, I.hok.fresh (Nat.le_refl _), rfl, fun ys hy => by rw [I.tuple_inj hy hq]; exact hx⟩, ⟨⟨y, ?_⟩, hit'.1.at fun o q => (sb.2 it (Ne.symm hne)).trans q, hne⟩, fun b hb => ?_⟩
    · have e1 : ((i + 1 : Nat) : Int) = (i : Int) + 1 := by omega
      rw [e1]
      exact he'
    · have hb' : b < s.heap.objs.size := by
        rcases (by simpa using hb : b = e ∨ b = it) with z | z
        · rw [z]
          exact hel
        · rw [z]
          exact hil
      rw [upd_ne (Nat.ne_of_lt hb')]
      exact (hf b hb).1
  done := by
    intro X hP hw hK hc i pins s σ H E I hf st hg
    subst hP hw hK
    obtain ⟨⟨old, he⟩, hit, hne⟩ := st
    obtain ⟨xs, hq, hx⟩ := hg
    obtain ⟨its, rv, p, hz⟩ := I.tuple hq
    obtain ⟨f0, f1, f2, f3, f4, f5⟩ := hf it (by simp)
    obtain ⟨ot, hot, hct, hdt⟩ := id p
    obtain ⟨oi, hoi, hci, hdi⟩ := id hit
    have nai : a ≠ it := kinds_ne hot hoi (by rw [hct, hci]; intro z; exact absurd (Value.type.inj z) (by decide))
    have hh : X.A.in1.handled = none := I.ok.hd hc
    have hl := rv.length
    have ei : its.toArray.size = i := by
      rw [List.size_toArray]
      omega
    refine wpAny_pyNext_enum_endD (Draws.tuple hh it a nai its.toArray) he ?_ fun h' eb => ⟨rfl, I.turned (t' := s.toks) (fun b o hb q => eb b o hb q) f0 f1 f3 f4 f5⟩
    rw [ei]
    exact ⟨hit, p⟩
  self := fun A i s Q E st h => by
    obtain ⟨⟨_, he⟩, _⟩ := st
    exact wpAny_pyIter_enum he h
/-- a list or a tuple walked with places -/
def iEnumA (K : PySem.W.Frag) (ta : TA) : TI := fun σ H R => ta σ H fun vs H1 => ∃ a xs, vs = [.ref a] ∧ ((SqL K H1 a xs ∧ R (Ite K a) H1) ∨ (SqT K H1 a xs ∧ R (IteT K a) H1))
theorem pi_enumA {X : Cx} {e : Expr} {ta : TA} {p pos tpos : Pos} {elts : List Expr} {kk : Nat} (hg : Gl X "enumerate") (hm : X.mg "enumerate" = none) (ha : PA X [e] ta) (hs : starEach [e] X.env = [(false, eval e X.env)] := by rfl) :
    PI X (.Tuple elts kk tpos) (.Call (.Name "enumerate" p) [e] [] pos) (iEnumA X.K ta) := by
  refine ⟨fun pins s σ H R I h => ?_⟩
  refine Call_ (ld_blt I hg hm boot_enumerate (PyProof.Rows.callWith_type1 (thn (ha.run pos pins s σ H _ I h) fun us s1 ⟨vs, H1, I1, r1, q1⟩ => ?_) hs rfl))
  obtain ⟨a, xs, rfl, q⟩ := q1
  obtain ⟨u, rfl, ru⟩ := vals1 r1
  obtain rfl : u = Value.ref a := ru
  have fp : ∀ b ∈ [s1.heap.objs.size + 1, s1.heap.objs.size], FpOk X pins H1 b := fun b hb => by
    have hle : s1.heap.objs.size ≤ b := by
      rcases (by simpa using hb : b = s1.heap.objs.size + 1 ∨ b = s1.heap.objs.size) with z | z <;> omega
    exact I1.fpOk hle (I1.hok.fresh hle)
  rcases q with ⟨hq, q⟩ | ⟨hq, q⟩
  · obtain ⟨its, rv, p', hz⟩ := I1.list hq
    refine call_enumerate_list p'.isList fun h' he hit hsz hk => wpAny_pyIter_enum he ?_
    exact ⟨s1.heap.objs.size + 1, _, _, _, H1, rfl, I1.kept (t' := s1.toks) hk, turn_enum a (s1.heap.objs.size + 1) s1.heap.objs.size, ⟨⟨.none, he⟩, hit, Nat.succ_ne_self _⟩, fp, q⟩
  · obtain ⟨its, rv, p', hz⟩ := I1.tuple hq
    refine call_enumT p' fun h' he hit hsz hk => wpAny_pyIter_enum he ?_
    exact ⟨s1.heap.objs.size + 1, _, _, _, H1, rfl, I1.kept (t' := s1.toks) hk, turn_enumT a (s1.heap.objs.size + 1) s1.heap.objs.size, ⟨⟨.none, he⟩, hit, Nat.succ_ne_self _⟩, fp, q⟩
/-- the loop over them, by an invariant -/
theorem for_enumA {K : PySem.W.Frag} {xs : List V} {g : TG} {tb : TS} {D : Ends} {σ : L2.St} {H : Hp} {a : Addr} (hA : RowA H a xs) (Pv : Nat → L2.St → Hp → Prop) (h0 : Pv 0 σ H) (hl : ∀ i σ H', i ≤ xs.length → Pv i σ H' → Same H H')
    (hs : ∀ i x T σ H, xs[i]? = some x → Pv i σ H → H T = none → g (.ref T) σ (upd H T (.tup [.int (i : Nat), x])) fun σ2 H2 => tb { D with nx := Pv (i + 1), ct := Pv (i + 1), bk := D.nx } σ2 H2) (hd : ∀ σ H, Pv xs.length σ H → D.nx σ H) :
    ∃ a' xs, ([.ref a] : List V) = [.ref a'] ∧ ((SqL K H a' xs ∧ ∃ W : Nat → Nat → L2.St → Hp → Prop, (∃ m, W 0 m σ H) ∧ ∀ i m σ H, W i m σ H →
        ((Ite K a').stop i H ∧ D.nx σ H) ∨ ((Ite K a').go i H ∧ ∃ N : L2.St → Hp → Prop, (∀ σ' H', N σ' H' → ∃ m', m' < m ∧ W (i + 1) m' σ' H') ∧ ∀ x H', (Ite K a').yld i H x H' → g x σ H' fun σ2 H2 => tb { D with nx := N, ct := N, bk := D.nx } σ2 H2)) ∨
      (SqT K H a' xs ∧ ∃ W : Nat → Nat → L2.St → Hp → Prop, (∃ m, W 0 m σ H) ∧ ∀ i m σ H, W i m σ H →
        ((IteT K a').stop i H ∧ D.nx σ H) ∨ ((IteT K a').go i H ∧ ∃ N : L2.St → Hp → Prop, (∀ σ' H', N σ' H' → ∃ m', m' < m ∧ W (i + 1) m' σ' H') ∧ ∀ x H', (IteT K a').yld i H x H' → g x σ H' fun σ2 H2 => tb { D with nx := N, ct := N, bk := D.nx } σ2 H2))) := by
  refine ⟨a, xs, rfl, ?_⟩
  rcases hA with hA | hA
  · refine .inl ⟨SqL.of hA, fun i m σ H' => m = xs.length - i ∧ i ≤ xs.length ∧ Pv i σ H', ⟨xs.length, by simp, Nat.zero_le _, h0⟩, ?_⟩
    rintro i m σ H' ⟨rfl, hi, p⟩
    have st := hl i σ H' hi p
    have hS := SqL.of (K := K) (st _ _ hA)
    by_cases hlt : i < xs.length
    · refine .inr ⟨⟨xs, xs[i], hS, List.getElem?_eq_getElem hlt⟩, Pv (i + 1), fun σ' H2 p' => ⟨xs.length - (i + 1), by omega, rfl, hlt, p'⟩, fun x H2 y => ?_⟩
      obtain ⟨T, z, rfl, nT, rfl, hz⟩ := y
      exact hs i z T σ H' (hz xs hS) p nT
    · have e : i = xs.length := by omega
      subst e
      exact .inl ⟨⟨xs, hS, Nat.le_refl _⟩, hd σ H' p⟩
  · refine .inr ⟨SqT.of hA, fun i m σ H' => m = xs.length - i ∧ i ≤ xs.length ∧ Pv i σ H', ⟨xs.length, by simp, Nat.zero_le _, h0⟩, ?_⟩
    rintro i m σ H' ⟨rfl, hi, p⟩
    have st := hl i σ H' hi p
    have hS := SqT.of (K := K) (st _ _ hA)
    by_cases hlt : i < xs.length
    · refine .inr ⟨⟨xs, xs[i], hS, List.getElem?_eq_getElem hlt⟩, Pv (i + 1), fun σ' H2 p' => ⟨xs.length - (i + 1), by omega, rfl, hlt, p'⟩, fun x H2 y => ?_⟩
      obtain ⟨T, z, rfl, nT, rfl, hz⟩ := y
      exact hs i z T σ H' (hz xs hS) p nT
    · have e : i = xs.length := by omega
      subst e
      exact .inl ⟨⟨xs, hS, rfl⟩, hd σ H' p⟩
end Yj
set_option Elab.async false
set_option linter.all false
set_option maxRecDepth 100000
set_option maxHeartbeats 4000000
set_option pp.maxSteps 1500
namespace Yj
open PySem PySem.Spec PyProof.Rows L2 RZ
/-! ### rules that name the written part, for a comprehension's block -/
theorem pg_tupK {X : Cx} {K : PySem.W.Frag} {pos : Pos} {es : List Expr} {k : Nat} {t : TGs} {n : Nat} (hc : X.calm = true) (h : PGs X es t) (hK : X.K = K := by rfl)
    (hn : (assignEach es X.env).length = n := by rfl) (hst : (assignEach es X.env).findIdx? (·.1) = none := by rfl) : PG X (.Tuple es k pos) (gTup K n t) := by
  subst hK
  exact pg_tup hc h hn hst
theorem ix_seqK {X : Cx} {K : PySem.W.Frag} (hK : X.K = K := by rfl) : IxR X (rIx K) := by
  subst hK
  exact ix_seq
theorem call_lenK {X : Cx} {K : PySem.W.Frag} (hK : X.K = K := by rfl) : CallR X (.builtin "len") (fun xs H Q => ∃ p ys, xs = [V.ref p] ∧ (SqL K H p ys ∨ SqT K H p ys) ∧ Q (.int ys.length) H) := by
  subst hK
  exact call_len_seq
/-! ### rows as data -/
def datP (p : Int × Int) : PyData := .tuple [.int p.1, .int p.2]
def dat (l : Sps) : PyData := .tuple (l.map datP)
theorem datA_lay : ∀ l : Sps, PyData.canLayAll0 (l.map datP) = true
  | [] => rfl
  | p :: x => by
    show (PyData.canLay0 (datP p) && PyData.canLayAll0 (x.map datP)) = true
    rw [datA_lay x]
    rfl
theorem datA_depth : ∀ l : Sps, PyData.depthAll (l.map datP) ≤ 1
  | [] => Nat.zero_le _
  | p :: x => by
    show max (PyData.depth (datP p)) (PyData.depthAll (x.map datP)) ≤ 1
    have h1 := datA_depth x
    have h2 : PyData.depth (datP p) = 1 := rfl
    omega
theorem shaped_of {ds : List PyData} {n : Nat} (h1 : PyData.canLayAll0 ds = true) (h2 : PyData.depthAll ds ≤ n) (h3 : n ≤ 63) : SeqAt.shaped (.tuple ds) = true ∧ SeqAt.shaped (.list ds) = true := by
  have e : PyData.depthAll ds + 1 ≤ 64 := by omega
  refine ⟨?_, ?_⟩
  · show (PyData.canLayAll0 ds && decide (PyData.depthAll ds + 1 ≤ 64)) = true
    rw [h1, decide_eq_true e]
    rfl
  · show (PyData.canLayAll0 ds && decide (PyData.depthAll ds + 1 ≤ 64)) = true
    rw [h1, decide_eq_true e]
    rfl
theorem dat_shaped (l : Sps) : SeqAt.shaped (dat l) = true := (shaped_of (datA_lay l) (datA_depth l) (by decide)).1
theorem datP_eqv (p q : Int × Int) : PyData.eqv (datP p) (datP q) = decide (p = q) := by
  show (p.1 == q.1 && (p.2 == q.2 && true)) = decide (p = q)
  obtain ⟨a, b⟩ := p
  obtain ⟨c, d⟩ := q
  rw [Bool.eq_iff_iff]
  simp
theorem datA_eqv : ∀ l m : Sps, PyData.eqvAll (l.map datP) (m.map datP) = decide (l = m)
  | [], [] => rfl
  | [], _ :: _ => rfl
  | _ :: _, [] => rfl
  | p :: x, q :: y => by
    show (PyData.eqv (datP p) (datP q) && PyData.eqvAll (x.map datP) (y.map datP)) = _
    rw [datP_eqv, datA_eqv x y, Bool.eq_iff_iff]
    simp
theorem dat_eqv (l m : Sps) : PyData.eqv (dat l) (dat m) = decide (l = m) := datA_eqv l m
theorem Prs.dat {K : PySem.W.Frag} {H : Hp} : ∀ {vs : List V} {l : Sps}, Prs H vs l → DpAll K H vs (l.map datP)
  | _, _, .nil => .nil
  | _, _, .cons ⟨t, e, h⟩ k => .cons (by rw [e]; exact .tup (SqT.of h) (.cons (.int _) (.cons (.int _) .nil))) k.dat
theorem RowT.dat {K : PySem.W.Frag} {H : Hp} {a : Addr} {l : Sps} (h : RowT H a l) : Dp K H (.ref a) (dat l) := by
  obtain ⟨us, h, k⟩ := h
  exact .tup (SqT.of h) k.dat
/-! ### places in a row -/
theorem Nf.lt : ∀ {l : Sps} {lo : Int} {i k : Nat} {p q : Int × Int}, Nf lo l → i < k → l[i]? = some p → l[k]? = some q → p.2 + 2 ≤ q.1
  | [], _, _, _, _, _, _, _, h, _ => by simp at h
  | a :: x, lo, 0, k + 1, p, q, ⟨_, _, h3⟩, _, hp, hq => by
    have e := Option.some.inj hp
    rw [← e]
    have hq' : x[k]? = some q := hq
    have hm : q ∈ x := List.mem_of_getElem? hq'
    have : Mem x q.1 := by
      rw [mem_iff]
      exact ⟨q, hm, Int.le_refl _, by
        have := h3.val q hm
        exact this⟩
    exact h3.low this
  | a :: x, lo, i + 1, k + 1, p, q, ⟨_, _, h3⟩, h, hp, hq => Nf.lt h3 (Nat.lt_of_succ_lt_succ h) (show x[i]? = some p from hp) (show x[k]? = some q from hq)
theorem mem_at {l : Sps} {d : Int} : Mem l d ↔ ∃ (k : Nat) (p : Int × Int), l[k]? = some p ∧ p.1 ≤ d ∧ d ≤ p.2 := by
  rw [mem_iff]
  constructor
  · rintro ⟨p, hp, h⟩
    obtain ⟨k, hk⟩ := List.mem_iff_getElem?.mp hp
    exact ⟨k, p, hk, h⟩
  · rintro ⟨k, p, hk, h⟩
    exact ⟨p, List.mem_of_getElem? hk, h⟩
end Yj
set_option Elab.async false
set_option linter.all false
set_option maxRecDepth 100000
set_option maxHeartbeats 4000000
set_option pp.maxSteps 1500
namespace Yj
open PySem PySem.Spec PyProof.Rows L2 RZ
/-! ### is_name -/
def lowS : Str := "abcdefghijklmnopqrstuvwxyz"
def figS : Str := "0123456789"
def nmc (c : Nat) : Bool := decide (c ∈ lowS.cps.toList) || decide (c ∈ figS.cps.toList)
def isN : V → Bool
  | .str z => decide (1 ≤ (z.length : Int) ∧ (z.length : Int) ≤ 8) && (match z.cps.toList with | c :: _ => decide (c ∈ lowS.cps.toList) | [] => false) && z.cps.toList.all nmc
  | _ => false
def spName : Sp := fun vs H Q _ => ∃ x, vs = [x] ∧ Pl H x ∧ (∀ z, x = .str z → z.length ≤ 1000000) ∧ ∀ H', Same H H' → Q (.bl (isN x)) H'
section
variable {P : Program} {w : World} {K : PySem.W.Frag} {mg : Str → Option Value} {base : Heap} {ad : Nat → Addr} {fds : Nat → FuncData} {cs : Nat → Value}
theorem ok_is_name (T : Txt K mg ad fds cs) : FnOk P w K mg base CX0 1 (ad 9) (fds 9) ["thing"] spName := by
  refine T.F_is_name.ok sc_is_name (fun vs H Q E h => ?_) (fun cdv A outer s H vs Q E hr h => ?_)
  · obtain ⟨x, rfl, _⟩ := h
    rfl
  obtain ⟨x, rfl, hx, hz, q0⟩ := h
  have q := q0 H (Same.refl H)
  refine ⟨_, (pss_cons (ps_if (PW.pt (pw_or (pt_not (pt_val (pe_callB call_isi (by rfl) T.z_isinstance (by decide +kernel) (pa_cons (pv 0) (pa_cons (pe_bltn (v := .ty "str") (u := .type "str") (by rfl) T.z_str (by decide +kernel) rfl) pa_nil))))) (pw_or1 (pt_not (pt_chain op_le op_le pe_int (pe_callB call_len_str (by rfl) T.z_len (by decide +kernel) (pa_cons (pv 0) pa_nil)) (pe_glob rfl T.c_LONGEST_NAME T.r_LONGEST_NAME)))))) (pss_one (ps_ret pe_bl)) pss_nil)
      (pss_cons (ps_if (pt_cmpR op_notIn_sign (pe_ix ix_seq (pv 0) pe_int (fun _ _ => rfl)) (pe_glob rfl T.c_LETTERS T.r_LETTERS) (by rfl)) (pss_one (ps_ret pe_bl)) pss_nil)
      (pss_one (ps_ret (pe_callB (cr_all rfl) (by rfl) T.z_all (by decide +kernel) (pa_cons (pe_lc (own := [("sign", 1)]) rfl sc_is_name.nd (pi_str (pv 0)) (blkOk_by (N := N_is_name) (sc := defScope s_is_name) (own := [("sign", 1)]) (by decide +kernel)) (fun _ _ _ _ _ => by exact (pg_name (i := 1) sc_is_name.nd rfl (.inl rfl))) (fun _ _ _ _ _ => by exact pts_nil) (fun _ _ _ _ _ => by exact (pe_or (pe_cmpR op_in_sign (pv 1) (pe_glob rfl T.c_LETTERS T.r_LETTERS) (by rfl)) (pe_one (pe_cmpR op_in_sign (pv 1) (pe_glob rfl T.c_FIGURES T.r_FIGURES) (by rfl)))))) pa_nil)))))), ?_⟩
  cases hx with
  | non => exact ⟨_, rfl, _, _, _, _, false, rfl, ClsV.ty _, TyX.base .non, kit_ty (by decide +kernel), _, rfl, iteT (iteT q)⟩
  | bl b => exact ⟨_, rfl, _, _, _, _, false, rfl, ClsV.ty _, TyX.base (.bl b), kit_ty (by decide +kernel), _, rfl, iteT (iteT q)⟩
  | int i => exact ⟨_, rfl, _, _, _, _, false, rfl, ClsV.ty _, TyX.base (.int i), kit_ty (by decide +kernel), _, rfl, iteT (iteT q)⟩
  | lst h => exact ⟨_, rfl, _, _, _, _, false, rfl, ClsV.ty _, TyX.base (.lst h), kit_ty (by decide +kernel), _, rfl, iteT (iteT q)⟩
  | tup h => exact ⟨_, rfl, _, _, _, _, false, rfl, ClsV.ty _, TyX.base (.tup h), kit_ty (by decide +kernel), _, rfl, iteT (iteT q)⟩
  | str z =>
    have hlen : z.length ≤ sizeLine := ofNat_le (hz z rfl)
    refine ⟨_, rfl, _, _, _, _, true, rfl, ClsV.ty _, TyX.base (.str z), kit_ty (by decide +kernel), _, rfl, iteF ?_⟩
    refine ⟨_, rfl, z, rfl, hlen, 1, (z.length : Int), rfl, rfl, _, rfl, ?_⟩
    by_cases c1 : 1 ≤ (z.length : Int)
    · refine ifT c1 ⟨_, 8, rfl, rfl, _, rfl, ?_⟩
      by_cases c2 : (z.length : Int) ≤ 8
      · have e1 : decide (1 ≤ (z.length : Int) ∧ (z.length : Int) ≤ 8) = true := decide_eq_true ⟨c1, c2⟩
        rw [decide_eq_true c2]
        refine iteF ?_
        obtain ⟨c, r, ez⟩ : ∃ c r, z.cps.toList = c :: r := by
          cases e : z.cps.toList with
          | nil =>
            have : z.length = 0 := by
              show z.cps.size = 0
              rw [← Array.length_toList, e]
              rfl
            omega
          | cons c r => exact ⟨c, r, rfl⟩
        refine ⟨_, rfl, .inr (.inr ⟨z, 0, c, rfl, rfl, hlen, by rw [ez]; exact atI_nat (j := 0) rfl, c, lowS, rfl, rfl, _, rfl, ?_⟩)⟩
        by_cases c3 : c ∈ lowS.cps.toList
        · rw [decide_eq_true c3]
          refine iteF ?_
          refine ⟨_, rfl, z, rfl, fun D nD => ?_⟩
          have s1 := same_upd (o := .lst []) nD
          refine L2.lc_it walk_str (fun i H1 => Same H H1 ∧ H1 D = some (.lst (((z.cps.toList.take i).map nmc).map V.bl))) ⟨s1, by rw [upd_same]; rfl⟩ (fun _ _ _ _ => True.intro) ?_ ?_
          · rintro i x H1 H2 hi ⟨s2, hD⟩ ⟨rfl, d, hd, rfl⟩
            have hd' : z.cps.toList[i]? = some d := by simpa using hd
            have hacc : (((z.cps.toList.take i).map nmc).map V.bl).length < sizeLine := ofNat_lt (by
              rw [List.length_map, List.length_map, List.length_take]
              have : z.cps.toList.length = z.length := by simp; rfl
              have := hz z rfl
              omega)
            have fin : ∀ b : Bool, b = nmc d → ∃ acc, H2 D = some (.lst acc) ∧ acc.length < sizeLine ∧ Same H (upd H2 D (.lst (acc ++ [.bl b]))) ∧ upd H2 D (.lst (acc ++ [.bl b])) D = some (.lst (((z.cps.toList.take (i + 1)).map nmc).map V.bl)) := fun b eb => by
              refine ⟨_, hD, hacc, same_at s2 nD, ?_⟩
              rw [upd_same, List.take_add_one, hd', List.map_append, List.map_append, eb]
              rfl
            refine ⟨rfl, ?_⟩
            refine ⟨_, rfl, d, lowS, rfl, rfl, _, rfl, ?_⟩
            by_cases c4 : d ∈ lowS.cps.toList
            · rw [decide_eq_true c4]
              refine iteT (fin true ?_)
              unfold nmc
              rw [decide_eq_true c4]
              rfl
            · rw [decide_eq_false c4]
              refine iteF ⟨_, rfl, d, figS, rfl, rfl, ?_⟩
              refine fin _ ?_
              unfold nmc
              rw [decide_eq_false c4]
              rfl
          · rintro H1 ⟨s2, hD⟩
            have e2 : z.cps.toList.take z.cps.size = z.cps.toList := List.take_of_length_le (by simp)
            rw [e2] at hD
            refine ⟨D, _, rfl, SqL.of hD, ?_⟩
            have q2 := q0 H1 s2
            have e3 : isN (.str z) = (z.cps.toList.map nmc).all id := by
              unfold isN
              dsimp only
              rw [e1]
              have e4 : (match z.cps.toList with | c :: _ => decide (c ∈ lowS.cps.toList) | [] => false) = true := by
                rw [ez]
                exact decide_eq_true c3
              rw [e4, List.all_map]
              rfl
            rw [e3] at q2
            exact q2
        · rw [decide_eq_false c3]
          refine iteT ?_
          have e3 : isN (.str z) = false := by
            unfold isN
            dsimp only
            have e4 : (match z.cps.toList with | c :: _ => decide (c ∈ lowS.cps.toList) | [] => false) = false := by
              rw [ez]
              exact decide_eq_false c3
            rw [e4, Bool.and_false, Bool.false_and]
          rw [e3] at q
          exact q
      · rw [decide_eq_false c2]
        have e3 : isN (.str z) = false := by
          unfold isN
          dsimp only
          rw [decide_eq_false (show ¬ (1 ≤ (z.length : Int) ∧ (z.length : Int) ≤ 8) from fun h => c2 h.2)]
          rfl
        rw [e3] at q
        exact iteT q
    · refine ifF c1 ?_
      have e3 : isN (.str z) = false := by
        unfold isN
        dsimp only
        rw [decide_eq_false (show ¬ (1 ≤ (z.length : Int) ∧ (z.length : Int) ≤ 8) from fun h => c1 h.1)]
        rfl
      rw [e3] at q
      exact ⟨_, rfl, iteT q⟩
end
end Yj
set_option Elab.async false
set_option linter.all false
set_option maxRecDepth 100000
set_option maxHeartbeats 4000000
set_option pp.maxSteps 1500
namespace Yj
open PySem PySem.Spec PyProof.Rows L2 RZ
section
variable {P : Program} {w : World} {K : PySem.W.Frag} {mg : Str → Option Value} {base : Heap} {ad : Nat → Addr} {fds : Nat → FuncData} {cs : Nat → Value}
/-- a day, of anything -/
def isD : V → Bool
  | .int i => decide (0 ≤ i ∧ i ≤ 999999)
  | _ => false
def spDay : Sp := fun vs H Q _ => ∃ x, vs = [x] ∧ Pl H x ∧ Q (.bl (isD x)) H
theorem ok_is_day (T : Txt K mg ad fds cs) : FnOk P w K mg base CX0 2 (ad 10) (fds 10) ["thing"] spDay := by
  refine T.F_is_day.ok sc_is_day (fun vs H Q E h => ?_) (fun cdv A outer s H vs Q E hr h => ?_)
  · obtain ⟨x, rfl, _⟩ := h
    rfl
  · obtain ⟨x, rfl, hx, q⟩ := h
    refine ⟨_, (pss_one (ps_ret (pe_and (pe_call (ok_is_integer T) (hr.mono (by decide)) rfl T.g_is_integer T.F_is_integer.kp (bi_is_integer T) .nil pass0 (pa_cons (pv 0) pa_nil)) (pe_one (pe_chain op_le op_le pe_int (pv 0) (pe_glob rfl T.c_LAST_DAY T.r_LAST_DAY)))))), ?_⟩
    have hno : isI x = false → isD x = false := by
      cases x <;> first | (intro _; rfl) | (intro z; cases z)
    cases e : isI x with
    | false =>
      rw [hno e] at q
      exact ⟨x, rfl, x, rfl, hx, _, rfl, by rw [e]; exact iteF q⟩
    | true =>
      obtain ⟨i, rfl⟩ : ∃ i, x = .int i := by
        cases x <;> first | exact ⟨_, rfl⟩ | cases e
      refine ⟨_, rfl, _, rfl, hx, _, rfl, iteT ?_⟩
      refine ⟨_, rfl, 0, i, rfl, rfl, _, rfl, ?_⟩
      by_cases h0 : 0 ≤ i
      · rw [decide_eq_true h0]
        refine iteT ⟨i, 999999, rfl, rfl, ?_⟩
        have e2 : isD (.int i) = decide (i ≤ 999999) := by
          unfold isD
          exact decide_eq_decide.mpr ⟨fun z => z.2, fun z => ⟨h0, z⟩⟩
        rw [e2] at q
        exact q
      · rw [decide_eq_false h0]
        have e2 : isD (.int i) = false := decide_eq_false fun z => h0 z.1
        rw [e2] at q
        exact iteF q
end
end Yj
set_option Elab.async false
set_option linter.all false
set_option maxRecDepth 100000
set_option maxHeartbeats 4000000
set_option pp.maxSteps 1500
namespace Yj
open PySem PySem.Spec PyProof.Rows L2 RZ
/-! ### terms -/
inductive Tm
  | any (n : Str) | name (n : Str) | wh (n : Str) | day (i : Int) | now
deriving DecidableEq
def Tm.key : Tm → List L2.Key
  | .any n => [.inr "any", .inr n]
  | .name n => [.inr "name", .inr n]
  | .wh n => [.inr "when", .inr n]
  | .day i => [.inr "day", .inl i]
  | .now => [.inr "now"]
def tmL : List Tm := [.any "p", .any "q", .any "r", .name "ann", .name "rome", .name "oslo", .wh "t", .wh "u", .now, .day 3, .day 5, .day 6]
def nmsL : List Str := ["p", "q", "r", "ann", "rome", "oslo", "t", "u"]
def TmAt (H : Hp) (v : V) (t : Tm) : Prop := ∃ a, v = .ref a ∧ H a = some (.tup (t.key.map kV))
/-- what is never changed once it is made -/
def fixO : HO → Prop
  | .tup _ => True
  | .ins _ _ _ => True
  | _ => False
def Fix (H H' : Hp) : Prop := ∀ b o, H b = some o → fixO o → H' b = some o
theorem Fix.refl (H : Hp) : Fix H H := fun _ _ e _ => e
theorem Fix.trans {H H1 H2 : Hp} (a : Fix H H1) (b : Fix H1 H2) : Fix H H2 := fun c o e f => b c o (a c o e f) f
theorem fixOf {H H' : Hp} (s : Same H H') : Fix H H' := fun b o e _ => s b o e
theorem fix_upd {H : Hp} {a : Addr} {o u : HO} (h : H a = some u) (n : ¬ fixO u) : Fix H (upd H a o) := fun b x e f => by
  by_cases c : b = a
  · rw [c, h] at e
    cases e
    exact absurd f n
  · rw [upd_ne c]
    exact e
theorem TmAt.fix {H H' : Hp} (s : Fix H H') {v : V} {t : Tm} (h : TmAt H v t) : TmAt H' v t := by
  obtain ⟨a, e, h⟩ := h
  exact ⟨a, e, s _ _ h True.intro⟩
def isPr (t : Tm) (m : Str) : Bool := match t with
  | .now => false
  | .any _ => decide (("any" : Str) = m)
  | .name _ => decide (("name" : Str) = m)
  | .wh _ => decide (("when" : Str) = m)
  | .day _ => decide (("day" : Str) = m)
def isAny : Tm → Bool
  | .any _ => true
  | _ => false
def isWh : Tm → Bool
  | .wh _ => true
  | _ => false
def isNow : Tm → Bool
  | .now => true
  | _ => false
def isNmT : Tm → Bool
  | .any _ => true
  | .name _ => true
  | _ => false
def isVar (t : Tm) : Bool := isAny t || isWh t
def isDyT (t : Tm) : Bool := !isNmT t
theorem nms_isN : ∀ z ∈ nmsL, isN (.str z) = true ∧ z.length ≤ 1000000 := by decide +kernel
theorem strv_eq {a b : Str} : decide (V.str a = V.str b) = decide (a = b) := by
  by_cases c : a = b
  · rw [decide_eq_true c, decide_eq_true (congrArg V.str c)]
  · rw [decide_eq_false c, decide_eq_false fun z => c (V.str.inj z)]
theorem tm_nm : ∀ t ∈ tmL, ∀ n, (t = .any n ∨ t = .name n ∨ t = .wh n) → n ∈ nmsL := by
  intro t ht n
  simp only [tmL, List.mem_cons, List.mem_nil_iff, or_false] at ht
  rcases ht with rfl | rfl | rfl | rfl | rfl | rfl | rfl | rfl | rfl | rfl | rfl | rfl <;> rintro (h | h | h) <;> cases h <;> decide
theorem tm_dy : ∀ t ∈ tmL, ∀ i, t = .day i → isD (.int i) = true := by
  intro t ht n
  simp only [tmL, List.mem_cons, List.mem_nil_iff, or_false] at ht
  rcases ht with rfl | rfl | rfl | rfl | rfl | rfl | rfl | rfl | rfl | rfl | rfl | rfl <;> intro h <;> cases h <;> decide
abbrev Tst := Str × Tm × Tm
def TstAt (H : Hp) (v : V) (s : Tst) : Prop := ∃ a x y, v = .ref a ∧ H a = some (.tup [.str s.1, x, y]) ∧ TmAt H x s.2.1 ∧ TmAt H y s.2.2
theorem TstAt.fix {H H' : Hp} (s : Fix H H') {v : V} {t : Tst} (h : TstAt H v t) : TstAt H' v t := by
  obtain ⟨a, x, y, e, h, hx, hy⟩ := h
  exact ⟨a, x, y, e, s _ _ h True.intro, hx.fix s, hy.fix s⟩
def dayWs : List Str := ["less", "most", "same", "unlike"]
def nameWs : List Str := ["same", "unlike"]
def GoodT (s : Tst) : Prop := s.2.1 ∈ tmL ∧ s.2.2 ∈ tmL ∧ ((isDyT s.2.1 = true ∧ isDyT s.2.2 = true ∧ s.1 ∈ dayWs) ∨ (isNmT s.2.1 = true ∧ isNmT s.2.2 = true ∧ s.1 ∈ nameWs))
def spIsTest : Sp := fun vs H Q _ => ∃ v s, vs = [v] ∧ TstAt H v s ∧ GoodT s ∧ ∀ H', Same H H' → Q (.bl true) H'
def spIsPair : Sp := fun vs H Q _ => ∃ v t m, vs = [v, .str m] ∧ TmAt H v t ∧ Q (.bl (isPr t m)) H
def spIsTm (f : Tm → Bool) : Sp := fun vs H Q _ => ∃ v t, vs = [v] ∧ TmAt H v t ∧ t ∈ tmL ∧ ∀ H', Same H H' → Q (.bl (f t)) H'
section
variable {P : Program} {w : World} {K : PySem.W.Frag} {mg : Str → Option Value} {base : Heap} {ad : Nat → Addr} {fds : Nat → FuncData} {cs : Nat → Value}
theorem ok_is_pair (T : Txt K mg ad fds cs) : FnOk P w K mg base CX0 1 (ad 15) (fds 15) ["thing", "mark"] spIsPair := by
  refine T.F_is_pair.ok sc_is_pair (fun vs H Q E h => ?_) (fun cdv A outer s H vs Q E hr h => ?_)
  · obtain ⟨v, t, m, rfl, _⟩ := h
    rfl
  obtain ⟨v, t, m, rfl, ⟨a, rfl, ha⟩, q⟩ := h
  refine ⟨_, (pss_one (ps_ret (pe_and (pe_callB call_isi (by rfl) T.z_isinstance (by decide +kernel) (pa_cons (pv 0) (pa_cons (pe_bltn (v := .ty "tuple") (u := .type "tuple") (by rfl) T.z_tuple (by decide +kernel) rfl) pa_nil))) (pe_and (pe_cmpR op_eq (pe_callB call_len_seq (by rfl) T.z_len (by decide +kernel) (pa_cons (pv 0) pa_nil)) pe_int (nomark _)) (pe_and (pe_callB call_isi (by rfl) T.z_isinstance (by decide +kernel) (pa_cons (pe_ix ix_seq (pv 0) pe_int (fun _ _ => rfl)) (pa_cons (pe_bltn (v := .ty "str") (u := .type "str") (by rfl) T.z_str (by decide +kernel) rfl) pa_nil))) (pe_one (pe_cmpR op_eq (pe_ix ix_seq (pv 0) pe_int (fun _ _ => rfl)) (pv 1) (nomark _)))))))), ?_⟩
  refine ⟨_, rfl, _, _, _, _, true, rfl, ClsV.ty _, TyX.base (.tup ha), kit_ty (by decide +kernel), _, rfl, iteT ⟨_, rfl, a, _, rfl, .inr (SqT.of ha), rfl, ?_⟩⟩
  cases t with
  | now => exact ⟨_, rfl, iteF q⟩
  | any n => exact ⟨_, rfl, iteT ⟨_, rfl, .inr (.inl ⟨a, _, 0, .str "any", rfl, rfl, SqT.of ha, atI_nat (j := 0) rfl, _, _, _, _, true, rfl, ClsV.ty _, TyX.base (.str "any"), kit_ty (by decide +kernel), _, rfl, iteT ⟨_, rfl, .inr (.inl ⟨a, _, 0, .str "any", rfl, rfl, SqT.of ha, atI_nat (j := 0) rfl, _, rfl, rfl, by rw [strv_eq]; exact q⟩)⟩⟩)⟩⟩
  | name n => exact ⟨_, rfl, iteT ⟨_, rfl, .inr (.inl ⟨a, _, 0, .str "name", rfl, rfl, SqT.of ha, atI_nat (j := 0) rfl, _, _, _, _, true, rfl, ClsV.ty _, TyX.base (.str "name"), kit_ty (by decide +kernel), _, rfl, iteT ⟨_, rfl, .inr (.inl ⟨a, _, 0, .str "name", rfl, rfl, SqT.of ha, atI_nat (j := 0) rfl, _, rfl, rfl, by rw [strv_eq]; exact q⟩)⟩⟩)⟩⟩
  | wh n => exact ⟨_, rfl, iteT ⟨_, rfl, .inr (.inl ⟨a, _, 0, .str "when", rfl, rfl, SqT.of ha, atI_nat (j := 0) rfl, _, _, _, _, true, rfl, ClsV.ty _, TyX.base (.str "when"), kit_ty (by decide +kernel), _, rfl, iteT ⟨_, rfl, .inr (.inl ⟨a, _, 0, .str "when", rfl, rfl, SqT.of ha, atI_nat (j := 0) rfl, _, rfl, rfl, by rw [strv_eq]; exact q⟩)⟩⟩)⟩⟩
  | day n => exact ⟨_, rfl, iteT ⟨_, rfl, .inr (.inl ⟨a, _, 0, .str "day", rfl, rfl, SqT.of ha, atI_nat (j := 0) rfl, _, _, _, _, true, rfl, ClsV.ty _, TyX.base (.str "day"), kit_ty (by decide +kernel), _, rfl, iteT ⟨_, rfl, .inr (.inl ⟨a, _, 0, .str "day", rfl, rfl, SqT.of ha, atI_nat (j := 0) rfl, _, rfl, rfl, by rw [strv_eq]; exact q⟩)⟩⟩)⟩⟩
theorem ok_is_variable_name (T : Txt K mg ad fds cs) : FnOk P w K mg base CX0 2 (ad 16) (fds 16) ["thing"] (spIsTm isAny) := by
  refine T.F_is_variable_name.ok sc_is_variable_name (fun vs H Q E h => ?_) (fun cdv A outer s H vs Q E hr h => ?_)
  · obtain ⟨v, t, rfl, _⟩ := h
    rfl
  obtain ⟨v, t, rfl, ⟨a, rfl, ha⟩, ht, q⟩ := h
  refine ⟨_, (pss_one (ps_ret (pe_and (pe_call (ok_is_pair T) (hr.mono (by decide)) rfl T.g_is_pair T.F_is_pair.kp (bi_is_pair T) .nil pass0 (pa_cons (pv 0) (pa_cons pe_str pa_nil))) (pe_one (pe_call (ok_is_name T) (hr.mono (by decide)) rfl T.g_is_name T.F_is_name.kp (bi_is_name T) .nil pass0 (pa_cons (pe_ix ix_seq (pv 0) pe_int (fun _ _ => rfl)) pa_nil)))))), ?_⟩
  refine ⟨_, rfl, _, t, _, rfl, ⟨a, rfl, ha⟩, _, rfl, ?_⟩
  cases t with
  | any n =>
    refine iteT ⟨_, rfl, .inr (.inl ⟨a, _, 1, .str n, rfl, rfl, SqT.of ha, atI_nat (j := 1) rfl, _, rfl, .str n, fun z e => ?_, fun H' s => ?_⟩)⟩
    · cases e
      exact (nms_isN n (tm_nm _ ht n (.inl rfl))).2
    · rw [(nms_isN n (tm_nm _ ht n (.inl rfl))).1]
      exact q H' s
  | _ => exact iteF (q H (Same.refl H))
theorem ok_is_variable_day (T : Txt K mg ad fds cs) : FnOk P w K mg base CX0 2 (ad 18) (fds 18) ["thing"] (spIsTm isWh) := by
  refine T.F_is_variable_day.ok sc_is_variable_day (fun vs H Q E h => ?_) (fun cdv A outer s H vs Q E hr h => ?_)
  · obtain ⟨v, t, rfl, _⟩ := h
    rfl
  obtain ⟨v, t, rfl, ⟨a, rfl, ha⟩, ht, q⟩ := h
  refine ⟨_, (pss_one (ps_ret (pe_and (pe_call (ok_is_pair T) (hr.mono (by decide)) rfl T.g_is_pair T.F_is_pair.kp (bi_is_pair T) .nil pass0 (pa_cons (pv 0) (pa_cons pe_str pa_nil))) (pe_one (pe_call (ok_is_name T) (hr.mono (by decide)) rfl T.g_is_name T.F_is_name.kp (bi_is_name T) .nil pass0 (pa_cons (pe_ix ix_seq (pv 0) pe_int (fun _ _ => rfl)) pa_nil)))))), ?_⟩
  refine ⟨_, rfl, _, t, _, rfl, ⟨a, rfl, ha⟩, _, rfl, ?_⟩
  cases t with
  | wh n =>
    refine iteT ⟨_, rfl, .inr (.inl ⟨a, _, 1, .str n, rfl, rfl, SqT.of ha, atI_nat (j := 1) rfl, _, rfl, .str n, fun z e => ?_, fun H' s => ?_⟩)⟩
    · cases e
      exact (nms_isN n (tm_nm _ ht n (.inr (.inr rfl)))).2
    · rw [(nms_isN n (tm_nm _ ht n (.inr (.inr rfl)))).1]
      exact q H' s
  | _ => exact iteF (q H (Same.refl H))
theorem ok_is_name_term (T : Txt K mg ad fds cs) : FnOk P w K mg base CX0 3 (ad 17) (fds 17) ["thing"] (spIsTm isNmT) := by
  refine T.F_is_name_term.ok sc_is_name_term (fun vs H Q E h => ?_) (fun cdv A outer s H vs Q E hr h => ?_)
  · obtain ⟨v, t, rfl, _⟩ := h
    rfl
  obtain ⟨v, t, rfl, ⟨a, rfl, ha⟩, ht, q⟩ := h
  refine ⟨_, (pss_one (ps_ret (pe_or (pe_call (ok_is_variable_name T) (hr.mono (by decide)) rfl T.g_is_variable_name T.F_is_variable_name.kp (bi_is_variable_name T) .nil pass0 (pa_cons (pv 0) pa_nil)) (pe_one (pe_and (pe_call (ok_is_pair T) (hr.mono (by decide)) rfl T.g_is_pair T.F_is_pair.kp (bi_is_pair T) .nil pass0 (pa_cons (pv 0) (pa_cons pe_str pa_nil))) (pe_one (pe_call (ok_is_name T) (hr.mono (by decide)) rfl T.g_is_name T.F_is_name.kp (bi_is_name T) .nil pass0 (pa_cons (pe_ix ix_seq (pv 0) pe_int (fun _ _ => rfl)) pa_nil)))))))), ?_⟩
  refine ⟨_, rfl, _, t, rfl, ⟨a, rfl, ha⟩, ht, fun H1 s1 => ⟨_, rfl, ?_⟩⟩
  have f1 := fixOf s1
  cases t with
  | any n => exact iteT (q H1 s1)
  | name n =>
    refine iteF ⟨_, rfl, _, _, _, rfl, TmAt.fix f1 ⟨a, rfl, ha⟩, _, rfl, ?_⟩
    have ha := s1 _ _ ha
    refine iteT ⟨_, rfl, .inr (.inl ⟨a, _, 1, .str n, rfl, rfl, SqT.of ha, atI_nat (j := 1) rfl, _, rfl, .str n, fun z e => ?_, fun H' s => ?_⟩)⟩
    · cases e
      exact (nms_isN n (tm_nm _ ht n (.inr (.inl rfl)))).2
    · rw [(nms_isN n (tm_nm _ ht n (.inr (.inl rfl)))).1]
      exact q H' (s1.trans s)
  | _ => exact iteF ⟨_, rfl, _, _, _, rfl, TmAt.fix f1 ⟨a, rfl, ha⟩, _, rfl, iteF (q H1 s1)⟩
theorem ok_is_now (T : Txt K mg ad fds cs) : FnOk P w K mg base CX0 1 (ad 19) (fds 19) ["thing"] (spIsTm isNow) := by
  refine T.F_is_now.ok sc_is_now (fun vs H Q E h => ?_) (fun cdv A outer s H vs Q E hr h => ?_)
  · obtain ⟨v, t, rfl, _⟩ := h
    rfl
  obtain ⟨v, t, rfl, ⟨a, rfl, ha⟩, ht, q⟩ := h
  refine ⟨_, (pss_one (ps_ret (pe_and (pe_callB call_isi (by rfl) T.z_isinstance (by decide +kernel) (pa_cons (pv 0) (pa_cons (pe_bltn (v := .ty "tuple") (u := .type "tuple") (by rfl) T.z_tuple (by decide +kernel) rfl) pa_nil))) (pe_and (pe_cmpR op_eq (pe_callB call_len_seq (by rfl) T.z_len (by decide +kernel) (pa_cons (pv 0) pa_nil)) pe_int (nomark _)) (pe_and (pe_callB call_isi (by rfl) T.z_isinstance (by decide +kernel) (pa_cons (pe_ix ix_seq (pv 0) pe_int (fun _ _ => rfl)) (pa_cons (pe_bltn (v := .ty "str") (u := .type "str") (by rfl) T.z_str (by decide +kernel) rfl) pa_nil))) (pe_one (pe_cmpR (op_eqD hr.units) (pv 0) (pe_glob (v := V.ref (ad 12)) rfl T.c_NOW rfl) (nomark _)))))))), ?_⟩
  refine ⟨_, rfl, _, _, _, _, true, rfl, ClsV.ty _, TyX.base (.tup ha), kit_ty (by decide +kernel), _, rfl, iteT ⟨_, rfl, a, _, rfl, .inr (SqT.of ha), rfl, ?_⟩⟩
  have q := q H (Same.refl H)
  cases t with
  | now => exact ⟨_, rfl, iteT ⟨_, rfl, .inr (.inl ⟨a, _, 0, .str "now", rfl, rfl, SqT.of ha, atI_nat (j := 0) rfl, _, _, _, _, true, rfl, ClsV.ty _, TyX.base (.str "now"), kit_ty (by decide +kernel), _, rfl, iteT ⟨_, rfl, .tuple [.str "now"], .tuple [.str "now"], .tup (SqT.of ha) (.cons (.str _) .nil), .tup T.w_NOW.sq (.cons (.str _) .nil), by decide +kernel, by decide +kernel, q⟩⟩)⟩⟩
  | _ => exact ⟨_, rfl, iteF q⟩
theorem ok_is_day_term (T : Txt K mg ad fds cs) : FnOk P w K mg base CX0 3 (ad 20) (fds 20) ["thing"] (spIsTm isDyT) := by
  refine T.F_is_day_term.ok sc_is_day_term (fun vs H Q E h => ?_) (fun cdv A outer s H vs Q E hr h => ?_)
  · obtain ⟨v, t, rfl, _⟩ := h
    rfl
  obtain ⟨v, t, rfl, ⟨a, rfl, ha⟩, ht, q⟩ := h
  refine ⟨_, (pss_one (ps_ret (pe_or (pe_call (ok_is_now T) (hr.mono (by decide)) rfl T.g_is_now T.F_is_now.kp (bi_is_now T) .nil pass0 (pa_cons (pv 0) pa_nil)) (pe_or (pe_call (ok_is_variable_day T) (hr.mono (by decide)) rfl T.g_is_variable_day T.F_is_variable_day.kp (bi_is_variable_day T) .nil pass0 (pa_cons (pv 0) pa_nil)) (pe_one (pe_and (pe_call (ok_is_pair T) (hr.mono (by decide)) rfl T.g_is_pair T.F_is_pair.kp (bi_is_pair T) .nil pass0 (pa_cons (pv 0) (pa_cons pe_str pa_nil))) (pe_one (pe_call (ok_is_day T) (hr.mono (by decide)) rfl T.g_is_day T.F_is_day.kp (bi_is_day T) .nil pass0 (pa_cons (pe_ix ix_seq (pv 0) pe_int (fun _ _ => rfl)) pa_nil))))))))), ?_⟩
  refine ⟨_, rfl, _, t, rfl, ⟨a, rfl, ha⟩, ht, fun H1 s1 => ⟨_, rfl, ?_⟩⟩
  have f1 := fixOf s1
  cases t with
  | now => exact iteT (q H1 s1)
  | wh n => exact iteF ⟨_, rfl, _, _, rfl, TmAt.fix f1 ⟨a, rfl, ha⟩, ht, fun H2 s2 => ⟨_, rfl, iteT (q H2 (s1.trans s2))⟩⟩
  | day n =>
    refine iteF ⟨_, rfl, _, _, rfl, TmAt.fix f1 ⟨a, rfl, ha⟩, ht, fun H2 s2 => ⟨_, rfl, iteF ?_⟩⟩
    have s3 := s1.trans s2
    have ha := s3 _ _ ha
    refine ⟨_, rfl, _, _, _, rfl, ⟨a, rfl, ha⟩, _, rfl, iteT ⟨_, rfl, .inr (.inl ⟨a, _, 1, .int n, rfl, rfl, SqT.of ha, atI_nat (j := 1) rfl, _, rfl, .int n, ?_⟩)⟩⟩
    rw [tm_dy _ ht n rfl]
    exact q H2 s3
  | _ => exact iteF ⟨_, rfl, _, _, rfl, TmAt.fix f1 ⟨a, rfl, ha⟩, ht, fun H2 s2 => ⟨_, rfl, iteF ⟨_, rfl, _, _, _, rfl, TmAt.fix (fixOf (s1.trans s2)) ⟨a, rfl, ha⟩, _, rfl, iteF (q H2 (s1.trans s2))⟩⟩⟩
theorem ok_is_test (T : Txt K mg ad fds cs) : FnOk P w K mg base CX0 4 (ad 21) (fds 21) ["thing"] spIsTest := by
  refine T.F_is_test.ok sc_is_test (fun vs H Q E h => ?_) (fun cdv A outer s H vs Q E hr h => ?_)
  · obtain ⟨v, t, rfl, _⟩ := h
    rfl
  obtain ⟨v, ⟨word, one, other⟩, rfl, ⟨a, x, y, rfl, ha, hx, hy⟩, ⟨h1, h2, g⟩, q⟩ := h
  dsimp only at ha hx hy h1 h2 g
  refine ⟨_, (pss_cons (ps_if (PW.pt (pw_or (pt_not (pt_val (pe_callB call_isi (by rfl) T.z_isinstance (by decide +kernel) (pa_cons (pv 0) (pa_cons (pe_bltn (v := .ty "tuple") (u := .type "tuple") (by rfl) T.z_tuple (by decide +kernel) rfl) pa_nil))))) (pw_or (pt_cmpR op_ne (pe_callB call_len_seq (by rfl) T.z_len (by decide +kernel) (pa_cons (pv 0) pa_nil)) pe_int (nomark _)) (pw_or1 (pt_not (pt_val (pe_callB call_isi (by rfl) T.z_isinstance (by decide +kernel) (pa_cons (pe_ix ix_seq (pv 0) pe_int (fun _ _ => rfl)) (pa_cons (pe_bltn (v := .ty "str") (u := .type "str") (by rfl) T.z_str (by decide +kernel) rfl) pa_nil))))))))) (pss_one (ps_ret pe_bl)) pss_nil)
      (pss_cons (ps_asg (pv 0) (pg_tup rfl (pgs_cons (pg_name (i := 1) sc_is_test.nd rfl (by first | exact .inl rfl | exact .inr rfl)) (pgs_cons (pg_name (i := 2) sc_is_test.nd rfl (by first | exact .inl rfl | exact .inr rfl)) (pgs_cons (pg_name (i := 3) sc_is_test.nd rfl (by first | exact .inl rfl | exact .inr rfl)) pgs_nil)))))
      (pss_cons (ps_if (PW.pt (pw_and (pt_val (pe_call (ok_is_day_term T) (hr.mono (by decide)) rfl T.g_is_day_term T.F_is_day_term.kp (bi_is_day_term T) .nil pass0 (pa_cons (pv 2) pa_nil))) (pw_and1 (pt_val (pe_call (ok_is_day_term T) (hr.mono (by decide)) rfl T.g_is_day_term T.F_is_day_term.kp (bi_is_day_term T) .nil pass0 (pa_cons (pv 3) pa_nil)))))) (pss_one (ps_ret (pe_cmpR op_in_seq (pv 1) (pe_glob (v := V.ref (ad 13)) rfl T.c_DAY_WORDS rfl) (by rfl)))) pss_nil)
      (pss_one (ps_ret (pe_and (pe_call (ok_is_name_term T) (hr.mono (by decide)) rfl T.g_is_name_term T.F_is_name_term.kp (bi_is_name_term T) .nil pass0 (pa_cons (pv 2) pa_nil)) (pe_and (pe_call (ok_is_name_term T) (hr.mono (by decide)) rfl T.g_is_name_term T.F_is_name_term.kp (bi_is_name_term T) .nil pass0 (pa_cons (pv 3) pa_nil)) (pe_one (pe_cmpR op_in_seq (pv 1) (pe_glob (v := V.ref (ad 14)) rfl T.c_NAME_WORDS rfl) (by rfl)))))))))), ?_⟩
  refine ⟨_, rfl, _, _, _, _, true, rfl, ClsV.ty _, TyX.base (.tup ha), kit_ty (by decide +kernel), _, rfl, ?_⟩
  refine iteF ⟨_, rfl, a, _, rfl, .inr (SqT.of ha), rfl, _, rfl, iteF ⟨_, rfl, .inr (.inl ⟨a, _, 0, .str word, rfl, rfl, SqT.of ha, atI_nat (j := 0) rfl, _, _, _, _, true, rfl, ClsV.ty _, TyX.base (.str word), kit_ty (by decide +kernel), _, rfl, iteF ?_⟩)⟩⟩
  refine ⟨_, rfl, a, _, rfl, SqT.of ha, rfl, _, _, rfl, _, _, rfl, _, _, rfl, rfl, ?_⟩
  refine ⟨_, rfl, _, one, rfl, hx, h1, fun H1 s1 => ⟨_, rfl, ?_⟩⟩
  rcases g with ⟨g1, g2, g3⟩ | ⟨g1, g2, g3⟩
  · rw [g1]
    refine iteT ⟨_, rfl, _, other, rfl, hy.fix (fixOf s1), h2, fun H2 s2 => ⟨_, rfl, ?_⟩⟩
    rw [g2]
    refine iteT ⟨_, rfl, _, _, rfl, .inr T.w_DAY_WORDS.sq, rfl, rfl, ?_⟩
    have e : inV (.str word) [.str "less", .str "most", .str "same", .str "unlike"] = true := by
      revert g3
      simp only [dayWs, List.mem_cons, List.mem_nil_iff, or_false]
      rintro (rfl | rfl | rfl | rfl) <;> decide +kernel
    rw [e]
    exact q H2 (s1.trans s2)
  · have n1 : isDyT one = false := by rw [isDyT, g1]; rfl
    rw [n1]
    refine iteF ⟨_, rfl, _, one, rfl, hx.fix (fixOf s1), h1, fun H2 s2 => ⟨_, rfl, ?_⟩⟩
    rw [g1]
    have s3 := s1.trans s2
    refine iteT ⟨_, rfl, _, other, rfl, hy.fix (fixOf s3), h2, fun H3 s4 => ⟨_, rfl, ?_⟩⟩
    rw [g2]
    refine iteT ⟨_, rfl, _, _, rfl, .inr T.w_NAME_WORDS.sq, rfl, rfl, ?_⟩
    have e : inV (.str word) [.str "same", .str "unlike"] = true := by
      revert g3
      simp only [nameWs, List.mem_cons, List.mem_nil_iff, or_false]
      rintro (rfl | rfl) <;> decide +kernel
    rw [e]
    exact q H3 (s3.trans s4)
theorem ok__is_variable (T : Txt K mg ad fds cs) : FnOk P w K mg base CX0 3 (ad 53) (fds 53) ["term"] (spIsTm isVar) := by
  refine T.F__is_variable.ok sc__is_variable (fun vs H Q E h => ?_) (fun cdv A outer s H vs Q E hr h => ?_)
  · obtain ⟨v, t, rfl, _⟩ := h
    rfl
  obtain ⟨v, t, rfl, ⟨a, rfl, ha⟩, ht, q⟩ := h
  refine ⟨_, (pss_one (ps_ret (pe_or (pe_call (ok_is_variable_name T) (hr.mono (by decide)) rfl T.g_is_variable_name T.F_is_variable_name.kp (bi_is_variable_name T) .nil pass0 (pa_cons (pv 0) pa_nil)) (pe_one (pe_call (ok_is_variable_day T) (hr.mono (by decide)) rfl T.g_is_variable_day T.F_is_variable_day.kp (bi_is_variable_day T) .nil pass0 (pa_cons (pv 0) pa_nil)))))), ?_⟩
  refine ⟨_, rfl, _, t, rfl, ⟨a, rfl, ha⟩, ht, fun H1 s1 => ⟨_, rfl, ?_⟩⟩
  have f1 := fixOf s1
  cases t with
  | any n => exact iteT (q H1 s1)
  | _ => exact iteF ⟨_, rfl, _, _, rfl, TmAt.fix f1 ⟨a, rfl, ha⟩, ht, fun H2 s2 => q H2 (s1.trans s2)⟩
end
end Yj
set_option Elab.async false
set_option linter.all false
set_option maxRecDepth 100000
set_option maxHeartbeats 4000000
set_option pp.maxSteps 1500
namespace Yj
open PySem PySem.Spec PyProof.Rows L2 RZ
/-! ### texts of terms, and back -/
theorem pget {α β : Type} {R : α → β → Prop} {us : List α} {l : List β} (h : Paired R us l) : ∀ {i : Nat} {v : α}, us[i]? = some v → ∃ x, l[i]? = some x ∧ R v x := by
  induction h with
  | nil =>
    intro i v e
    cases e
  | @cons u q us l a t ih =>
    intro i v e
    cases i with
    | zero =>
      obtain rfl := Option.some.inj e
      exact ⟨q, rfl, a⟩
    | succ i => exact ih (i := i) e
def keyD : L2.Key → PyData
  | .inl i => .int i
  | .inr x => .str x
def datT (t : Tm) : PyData := .tuple (t.key.map keyD)
theorem keys_dp {K : PySem.W.Frag} {H : Hp} : ∀ ks : List L2.Key, DpAll K H (ks.map kV) (ks.map keyD)
  | [] => .nil
  | .inl i :: r => .cons (.int i) (keys_dp r)
  | .inr x :: r => .cons (.str x) (keys_dp r)
/-- a term, here or in the written part -/
def TmD (K : PySem.W.Frag) (H : Hp) (v : V) (t : Tm) : Prop := ∃ a, v = .ref a ∧ (H a = some (.tup (t.key.map kV)) ∨ YjG.WrT K a (t.key.map kV))
theorem TmAt.d {K : PySem.W.Frag} {H : Hp} {v : V} {t : Tm} (h : TmAt H v t) : TmD K H v t := by
  obtain ⟨a, e, h⟩ := h
  exact ⟨a, e, .inl h⟩
theorem TmD.fix {K : PySem.W.Frag} {H H' : Hp} (s : Fix H H') {v : V} {t : Tm} (h : TmD K H v t) : TmD K H' v t := by
  obtain ⟨a, e, h | h⟩ := h
  · exact ⟨a, e, .inl (s _ _ h True.intro)⟩
  · exact ⟨a, e, .inr h⟩
theorem TmD.dp {K : PySem.W.Frag} {H : Hp} {v : V} {t : Tm} (h : TmD K H v t) : Dp K H v (datT t) := by
  obtain ⟨a, rfl, h⟩ := h
  refine .tup ?_ (keys_dp _)
  rcases h with h | h
  · exact SqT.of h
  · exact h.sq
theorem TmD.ref {K : PySem.W.Frag} {H : Hp} {v : V} {t : Tm} (h : TmD K H v t) : ∃ a, v = .ref a := by
  obtain ⟨a, e, _⟩ := h
  exact ⟨a, e⟩
def OTm (K : PySem.W.Frag) (H : Hp) (v : V) : Option Tm → Prop
  | none => v = .non
  | some t => TmD K H v t
theorem OTm.fix {K : PySem.W.Frag} {H H' : Hp} (s : Fix H H') {v : V} : ∀ {o : Option Tm}, OTm K H v o → OTm K H' v o
  | none, h => h
  | some _, h => TmD.fix s h
theorem OTm.isNon {K : PySem.W.Frag} {H : Hp} {v : V} {o : Option Tm} (h : OTm K H v o) : decide (v = .non) = o.isNone := by
  cases o with
  | none =>
    obtain rfl : v = .non := h
    rfl
  | some t =>
    obtain ⟨a, rfl⟩ := TmD.ref h
    exact decide_eq_false fun z => nomatch z
def tmTx : Tm → Str
  | .any n => ("?" : Str) ++ n
  | .wh n => ("?" : Str) ++ n
  | .name n => n
  | .day i => Str.ofString (toString i)
  | .now => "now"
def vS : Option Str → V
  | none => .non
  | some z => .str z
def vI : Option Int → V
  | none => .non
  | some z => .int z
def variableOf (z : Str) : Option Str := if Txt.startswith z "?" && isN (.str (cutS z (some 1) none)) then some (cutS z (some 1) none) else none
def allFig (z : Str) : Bool := z.cps.toList.all fun c => decide (c ∈ figS.cps.toList)
def numBy (z : Str) : Option Int := if decide (1 ≤ (z.length : Int)) && decide ((z.length : Int) ≤ 6) && allFig z then (if z.cps.toList.head? = some 48 ∧ z ≠ ("0" : Str) then none else intText? z) else none
def NumC (z : Str) : Bool := decide (z.length ≤ 1000) && (!(decide (1 ≤ (z.length : Int)) && decide ((z.length : Int) ≤ 6) && allFig z) || (intText? z).isSome)
def nameOf (z : Str) : Option Tm := match variableOf z with
  | some n => some (.any n)
  | none => if isN (.str z) && !decide (z = ("now" : Str)) then some (.name z) else none
def dayOf (z : Str) : Option Tm := if z = ("now" : Str) then some .now else match variableOf z with
  | some n => some (.wh n)
  | none => (numBy z).map .day
theorem tm_eqn : ∀ t ∈ tmL, PyData.eqv (datT t) (.tuple [.str "now"]) = isNow t := by decide +kernel
theorem tm_sh : ∀ t ∈ tmL, SeqAt.shaped (datT t) = true := by decide +kernel
theorem now_sh : SeqAt.shaped (.tuple [.str "now"]) = true := by decide +kernel
theorem tm_len : ∀ t ∈ tmL, (tmTx t).length ≤ 100 := by decide +kernel
theorem tm_day : ∀ t ∈ tmL, ∀ i, t = .day i → i.natAbs.log2 < 1920 := by
  intro t ht n
  simp only [tmL, List.mem_cons, List.mem_nil_iff, or_false] at ht
  rcases ht with rfl | rfl | rfl | rfl | rfl | rfl | rfl | rfl | rfl | rfl | rfl | rfl <;> intro h <;> cases h <;> decide +kernel
theorem nm_len2 : ∀ n ∈ nmsL, ("?" : Str).length + n.length ≤ sizeLine := by decide +kernel
def spTmTx : Sp := fun vs H Q _ => ∃ v t, vs = [v] ∧ TmAt H v t ∧ t ∈ tmL ∧ ∀ H', Same H H' → Q (.str (tmTx t)) H'
def spVarOf : Sp := fun vs H Q _ => ∃ z, vs = [.str z] ∧ z.length ≤ 1000 ∧ ∀ H', Same H H' → Q (vS (variableOf z)) H'
def spNumBy : Sp := fun vs H Q _ => ∃ z, vs = [.str z] ∧ NumC z = true ∧ ∀ H', Same H H' → Q (vI (numBy z)) H'
def spNameOf (K : PySem.W.Frag) : Sp := fun vs H Q _ => ∃ z, vs = [.str z] ∧ z.length ≤ 1000 ∧ ∀ H' v, Same H H' → OTm K H' v (nameOf z) → Q v H'
def spDayOf (K : PySem.W.Frag) : Sp := fun vs H Q _ => ∃ z, vs = [.str z] ∧ NumC z = true ∧ ∀ H' v, Same H H' → OTm K H' v (dayOf z) → Q v H'
section
variable {P : Program} {w : World} {K : PySem.W.Frag} {mg : Str → Option Value} {base : Heap} {ad : Nat → Addr} {fds : Nat → FuncData} {cs : Nat → Value}
theorem ok__term_text (T : Txt K mg ad fds cs) : FnOk P w K mg base CX0 1 (ad 31) (fds 31) ["term"] spTmTx := by
  refine T.F__term_text.ok sc__term_text (fun vs H Q E h => ?_) (fun cdv A outer s H vs Q E hr h => ?_)
  · obtain ⟨v, t, rfl, _⟩ := h
    rfl
  obtain ⟨v, t, rfl, hv, ht, q⟩ := h
  obtain ⟨a, rfl, ha⟩ := id hv
  refine ⟨_, (pss_cons (ps_if (pt_cmpR (op_eqD hr.units) (pv 0) (pe_glob (v := V.ref (ad 12)) rfl T.c_NOW rfl) (nomark _)) (pss_one (ps_ret (pe_glob rfl T.c_NOW_WORD T.r_NOW_WORD))) pss_nil)
      (pss_one (ps_ret (pe_ifExp (pt_cmpR op_in_seq (pe_ix ix_seq (pv 0) pe_int (fun _ _ => rfl)) (pe_tup (pa_cons pe_str (pa_cons pe_str pa_nil))) (by rfl)) (pe_op op_add_str (pe_glob rfl T.c_VARIABLE T.r_VARIABLE) (pe_ix ix_seq (pv 0) pe_int (fun _ _ => rfl))) (pe_callTy (YjG.callR_or call_str_int SkE.call_str_str) (by rfl) T.z_str (by decide +kernel) (pa_cons (pe_ix ix_seq (pv 0) pe_int (fun _ _ => rfl)) pa_nil)))))), ?_⟩
  refine ⟨_, rfl, datT t, .tuple [.str "now"], hv.d.dp, .tup T.w_NOW.sq (.cons (.str _) .nil), tm_sh t ht, now_sh, _, rfl, ?_⟩
  rw [tm_eqn t ht]
  cases t with
  | now => exact iteT (q H (Same.refl H))
  | any n =>
    refine iteF ⟨_, rfl, .inr (.inl ⟨a, _, 0, .str "any", rfl, rfl, SqT.of ha, atI_nat (j := 0) rfl, (by show 2 ≤ sizeLine; decide), fun p hp => ?_⟩)⟩
    have s1 := same_upd (o := .tup [V.str "any", V.str "when"]) hp
    refine ⟨p, _, rfl, .inr (SqT.of upd_same), rfl, rfl, _, rfl, ?_⟩
    rw [show inV (.str "any") [V.str "any", V.str "when"] = true by decide +kernel]
    exact iteT ⟨_, rfl, .inr (.inl ⟨a, _, 1, .str n, rfl, rfl, SqT.of (s1 _ _ ha), atI_nat (j := 1) rfl, _, _, rfl, rfl, nm_len2 n (tm_nm _ ht n (.inl rfl)), q _ s1⟩)⟩
  | wh n =>
    refine iteF ⟨_, rfl, .inr (.inl ⟨a, _, 0, .str "when", rfl, rfl, SqT.of ha, atI_nat (j := 0) rfl, (by show 2 ≤ sizeLine; decide), fun p hp => ?_⟩)⟩
    have s1 := same_upd (o := .tup [V.str "any", V.str "when"]) hp
    refine ⟨p, _, rfl, .inr (SqT.of upd_same), rfl, rfl, _, rfl, ?_⟩
    rw [show inV (.str "when") [V.str "any", V.str "when"] = true by decide +kernel]
    exact iteT ⟨_, rfl, .inr (.inl ⟨a, _, 1, .str n, rfl, rfl, SqT.of (s1 _ _ ha), atI_nat (j := 1) rfl, _, _, rfl, rfl, nm_len2 n (tm_nm _ ht n (.inr (.inr rfl))), q _ s1⟩)⟩
  | name n =>
    refine iteF ⟨_, rfl, .inr (.inl ⟨a, _, 0, .str "name", rfl, rfl, SqT.of ha, atI_nat (j := 0) rfl, (by show 2 ≤ sizeLine; decide), fun p hp => ?_⟩)⟩
    have s1 := same_upd (o := .tup [V.str "any", V.str "when"]) hp
    refine ⟨p, _, rfl, .inr (SqT.of upd_same), rfl, rfl, _, rfl, ?_⟩
    rw [show inV (.str "name") [V.str "any", V.str "when"] = false by decide +kernel]
    exact iteF ⟨_, rfl, .inr (.inl ⟨a, _, 1, .str n, rfl, rfl, SqT.of (s1 _ _ ha), atI_nat (j := 1) rfl, .inr ⟨_, rfl, q _ s1⟩⟩)⟩
  | day n =>
    refine iteF ⟨_, rfl, .inr (.inl ⟨a, _, 0, .str "day", rfl, rfl, SqT.of ha, atI_nat (j := 0) rfl, (by show 2 ≤ sizeLine; decide), fun p hp => ?_⟩)⟩
    have s1 := same_upd (o := .tup [V.str "any", V.str "when"]) hp
    refine ⟨p, _, rfl, .inr (SqT.of upd_same), rfl, rfl, _, rfl, ?_⟩
    rw [show inV (.str "day") [V.str "any", V.str "when"] = false by decide +kernel]
    exact iteF ⟨_, rfl, .inr (.inl ⟨a, _, 1, .int n, rfl, rfl, SqT.of (s1 _ _ ha), atI_nat (j := 1) rfl, .inl ⟨_, rfl, tm_day _ ht n rfl, q _ s1⟩⟩)⟩
theorem ok_variable_of (T : Txt K mg ad fds cs) : FnOk P w K mg base CX0 2 (ad 32) (fds 32) ["word"] spVarOf := by
  refine T.F_variable_of.ok sc_variable_of (fun vs H Q E h => ?_) (fun cdv A outer s H vs Q E hr h => ?_)
  · obtain ⟨z, rfl, _⟩ := h
    rfl
  obtain ⟨z, rfl, hz, q⟩ := h
  refine ⟨_, (pss_one (ps_ret (pe_ifExp (PW.pt (pw_and (pt_val (pe_m1 PySem.F.slot_str_startswith PySem.F.type_str_startswith mt_startswith (pv 0) (pe_glob rfl T.c_VARIABLE T.r_VARIABLE))) (pw_and1 (pt_val (pe_call (ok_is_name T) (hr.mono (by decide)) rfl T.g_is_name T.F_is_name.kp (bi_is_name T) .nil pass0 (pa_cons (pe_slice sl_str (pv 0) (po_some pe_int) po_none) pa_nil)))))) (pe_slice sl_str (pv 0) (po_some pe_int) po_none) pe_non))), ?_⟩
  have hlen : z.length ≤ sizeLine := ofNat_le (by omega)
  have cl := J1.cutS_len_le z (some 1) none
  refine ⟨_, rfl, ⟨_, rfl⟩, z, "?", rfl, rfl, _, rfl, ?_⟩
  unfold variableOf at q
  cases c : Txt.startswith z "?" with
  | false =>
    rw [c] at q
    exact iteF (q H (Same.refl H))
  | true =>
    rw [c] at q
    refine iteT ⟨_, rfl, 1, rfl, z, rfl, hlen, _, rfl, .str _, fun y e => ?_, fun H1 s1 => ⟨_, rfl, ?_⟩⟩
    · cases e
      show (cutS z (some 1) none).length ≤ _
      omega
    · cases c2 : isN (.str (cutS z (some 1) none)) with
      | false =>
        rw [c2] at q
        exact iteF (q H1 s1)
      | true =>
        rw [c2] at q
        exact iteT ⟨_, rfl, 1, rfl, z, rfl, hlen, q H1 s1⟩
end
end Yj
set_option Elab.async false
set_option linter.all false
set_option maxRecDepth 100000
set_option maxHeartbeats 4000000
set_option pp.maxSteps 1500
namespace Yj
open PySem PySem.Spec PyProof.Rows L2 RZ
theorem numC_len {z : Str} (h : NumC z = true) : z.length ≤ 1000 := by
  unfold NumC at h
  rw [Bool.and_eq_true] at h
  exact of_decide_eq_true h.1
section
variable {P : Program} {w : World} {K : PySem.W.Frag} {mg : Str → Option Value} {base : Heap} {ad : Nat → Addr} {fds : Nat → FuncData} {cs : Nat → Value}
theorem ok_number_by (T : Txt K mg ad fds cs) : FnOk P w K mg base CX0 1 (ad 24) (fds 24) ["word"] spNumBy := by
  refine T.F_number_by.ok sc_number_by (fun vs H Q E h => ?_) (fun cdv A outer s H vs Q E hr h => ?_)
  · obtain ⟨z, rfl, _⟩ := h
    rfl
  obtain ⟨z, rfl, hz, q⟩ := h
  refine ⟨_, (pss_cons (ps_if (PW.pt (pw_or (pt_not (pt_chain op_le op_le pe_int (pe_callB call_len_str (by rfl) T.z_len (by decide +kernel) (pa_cons (pv 0) pa_nil)) (pe_glob rfl T.c_MOST_FIGURES T.r_MOST_FIGURES))) (pw_or1 (pt_not (pt_val (pe_callB (cr_all rfl) (by rfl) T.z_all (by decide +kernel) (pa_cons (pe_lc (own := [("sign", 1)]) rfl sc_number_by.nd (pi_str (pv 0)) (blkOk_by (N := N_number_by) (sc := defScope s_number_by) (own := [("sign", 1)]) (by decide +kernel)) (fun _ _ _ _ _ => by exact (pg_name (i := 1) sc_number_by.nd rfl (.inl rfl))) (fun _ _ _ _ _ => by exact pts_nil) (fun _ _ _ _ _ => by exact (pe_cmpR op_in_sign (pv 1) (pe_glob rfl T.c_FIGURES T.r_FIGURES) (by rfl)))) pa_nil))))))) (pss_one (ps_ret pe_non)) pss_nil)
      (pss_cons (ps_if (PW.pt (pw_and (pt_cmpR op_eq (pe_ix ix_seq (pv 0) pe_int (fun _ _ => rfl)) pe_str (nomark _)) (pw_and1 (pt_cmpR op_ne (pv 0) pe_str (nomark _))))) (pss_one (ps_ret pe_non)) pss_nil)
      (pss_one (ps_ret (pe_callTy call_int_str (by rfl) T.z_int (by decide +kernel) (pa_cons (pv 0) pa_nil)))))), ?_⟩
  have hl := numC_len hz
  have hlen : z.length ≤ sizeLine := ofNat_le (by omega)
  unfold numBy at q
  unfold NumC at hz
  refine ⟨_, rfl, z, rfl, hlen, 1, (z.length : Int), rfl, rfl, _, rfl, ?_⟩
  by_cases c1 : 1 ≤ (z.length : Int)
  · refine ifT c1 ⟨_, 6, rfl, rfl, _, rfl, ?_⟩
    by_cases c2 : (z.length : Int) ≤ 6
    · rw [decide_eq_true c1, decide_eq_true c2] at q hz
      rw [decide_eq_true c2]
      refine iteF ⟨_, rfl, z, rfl, fun D nD => ?_⟩
      refine L2.lc_it walk_str (fun i H1 => Same H H1 ∧ H1 D = some (.lst (((z.cps.toList.take i).map fun c => decide (c ∈ figS.cps.toList)).map V.bl))) ⟨same_upd nD, by rw [upd_same]; rfl⟩ (fun _ _ _ _ => True.intro) ?_ ?_
      · rintro i x H1 H2 hi ⟨s2, hD⟩ ⟨rfl, c, hc, rfl⟩
        have hc' : z.cps.toList[i]? = some c := by simpa using hc
        refine ⟨rfl, _, rfl, c, figS, rfl, rfl, _, hD, ofNat_lt ?_, same_at s2 nD, ?_⟩
        · rw [List.length_map, List.length_map, List.length_take]
          have : z.cps.toList.length = z.length := by simp; rfl
          omega
        · rw [upd_same, List.take_add_one, hc', List.map_append, List.map_append]
          rfl
      · rintro H1 ⟨s2, hD⟩
        rw [List.take_of_length_le (by simp)] at hD
        refine ⟨D, _, rfl, SqL.of hD, _, rfl, ?_⟩
        have ea : ((z.cps.toList.map fun c => decide (c ∈ figS.cps.toList)).all id) = allFig z := by
          rw [List.all_map]
          rfl
        rw [ea]
        cases c3 : allFig z with
        | false =>
          rw [c3] at q
          exact iteT (q H1 s2)
        | true =>
          rw [c3] at q hz
          have hs : (intText? z).isSome = true := by
            rw [decide_eq_true hl] at hz
            exact hz
          obtain ⟨m, em⟩ := Option.isSome_iff_exists.mp hs
          refine iteF ?_
          obtain ⟨c, r, ez⟩ : ∃ c r, z.cps.toList = c :: r := by
            cases e : z.cps.toList with
            | nil =>
              have : z.length = 0 := by
                show z.cps.size = 0
                rw [← Array.length_toList, e]
                rfl
              omega
            | cons c r => exact ⟨c, r, rfl⟩
          refine ⟨_, rfl, .inr (.inr ⟨z, 0, c, rfl, rfl, hlen, by rw [ez]; exact atI_nat (j := 0) rfl, rfl, _, rfl, ?_⟩)⟩
          have q1 := q H1 s2
          rw [ez] at q1
          have fin : (¬ (c = 48 ∧ z ≠ ("0" : Str))) → ∃ a m, ([V.str z] : List V) = [.str a] ∧ intText? a = some m ∧ a.length ≤ 640 ∧ Q (.int m) H1 := fun n => by
            refine ⟨z, m, rfl, em, by omega, ?_⟩
            have n' : ¬ ((c :: r).head? = some 48 ∧ z ≠ ("0" : Str)) := fun x => n ⟨Option.some.inj x.1, x.2⟩
            rw [if_pos (show (true && true && true) = true from rfl), if_neg n', em] at q1
            exact q1
          by_cases k : (V.str ⟨#[c]⟩) = V.str "0"
          · rw [decide_eq_true k]
            have ec : c = 48 := by
              have e1 := V.str.inj k
              have e2 := congrArg (fun z : Str => z.cps.toList) e1
              have e3 : ("0" : Str).cps.toList = [48] := by decide +kernel
              rw [e3] at e2
              exact (List.cons.inj e2).1
            refine iteT ⟨_, rfl, rfl, _, rfl, ?_⟩
            by_cases k2 : z = ("0" : Str)
            · rw [show decide (V.str z = V.str "0") = true from decide_eq_true (by rw [k2])]
              exact iteF ⟨_, rfl, fin fun n => n.2 k2⟩
            · rw [show decide (V.str z = V.str "0") = false from decide_eq_false fun x => k2 (V.str.inj x)]
              rw [if_pos (show (true && true && true) = true from rfl), if_pos ⟨by rw [ec]; rfl, k2⟩] at q1
              exact iteT q1
          · rw [decide_eq_false k]
            exact iteF (iteF ⟨_, rfl, fin fun n => k (by rw [n.1]; exact congrArg V.str (by decide +kernel))⟩)
    · rw [decide_eq_true c1, decide_eq_false c2] at q
      rw [decide_eq_false c2]
      exact iteT (q H (Same.refl H))
  · rw [decide_eq_false c1] at q
    exact ifF c1 ⟨_, rfl, iteT (q H (Same.refl H))⟩
theorem ok__name_of (T : Txt K mg ad fds cs) : FnOk P w K mg base CX0 3 (ad 33) (fds 33) ["word"] (spNameOf K) := by
  refine T.F__name_of.ok sc__name_of (fun vs H Q E h => ?_) (fun cdv A outer s H vs Q E hr h => ?_)
  · obtain ⟨z, rfl, _⟩ := h
    rfl
  obtain ⟨z, rfl, hz, q⟩ := h
  refine ⟨_, (pss_cons (ps_if (pt_cmpR op_notN (pe_call (ok_variable_of T) (hr.mono (by decide)) rfl T.g_variable_of T.F_variable_of.kp (bi_variable_of T) .nil pass0 (pa_cons (pv 0) pa_nil)) pe_non (nomark _)) (pss_one (ps_ret (pe_tup (pa_cons pe_str (pa_cons (pe_call (ok_variable_of T) (hr.mono (by decide)) rfl T.g_variable_of T.F_variable_of.kp (bi_variable_of T) .nil pass0 (pa_cons (pv 0) pa_nil)) pa_nil))))) pss_nil)
      (pss_one (ps_ret (pe_ifExp (PW.pt (pw_and (pt_val (pe_call (ok_is_name T) (hr.mono (by decide)) rfl T.g_is_name T.F_is_name.kp (bi_is_name T) .nil pass0 (pa_cons (pv 0) pa_nil))) (pw_and1 (pt_cmpR op_ne (pv 0) (pe_glob rfl T.c_NOW_WORD T.r_NOW_WORD) (nomark _))))) (pe_tup (pa_cons pe_str (pa_cons (pv 0) pa_nil))) pe_non)))), ?_⟩
  unfold nameOf at q
  refine ⟨_, rfl, z, rfl, hz, fun H1 s1 => ⟨rfl, _, rfl, ?_⟩⟩
  cases c : variableOf z with
  | some n =>
    rw [c] at q
    refine iteT ⟨_, rfl, z, rfl, hz, fun H2 s2 => ⟨by show 2 ≤ sizeLine; decide, fun p hp => ?_⟩⟩
    rw [c]
    exact q _ _ ((s1.trans s2).trans (same_upd hp)) ⟨p, rfl, .inl upd_same⟩
  | none =>
    rw [c] at q
    refine iteF ⟨_, rfl, .str z, rfl, .str z, fun y e => ?_, fun H2 s2 => ⟨_, rfl, ?_⟩⟩
    · cases e
      omega
    have s3 := s1.trans s2
    cases c2 : isN (.str z) with
    | false =>
      rw [c2] at q
      exact iteF (q H2 _ s3 rfl)
    | true =>
      rw [c2] at q
      refine iteT ⟨_, rfl, rfl, _, rfl, ?_⟩
      rw [strv_eq]
      by_cases k : z = ("now" : Str)
      · rw [decide_eq_true k] at q ⊢
        exact iteF (q H2 _ s3 rfl)
      · rw [decide_eq_false k] at q ⊢
        exact iteT ⟨_, rfl, by show 2 ≤ sizeLine; decide, fun p hp => q _ _ (s3.trans (same_upd hp)) ⟨p, rfl, .inl upd_same⟩⟩
theorem ok__day_of (T : Txt K mg ad fds cs) : FnOk P w K mg base CX0 3 (ad 34) (fds 34) ["word"] (spDayOf K) := by
  refine T.F__day_of.ok sc__day_of (fun vs H Q E h => ?_) (fun cdv A outer s H vs Q E hr h => ?_)
  · obtain ⟨z, rfl, _⟩ := h
    rfl
  obtain ⟨z, rfl, hz, q⟩ := h
  refine ⟨_, (pss_cons (ps_if (pt_cmpR op_eq (pv 0) (pe_glob rfl T.c_NOW_WORD T.r_NOW_WORD) (nomark _)) (pss_one (ps_ret (pe_glob (v := V.ref (ad 12)) rfl T.c_NOW rfl))) pss_nil)
      (pss_cons (ps_if (pt_cmpR op_notN (pe_call (ok_variable_of T) (hr.mono (by decide)) rfl T.g_variable_of T.F_variable_of.kp (bi_variable_of T) .nil pass0 (pa_cons (pv 0) pa_nil)) pe_non (nomark _)) (pss_one (ps_ret (pe_tup (pa_cons pe_str (pa_cons (pe_call (ok_variable_of T) (hr.mono (by decide)) rfl T.g_variable_of T.F_variable_of.kp (bi_variable_of T) .nil pass0 (pa_cons (pv 0) pa_nil)) pa_nil))))) pss_nil)
      (pss_one (ps_ret (pe_ifExp (pt_cmpR op_notN (pe_call (ok_number_by T) (hr.mono (by decide)) rfl T.g_number_by T.F_number_by.kp (bi_number_by T) .nil pass0 (pa_cons (pv 0) pa_nil)) pe_non (nomark _)) (pe_tup (pa_cons pe_str (pa_cons (pe_call (ok_number_by T) (hr.mono (by decide)) rfl T.g_number_by T.F_number_by.kp (bi_number_by T) .nil pass0 (pa_cons (pv 0) pa_nil)) pa_nil))) pe_non))))), ?_⟩
  have hl := numC_len hz
  unfold dayOf at q
  refine ⟨_, rfl, rfl, _, rfl, ?_⟩
  rw [strv_eq]
  by_cases k : z = ("now" : Str)
  · rw [decide_eq_true k]
    rw [if_pos k] at q
    exact iteT (q H _ (Same.refl H) ⟨_, rfl, .inr T.w_NOW⟩)
  · rw [decide_eq_false k]
    rw [if_neg k] at q
    refine iteF ⟨_, rfl, z, rfl, hl, fun H1 s1 => ⟨rfl, _, rfl, ?_⟩⟩
    cases c : variableOf z with
    | some n =>
      rw [c] at q
      refine iteT ⟨_, rfl, z, rfl, hl, fun H2 s2 => ⟨by show 2 ≤ sizeLine; decide, fun p hp => ?_⟩⟩
      rw [c]
      exact q _ _ ((s1.trans s2).trans (same_upd hp)) ⟨p, rfl, .inl upd_same⟩
    | none =>
      rw [c] at q
      refine iteF ⟨_, rfl, z, rfl, hz, fun H2 s2 => ⟨rfl, _, rfl, ?_⟩⟩
      have s3 := s1.trans s2
      cases c2 : numBy z with
      | none =>
        rw [c2] at q
        exact iteF (q H2 _ s3 rfl)
      | some m =>
        rw [c2] at q
        refine iteT ⟨_, rfl, z, rfl, hz, fun H3 s4 => ⟨by show 2 ≤ sizeLine; decide, fun p hp => ?_⟩⟩
        rw [c2]
        exact q _ _ ((s3.trans s4).trans (same_upd hp)) ⟨p, rfl, .inl upd_same⟩
end
end Yj
set_option Elab.async false
set_option linter.all false
set_option maxRecDepth 100000
set_option maxHeartbeats 4000000
set_option pp.maxSteps 1500
namespace Yj
open PySem PySem.Spec PyProof.Rows L2 RZ
/-! ### atoms -/
theorem tkS {α : Type} {xs : List α} {i : Nat} {x : α} (h : xs[i]? = some x) : xs.take (i + 1) = xs.take i ++ [x] := by
  rw [List.take_add_one, h]
  rfl
abbrev Atm := Str × List Tm × Tm
def AtmAt (H : Hp) (v : V) (a : Atm) : Prop := ∃ p n y us, v = .ref p ∧ H p = some (.tup [.str a.1, .ref n, y]) ∧ H n = some (.tup us) ∧ Paired (TmAt H) us a.2.1 ∧ TmAt H y a.2.2
theorem AtmAt.fix {H H' : Hp} (s : Fix H H') {v : V} {a : Atm} (h : AtmAt H v a) : AtmAt H' v a := by
  obtain ⟨p, n, y, us, e, h1, h2, h3, h4⟩ := h
  exact ⟨p, n, y, us, e, s _ _ h1 True.intro, s _ _ h2 True.intro, Paired.mapP h3 fun _ _ z => z.fix s, h4.fix s⟩
def nmTms : List Tm := tmL.filter isNmT
def dyTms : List Tm := tmL.filter isDyT
def pairsL : List (List Tm) := nmTms.flatMap fun t => nmTms.map fun u => [t, u]
def singlesL : List (List Tm) := nmTms.map fun t => [t]
def atL : List Atm := (pairsL.flatMap fun ns => dyTms.map fun d => (("lives" : Str), ns, d)) ++ singlesL.flatMap fun ns => dyTms.map fun d => (("pays" : Str), ns, d)
def ar (r : Str) : Nat := if r = ("lives" : Str) then 2 else 1
def atTx (a : Atm) : Str := ((((Str.empty ++ a.1) ++ ("(" : Str)) ++ Txt.join "," (a.2.1.map tmTx)) ++ (")@" : Str)) ++ tmTx a.2.2
def okLen (a : Atm) : Bool := decide (a.1.length ≤ 100 ∧ (Str.empty ++ a.1).length ≤ 100 ∧ ((Str.empty ++ a.1) ++ ("(" : Str)).length ≤ 100 ∧ (Txt.join "," (a.2.1.map tmTx)).length ≤ 100 ∧ (((Str.empty ++ a.1) ++ ("(" : Str)) ++ Txt.join "," (a.2.1.map tmTx)).length ≤ 100 ∧
  ((((Str.empty ++ a.1) ++ ("(" : Str)) ++ Txt.join "," (a.2.1.map tmTx)) ++ (")@" : Str)).length ≤ 100 ∧ (atTx a).length ≤ 100 ∧ ((a.2.1.map tmTx).map (·.length)).sum + (a.2.1.map tmTx).length * (("," : Str)).length ≤ 100 ∧ a.2.1.length ≤ 2 ∧ 1 ≤ a.2.1.length)
theorem at_len : ∀ a ∈ atL, okLen a = true := by decide +kernel
theorem at_tms : ∀ a ∈ atL, a.2.2 ∈ tmL ∧ isDyT a.2.2 = true ∧ isN (.str a.1) = true ∧ ∀ t ∈ a.2.1, t ∈ tmL ∧ isNmT t = true := by decide +kernel
theorem at_ar : ∀ a ∈ atL, a.2.1.length = ar a.1 := by decide +kernel
theorem mem_lives {t u d : Tm} (ht : t ∈ nmTms) (hu : u ∈ nmTms) (hd : d ∈ dyTms) : (("lives" : Str), [t, u], d) ∈ atL :=
  List.mem_append.mpr (.inl (List.mem_flatMap.mpr ⟨[t, u], List.mem_flatMap.mpr ⟨t, ht, List.mem_map.mpr ⟨u, hu, rfl⟩⟩, List.mem_map.mpr ⟨d, hd, rfl⟩⟩))
theorem mem_pays {t d : Tm} (ht : t ∈ nmTms) (hd : d ∈ dyTms) : (("pays" : Str), [t], d) ∈ atL :=
  List.mem_append.mpr (.inr (List.mem_flatMap.mpr ⟨[t], List.mem_map.mpr ⟨t, ht, rfl⟩, List.mem_map.mpr ⟨d, hd, rfl⟩⟩))
def relOf (z : Str) : Str := (Txt.partition z "(").1
def restOf (z : Str) : Str := (Txt.partition z "(").2.2
def innerOf (z : Str) : Str := (Txt.partition (restOf z) ")@").1
def lastOf (z : Str) : Str := (Txt.partition (restOf z) ")@").2.2
def partsOf (z : Str) : List Str := Txt.split (innerOf z) ","
def atC (z : Str) : Bool := decide (z.length ≤ 1000) && decide ((relOf z).length ≤ 1000) && decide ((restOf z).length ≤ 1000) && decide ((innerOf z).length ≤ 1000) && NumC (lastOf z) && decide ((partsOf z).length ≤ 1000) && (partsOf z).all fun p => decide (p.length ≤ 1000)
def atomOf (z : Str) : Option Atm := if isN (.str (relOf z)) = true then (match dayOf (lastOf z) with
  | none => none
  | some d => if (partsOf z).length > 4 ∨ ((partsOf z).map nameOf).all (·.isSome) = false then none else some (relOf z, (partsOf z).filterMap nameOf, d)) else none
def OAt (K : PySem.W.Frag) (H : Hp) (v : V) : Option Atm → Prop
  | none => v = .non
  | some a => ∃ p n y us, v = .ref p ∧ H p = some (.tup [.str a.1, .ref n, y]) ∧ H n = some (.tup us) ∧ Paired (TmD K H) us a.2.1 ∧ TmD K H y a.2.2
theorem otms {K : PySem.W.Frag} {H : Hp} : ∀ {us : List V} {ps : List Str}, Paired (OTm K H) us (ps.map nameOf) → (ps.map nameOf).all (·.isSome) = true → Paired (TmD K H) us (ps.filterMap nameOf)
  | [], [], _, _ => .nil
  | _ :: _, [], h, _ => nomatch h
  | [], _ :: _, h, _ => nomatch h
  | u :: us, p :: ps, h, k => by
    rw [List.map_cons] at h k
    rw [List.all_cons, Bool.and_eq_true] at k
    cases h with
    | cons a t =>
      have r := otms t k.2
      rw [List.filterMap_cons]
      cases e : nameOf p with
      | none =>
        rw [e] at k
        exact nomatch k.1
      | some t0 =>
        rw [e] at a
        exact .cons a r
theorem otm_non {K : PySem.W.Frag} {H : Hp} : ∀ {us : List V} {l : List (Option Tm)}, Paired (OTm K H) us l → (us.map fun v => !decide (v = V.non)) = l.map (·.isSome)
  | _, _, .nil => rfl
  | _, _, .cons a t => by
    rw [List.map_cons, List.map_cons, otm_non t, OTm.isNon a, Option.not_isNone]
def spAtTx : Sp := fun vs H Q _ => ∃ v a, vs = [v] ∧ AtmAt H v a ∧ a ∈ atL ∧ ∀ H', Same H H' → Q (.str (atTx a)) H'
def spAtomOf (K : PySem.W.Frag) : Sp := fun vs H Q _ => ∃ z, vs = [.str z] ∧ atC z = true ∧ ∀ H' v, Same H H' → OAt K H' v (atomOf z) → Q v H'
section
variable {P : Program} {w : World} {K : PySem.W.Frag} {mg : Str → Option Value} {base : Heap} {ad : Nat → Addr} {fds : Nat → FuncData} {cs : Nat → Value}
theorem ok_atom_text (T : Txt K mg ad fds cs) : FnOk P w K mg base CX0 2 (ad 35) (fds 35) ["atom"] spAtTx := by
  refine T.F_atom_text.ok sc_atom_text (fun vs H Q E h => ?_) (fun cdv A outer s H vs Q E hr h => ?_)
  · obtain ⟨v, a, rfl, _⟩ := h
    rfl
  obtain ⟨v, a, rfl, ⟨p, n, y, us, rfl, hp, hn, hus, hy⟩, ha, q⟩ := h
  refine ⟨_, (pss_cons (ps_asg (pv 0) (pg_tup rfl (pgs_cons (pg_name (i := 1) sc_atom_text.nd rfl (by first | exact .inl rfl | exact .inr rfl)) (pgs_cons (pg_name (i := 2) sc_atom_text.nd rfl (by first | exact .inl rfl | exact .inr rfl)) (pgs_cons (pg_name (i := 3) sc_atom_text.nd rfl (by first | exact .inl rfl | exact .inr rfl)) pgs_nil)))))
      (pss_cons (ps_set (i := 4) sc_atom_text.nd rfl (by first | exact .inl rfl | exact .inr rfl) (pe_join pe_str (pe_lc (own := [("term", 5)]) rfl sc_atom_text.nd (pi_tup (pv 2)) (blkOk_by (N := N_atom_text) (sc := defScope s_atom_text) (own := [("term", 5)]) (by decide +kernel)) (fun _ _ _ _ _ => by exact (pg_name (i := 5) sc_atom_text.nd rfl (.inl rfl))) (fun _ _ _ _ _ => by exact pts_nil) (fun _ _ _ _ _ => by exact (pe_call (ok__term_text (P := P) (w := w) T) (hr.mono (by decide)) rfl T.g__term_text T.F__term_text.kp (bi__term_text T) .nil pass0 (pa_cons (pv 5) pa_nil))))))
      (pss_one (ps_ret (pe_joined (PJ.cons (pe_fmt (pv 1)) (PJ.cons pe_str (PJ.cons (pe_fmt (pv 4)) (PJ.cons pe_str (PJ.cons (pe_fmt (pe_call (ok__term_text T) (hr.mono (by decide)) rfl T.g__term_text T.F__term_text.kp (bi__term_text T) .nil pass0 (pa_cons (pv 3) pa_nil))) PJ.nil)))))))))), ?_⟩
  obtain ⟨l1, l2, l3, l4, l5, l6, l7, l8, l9, _⟩ := of_decide_eq_true (at_len a ha)
  obtain ⟨t1, _, _, t2⟩ := at_tms a ha
  have lu := Paired.length hus
  refine ⟨_, rfl, p, _, rfl, SqT.of hp, rfl, _, _, rfl, _, _, rfl, _, _, rfl, rfl, ?_⟩
  refine ⟨⟨_, rfl⟩, _, rfl, n, rfl, ⟨_, SqT.of hn⟩, fun D nD => ?_⟩
  refine lc_tup (xs := us) (fun i H1 => Same H H1 ∧ H1 D = some (.lst (((a.2.1.take i).map tmTx).map V.str))) ⟨same_upd nD, upd_same⟩ (fun i H1 _ h => SqT.of (h.1 _ _ hn)) ?_ ?_
  · rintro i x H1 hx ⟨s1, hD⟩
    obtain ⟨t, ht, hxt⟩ := pget hus hx
    refine ⟨rfl, _, rfl, x, t, rfl, hxt.fix (fixOf s1), (t2 t (List.mem_of_getElem? ht)).1, fun H2 s2 => ⟨_, s2 _ _ hD, ofNat_lt ?_, same_at (s1.trans s2) nD, ?_⟩⟩
    · rw [List.length_map, List.length_map, List.length_take]
      omega
    · rw [upd_same, tkS ht, List.map_append, List.map_append]
      rfl
  · rintro H1 ⟨s1, hD⟩
    rw [lu, List.take_length] at hD
    refine ⟨_, D, a.2.1.map tmTx, rfl, rfl, .inl (SqL.of hD), Nat.le_trans l8 (by decide), ?_⟩
    refine ⟨_, rfl, .inl ⟨a.1, rfl, ofNat_le (by omega), _, rfl, ofNat_le (Nat.le_trans l2 (by decide)), ?_⟩⟩
    refine ⟨_, rfl, ofNat_le (Nat.le_trans l3 (by decide)), ?_⟩
    refine ⟨_, rfl, .inl ⟨_, rfl, ofNat_le (Nat.le_trans l4 (by decide)), _, rfl, ofNat_le (Nat.le_trans l5 (by decide)), ?_⟩⟩
    refine ⟨_, rfl, ofNat_le (Nat.le_trans l6 (by decide)), ?_⟩
    refine ⟨_, rfl, y, a.2.2, rfl, hy.fix (fixOf s1), t1, fun H2 s2 => .inl ⟨_, rfl, ofNat_le (Nat.le_trans (tm_len _ t1) (by decide)), _, rfl, ofNat_le (Nat.le_trans l7 (by decide)), ?_⟩⟩
    exact q H2 (s1.trans s2)
theorem ok_atom_of (T : Txt K mg ad fds cs) : FnOk P w K mg base CX0 4 (ad 36) (fds 36) ["word"] (spAtomOf K) := by
  refine T.F_atom_of.ok sc_atom_of (fun vs H Q E h => ?_) (fun cdv A outer s H vs Q E hr h => ?_)
  · obtain ⟨z, rfl, _⟩ := h
    rfl
  obtain ⟨z, rfl, hz, q⟩ := h
  refine ⟨_, (pss_cons (ps_asg (pe_partition (pv 0) pe_str) (pg_tup rfl (pgs_cons (pg_name (i := 1) sc_atom_of.nd rfl (by first | exact .inl rfl | exact .inr rfl)) (pgs_cons (pg_name (i := 2) sc_atom_of.nd rfl (by first | exact .inl rfl | exact .inr rfl)) (pgs_cons (pg_name (i := 3) sc_atom_of.nd rfl (by first | exact .inl rfl | exact .inr rfl)) pgs_nil)))))
      (pss_cons (ps_asg (pe_partition (pv 3) pe_str) (pg_tup rfl (pgs_cons (pg_name (i := 4) sc_atom_of.nd rfl (by first | exact .inl rfl | exact .inr rfl)) (pgs_cons (pg_name (i := 2) sc_atom_of.nd rfl (by first | exact .inl rfl | exact .inr rfl)) (pgs_cons (pg_name (i := 5) sc_atom_of.nd rfl (by first | exact .inl rfl | exact .inr rfl)) pgs_nil)))))
      (pss_cons (ps_setLc (i := 6) (own := [("part", 8)]) rfl sc_atom_of.nd rfl rfl (sw_true rfl rfl rfl (by decide +kernel)) (pi_list (pe_split (pv 4) pe_str)) (blkOk_by (N := N_atom_of) (sc := defScope s_atom_of) (own := [("part", 8)]) (by decide +kernel)) (fun _ _ _ _ _ => by exact (pg_name (i := 8) sc_atom_of.nd rfl (.inl rfl))) (fun _ _ _ _ _ => by exact pts_nil) (fun _ _ _ _ _ => by exact (pe_call (ok__name_of (P := P) (w := w) T) (hr.mono (by decide)) rfl T.g__name_of T.F__name_of.kp (bi__name_of T) .nil pass0 (pa_cons (pv 8) pa_nil))))
      (pss_cons (ps_set (i := 7) sc_atom_of.nd rfl (by first | exact .inl rfl | exact .inr rfl) (pe_call (ok__day_of T) (hr.mono (by decide)) rfl T.g__day_of T.F__day_of.kp (bi__day_of T) .nil pass0 (pa_cons (pv 5) pa_nil)))
      (pss_cons (ps_if (PW.pt (pw_or (pt_not (pt_val (pe_call (ok_is_name T) (hr.mono (by decide)) rfl T.g_is_name T.F_is_name.kp (bi_is_name T) .nil pass0 (pa_cons (pv 1) pa_nil)))) (pw_or1 (pt_cmpR op_isN (pv 7) pe_non (nomark _))))) (pss_one (ps_ret pe_non)) pss_nil)
      (pss_cons (ps_if (PW.pt (pw_or (pt_cmpR op_gt (pe_callB call_len_seq (by rfl) T.z_len (by decide +kernel) (pa_cons (pv 6) pa_nil)) (pe_glob rfl T.c_MOST_NAMES T.r_MOST_NAMES) (nomark _)) (pw_or1 (pt_not (pt_val (pe_callB (cr_all rfl) (by rfl) T.z_all (by decide +kernel) (pa_cons (pe_lc (own := [("name", 9)]) rfl sc_atom_of.nd (pi_list (pv 6)) (blkOk_by (N := N_atom_of) (sc := defScope s_atom_of) (own := [("name", 9)]) (by decide +kernel)) (fun _ _ _ _ _ => by exact (pg_name (i := 9) sc_atom_of.nd rfl (.inl rfl))) (fun _ _ _ _ _ => by exact pts_nil) (fun _ _ _ _ _ => by exact (pe_cmpR op_notN (pv 9) pe_non (nomark _)))) pa_nil))))))) (pss_one (ps_ret pe_non)) pss_nil)
      (pss_one (ps_ret (pe_tup (pa_cons (pv 1) (pa_cons (pe_callTy call_tuple_of (by rfl) T.z_tuple (by decide +kernel) (pa_cons (pv 6) pa_nil)) (pa_cons (pv 7) pa_nil)))))))))))), ?_⟩
  unfold atC at hz
  simp only [Bool.and_eq_true] at hz
  obtain ⟨⟨⟨⟨⟨⟨l1, l2⟩, l3⟩, l4⟩, hl⟩, l5⟩, l6⟩ := hz
  have l1 := of_decide_eq_true l1
  have l2 := of_decide_eq_true l2
  have l3 := of_decide_eq_true l3
  have l4 := of_decide_eq_true l4
  have l5 := of_decide_eq_true l5
  have l6 : ∀ p ∈ partsOf z, p.length ≤ 1000 := fun p hp => of_decide_eq_true (List.all_eq_true.mp l6 p hp)
  unfold atomOf at q
  refine ⟨_, rfl, ⟨_, rfl⟩, z, _, rfl, rfl, by decide +kernel, ofNat_le (by omega), fun p1 n1 => ?_⟩
  refine ⟨p1, _, rfl, SqT.of upd_same, rfl, _, _, rfl, _, _, rfl, _, _, rfl, rfl, ?_⟩
  have s1 := same_upd (o := .tup [V.str (Txt.partition z "(").1, V.str (Txt.partition z "(").2.1, V.str (Txt.partition z "(").2.2]) n1
  generalize upd H p1 (.tup [V.str (Txt.partition z "(").1, V.str (Txt.partition z "(").2.1, V.str (Txt.partition z "(").2.2]) = H1 at s1
  refine ⟨_, rfl, ⟨_, rfl⟩, restOf z, _, rfl, rfl, by decide +kernel, ofNat_le (by omega), fun p2 n2 => ?_⟩
  refine ⟨p2, _, rfl, SqT.of upd_same, rfl, _, _, rfl, _, _, rfl, _, _, rfl, rfl, ?_⟩
  have s2 := s1.trans (same_upd (o := .tup [V.str (Txt.partition (restOf z) ")@").1, V.str (Txt.partition (restOf z) ")@").2.1, V.str (Txt.partition (restOf z) ")@").2.2]) n2)
  generalize upd H1 p2 (.tup [V.str (Txt.partition (restOf z) ")@").1, V.str (Txt.partition (restOf z) ")@").2.1, V.str (Txt.partition (restOf z) ")@").2.2]) = H2 at s2
  refine ⟨_, rfl, ⟨_, rfl⟩, innerOf z, _, rfl, rfl, by decide +kernel, ofNat_le (by omega), fun L nL => ?_⟩
  have s3 := s2.trans (same_upd (o := .lst ((partsOf z).map V.str)) nL)
  have hL : upd H2 L (.lst ((partsOf z).map V.str)) L = some (.lst ((partsOf z).map V.str)) := upd_same
  refine ⟨L, rfl, ⟨_, SqL.of upd_same⟩, ?_⟩
  have e0 : (HO.lst ((Txt.split (innerOf z) ",").map V.str)) = HO.lst ((partsOf z).map V.str) := rfl
  rw [e0]
  generalize upd H2 L (.lst ((partsOf z).map V.str)) = H3 at s3 hL
  intro D nD
  refine lc_it (walk_list (K := K) (a := L) (xs := (partsOf z).map V.str)) (fun i H4 => Same H3 H4 ∧ ∃ us, H4 D = some (.lst us) ∧ Paired (OTm K H4) us (((partsOf z).take i).map nameOf)) ⟨same_upd nD, [], upd_same, .nil⟩ (fun i H4 _ h => SqL.of (h.1 _ _ hL)) ?_ ?_
  · rintro i x H4 H4' hi ⟨s4, us, hD, hp⟩ ⟨rfl, hx⟩
    obtain ⟨y, hy, rfl⟩ : ∃ y, (partsOf z)[i]? = some y ∧ x = .str y := by
      rw [List.getElem?_map] at hx
      cases e : (partsOf z)[i]? with
      | none =>
        rw [e] at hx
        cases hx
      | some r =>
        rw [e] at hx
        exact ⟨r, rfl, (Option.some.inj hx).symm⟩
    refine ⟨rfl, _, rfl, y, rfl, l6 y (List.mem_of_getElem? hy), fun H5 v s5 hv => ⟨us, s5 _ _ hD, ofNat_lt ?_, ?_⟩⟩
    · rw [Paired.length hp, List.length_map, List.length_take]
      omega
    · have hD5 := s5 _ _ hD
      have f := fix_upd (o := .lst (us ++ [v])) hD5 (fun z => z)
      refine ⟨same_at (s4.trans s5) nD, us ++ [v], upd_same, ?_⟩
      rw [tkS hy, List.map_append]
      exact Paired.snoc (Paired.mapP hp fun _ _ h => h.fix ((fixOf s5).trans f)) (hv.fix f)
  · rintro H4 ⟨s4, us, hD, hp⟩
    rw [List.length_map, List.take_length] at hp
    have s5 := s3.trans s4
    refine ⟨_, rfl, lastOf z, rfl, hl, fun H5 y s6 hy => ?_⟩
    have s7 := s5.trans s6
    refine ⟨_, rfl, .str (relOf z), rfl, .str (relOf z), fun k e => ?_, fun H6 s8 => ⟨_, rfl, ?_⟩⟩
    · cases e
      show (relOf z).length ≤ _
      omega
    cases c1 : isN (.str (relOf z)) with
    | false =>
      rw [c1] at q
      exact iteT (iteT (q H6 _ (s7.trans s8) rfl))
    | true =>
      rw [c1, if_pos rfl] at q
      refine iteF ⟨_, rfl, rfl, _, rfl, ?_⟩
      have hy6 := hy.fix (fixOf s8)
      cases c2 : dayOf (lastOf z) with
      | none =>
        rw [c2] at q hy6
        obtain rfl : y = .non := hy6
        exact iteT (q H6 _ (s7.trans s8) rfl)
      | some d =>
        rw [c2] at q hy6
        have hyd : TmD K H6 y d := hy6
        rw [show decide (y = .non) = false by obtain ⟨a, rfl⟩ := hyd.ref; exact decide_eq_false fun z => nomatch z]
        have s9 := s6.trans s8
        have hD6 := s9 _ _ hD
        have hp6 : Paired (OTm K H6) us ((partsOf z).map nameOf) := Paired.mapP hp fun _ _ h => h.fix (fixOf s9)
        have lus := Paired.length hp6
        rw [List.length_map] at lus
        refine iteF ⟨_, rfl, D, us, rfl, .inl (SqL.of hD6), _, _, rfl, rfl, _, rfl, ?_⟩
        have q' : ∀ (H' : Hp) (v : V), Same H H' → OAt K H' v (if (partsOf z).length > 4 ∨ ((partsOf z).map nameOf).all (·.isSome) = false then none else some (relOf z, (partsOf z).filterMap nameOf, d)) → Q v H' := q
        by_cases c3 : (partsOf z).length > 4
        · rw [if_pos (.inl c3)] at q'
          refine ifT (by rw [lus]; omega) ?_
          exact iteT (q' H6 _ (s7.trans s8) rfl)
        · refine ifF (by rw [lus]; omega) ⟨_, rfl, D, rfl, ⟨_, SqL.of hD6⟩, fun D2 nD2 => ?_⟩
          refine lc_it (walk_list (K := K) (a := D) (xs := us)) (fun i H7 => Same H6 H7 ∧ H7 D2 = some (.lst ((us.take i).map fun v => V.bl (!decide (v = V.non))))) ⟨same_upd nD2, upd_same⟩ (fun i H7 _ h => SqL.of (h.1 _ _ hD6)) ?_ ?_
          · rintro i x H7 H7' hi ⟨s10, hD2⟩ ⟨rfl, hx⟩
            refine ⟨rfl, _, rfl, rfl, _, hD2, ofNat_lt ?_, same_at s10 nD2, ?_⟩
            · rw [List.length_map, List.length_take]
              omega
            · rw [upd_same, tkS hx, List.map_append]
              rfl
          · rintro H7 ⟨s10, hD2⟩
            rw [List.take_length] at hD2
            have eb : (us.map fun v => V.bl (!decide (v = V.non))) = (((partsOf z).map nameOf).map (·.isSome)).map V.bl := by
              rw [← otm_non hp6, List.map_map]
              rfl
            rw [eb] at hD2
            refine ⟨D2, _, rfl, SqL.of hD2, _, rfl, ?_⟩
            have ea : (((partsOf z).map nameOf).map (·.isSome)).all id = ((partsOf z).map nameOf).all (·.isSome) := by
              rw [List.all_map]
              rfl
            rw [ea]
            have s11 := (s7.trans s8).trans s10
            cases c4 : ((partsOf z).map nameOf).all (·.isSome) with
            | false =>
              rw [if_pos (.inr c4)] at q'
              exact iteT (q' H7 _ s11 rfl)
            | true =>
              rw [if_neg (fun x => x.elim c3 fun y => by rw [c4] at y; cases y)] at q'
              refine iteF ⟨_, rfl, _, rfl, D, us, rfl, .inl ⟨SqL.of (s10 _ _ hD6), fun t nt => ⟨_, rfl, by show 3 ≤ sizeLine; decide, fun r nr => ?_⟩⟩⟩
              have s12 := same_upd (o := .tup us) nt
              have s13 := same_upd (o := .tup [V.str (relOf z), V.ref t, y]) nr
              have f := fixOf (s10.trans (s12.trans s13))
              exact q' _ _ (s11.trans (s12.trans s13)) ⟨r, t, y, us, rfl, upd_same, s13 _ _ upd_same, Paired.mapP (otms hp6 c4) fun _ _ h => h.fix f, hyd.fix f⟩
end
end Yj
set_option Elab.async false
set_option linter.all false
set_option maxRecDepth 100000
set_option maxHeartbeats 4000000
set_option pp.maxSteps 1500
namespace Yj
open PySem PySem.Spec PyProof.Rows L2 RZ YjD
/-! ### tests -/
def S4 : List (Str × Str) := [("!=", "unlike"), ("<=", "most"), ("<", "less"), ("=", "same")]
def sgn (w : Str) : Str := ((S4.find? fun p => decide (p.2 = w)).map (·.1)).getD ""
def tstTx (s : Tst) : Str := (tmTx s.2.1 ++ sgn s.1) ++ tmTx s.2.2
def tsL : List Tst := (dayWs.flatMap fun w => dyTms.flatMap fun t => dyTms.map fun u => (w, t, u)) ++ nameWs.flatMap fun w => nmTms.flatMap fun t => nmTms.map fun u => (w, t, u)
theorem mem_tsD {w : Str} {t u : Tm} (hw : w ∈ dayWs) (ht : t ∈ dyTms) (hu : u ∈ dyTms) : (w, t, u) ∈ tsL := List.mem_append.mpr (.inl (List.mem_flatMap.mpr ⟨w, hw, List.mem_flatMap.mpr ⟨t, ht, List.mem_map.mpr ⟨u, hu, rfl⟩⟩⟩))
theorem mem_tsN {w : Str} {t u : Tm} (hw : w ∈ nameWs) (ht : t ∈ nmTms) (hu : u ∈ nmTms) : (w, t, u) ∈ tsL := List.mem_append.mpr (.inr (List.mem_flatMap.mpr ⟨w, hw, List.mem_flatMap.mpr ⟨t, ht, List.mem_map.mpr ⟨u, hu, rfl⟩⟩⟩))
theorem ts_len : ∀ s ∈ tsL, (tmTx s.2.1).length + (sgn s.1).length ≤ 100 ∧ (tmTx s.2.1 ++ sgn s.1).length + (tmTx s.2.2).length ≤ 100 ∧ (tstTx s).length ≤ 100 ∧ s.2.1 ∈ tmL ∧ s.2.2 ∈ tmL ∧ s.1 ∈ dayWs := by decide +kernel
theorem ts_good : ∀ s ∈ tsL, (isDyT s.2.1 = true ∧ isDyT s.2.2 = true ∧ s.1 ∈ dayWs) ∨ (isNmT s.2.1 = true ∧ isNmT s.2.2 = true ∧ s.1 ∈ nameWs) := by decide +kernel
theorem goodT_of {s : Tst} (h : s ∈ tsL) : GoodT s := ⟨(ts_len s h).2.2.2.1, (ts_len s h).2.2.2.2.1, ts_good s h⟩
def sgK (p : Str × Str) : L2.Key × V := (Sum.inr p.2, V.str p.1)
theorem sg_put : ∀ (i : Nat) (p : Str × Str), S4[i]? = some p → putK ((S4.take i).map sgK) (Sum.inr p.2 : L2.Key) (.str p.1) = (S4.take (i + 1)).map sgK
  | 0, p, h => by cases h; rfl
  | 1, p, h => by cases h; rfl
  | 2, p, h => by cases h; rfl
  | 3, p, h => by cases h; rfl
  | i + 4, p, h => by cases h
theorem sg_val {w : Str} (h : w ∈ dayWs) : valV (S4.map sgK) (Sum.inr w : L2.Key) = some (.str (sgn w)) := by
  revert h
  simp only [dayWs, List.mem_cons, List.mem_nil_iff, or_false]
  rintro (rfl | rfl | rfl | rfl) <;> rfl
theorem sg_at {K : PySem.W.Frag} {t0 t1 t2 t3 : Addr} (h0 : YjG.WrT K t0 [.str "!=", .str "unlike"]) (h1 : YjG.WrT K t1 [.str "<=", .str "most"]) (h2 : YjG.WrT K t2 [.str "<", .str "less"]) (h3 : YjG.WrT K t3 [.str "=", .str "same"]) :
    ∀ (i : Nat) (x : V), ([.ref t0, .ref t1, .ref t2, .ref t3] : List V)[i]? = some x → ∃ t p, x = .ref t ∧ S4[i]? = some p ∧ YjG.WrT K t [.str p.1, .str p.2]
  | 0, x, h => by cases h; exact ⟨_, _, rfl, rfl, h0⟩
  | 1, x, h => by cases h; exact ⟨_, _, rfl, rfl, h1⟩
  | 2, x, h => by cases h; exact ⟨_, _, rfl, rfl, h2⟩
  | 3, x, h => by cases h; exact ⟨_, _, rfl, rfl, h3⟩
  | i + 4, x, h => by cases h
def tells (z : Str) (ds : List Str) : Bool := decide (z = ("now" : Str)) || (inV (.str (cutS z none (some 1))) ((YjG.signsOf figS).map V.str) || inV (vS (variableOf z)) (ds.map V.str))
def mkT (k : Str) : Option Tm → Option Tm → Option Tst
  | some a, some b => some (k, a, b)
  | _, _ => none
def inS (s z : Str) : Bool := !(Builtin.Str.occurrences z s 0 z.length 1).isEmpty
def stepT (z : Str) (ds : List Str) (s k : Str) : Option Tst := if (tells (Txt.partition z s).1 ds || tells (Txt.partition z s).2.2 ds) = true then mkT k (dayOf (Txt.partition z s).1) (dayOf (Txt.partition z s).2.2) else
  if inV (.str k) [.str "same", .str "unlike"] = true then mkT k (nameOf (Txt.partition z s).1) (nameOf (Txt.partition z s).2.2) else none
def goT (z : Str) (ds : List Str) : List (Str × Str) → Option Tst
  | [] => none
  | p :: r => if inS p.1 z = true then stepT z ds p.1 p.2 else goT z ds r
def testOf (z : Str) (ds : List Str) : Option Tst := goT z ds S4
def tsC (z : Str) : Bool := decide (z.length ≤ 1000) && S4.all fun p => NumC (Txt.partition z p.1).1 && NumC (Txt.partition z p.1).2.2
def OTs (K : PySem.W.Frag) (H : Hp) (v : V) : Option Tst → Prop
  | none => v = .non
  | some s => ∃ p x y, v = .ref p ∧ H p = some (.tup [.str s.1, x, y]) ∧ TmD K H x s.2.1 ∧ TmD K H y s.2.2
def spTstTx : Sp := fun vs H Q _ => ∃ v s, vs = [v] ∧ TstAt H v s ∧ s ∈ tsL ∧ ∀ H', Same H H' → Q (.str (tstTx s)) H'
def spTells : Sp := fun vs H Q _ => ∃ z d ds, vs = [.str z, .ref d] ∧ z.length ≤ 1000 ∧ H d = some (.lst (ds.map V.str)) ∧ ∀ H', Same H H' → Q (.bl (tells z ds)) H'
def spTestOrNone (K : PySem.W.Frag) : Sp := fun vs H Q _ => ∃ k x y o1 o2, vs = [.str k, x, y] ∧ OTm K H x o1 ∧ OTm K H y o2 ∧ ∀ H' v, Same H H' → OTs K H' v (mkT k o1 o2) → Q v H'
def spTestOf (K : PySem.W.Frag) : Sp := fun vs H Q _ => ∃ z d ds, vs = [.str z, .ref d] ∧ tsC z = true ∧ H d = some (.lst (ds.map V.str)) ∧ ∀ H' v, Same H H' → OTs K H' v (testOf z ds) → Q v H'
theorem flat_strs : ∀ zs : List Str, (zs.map V.str).all flatV = true
  | [] => rfl
  | z :: r => by
    rw [List.map_cons, List.all_cons, flat_strs r]
    rfl
theorem flat_vS (o : Option Str) : flatV (vS o) = true := by cases o <;> rfl
section
variable {P : Program} {w : World} {K : PySem.W.Frag} {mg : Str → Option Value} {base : Heap} {ad : Nat → Addr} {fds : Nat → FuncData} {cs : Nat → Value}
theorem ok_test_text (T : Txt K mg ad fds cs) : FnOk P w K mg base CX0 2 (ad 37) (fds 37) ["test"] spTstTx := by
  refine T.F_test_text.ok sc_test_text (fun vs H Q E h => ?_) (fun cdv A outer s H vs Q E hr h => ?_)
  · obtain ⟨v, a, rfl, _⟩ := h
    rfl
  obtain ⟨v, ⟨word, one, other⟩, rfl, ⟨a, x, y, rfl, ha, hx, hy⟩, hs, q⟩ := h
  refine ⟨_, (pss_cons (YjG.ps_setDc (i := 1) (own := [("sign", 2), ("word", 3)]) rfl sc_test_text.nd rfl rfl (YjD.sw_dc rfl rfl rfl (by decide +kernel)) (pi_tup (pe_glob (v := V.ref (ad 29)) rfl T.c_SIGNS rfl)) (blkOk_by (N := N_test_text) (sc := defScope s_test_text) (own := [("sign", 2), ("word", 3)]) (by decide +kernel)) (fun _ _ _ _ _ => by exact (pg_tupK (K := K) (n := 2) rfl (pgs_cons (pg_name (i := 2) sc_test_text.nd rfl (.inl rfl)) (pgs_cons (pg_name (i := 3) sc_test_text.nd rfl (.inl rfl)) pgs_nil)))) (fun _ _ _ _ _ => by exact pts_nil) (fun _ _ _ _ _ => by exact (pv 3)) (fun _ _ _ _ _ => by exact (pv 2)))
      (pss_one (ps_ret (pe_op op_add_str (pe_op op_add_str (pe_call (ok__term_text T) (hr.mono (by decide)) rfl T.g__term_text T.F__term_text.kp (bi__term_text T) .nil pass0 (pa_cons (pe_ix ix_seq (pv 0) pe_int (fun _ _ => rfl)) pa_nil)) (pe_dget (hu_of hr) (pv 1) (pe_ix ix_seq (pv 0) pe_int (fun _ _ => rfl)) (fun _ _ => rfl))) (pe_call (ok__term_text T) (hr.mono (by decide)) rfl T.g__term_text T.F__term_text.kp (bi__term_text T) .nil pass0 (pa_cons (pe_ix ix_seq (pv 0) pe_int (fun _ _ => rfl)) pa_nil)))))), ?_⟩
  obtain ⟨l1, l2, l3, m1, m2, mw⟩ := ts_len _ hs
  dsimp only at ha hx hy l1 l2 l3 m1 m2 mw
  obtain ⟨t0, t1, t2, t3, w4, w0, w1, w2, w3⟩ := T.w_SIGNS
  have sg := sg_at w0 w1 w2 w3
  refine ⟨_, rfl, ⟨_, w4.sq⟩, fun D nD => ?_⟩
  refine dc_it (walk_tup (K := K) (xs := [.ref t0, .ref t1, .ref t2, .ref t3])) (fun i H1 => Same H H1 ∧ H1 D = some (.dK ((S4.take i).map sgK))) ⟨same_upd nD, upd_same⟩ (fun i H1 _ h => w4.sq) ?_ ?_
  · rintro i x H1 H1' hi ⟨s1, hD⟩ ⟨rfl, hx⟩
    obtain ⟨t, p, rfl, hp, wt⟩ := sg i x hx
    refine ⟨t, _, rfl, wt.sq, rfl, _, _, rfl, _, _, rfl, rfl, rfl, _, rfl, _, rfl, _, Sum.inr p.2, rfl, hD, ofNat_lt ?_, same_at s1 nD, ?_⟩
    · rw [List.length_map, List.length_take]
      have e4 : S4.length = 4 := rfl
      omega
    · rw [upd_same, sg_put i p hp]
  · rintro H1 ⟨s1, hD⟩
    have hD : H1 D = some (.dK (S4.map sgK)) := hD
    refine ⟨_, rfl, .inr (.inl ⟨a, _, 1, x, rfl, rfl, SqT.of (s1 _ _ ha), atI_nat (j := 1) rfl, x, one, rfl, hx.fix (fixOf s1), m1, fun H2 s2 => ?_⟩)⟩
    have s3 := s1.trans s2
    have g := DGet.k (k := (Sum.inr word : L2.Key)) (s2 _ _ hD)
    rw [sg_val mw] at g
    refine ⟨_, rfl, _, rfl, .inr (.inl ⟨a, _, 0, .str word, rfl, rfl, SqT.of (s3 _ _ ha), atI_nat (j := 0) rfl, D, _, rfl, g, _, _, rfl, rfl, Nat.le_trans l1 (by decide), ?_⟩)⟩
    refine ⟨_, rfl, .inr (.inl ⟨a, _, 2, y, rfl, rfl, SqT.of (s3 _ _ ha), atI_nat (j := 2) rfl, y, other, rfl, hy.fix (fixOf s3), m2, fun H3 s4 => ?_⟩)⟩
    exact ⟨_, _, rfl, rfl, Nat.le_trans l2 (by decide), q H3 (s3.trans s4)⟩
theorem ok__tells_day (T : Txt K mg ad fds cs) : FnOk P w K mg base CX0 3 (ad 38) (fds 38) ["word", "days"] spTells := by
  refine T.F__tells_day.ok sc__tells_day (fun vs H Q E h => ?_) (fun cdv A outer s H vs Q E hr h => ?_)
  · obtain ⟨z, d, ds, rfl, _⟩ := h
    rfl
  obtain ⟨z, d, ds, rfl, hl, hd, q⟩ := h
  refine ⟨_, (pss_one (ps_ret (pe_or (pe_cmpR op_eq (pv 0) (pe_glob rfl T.c_NOW_WORD T.r_NOW_WORD) (nomark _)) (pe_or (pe_cmpR op_in_seq (pe_slice sl_str (pv 0) po_none (po_some pe_int)) (pe_callTy (YjG.call_listS rfl) (by rfl) T.z_list (by decide +kernel) (pa_cons (pe_glob rfl T.c_FIGURES T.r_FIGURES) pa_nil)) (by rfl)) (pe_one (pe_cmpR op_in_seq (pe_call (ok_variable_of T) (hr.mono (by decide)) rfl T.g_variable_of T.F_variable_of.kp (bi_variable_of T) .nil pass0 (pa_cons (pv 0) pa_nil)) (pv 1) (by rfl))))))), ?_⟩
  have hlen : z.length ≤ sizeLine := ofNat_le (by omega)
  unfold tells at q
  refine ⟨_, rfl, rfl, _, rfl, ?_⟩
  rw [strv_eq]
  cases c1 : decide (z = ("now" : Str)) with
  | true =>
    rw [c1] at q
    exact iteT (q H (Same.refl H))
  | false =>
    rw [c1] at q
    refine iteF ⟨_, rfl, 1, rfl, z, rfl, hlen, figS, rfl, (by decide +kernel), fun L nL => ?_⟩
    have s1 := same_upd (o := .lst ((YjG.signsOf figS).map V.str)) nL
    refine ⟨L, _, rfl, .inl (SqL.of upd_same), rfl, flat_strs _, _, rfl, ?_⟩
    cases c2 : inV (.str (cutS z none (some 1))) ((YjG.signsOf figS).map V.str) with
    | true =>
      rw [c2] at q
      exact iteT (q _ s1)
    | false =>
      rw [c2] at q
      refine iteF ⟨_, rfl, z, rfl, hl, fun H2 s2 => ⟨_, rfl, d, _, rfl, .inl (SqL.of (s2 _ _ (s1 _ _ hd))), flat_vS _, flat_strs _, ?_⟩⟩
      exact q H2 (s1.trans s2)
theorem ok__test_or_none (T : Txt K mg ad fds cs) : FnOk P w K mg base CX0 1 (ad 40) (fds 40) ["kind", "one", "other"] (spTestOrNone K) := by
  refine T.F__test_or_none.ok sc__test_or_none (fun vs H Q E h => ?_) (fun cdv A outer s H vs Q E hr h => ?_)
  · obtain ⟨k, x, y, o1, o2, rfl, _⟩ := h
    rfl
  obtain ⟨k, x, y, o1, o2, rfl, h1, h2, q⟩ := h
  refine ⟨_, (pss_one (ps_ret (pe_ifExp (PW.pt (pw_or (pt_cmpR op_isN (pv 1) pe_non (nomark _)) (pw_or1 (pt_cmpR op_isN (pv 2) pe_non (nomark _))))) pe_non (pe_tup (pa_cons (pv 0) (pa_cons (pv 1) (pa_cons (pv 2) pa_nil))))))), ?_⟩
  refine ⟨_, rfl, rfl, _, rfl, ?_⟩
  rw [h1.isNon]
  cases o1 with
  | none => exact iteT (iteT (q H _ (Same.refl H) rfl))
  | some a =>
    refine iteF ⟨_, rfl, rfl, _, rfl, ?_⟩
    rw [h2.isNon]
    cases o2 with
    | none => exact iteT (q H _ (Same.refl H) rfl)
    | some b =>
      refine iteF ⟨_, rfl, _, rfl, _, rfl, (by show 3 ≤ sizeLine; decide), fun p hp => ?_⟩
      have s1 := same_upd (o := .tup [V.str k, x, y]) hp
      exact q _ _ s1 ⟨p, x, y, rfl, upd_same, TmD.fix (fixOf s1) h1, TmD.fix (fixOf s1) h2⟩
theorem ok_test_of (T : Txt K mg ad fds cs) : FnOk P w K mg base CX0 4 (ad 39) (fds 39) ["word", "days"] (spTestOf K) := by
  refine T.F_test_of.ok sc_test_of (fun vs H Q E h => ?_) (fun cdv A outer s H vs Q E hr h => ?_)
  · obtain ⟨z, d, ds, rfl, _⟩ := h
    rfl
  obtain ⟨z, d, ds, rfl, hz, hd, q⟩ := h
  refine ⟨_, (pss_cons (ps_for PassesOwn.never rfl (pi_tup (pe_glob (v := V.ref (ad 29)) rfl T.c_SIGNS rfl)) (pg_tup rfl (pgs_cons (pg_name (i := 2) sc_test_of.nd rfl (by first | exact .inl rfl | exact .inr rfl)) (pgs_cons (pg_name (i := 3) sc_test_of.nd rfl (by first | exact .inl rfl | exact .inr rfl)) pgs_nil)))
      (pss_one (ps_if (pt_cmpR op_in_str (pv 2) (pv 0) (by rfl)) (pss_cons (ps_asg (pe_partition (pv 0) (pv 2)) (pg_tup rfl (pgs_cons (pg_name (i := 4) sc_test_of.nd rfl (by first | exact .inl rfl | exact .inr rfl)) (pgs_cons (pg_name (i := 5) sc_test_of.nd rfl (by first | exact .inl rfl | exact .inr rfl)) (pgs_cons (pg_name (i := 6) sc_test_of.nd rfl (by first | exact .inl rfl | exact .inr rfl)) pgs_nil)))))
      (pss_cons (ps_if (PW.pt (pw_or (pt_val (pe_call (ok__tells_day T) (hr.mono (by decide)) rfl T.g__tells_day T.F__tells_day.kp (bi__tells_day T) .nil pass0 (pa_cons (pv 4) (pa_cons (pv 1) pa_nil)))) (pw_or1 (pt_val (pe_call (ok__tells_day T) (hr.mono (by decide)) rfl T.g__tells_day T.F__tells_day.kp (bi__tells_day T) .nil pass0 (pa_cons (pv 6) (pa_cons (pv 1) pa_nil))))))) (pss_one (ps_ret (pe_call (ok__test_or_none T) (hr.mono (by decide)) rfl T.g__test_or_none T.F__test_or_none.kp (bi__test_or_none T) .nil pass0 (pa_cons (pv 3) (pa_cons (pe_call (ok__day_of T) (hr.mono (by decide)) rfl T.g__day_of T.F__day_of.kp (bi__day_of T) .nil pass0 (pa_cons (pv 4) pa_nil)) (pa_cons (pe_call (ok__day_of T) (hr.mono (by decide)) rfl T.g__day_of T.F__day_of.kp (bi__day_of T) .nil pass0 (pa_cons (pv 6) pa_nil)) pa_nil)))))) pss_nil)
      (pss_one (ps_ret (pe_ifExp (pt_cmpR op_in_seq (pv 3) (pe_glob (v := V.ref (ad 30)) rfl T.c_OF_NAMES rfl) (by rfl)) (pe_call (ok__test_or_none T) (hr.mono (by decide)) rfl T.g__test_or_none T.F__test_or_none.kp (bi__test_or_none T) .nil pass0 (pa_cons (pv 3) (pa_cons (pe_call (ok__name_of T) (hr.mono (by decide)) rfl T.g__name_of T.F__name_of.kp (bi__name_of T) .nil pass0 (pa_cons (pv 4) pa_nil)) (pa_cons (pe_call (ok__name_of T) (hr.mono (by decide)) rfl T.g__name_of T.F__name_of.kp (bi__name_of T) .nil pass0 (pa_cons (pv 6) pa_nil)) pa_nil)))) pe_non))))) pss_nil)))
      (pss_one (ps_ret pe_non))), ?_⟩
  unfold tsC at hz
  rw [Bool.and_eq_true] at hz
  have hl := of_decide_eq_true hz.1
  have hlen : z.length ≤ sizeLine := ofNat_le (by omega)
  have hn : ∀ p ∈ S4, NumC (Txt.partition z p.1).1 = true ∧ NumC (Txt.partition z p.1).2.2 = true := fun p hp => by
    have := List.all_eq_true.mp hz.2 p hp
    rwa [Bool.and_eq_true] at this
  obtain ⟨t0, t1, t2, t3, w4, w0, w1, w2, w3⟩ := T.w_SIGNS
  have sg := sg_at w0 w1 w2 w3
  refine ⟨_, rfl, ⟨_, w4.sq⟩, for_it (walk_tup (K := K) (xs := [.ref t0, .ref t1, .ref t2, .ref t3])) (fun i σ H1 => ∃ (y2 y3 y4 y5 y6 : Option V), σ = [some (.str z), some (.ref d), y2, y3, y4, y5, y6] ∧ Same H H1 ∧ goT z ds (S4.drop i) = testOf z ds) ⟨_, _, _, _, _, rfl, Same.refl _, rfl⟩ (fun i σ H1 _ _ => w4.sq) ?_ ?_⟩
  · rintro i x σ H1 H1' hi ⟨y2, y3, y4, y5, y6, rfl, s1, eg⟩ ⟨rfl, hx⟩
    obtain ⟨t, p, rfl, hp, wt⟩ := sg i x hx
    have hpm := List.mem_of_getElem? hp
    obtain ⟨n1, n2⟩ := hn p hpm
    have hne : (p.1.length == 0) = false := by
      revert hpm
      simp only [S4, List.mem_cons, List.mem_nil_iff, or_false]
      rintro (rfl | rfl | rfl | rfl) <;> decide +kernel
    have ed : S4.drop i = p :: S4.drop (i + 1) := by
      rw [List.drop_eq_getElem_cons (by exact hi)]
      rw [List.getElem?_eq_getElem (by exact hi)] at hp
      rw [Option.some.inj hp]
    rw [ed] at eg
    unfold goT at eg
    refine ⟨t, _, rfl, wt.sq, rfl, _, _, rfl, _, _, rfl, rfl, _, rfl, _, rfl, _, _, rfl, rfl, _, rfl, ?_⟩
    have ei : (!(Builtin.Str.occurrences z p.1 0 z.length 1).isEmpty) = inS p.1 z := rfl
    rw [ei]
    cases c1 : inS p.1 z with
    | false =>
      rw [c1] at eg
      exact iteF ⟨_, _, _, _, _, rfl, s1, eg⟩
    | true =>
      rw [c1, if_pos rfl] at eg
      rw [← eg] at q
      unfold stepT at q
      refine iteT ⟨_, rfl, ⟨_, rfl⟩, _, rfl, z, p.1, rfl, rfl, hne, hlen, fun r nr => ?_⟩
      have s2 := s1.trans (same_upd (o := .tup [V.str (Txt.partition z p.1).1, V.str (Txt.partition z p.1).2.1, V.str (Txt.partition z p.1).2.2]) nr)
      refine ⟨r, _, rfl, SqT.of upd_same, rfl, _, _, rfl, _, _, rfl, _, _, rfl, rfl, ?_⟩
      generalize upd _ r (.tup [V.str (Txt.partition z p.1).1, V.str (Txt.partition z p.1).2.1, V.str (Txt.partition z p.1).2.2]) = H2 at s2
      have days : ∀ H3, Same H H3 → (tells (Txt.partition z p.1).1 ds || tells (Txt.partition z p.1).2.2 ds) = true → ∀ H4 v, Same H3 H4 → OTs K H4 v (mkT p.2 (dayOf (Txt.partition z p.1).1) (dayOf (Txt.partition z p.1).2.2)) → Q v H4 := fun H3 s3 ht H4 v s4 o => by
        rw [if_pos ht] at q
        exact q H4 v (s3.trans s4) o
      refine ⟨_, rfl, _, rfl, _, d, ds, rfl, numC_len n1, s2 _ _ hd, fun H3 s3 => ⟨_, rfl, ?_⟩⟩
      have s4 := s2.trans s3
      cases c2 : tells (Txt.partition z p.1).1 ds with
      | true =>
        refine iteT (iteT ⟨_, rfl, _, rfl, _, rfl, n1, fun H4 v s5 hv => ⟨_, rfl, _, rfl, n2, fun H5 u s6 hu => ⟨_, _, _, _, _, rfl, hv.fix (fixOf s6), hu, fun H6 x s7 hx => ?_⟩⟩⟩)
        exact days H3 s4 (by rw [c2]; rfl) H6 x ((s5.trans s6).trans s7) hx
      | false =>
        refine iteF ⟨_, rfl, _, rfl, _, d, ds, rfl, numC_len n2, s4 _ _ hd, fun H4 s5 => ⟨_, rfl, ?_⟩⟩
        have s6 := s4.trans s5
        cases c3 : tells (Txt.partition z p.1).2.2 ds with
        | true =>
          refine iteT ⟨_, rfl, _, rfl, _, rfl, n1, fun H5 v s7 hv => ⟨_, rfl, _, rfl, n2, fun H6 u s8 hu => ⟨_, _, _, _, _, rfl, hv.fix (fixOf s8), hu, fun H7 x s9 hx => ?_⟩⟩⟩
          exact days H4 s6 (by rw [c2, c3]; rfl) H7 x ((s7.trans s8).trans s9) hx
        | false =>
          rw [c2, c3, if_neg (show ¬ ((false || false) = true) from fun z => nomatch z)] at q
          refine iteF ⟨_, rfl, _, _, rfl, .inr T.w_OF_NAMES.sq, rfl, rfl, _, rfl, ?_⟩
          cases c4 : inV (.str p.2) [.str "same", .str "unlike"] with
          | false =>
            rw [c4] at q
            exact iteF (q H4 _ s6 rfl)
          | true =>
            rw [c4, if_pos rfl] at q
            refine iteT ⟨_, rfl, _, rfl, _, rfl, numC_len n1, fun H5 v s7 hv => ⟨_, rfl, _, rfl, numC_len n2, fun H6 u s8 hu => ⟨_, _, _, _, _, rfl, hv.fix (fixOf s8), hu, fun H7 x s9 hx => ?_⟩⟩⟩
            exact q H7 x (s6.trans ((s7.trans s8).trans s9)) hx
  · rintro σ H1 ⟨y2, y3, y4, y5, y6, rfl, s1, eg⟩
    have e0 : goT z ds [] = testOf z ds := eg
    rw [← e0] at q
    exact q H1 _ s1 rfl
end
end Yj
set_option Elab.async false
set_option linter.all false
set_option maxRecDepth 100000
set_option maxHeartbeats 4000000
set_option pp.maxSteps 1500
namespace Yj
open PySem PySem.Spec PyProof.Rows L2 RZ YjD YjF
/-! ### clauses -/
theorem lk_ne {k f : Str} {v : V} {fs : List (Str × V)} (h : (k == f) = false) : List.lookup k ((f, v) :: fs) = fs.lookup k := by rw [List.lookup, h]
theorem lk_eq {k : Str} {v : V} {fs : List (Str × V)} : List.lookup k ((k, v) :: fs) = some v := by rw [List.lookup, beq_self_eq_true]
abbrev Cls := List Atm × List Tst
abbrev cF (A B : Addr) : List (Str × V) := [("atoms", .ref A), ("tests", .ref B)]
theorem c_atoms {A B : Addr} : (cF A B).lookup ("atoms" : Str) = some (.ref A) := lk_eq
theorem c_tests {A B : Addr} : (cF A B).lookup ("tests" : Str) = some (.ref B) := (lk_ne (by decide +kernel)).trans lk_eq
def ClsAt (C : Addr) (H : Hp) (v : V) (c : Cls) : Prop := ∃ p dx A B us ws, v = .ref p ∧ H p = some (.ins C dx (cF A B)) ∧ H A = some (.tup us) ∧ Paired (AtmAt H) us c.1 ∧ H B = some (.tup ws) ∧ Paired (TstAt H) ws c.2
theorem ClsAt.fix {C : Addr} {H H' : Hp} (s : Fix H H') {v : V} {c : Cls} (h : ClsAt C H v c) : ClsAt C H' v c := by
  obtain ⟨p, dx, A, B, us, ws, e, h1, h2, h3, h4, h5⟩ := h
  exact ⟨p, dx, A, B, us, ws, e, s _ _ h1 True.intro, s _ _ h2 True.intro, Paired.mapP h3 fun _ _ z => z.fix s, s _ _ h4 True.intro, Paired.mapP h5 fun _ _ z => z.fix s⟩
def termsOf (as : List Atm) : List Tm := as.flatMap fun a => a.2.1 ++ [a.2.2]
def GoodC (c : Cls) : Prop := (∀ a ∈ c.1, a ∈ atL) ∧ (∀ s ∈ c.2, s ∈ tsL) ∧ 1 ≤ c.1.length ∧ c.1.length ≤ 3 ∧ c.2.length ≤ 6 ∧ ∀ s ∈ c.2, ∀ t, (t = s.2.1 ∨ t = s.2.2) → isVar t = true → t ∈ termsOf c.1
def clsTx (c : Cls) : Str := Txt.join " " (c.1.map atTx ++ c.2.map tstTx)
theorem sum_le {n : Nat} : ∀ {l : List Nat}, (∀ x ∈ l, x ≤ n) → l.sum ≤ n * l.length
  | [], _ => Nat.zero_le _
  | x :: r, h => by
    have a := h x (List.mem_cons_self ..)
    have b := sum_le (n := n) (l := r) fun y hy => h y (List.mem_cons_of_mem _ hy)
    rw [List.sum_cons, List.length_cons, Nat.mul_succ]
    omega
def spClsTx (C : Addr) : Sp := fun vs H Q _ => ∃ v c, vs = [v] ∧ ClsAt C H v c ∧ GoodC c ∧ ∀ H', Same H H' → Q (.str (clsTx c)) H'
def spNamesWord (K : PySem.W.Frag) : Sp := fun vs H Q _ => ∃ a zs, vs = [.ref a] ∧ SqT K H a (zs.map V.str) ∧ (zs.map (·.length)).sum + zs.length * ("," : Str).length ≤ 16777216 ∧ Q (.str (Txt.join "," zs)) H
def rowTx (zs : List Str) : Str := if zs.isEmpty then "yes" else Txt.join "," zs
def spAnsTx (K : PySem.W.Frag) : Sp := fun vs H Q _ => ∃ L, vs = [.ref L] ∧ ((H L = some (.tup []) ∧ Q (.str "-") H) ∨ ∃ us zss, H L = some (.lst us) ∧ us ≠ [] ∧ us.length ≤ 10 ∧ Paired (fun v zs => ∃ a, v = .ref a ∧ H a = some (.tup (zs.map V.str))) us zss ∧ (∀ zs ∈ zss, (zs.map (·.length)).sum + zs.length * ("," : Str).length ≤ 1000 ∧ (rowTx zs).length ≤ 1000) ∧ ∀ H', Same H H' → Q (.str (Txt.join ";" (zss.map rowTx))) H')
def spIsRow : Sp := fun vs H Q _ => ∃ a xs, ∃ l m : Int, vs = [.ref a, .int l, .int m] ∧ H a = some (.tup xs) ∧ l ≤ (xs.length : Nat) ∧ (xs.length : Nat) ≤ m ∧ Q (.bl true) H
def spChkAtom : Sp := fun vs H Q _ => ∃ v a, vs = [v] ∧ AtmAt H v a ∧ a ∈ atL ∧ ∀ H', Same H H' → Q .non H'
def spVarsOf : Sp := fun vs H Q _ => ∃ A us as, vs = [.ref A] ∧ H A = some (.tup us) ∧ Paired (AtmAt H) us as ∧ (∀ a ∈ as, a ∈ atL) ∧ as.length ≤ 3 ∧ ∀ H' D kvs, Same H H' → H' D = some (.dT kvs) → (∀ t ∈ termsOf as, isVar t = true → ∃ v, valV kvs t.key = some v) → Q (.ref D) H'
theorem terms_snoc (as : List Atm) (a : Atm) : termsOf (as ++ [a]) = termsOf as ++ (a.2.1 ++ [a.2.2]) := by
  unfold termsOf
  rw [List.flatMap_append]
  show _ ++ (a.2.1 ++ [a.2.2] ++ []) = _
  rw [List.append_nil]
theorem terms_len : ∀ {as : List Atm}, (∀ a ∈ as, a ∈ atL) → (termsOf as).length ≤ 3 * as.length
  | [], _ => Nat.zero_le _
  | a :: r, h => by
    have b := terms_len (as := r) fun x hx => h x (List.mem_cons_of_mem _ hx)
    obtain ⟨_, _, _, _, _, _, _, _, l9, _⟩ := of_decide_eq_true (at_len a (h a (List.mem_cons_self ..)))
    show ((a.2.1 ++ [a.2.2]) ++ termsOf r).length ≤ _
    rw [List.length_append, List.length_append, List.length_cons (a := a)]
    show a.2.1.length + 1 + _ ≤ _
    omega
section
variable {P : Program} {w : World} {K : PySem.W.Frag} {mg : Str → Option Value} {base : Heap} {ad : Nat → Addr} {fds : Nat → FuncData} {cs : Nat → Value}
theorem ok_clause_text (T : Txt K mg ad fds cs) : FnOk P w K mg base CX0 3 (ad 41) (fds 41) ["clause"] (spClsTx (ad 55999)) := by
  refine T.F_clause_text.ok sc_clause_text (fun vs H Q E h => ?_) (fun cdv A outer s H vs Q E hr h => ?_)
  · obtain ⟨v, c, rfl, _⟩ := h
    rfl
  obtain ⟨v, c, rfl, ⟨p, dx, A, B, us, ws, rfl, hp, hA, hus, hB, hws⟩, ⟨g1, g2, _, g3, g4, _⟩, q⟩ := h
  refine ⟨_, (pss_one (ps_ret (pe_join pe_str (pe_lst (StX.pa_star (pe_lc (own := [("atom", 1)]) rfl sc_clause_text.nd (pi_tup (YjD.pe_fldK (K := K) (pv 0) rfl)) (blkOk_by (N := N_clause_text) (sc := defScope s_clause_text) (own := [("atom", 1)]) (by decide +kernel)) (fun _ _ _ _ _ => by exact (pg_name (i := 1) sc_clause_text.nd rfl (.inl rfl))) (fun _ _ _ _ _ => by exact pts_nil) (fun _ _ _ _ _ => by exact (pe_call (ok_atom_text (P := P) (w := w) T) (hr.mono (by decide)) rfl T.g_atom_text T.F_atom_text.kp (bi_atom_text T) .nil pass0 (pa_cons (pv 1) pa_nil)))) (StX.pa_star (pe_lc (own := [("test", 2)]) rfl sc_clause_text.nd (pi_tup (YjD.pe_fldK (K := K) (pv 0) rfl)) (blkOk_by (N := N_clause_text) (sc := defScope s_clause_text) (own := [("test", 2)]) (by decide +kernel)) (fun _ _ _ _ _ => by exact (pg_name (i := 2) sc_clause_text.nd rfl (.inl rfl))) (fun _ _ _ _ _ => by exact pts_nil) (fun _ _ _ _ _ => by exact (pe_call (ok_test_text (P := P) (w := w) T) (hr.mono (by decide)) rfl T.g_test_text T.F_test_text.kp (bi_test_text T) .nil pass0 (pa_cons (pv 2) pa_nil)))) pa_nil)))))), ?_⟩
  have lu := Paired.length hus
  have lw := Paired.length hws
  refine ⟨⟨_, rfl⟩, _, rfl, p, _, dx, _, _, rfl, hp, T.cl_Clause, T.na_Clause_atoms, c_atoms, A, rfl, ⟨_, SqT.of hA⟩, fun D nD => ?_⟩
  refine lc_tup (xs := us) (fun i H1 => Same H H1 ∧ H1 D = some (.lst (((c.1.take i).map atTx).map V.str))) ⟨same_upd nD, upd_same⟩ (fun i H1 _ h => SqT.of (h.1 _ _ hA)) ?_ ?_
  · rintro i x H1 hx ⟨s1, hD⟩
    obtain ⟨a, ha, hxa⟩ := pget hus hx
    refine ⟨rfl, _, rfl, x, a, rfl, hxa.fix (fixOf s1), g1 a (List.mem_of_getElem? ha), fun H2 s2 => ⟨_, s2 _ _ hD, ofNat_lt ?_, same_at (s1.trans s2) nD, ?_⟩⟩
    · rw [List.length_map, List.length_map, List.length_take]
      omega
    · rw [upd_same, tkS ha, List.map_append, List.map_append]
      rfl
  · rintro H1 ⟨s1, hD⟩
    rw [lu, List.take_length] at hD
    refine ⟨D, _, rfl, .inr (SqL.of hD), _, rfl, p, _, dx, _, _, rfl, s1 _ _ hp, T.cl_Clause, T.na_Clause_tests, c_tests, B, rfl, ⟨_, SqT.of (s1 _ _ hB)⟩, fun D2 nD2 => ?_⟩
    have nD2' := s1.free nD2
    refine lc_tup (xs := ws) (fun i H2 => Same H1 H2 ∧ H2 D2 = some (.lst (((c.2.take i).map tstTx).map V.str))) ⟨same_upd nD2, upd_same⟩ (fun i H2 _ h => SqT.of (h.1 _ _ (s1 _ _ hB))) ?_ ?_
    · rintro i x H2 hx ⟨s2, hD2⟩
      obtain ⟨a, ha, hxa⟩ := pget hws hx
      refine ⟨rfl, _, rfl, x, a, rfl, hxa.fix (fixOf (s1.trans s2)), g2 a (List.mem_of_getElem? ha), fun H3 s3 => ⟨_, s3 _ _ hD2, ofNat_lt ?_, same_at (s2.trans s3) nD2, ?_⟩⟩
      · rw [List.length_map, List.length_map, List.length_take]
        omega
      · rw [upd_same, tkS ha, List.map_append, List.map_append]
        rfl
    · rintro H2 ⟨s2, hD2⟩
      rw [lw, List.take_length] at hD2
      refine ⟨D2, _, rfl, .inr (SqL.of hD2), ?_⟩
      have el : ((c.1.map atTx).map V.str) ++ (((c.2.map tstTx).map V.str) ++ []) = (c.1.map atTx ++ c.2.map tstTx).map V.str := by rw [List.append_nil, List.map_append]
      have ln : (c.1.map atTx ++ c.2.map tstTx).length ≤ 9 := by
        rw [List.length_append, List.length_map, List.length_map]
        omega
      refine ⟨?_, fun L nL => ?_⟩
      · rw [el, List.length_map]
        exact ofNat_le (by omega)
      rw [el]
      refine ⟨_, L, c.1.map atTx ++ c.2.map tstTx, rfl, rfl, .inl (SqL.of upd_same), ?_, q _ ((s1.trans s2).trans (same_upd nL))⟩
      have b := sum_le (n := 100) (l := (c.1.map atTx ++ c.2.map tstTx).map (·.length)) fun x hx => by
        obtain ⟨z, hz, rfl⟩ := List.mem_map.mp hx
        rcases List.mem_append.mp hz with hz | hz
        · obtain ⟨a, ha, rfl⟩ := List.mem_map.mp hz
          obtain ⟨_, _, _, _, _, _, l7, _⟩ := of_decide_eq_true (at_len a (g1 a ha))
          exact l7
        · obtain ⟨a, ha, rfl⟩ := List.mem_map.mp hz
          exact (ts_len a (g2 a ha)).2.2.1
      rw [List.length_map] at b
      have e1 : (" " : Str).length = 1 := by decide +kernel
      rw [e1]
      omega
theorem ok_names_word (T : Txt K mg ad fds cs) : FnOk P w K mg base CX0 1 (ad 25) (fds 25) ["names"] (spNamesWord K) := by
  refine T.F_names_word.ok sc_names_word (fun vs H Q E h => ?_) (fun cdv A outer s H vs Q E hr h => ?_)
  · obtain ⟨a, zs, rfl, _⟩ := h
    rfl
  obtain ⟨a, zs, rfl, ha, hz, q⟩ := h
  refine ⟨_, (pss_one (ps_ret (pe_join pe_str (pv 0)))), ?_⟩
  exact ⟨⟨_, rfl⟩, _, rfl, _, a, zs, rfl, rfl, .inr ha, hz, q⟩
theorem ok_answers_text (T : Txt K mg ad fds cs) : FnOk P w K mg base CX0 2 (ad 42) (fds 42) ["answers"] (spAnsTx K) := by
  refine T.F_answers_text.ok sc_answers_text (fun vs H Q E h => ?_) (fun cdv A outer s H vs Q E hr h => ?_)
  · obtain ⟨L, rfl, _⟩ := h
    rfl
  obtain ⟨L, rfl, h⟩ := h
  refine ⟨_, (pss_cons (ps_if (pt_not (pt_truth (pv 0) (by intro _; rfl))) (pss_one (ps_ret pe_str)) pss_nil)
      (pss_one (ps_ret (pe_join pe_str (pe_lc (own := [("names", 1)]) rfl sc_answers_text.nd (pi_list (pv 0)) (blkOk_by (N := N_answers_text) (sc := defScope s_answers_text) (own := [("names", 1)]) (by decide +kernel)) (fun _ _ _ _ _ => by exact (pg_name (i := 1) sc_answers_text.nd rfl (.inl rfl))) (fun _ _ _ _ _ => by exact pts_nil) (fun _ _ _ _ _ => by exact (pe_ifExp (YjD.pt_truthK (K := K) (pv 1) (by intro _; rfl)) (pe_call (ok_names_word (P := P) (w := w) T) (hr.mono (by decide)) rfl T.g_names_word T.F_names_word.kp (bi_names_word T) .nil pass0 (pa_cons (pv 1) pa_nil)) pe_str))))))), ?_⟩
  rcases h with ⟨hL, q⟩ | ⟨us, zss, hL, ne, few, hus, hz, q⟩
  · exact ⟨_, rfl, false, .inr (.inl ⟨_, SqT.of hL, rfl⟩), iteT q⟩
  · have lu := Paired.length hus
    refine ⟨_, rfl, true, .inl ⟨us, SqL.of hL, ?_⟩, iteF ?_⟩
    · cases us with
      | nil => exact absurd rfl ne
      | cons _ _ => rfl
    refine ⟨⟨_, rfl⟩, _, rfl, L, rfl, ⟨_, SqL.of hL⟩, fun D nD => ?_⟩
    refine lc_it (walk_list (K := K) (a := L) (xs := us)) (fun i H1 => Same H H1 ∧ H1 D = some (.lst (((zss.take i).map rowTx).map V.str))) ⟨same_upd nD, upd_same⟩ (fun i H1 _ h => SqL.of (h.1 _ _ hL)) ?_ ?_
    · rintro i x H1 H1' hi ⟨s1, hD⟩ ⟨rfl, hx⟩
      obtain ⟨zs, hzs, a, rfl, ha⟩ := pget hus hx
      have ha1 := s1 _ _ ha
      have hz1 := hz zs (List.mem_of_getElem? hzs)
      refine ⟨rfl, _, rfl, !(zs.map V.str).isEmpty, .inr (.inl ⟨_, SqT.of ha1, rfl⟩), ?_⟩
      have fin : ∀ z, z = rowTx zs → ∃ acc, H1' D = some (.lst acc) ∧ acc.length < sizeLine ∧ Same H (upd H1' D (.lst (acc ++ [.str z]))) ∧ upd H1' D (.lst (acc ++ [.str z])) D = some (.lst (((zss.take (i + 1)).map rowTx).map V.str)) := fun z e => by
        refine ⟨_, hD, ofNat_lt ?_, same_at s1 nD, ?_⟩
        · rw [List.length_map, List.length_map, List.length_take]
          omega
        · rw [upd_same, tkS hzs, List.map_append, List.map_append, e]
          rfl
      cases zs with
      | nil => exact iteF (fin _ rfl)
      | cons z r => exact iteT ⟨_, rfl, a, z :: r, rfl, SqT.of ha1, Nat.le_trans hz1.1 (by decide), fin _ rfl⟩
    · rintro H1 ⟨s1, hD⟩
      rw [lu, List.take_length] at hD
      refine ⟨_, D, zss.map rowTx, rfl, rfl, .inl (SqL.of hD), ?_, q H1 s1⟩
      have b := sum_le (n := 1000) (l := (zss.map rowTx).map (·.length)) fun x hx => by
        obtain ⟨z, hz', rfl⟩ := List.mem_map.mp hx
        obtain ⟨a, ha, rfl⟩ := List.mem_map.mp hz'
        exact (hz a ha).2
      rw [List.length_map, List.length_map] at b
      have e1 : (";" : Str).length = 1 := by decide +kernel
      rw [e1, List.length_map]
      omega
theorem ok__is_row (T : Txt K mg ad fds cs) : FnOk P w K mg base CX0 1 (ad 51) (fds 51) ["thing", "least", "most"] spIsRow := by
  refine T.F__is_row.ok sc__is_row (fun vs H Q E h => ?_) (fun cdv A outer s H vs Q E hr h => ?_)
  · obtain ⟨a, xs, l, m, rfl, _⟩ := h
    rfl
  obtain ⟨a, xs, l, m, rfl, ha, h1, h2, q⟩ := h
  refine ⟨_, (pss_one (ps_ret (pe_and (pe_callB call_isi (by rfl) T.z_isinstance (by decide +kernel) (pa_cons (pv 0) (pa_cons (pe_bltn (v := .ty "tuple") (u := .type "tuple") (by rfl) T.z_tuple (by decide +kernel) rfl) pa_nil))) (pe_one (pe_chain op_le op_le (pv 1) (pe_callB call_len_seq (by rfl) T.z_len (by decide +kernel) (pa_cons (pv 0) pa_nil)) (pv 2)))))), ?_⟩
  refine ⟨_, rfl, _, _, _, _, true, rfl, ClsV.ty _, TyX.base (.tup ha), kit_ty (by decide +kernel), _, rfl, iteT ⟨_, rfl, _, rfl, a, _, rfl, .inr (SqT.of ha), _, _, rfl, rfl, _, rfl, ?_⟩⟩
  refine ifT h1 ⟨_, rfl, _, _, rfl, rfl, ?_⟩
  rw [← decide_eq_true h2] at q
  exact q
theorem ok__check_atom (T : Txt K mg ad fds cs) : FnOk P w K mg base CX0 4 (ad 52) (fds 52) ["thing"] spChkAtom := by
  refine T.F__check_atom.ok sc__check_atom (fun vs H Q E h => ?_) (fun cdv A outer s H vs Q E hr h => ?_)
  · obtain ⟨v, a, rfl, _⟩ := h
    rfl
  obtain ⟨v, a, rfl, ⟨p, n, y, us, rfl, hp, hn, hus, hy⟩, ha, q⟩ := h
  refine ⟨_, (pss_cons (ps_if (PW.pt (pw_or (pt_not (pt_val (pe_callB call_isi (by rfl) T.z_isinstance (by decide +kernel) (pa_cons (pv 0) (pa_cons (pe_bltn (v := .ty "tuple") (u := .type "tuple") (by rfl) T.z_tuple (by decide +kernel) rfl) pa_nil))))) (pw_or (pt_cmpR op_ne (pe_callB call_len_seq (by rfl) T.z_len (by decide +kernel) (pa_cons (pv 0) pa_nil)) pe_int (nomark _)) (pw_or1 (pt_not (pt_val (pe_callB call_isi (by rfl) T.z_isinstance (by decide +kernel) (pa_cons (pe_ix ix_seq (pv 0) pe_int (fun _ _ => rfl)) (pa_cons (pe_bltn (v := .ty "tuple") (u := .type "tuple") (by rfl) T.z_tuple (by decide +kernel) rfl) pa_nil))))))))) (pss_one YjE.ps_skip) pss_nil)
      (pss_cons (ps_asg (pv 0) (pg_tup rfl (pgs_cons (pg_name (i := 1) sc__check_atom.nd rfl (by first | exact .inl rfl | exact .inr rfl)) (pgs_cons (pg_name (i := 2) sc__check_atom.nd rfl (by first | exact .inl rfl | exact .inr rfl)) (pgs_cons (pg_name (i := 3) sc__check_atom.nd rfl (by first | exact .inl rfl | exact .inr rfl)) pgs_nil)))))
      (pss_cons (ps_if (PW.pt (pw_or (pt_not (pt_val (pe_call (ok_is_name T) (hr.mono (by decide)) rfl T.g_is_name T.F_is_name.kp (bi_is_name T) .nil pass0 (pa_cons (pv 1) pa_nil)))) (pw_or1 (pt_not (pt_chain op_le op_le pe_int (pe_callB call_len_seq (by rfl) T.z_len (by decide +kernel) (pa_cons (pv 2) pa_nil)) (pe_glob rfl T.c_MOST_NAMES T.r_MOST_NAMES)))))) (pss_one YjE.ps_skip) pss_nil)
      (pss_cons (ps_for PassesOwn.never rfl (pi_tup (pv 2)) (pg_name (i := 4) sc__check_atom.nd rfl (by first | exact .inl rfl | exact .inr rfl))
      (pss_one (ps_if (pt_not (pt_val (pe_call (ok_is_name_term T) (hr.mono (by decide)) rfl T.g_is_name_term T.F_is_name_term.kp (bi_is_name_term T) .nil pass0 (pa_cons (pv 4) pa_nil)))) (pss_one YjE.ps_skip) pss_nil)))
      (pss_one (ps_if (pt_not (pt_val (pe_call (ok_is_day_term T) (hr.mono (by decide)) rfl T.g_is_day_term T.F_is_day_term.kp (bi_is_day_term T) .nil pass0 (pa_cons (pv 3) pa_nil)))) (pss_one YjE.ps_skip) pss_nil)))))), ?_⟩
  obtain ⟨l1, _, _, _, _, _, _, _, l9, l10⟩ := of_decide_eq_true (at_len a ha)
  obtain ⟨t1, t3, t4, t2⟩ := at_tms a ha
  have lu := Paired.length hus
  refine ⟨_, rfl, _, _, _, _, true, rfl, ClsV.ty _, TyX.base (.tup hp), kit_ty (by decide +kernel), _, rfl, iteF ⟨_, rfl, p, _, rfl, .inr (SqT.of hp), rfl, _, rfl, iteF ⟨_, rfl, .inr (.inl ⟨p, _, 1, .ref n, rfl, rfl, SqT.of hp, atI_nat (j := 1) rfl, _, _, _, _, true, rfl, ClsV.ty _, TyX.base (.tup hn), kit_ty (by decide +kernel), _, rfl, iteF ?_⟩)⟩⟩⟩
  refine ⟨_, rfl, p, _, rfl, SqT.of hp, rfl, _, _, rfl, _, _, rfl, _, _, rfl, rfl, ?_⟩
  refine ⟨_, rfl, .str a.1, rfl, .str a.1, fun z e => ?_, fun H1 s1 => ⟨_, rfl, ?_⟩⟩
  · cases e
    show a.1.length ≤ _
    omega
  rw [t4]
  refine iteF ⟨_, rfl, n, _, rfl, .inr (SqT.of (s1 _ _ hn)), 1, _, rfl, rfl, _, rfl, ifT (by omega) ⟨_, 4, rfl, rfl, _, rfl, ?_⟩⟩
  rw [decide_eq_true (show ((us.length : Nat) : Int) ≤ 4 by omega)]
  refine iteF ⟨_, rfl, n, rfl, ⟨_, SqT.of (s1 _ _ hn)⟩, for_it (walk_tup (K := K) (xs := us)) (fun i σ H2 => ∃ (y4 : Option V), σ = [some (.ref p), some (.str a.1), some (.ref n), some y, y4] ∧ Same H H2) ⟨_, rfl, s1⟩ (fun i σ H2 _ ⟨_, _, s2⟩ => SqT.of (s2 _ _ hn)) ?_ ?_⟩
  · rintro i x σ H2 H2' hi ⟨y4, rfl, s2⟩ ⟨rfl, hx⟩
    obtain ⟨t, ht, hxt⟩ := pget hus hx
    have m := t2 t (List.mem_of_getElem? ht)
    refine ⟨_, rfl, x, t, rfl, hxt.fix (fixOf s2), m.1, fun H3 s3 => ⟨_, rfl, ?_⟩⟩
    rw [m.2]
    exact iteF ⟨_, rfl, s2.trans s3⟩
  · rintro σ H2 ⟨y4, rfl, s2⟩
    refine ⟨_, rfl, y, a.2.2, rfl, hy.fix (fixOf s2), t1, fun H3 s3 => ⟨_, rfl, ?_⟩⟩
    rw [t3]
    exact iteF (q H3 (s2.trans s3))
end
end Yj
set_option Elab.async false
set_option linter.all false
set_option maxRecDepth 100000
set_option maxHeartbeats 4000000
set_option pp.maxSteps 1500
namespace Yj
open PySem PySem.Spec PyProof.Rows L2 RZ YjD YjF
section
variable {P : Program} {w : World} {K : PySem.W.Frag} {mg : Str → Option Value} {base : Heap} {ad : Nat → Addr} {fds : Nat → FuncData} {cs : Nat → Value}
theorem ok_variables_of (T : Txt K mg ad fds cs) : FnOk P w K mg base CX0 4 (ad 55) (fds 55) ["atoms"] spVarsOf := by
  refine T.F_variables_of.ok sc_variables_of (fun vs H Q E h => ?_) (fun cdv A outer s H vs Q E hr h => ?_)
  · obtain ⟨A, us, as, rfl, _⟩ := h
    rfl
  obtain ⟨A, us, as, rfl, hA, hus, g, few, q⟩ := h
  refine ⟨_, (pss_cons (ps_setLc2 (i := 1) (own := [("_", 2), ("names", 3), ("day", 4), ("term", 5)]) (vs1 := [5]) rfl sc_variables_of.nd rfl rfl (by rfl) (pi_tup (pv 0)) (blkOk_by (N := N_variables_of) (sc := defScope s_variables_of) (own := [("_", 2), ("names", 3), ("day", 4), ("term", 5)]) (by decide +kernel)) (by decide) (fun _ _ _ _ _ => by exact (pg_tupK (K := K) (n := 3) rfl (pgs_cons (pg_name (i := 2) sc_variables_of.nd rfl (.inl rfl)) (pgs_cons (pg_name (i := 3) sc_variables_of.nd rfl (.inl rfl)) (pgs_cons (pg_name (i := 4) sc_variables_of.nd rfl (.inl rfl)) pgs_nil))))) (fun _ _ _ _ _ => by exact pts_nil) (fun _ _ _ _ _ => by exact (YjG.pi_tupK (K := K) (pe_tup (YjG.pa_starTK (K := K) (pv 3) (pa_cons (pv 4) pa_nil))))) (fun _ _ _ _ _ => by exact (pg_name (i := 5) sc_variables_of.nd rfl (.inl rfl))) (fun _ _ _ _ _ => by exact pts_nil) (fun _ _ _ _ _ => by exact (pv 5)))
      (pss_one (ps_ret (YjG.pe_tc4 (own := [("term", 5)]) rfl hr.units sc_variables_of.nd (pi_list (pv 1)) (blkOk_by (N := N_variables_of) (sc := defScope s_variables_of) (own := [("term", 5)]) (by decide +kernel)) (fun _ _ _ _ _ => by exact (pg_name (i := 5) sc_variables_of.nd rfl (.inl rfl))) (fun _ _ _ _ _ => by exact (pts_one (pt_val (pe_call (ok__is_variable (P := P) (w := w) T) (hr.mono (by decide)) rfl T.g__is_variable T.F__is_variable.kp (bi__is_variable T) .nil pass0 (pa_cons (pv 5) pa_nil))))) (fun _ _ _ _ _ => by exact (pv 5)) (fun _ _ _ _ _ => by exact pe_bl))))), ?_⟩
  have lu := Paired.length hus
  refine ⟨_, rfl, A, rfl, ⟨_, SqT.of hA⟩, fun D nD => ?_⟩
  refine lc2_it (walk_tup (K := K) (a := A) (xs := us)) (fun i H1 => Same H H1 ∧ ∃ ws, H1 D = some (.lst ws) ∧ Paired (TmAt H1) ws (termsOf (as.take i))) ⟨same_upd nD, [], upd_same, .nil⟩ (fun i H1 _ z => SqT.of (z.1 _ _ hA)) ?_ ?_
  · rintro i x H1 H1' hi ⟨s1, ws, hD, hk⟩ ⟨rfl, hx⟩
    obtain ⟨a, ha, p, n, y, vs, rfl, hp, hn, hvs, hy⟩ := pget hus hx
    have ga := g a (List.mem_of_getElem? ha)
    have lv := Paired.length hvs
    obtain ⟨_, _, _, _, _, _, _, _, l9, _⟩ := of_decide_eq_true (at_len a ga)
    refine ⟨p, _, rfl, SqT.of (s1 _ _ hp), rfl, _, _, rfl, _, _, rfl, _, _, rfl, rfl, rfl, ?_⟩
    refine ⟨_, rfl, n, vs, rfl, .inl (SqT.of (s1 _ _ hn)), _, rfl, ?_, fun r nr => ⟨r, rfl, ⟨_, SqT.of upd_same⟩, ?_⟩⟩
    · rw [List.length_append]
      exact ofNat_le (by show vs.length + 1 ≤ _; omega)
    have s2 := same_upd (o := .tup (vs ++ [y])) nr
    have f2 := fixOf s2
    have hr2 : upd H1' r (.tup (vs ++ [y])) r = some (.tup (vs ++ [y])) := upd_same
    have hD2 := s2 _ _ hD
    have hk2 : Paired (TmAt (upd H1' r (.tup (vs ++ [y])))) ws (termsOf (as.take i)) := Paired.mapP hk fun _ _ z => z.fix f2
    have s12 := s1.trans s2
    have hit : Paired (TmAt (upd H1' r (.tup (vs ++ [y])))) (vs ++ [y]) (a.2.1 ++ [a.2.2]) := Paired.snoc (Paired.mapP hvs fun _ _ z => z.fix (fixOf s12)) (hy.fix (fixOf s12))
    have e0 : HO.tup (vs ++ [y]) = HO.tup (vs ++ [y]) := rfl
    generalize upd H1' r (.tup (vs ++ [y])) = H2 at hr2 hD2 hk2 s12 hit
    clear s2 f2 nr
    have tl : (termsOf (as.take i)).length ≤ 9 := by
      have b := terms_len (as := as.take i) fun x hx => g x (List.mem_of_mem_take hx)
      have c := List.length_take_le i as
      have d := List.length_take_le' i as
      omega
    refine lc2_in (walk_tup (K := K) (xs := vs ++ [y])) (fun j H3 => Same H H3 ∧ Fix H2 H3 ∧ ∃ ws, H3 D = some (.lst ws) ∧ Paired (TmAt H3) ws (termsOf (as.take i) ++ (a.2.1 ++ [a.2.2]).take j)) ⟨s12, Fix.refl _, ws, hD2, by rw [List.take_zero, List.append_nil]; exact hk2⟩ (fun j H3 _ z => SqT.of (z.2.1 _ _ hr2 True.intro)) ?_ ?_
    · rintro j x H3 H3' hj ⟨s3, f3, ws3, hD3, hk3⟩ ⟨rfl, hx3⟩
      obtain ⟨t, ht, hxt⟩ := pget hit hx3
      have l3 := Paired.length hk3
      refine ⟨rfl, _, rfl, ws3, hD3, ofNat_lt ?_, ?_⟩
      · rw [List.length_append, List.length_take, List.length_append] at l3
        have : ([a.2.2] : List Tm).length = 1 := rfl
        omega
      · have f4 := fix_upd (o := .lst (ws3 ++ [x])) hD3 (fun z => z)
        refine ⟨same_at s3 nD, f3.trans f4, ws3 ++ [x], upd_same, ?_⟩
        rw [tkS ht, ← List.append_assoc]
        exact Paired.snoc (Paired.mapP hk3 fun _ _ z => z.fix f4) (hxt.fix (f3.trans f4))
    · rintro H3 ⟨s3, f3, ws3, hD3, hk3⟩
      refine ⟨s3, ws3, hD3, ?_⟩
      rw [tkS ha, terms_snoc]
      have e : (vs ++ [y]).length = (a.2.1 ++ [a.2.2]).length := by
        rw [List.length_append, List.length_append, lv]
        rfl
      rw [e, List.take_length] at hk3
      exact hk3
  · rintro H1 ⟨s1, ws, hD, hk⟩
    rw [lu, List.take_length] at hk
    have lk := Paired.length hk
    have tl := terms_len g
    refine ⟨_, rfl, D, rfl, ⟨_, SqL.of hD⟩, fun E nE => ?_⟩
    have mem : ∀ t ∈ termsOf as, t ∈ tmL := fun t ht => by
      obtain ⟨a, ha, hm⟩ := List.mem_flatMap.mp ht
      obtain ⟨t1, _, _, t2⟩ := at_tms a (g a ha)
      rcases List.mem_append.mp hm with hm | hm
      · exact (t2 t hm).1
      · rw [List.mem_singleton.mp hm]
        exact t1
    refine YjG.tc_it (walk_list (K := K) (a := D) (xs := ws)) (fun i H2 => Same H1 H2 ∧ ∃ kvs, H2 E = some (.dT kvs) ∧ kvs.length ≤ i ∧ ∀ t ∈ (termsOf as).take i, isVar t = true → ∃ v, valV kvs t.key = some v) ⟨same_upd nE, [], upd_same, Nat.le_refl _, fun t ht => nomatch ht⟩ (fun i H2 _ z => SqL.of (z.1 _ _ hD)) ?_ ?_
    · rintro i x H2 H2' hi ⟨s2, kvs, hE, hl, hv⟩ ⟨rfl, hx⟩
      obtain ⟨t, ht, hxt⟩ := pget hk hx
      have tm := mem t (List.mem_of_getElem? ht)
      refine ⟨rfl, _, rfl, x, t, rfl, hxt.fix (fixOf s2), tm, fun H3 s3 => ⟨_, rfl, ?_⟩⟩
      have s4 := s2.trans s3
      obtain ⟨b, rfl, hb⟩ := hxt.fix (fixOf s4)
      unfold YjG.TcEnd
      cases c : isVar t with
      | false =>
        refine iteF ⟨s4, kvs, s3 _ _ hE, Nat.le_succ_of_le hl, fun u hu hv' => ?_⟩
        rw [tkS ht] at hu
        rcases List.mem_append.mp hu with hu | hu
        · exact hv u hu hv'
        · rw [List.mem_singleton.mp hu] at hv'
          rw [c] at hv'
          cases hv'
      | true =>
        refine iteT ⟨_, rfl, kvs, b, t.key, rfl, s3 _ _ hE, hb, ofNat_lt (by omega), same_at s4 nE, _, upd_same, ?_, fun u hu hv' => ?_⟩
        · have := length_putK kvs t.key (.bl true)
          omega
        · rw [valV_put]
          by_cases e : u.key = t.key
          · exact ⟨_, if_pos e⟩
          · rw [if_neg e]
            rw [tkS ht] at hu
            rcases List.mem_append.mp hu with hu | hu
            · exact hv u hu hv'
            · exact absurd (congrArg Tm.key (List.mem_singleton.mp hu)) e
    · rintro H2 ⟨s2, kvs, hE, hl, hv⟩
      rw [lk, List.take_length] at hv
      exact q H2 E kvs (s1.trans s2) hE hv
end
end Yj
set_option Elab.async false
set_option linter.all false
set_option maxRecDepth 100000
set_option maxHeartbeats 4000000
set_option pp.maxSteps 1500
namespace Yj
open PySem PySem.Spec PyProof.Rows L2 RZ YjD YjF
theorem putF_ne {g f : Str} {x v : V} {r : List (Str × V)} (h : g ≠ f) : putF f v ((g, x) :: r) = (g, x) :: putF f v r := if_neg h
theorem ifNeE {x y : V} (h : x = y) {A B : Prop} (hb : B) : if (!decide (x = y)) = true then A else B := by
  rw [decide_eq_true h]
  exact iteF hb
theorem catT {H : Hp} {a : Addr} {us ys : List V} {R : V → Hp → Prop} (ha : H a = some (.tup us)) (k : ∀ H1 q, Same H H1 → H1 q = some (.tup (us ++ ys)) → R (.ref q) H1) :
    (ys = [] → R (.ref a) H) ∧ (ys ≠ [] → ∀ p, H p = none → R (.ref p) (upd H p (.tup (us ++ ys)))) := by
  refine ⟨fun e => ?_, fun _ p np => k _ p (same_upd np) upd_same⟩
  refine k H a (Same.refl H) ?_
  rw [e, List.append_nil]
  exact ha
theorem pcat {α β : Type} {R : α → β → Prop} : ∀ {u1 : List α} {l1 : List β} {u2 : List α} {l2 : List β}, Paired R u1 l1 → Paired R u2 l2 → Paired R (u1 ++ u2) (l1 ++ l2)
  | _, _, _, _, .nil, h => h
  | _, _, _, _, .cons a t, h => .cons a (pcat t h)
theorem all_rep (n : Nat) : ((List.replicate n true).all id) = true := by simp
theorem rep_snoc (n : Nat) : ((List.replicate n true).map V.bl) ++ [V.bl true] = (List.replicate (n + 1) true).map V.bl := by
  rw [List.replicate_succ', List.map_append]
  rfl
def spCInit (C : Addr) : Sp := fun vs H Q _ => ∃ Hb p dx A B us ws c, vs = [.ref p, .ref A, .ref B] ∧ Hb p = none ∧ Same Hb H ∧ H p = some (.ins C dx []) ∧ Hb A = some (.tup us) ∧ Paired (AtmAt Hb) us c.1 ∧ Hb B = some (.tup ws) ∧ Paired (TstAt Hb) ws c.2 ∧ GoodC c ∧
  ∀ H', Same Hb H' → ClsAt C H' (.ref p) c → Q .non H'
def spAreCls (C : Addr) : Sp := fun vs H Q _ => ∃ A us, ∃ l : Int, vs = [.ref A, .int l] ∧ H A = some (.tup us) ∧ (∀ v ∈ us, ∃ p dx fs, v = .ref p ∧ H p = some (.ins C dx fs)) ∧ l ≤ (us.length : Nat) ∧ us.length ≤ 3 ∧ ∀ H', Same H H' → Q (.bl true) H'
def spMinds (C : Addr) : Sp := fun vs H Q _ => ∃ A d us cl, vs = [.ref A, .ref d] ∧ H A = some (.tup us) ∧ Paired (ClsAt C H) us cl ∧ (∀ c ∈ cl, GoodC c) ∧ cl.length ≤ 6 ∧ H d = some (.dK []) ∧ ∀ H' v, Same H H' → Q v H'
abbrev qF (A B D : Addr) : List (Str × V) := [("head", .ref A), ("clauses", .ref B), ("unless", .ref D)]
def spQInit (C Cc : Addr) : Sp := fun vs H Q _ => ∃ Hb p dx A B D hs us ws hd cl un, vs = [.ref p, .ref A, .ref B, .ref D] ∧ Hb p = none ∧ Same Hb H ∧ H p = some (.ins C dx []) ∧ Hb A = some (.tup hs) ∧ Paired (TmAt Hb) hs hd ∧ (∀ t ∈ hd, isAny t = true ∧ t ∈ tmL) ∧ hd.length ≤ 4 ∧
  Hb B = some (.tup us) ∧ Paired (ClsAt Cc Hb) us cl ∧ Hb D = some (.tup ws) ∧ Paired (ClsAt Cc Hb) ws un ∧ (∀ c ∈ cl ++ un, GoodC c ∧ ∀ t ∈ hd, t ∈ termsOf c.1) ∧ 1 ≤ cl.length ∧ cl.length ≤ 3 ∧ un.length ≤ 3 ∧ ∀ H', Same Hb H' → H' p = some (.ins C dx (qF A B D)) → Q .non H'
section
variable {P : Program} {w : World} {K : PySem.W.Frag} {mg : Str → Option Value} {base : Heap} {ad : Nat → Addr} {fds : Nat → FuncData} {cs : Nat → Value}
theorem ok_Clause___init__ (T : Txt K mg ad fds cs) : FnOk P w K mg base CX0 5 (ad 55000) (fds 55000) ["self", "atoms", "tests"] (spCInit (ad 55999)) := by
  refine T.F_Clause___init__.ok sc_Clause___init__ (fun vs H Q E h => ?_) (fun cdv A0 outer s H vs Q E hr h => ?_)
  · obtain ⟨Hb, p, dx, A, B, us, ws, c, rfl, _⟩ := h
    rfl
  obtain ⟨Hb, p, dx, A, B, us, ws, c, rfl, nb, sb, hp, hA0, hus0, hB0, hws0, good, q⟩ := h
  obtain ⟨g1, g2, g0, g3, g4, g5⟩ := id good
  refine ⟨_, (pss_cons (ps_if (pt_not (pt_val (pe_call (ok__is_row T) (hr.mono (by decide)) rfl T.g__is_row T.F__is_row.kp (bi__is_row T) .nil pass0 (pa_cons (pv 1) (pa_cons pe_int (pa_cons (pe_glob rfl T.c_MOST_ATOMS T.r_MOST_ATOMS) pa_nil)))))) (pss_one YjE.ps_skip) pss_nil)
      (pss_cons (ps_for PassesOwn.never rfl (pi_tup (pv 1)) (pg_name (i := 3) sc_Clause___init__.nd rfl (by first | exact .inl rfl | exact .inr rfl))
      (pss_one (ps_expr (pe_call (ok__check_atom T) (hr.mono (by decide)) rfl T.g__check_atom T.F__check_atom.kp (bi__check_atom T) .nil pass0 (pa_cons (pv 3) pa_nil)))))
      (pss_cons (ps_if (PW.pt (pw_or (pt_not (pt_val (pe_call (ok__is_row T) (hr.mono (by decide)) rfl T.g__is_row T.F__is_row.kp (bi__is_row T) .nil pass0 (pa_cons (pv 2) (pa_cons pe_int (pa_cons (pe_glob rfl T.c_MOST_TESTS T.r_MOST_TESTS) pa_nil)))))) (pw_or1 (pt_not (pt_val (pe_callB (cr_all rfl) (by rfl) T.z_all (by decide +kernel) (pa_cons (pe_lc (own := [("test", 5)]) rfl sc_Clause___init__.nd (pi_tup (pv 2)) (blkOk_by (N := N_Clause___init__) (sc := defScope s_Clause___init__) (own := [("test", 5)]) (by decide +kernel)) (fun _ _ _ _ _ => by exact (pg_name (i := 5) sc_Clause___init__.nd rfl (.inl rfl))) (fun _ _ _ _ _ => by exact pts_nil) (fun _ _ _ _ _ => by exact (pe_call (ok_is_test (P := P) (w := w) T) (hr.mono (by decide)) rfl T.g_is_test T.F_is_test.kp (bi_is_test T) .nil pass0 (pa_cons (pv 5) pa_nil)))) pa_nil))))))) (pss_one YjE.ps_skip) pss_nil)
      (pss_cons (ps_set (i := 4) sc_Clause___init__.nd rfl (by first | exact .inl rfl | exact .inr rfl) (pe_call (ok_variables_of T) (hr.mono (by decide)) rfl T.g_variables_of T.F_variables_of.kp (bi_variables_of T) .nil pass0 (pa_cons (pv 1) pa_nil)))
      (pss_cons (ps_if (pt_not (pt_val (pe_callB (cr_all rfl) (by rfl) T.z_all (by decide +kernel) (pa_cons (pe_lc2 (own := [("test", 5), ("term", 6)]) (vs1 := [6]) rfl sc_Clause___init__.nd (pi_tup (pv 2)) (blkOk_by (N := N_Clause___init__) (sc := defScope s_Clause___init__) (own := [("test", 5), ("term", 6)]) (by decide +kernel)) (by decide) (fun _ _ _ _ _ => by exact (pg_name (i := 5) sc_Clause___init__.nd rfl (.inl rfl))) (fun _ _ _ _ _ => by exact pts_nil) (fun _ _ _ _ _ => by exact (YjG.pi_tupK (K := K) (pe_slice (YjG.sl_tupK (K := K)) (pv 5) (po_some pe_int) po_none))) (fun _ _ _ _ _ => by exact (pg_name (i := 6) sc_Clause___init__.nd rfl (.inl rfl))) (fun _ _ _ _ _ => by exact (pts_one (pt_val (pe_call (ok__is_variable (P := P) (w := w) T) (hr.mono (by decide)) rfl T.g__is_variable T.F__is_variable.kp (bi__is_variable T) .nil pass0 (pa_cons (pv 6) pa_nil))))) (fun _ _ _ _ _ => by exact (pe_cmp (pc_din (hu_of hr) (pv 6) (pv 4)) rfl))) pa_nil)))) (pss_one YjE.ps_skip) pss_nil)
      (pss_cons (ps_fld (pv 0) (pv 1) rfl)
      (pss_one (ps_fld (pv 0) (pv 2) rfl)))))))), ?_⟩
  have lu := Paired.length hus0
  have lw := Paired.length hws0
  have hA := sb _ _ hA0
  have hB := sb _ _ hB0
  have fb := fixOf sb
  have hus : Paired (AtmAt H) us c.1 := Paired.mapP hus0 fun _ _ z => z.fix fb
  have hws : Paired (TstAt H) ws c.2 := Paired.mapP hws0 fun _ _ z => z.fix fb
  refine ⟨_, rfl, A, us, 1, 3, rfl, hA, by omega, by omega, _, rfl, iteF ?_⟩
  refine ⟨_, rfl, A, rfl, ⟨_, SqT.of hA⟩, for_it (walk_tup (K := K) (xs := us)) (fun i σ H1 => ∃ (y3 : Option V), σ = [some (.ref p), some (.ref A), some (.ref B), y3, none, none, none] ∧ Same H H1) ⟨_, rfl, Same.refl _⟩ (fun i σ H1 _ ⟨_, _, s1⟩ => SqT.of (s1 _ _ hA)) ?_ ?_⟩
  · rintro i x σ H1 H1' hi ⟨y3, rfl, s1⟩ ⟨rfl, hx⟩
    obtain ⟨a, ha, hxa⟩ := pget hus hx
    exact ⟨_, rfl, x, a, rfl, hxa.fix (fixOf s1), g1 a (List.mem_of_getElem? ha), fun H2 s2 => ⟨_, rfl, s1.trans s2⟩⟩
  rintro σ H1 ⟨y3, rfl, s1⟩
  refine ⟨_, rfl, B, ws, 0, 6, rfl, s1 _ _ hB, by omega, by omega, _, rfl, iteF ?_⟩
  refine ⟨_, rfl, B, rfl, ⟨_, SqT.of (s1 _ _ hB)⟩, fun D nD => ?_⟩
  refine lc_tup (xs := ws) (fun i H2 => Same H1 H2 ∧ H2 D = some (.lst ((List.replicate i true).map V.bl))) ⟨same_upd nD, upd_same⟩ (fun i H2 _ h => SqT.of (h.1 _ _ (s1 _ _ hB))) ?_ ?_
  · rintro i x H2 hx ⟨s2, hD⟩
    obtain ⟨a, ha, hxa⟩ := pget hws hx
    have li := (List.getElem?_eq_some_iff.mp hx).1
    refine ⟨rfl, _, rfl, x, a, rfl, hxa.fix (fixOf (s1.trans s2)), goodT_of (g2 a (List.mem_of_getElem? ha)), fun H3 s3 => ⟨_, s3 _ _ hD, ofNat_lt ?_, same_at (s2.trans s3) nD, ?_⟩⟩
    · rw [List.length_map, List.length_replicate]
      omega
    · rw [upd_same, rep_snoc]
  rintro H2 ⟨s2, hD⟩
  refine ⟨D, _, rfl, SqL.of hD, _, rfl, ?_⟩
  rw [all_rep]
  refine iteF ?_
  have s3 := s1.trans s2
  refine ⟨_, rfl, A, us, c.1, rfl, s3 _ _ hA, Paired.mapP hus fun _ _ z => z.fix (fixOf s3), g1, g3, fun H3 V1 kvs s4 hV hv => ?_⟩
  have s5 := s3.trans s4
  have hB3 := s5 _ _ hB
  refine ⟨_, rfl, B, rfl, ⟨_, SqT.of hB3⟩, fun D2 nD2 => ?_⟩
  refine lc2_it (walk_tup (K := K) (a := B) (xs := ws)) (fun i H4 => Same H3 H4 ∧ ∃ k, k ≤ 2 * i ∧ H4 D2 = some (.lst ((List.replicate k true).map V.bl))) ⟨same_upd nD2, 0, Nat.zero_le _, upd_same⟩ (fun i H4 _ z => SqT.of (z.1 _ _ hB3)) ?_ ?_
  · rintro i x H4 H4' hi ⟨s6, k, hk, hD2⟩ ⟨rfl, hx⟩
    obtain ⟨t, ht, a, x1, x2, rfl, ha, hx1, hx2⟩ := pget hws hx
    have gt := g2 t (List.mem_of_getElem? ht)
    have g5t := g5 t (List.mem_of_getElem? ht)
    obtain ⟨_, _, _, m1, m2, _⟩ := ts_len t gt
    have s7 := s5.trans s6
    refine ⟨rfl, ?_⟩
    refine ⟨_, rfl, 1, rfl, a, _, rfl, SqT.of (s7 _ _ ha), (by show ¬ (HT.sIx 3 0 (some 1) = 0 ∧ HT.sIx 3 3 none = 3); decide), fun r nr => ⟨r, rfl, ⟨_, SqT.of upd_same⟩, ?_⟩⟩
    have ec : cutV [V.str t.1, x1, x2] (some 1) none = [x1, x2] := rfl
    rw [ec]
    have s8 := same_upd (o := .tup [x1, x2]) nr
    have hr4 : upd H4' r (.tup [x1, x2]) r = some (.tup [x1, x2]) := upd_same
    have hD4 := s8 _ _ hD2
    have s9 := s6.trans s8
    generalize upd H4' r (.tup [x1, x2]) = H5 at hr4 hD4 s9
    clear s8 nr
    have hit : Paired (TmAt H5) [x1, x2] [t.2.1, t.2.2] := .cons (hx1.fix (fixOf (s5.trans s9))) (.cons (hx2.fix (fixOf (s5.trans s9))) .nil)
    have lw6 : ws.length ≤ 6 := by omega
    refine lc2_in (walk_tup (K := K) (xs := [x1, x2])) (fun j H6 => Same H3 H6 ∧ Fix H5 H6 ∧ ∃ k, k ≤ 2 * i + j ∧ H6 D2 = some (.lst ((List.replicate k true).map V.bl))) ⟨s9, Fix.refl _, k, hk, hD4⟩ (fun j H6 _ z => SqT.of (z.2.1 _ _ hr4 True.intro)) ?_ ?_
    · rintro j x H6 H6' hj ⟨s10, f10, k6, hk6, hD6⟩ ⟨rfl, hx6⟩
      obtain ⟨u, hu, hxu⟩ := pget hit hx6
      have um : u = t.2.1 ∨ u = t.2.2 := by
        have := List.mem_of_getElem? hu
        simpa using this
      have ut : u ∈ tmL := by rcases um with rfl | rfl <;> assumption
      have hxu6 := hxu.fix f10
      refine ⟨rfl, _, rfl, x, u, rfl, hxu6, ut, fun H7 s11 => ⟨_, rfl, ?_⟩⟩
      have s12 := s10.trans s11
      have f12 := f10.trans (fixOf s11)
      have hD7 := s11 _ _ hD6
      cases cv : isVar u with
      | false => exact iteF ⟨s12, f12, k6, by omega, hD7⟩
      | true =>
        obtain ⟨b, rfl, hb⟩ := hxu6.fix (fixOf s11)
        obtain ⟨v, ev⟩ := hv u (g5t u um cv) cv
        have gd := DGet.t (s12 _ _ hV) hb
        rw [ev] at gd
        refine iteT ⟨_, rfl, _, rfl, V1, _, rfl, gd, _, hD7, ofNat_lt ?_, same_at s12 nD2, f12.trans (fix_upd hD7 fun z => z), k6 + 1, by omega, ?_⟩
        · rw [List.length_map, List.length_replicate]
          have : [x1, x2].length = 2 := rfl
          omega
        · rw [upd_same]
          exact congrArg (fun z => some (HO.lst z)) (rep_snoc k6)
    · rintro H6 ⟨s10, f10, k6, hk6, hD6⟩
      exact ⟨s10, k6, by show k6 ≤ 2 * (i + 1); have : [x1, x2].length = 2 := rfl; omega, hD6⟩
  rintro H4 ⟨s6, k, hk, hD2⟩
  refine ⟨D2, _, rfl, SqL.of hD2, _, rfl, ?_⟩
  rw [all_rep]
  refine iteF ?_
  have s7 := s5.trans s6
  have hp4 := s7 _ _ hp
  have sb4 := sb.trans s7
  refine ⟨_, rfl, _, rfl, p, _, dx, _, rfl, hp4, T.cl_Clause, T.na_Clause_atoms, (by decide), ?_⟩
  have e1 : putF "atoms" (.ref A) [] = [(("atoms" : Str), V.ref A)] := rfl
  rw [e1]
  refine ⟨_, rfl, _, rfl, p, _, dx, _, rfl, upd_same, T.cl_Clause, T.na_Clause_tests, (by show 1 < 1000; decide), ?_⟩
  have e2 : putF "tests" (.ref B) [(("atoms" : Str), V.ref A)] = cF A B := by
    rw [putF_ne (by decide +kernel)]
    rfl
  rw [e2]
  have sf := same_at (same_at sb4 nb (o := .ins (ad 55999) dx [(("atoms" : Str), V.ref A)])) nb (o := .ins (ad 55999) dx (cF A B))
  exact q _ sf ⟨p, dx, A, B, us, ws, rfl, upd_same, sf _ _ hA0, Paired.mapP hus0 fun _ _ z => z.fix (fixOf sf), sf _ _ hB0, Paired.mapP hws0 fun _ _ z => z.fix (fixOf sf)⟩
theorem ok__are_clauses (T : Txt K mg ad fds cs) : FnOk P w K mg base CX0 2 (ad 56) (fds 56) ["thing", "least"] (spAreCls (ad 55999)) := by
  refine T.F__are_clauses.ok sc__are_clauses (fun vs H Q E h => ?_) (fun cdv A0 outer s H vs Q E hr h => ?_)
  · obtain ⟨A, us, l, rfl, _⟩ := h
    rfl
  obtain ⟨A, us, l, rfl, hA, hu, h1, h2, q⟩ := h
  refine ⟨_, (pss_one (ps_ret (pe_and (pe_call (ok__is_row T) (hr.mono (by decide)) rfl T.g__is_row T.F__is_row.kp (bi__is_row T) .nil pass0 (pa_cons (pv 0) (pa_cons (pv 1) (pa_cons (pe_glob rfl T.c_MOST_CLAUSES T.r_MOST_CLAUSES) pa_nil)))) (pe_one (pe_callB (cr_all rfl) (by rfl) T.z_all (by decide +kernel) (pa_cons (pe_lc (own := [("clause", 2)]) rfl sc__are_clauses.nd (pi_tup (pv 0)) (blkOk_by (N := N__are_clauses) (sc := defScope s__are_clauses) (own := [("clause", 2)]) (by decide +kernel)) (fun _ _ _ _ _ => by exact (pg_name (i := 2) sc__are_clauses.nd rfl (.inl rfl))) (fun _ _ _ _ _ => by exact pts_nil) (fun _ _ _ _ _ => by exact (pe_callB (YjD.call_isiKK (K := K)) (by rfl) T.z_isinstance (by decide +kernel) (pa_cons (pv 2) (pa_cons (pe_glob (v := V.ref (ad 55999)) rfl T.g_Clause rfl) pa_nil))))) pa_nil)))))), ?_⟩
  refine ⟨_, rfl, _, rfl, A, us, l, 3, rfl, hA, h1, by omega, _, rfl, iteT ?_⟩
  refine ⟨_, rfl, A, rfl, ⟨_, SqT.of hA⟩, fun D nD => ?_⟩
  refine lc_tup (xs := us) (fun i H2 => Same H H2 ∧ H2 D = some (.lst ((List.replicate i true).map V.bl))) ⟨same_upd nD, upd_same⟩ (fun i H2 _ h => SqT.of (h.1 _ _ hA)) ?_ ?_
  · rintro i x H2 hx ⟨s2, hD⟩
    obtain ⟨p, dx, fs, rfl, hp⟩ := hu x (List.mem_of_getElem? hx)
    have li := (List.getElem?_eq_some_iff.mp hx).1
    refine ⟨rfl, _, rfl, _, _, _, _, true, rfl, ClsV.own _, T.is_Clause.ty T.cl_Clause (s2 _ _ hp), T.is_Clause.me, _, hD, ofNat_lt ?_, same_at s2 nD, ?_⟩
    · rw [List.length_map, List.length_replicate]
      omega
    · rw [upd_same, rep_snoc]
  · rintro H2 ⟨s2, hD⟩
    refine ⟨D, _, rfl, SqL.of hD, ?_⟩
    rw [all_rep]
    exact q H2 s2
end
end Yj
set_option Elab.async false
set_option linter.all false
set_option maxRecDepth 100000
set_option maxHeartbeats 4000000
set_option pp.maxSteps 1500
namespace Yj
open PySem PySem.Spec PyProof.Rows L2 RZ YjD YjF
theorem cF_ne {A B : Addr} : (cF A B) = (cF A B) := rfl
section
variable {P : Program} {w : World} {K : PySem.W.Frag} {mg : Str → Option Value} {base : Heap} {ad : Nat → Addr} {fds : Nat → FuncData} {cs : Nat → Value}
theorem ok_minds (T : Txt K mg ad fds cs) : FnOk P w K mg base CX0 1 (ad 57) (fds 57) ["clauses", "told"] (spMinds (ad 55999)) := by
  refine T.F_minds.ok sc_minds (fun vs H Q E h => ?_) (fun cdv A0 outer s H vs Q E hr h => ?_)
  · obtain ⟨A, d, us, cl, rfl, _⟩ := h
    rfl
  obtain ⟨A, d, us, cl, rfl, hA, hus, good, few, hd, q⟩ := h
  refine ⟨_, (pss_cons (ps_lock (YjG.ps_setDc (i := 2) (own := [("relation", 4)]) rfl sc_minds.nd rfl rfl (YjD.sw_dc rfl rfl rfl (by decide +kernel)) (pi_keys (pv 1)) (blkOk_by (N := N_minds) (sc := defScope s_minds) (own := [("relation", 4)]) (by decide +kernel)) (fun _ _ _ _ _ => by exact (pg_name (i := 4) sc_minds.nd rfl (.inl rfl))) (fun _ _ _ _ _ => by exact pts_nil) (fun _ _ _ _ _ => by exact (pv 4)) (fun _ _ _ _ _ => by exact (pe_dget (hu_of hr) (pv 1) (pv 4) (fun _ _ => rfl)))))
      (pss_cons (ps_for PassesOwn.never rfl (pi_tup (pv 0)) (pg_name (i := 3) sc_minds.nd rfl (by first | exact .inl rfl | exact .inr rfl))
      (pss_one (ps_for PassesOwn.never rfl (pi_tup (YjD.pe_fldK (K := K) (pv 3) rfl)) (pg_tup rfl (pgs_cons (pg_name (i := 4) sc_minds.nd rfl (by first | exact .inl rfl | exact .inr rfl)) (pgs_cons (pg_name (i := 5) sc_minds.nd rfl (by first | exact .inl rfl | exact .inr rfl)) (pgs_cons (pg_name (i := 6) sc_minds.nd rfl (by first | exact .inl rfl | exact .inr rfl)) pgs_nil))))
      (pss_one (ps_if (pt_cmpR op_ne (pe_dsetd (pv 2) (pv 4) (pe_callB call_len_seq (by rfl) T.z_len (by decide +kernel) (pa_cons (pv 5) pa_nil)) ⟨rfl, rfl, rfl, rfl⟩) (pe_callB call_len_seq (by rfl) T.z_len (by decide +kernel) (pa_cons (pv 5) pa_nil)) (nomark _)) (pss_one YjE.ps_skip) pss_nil)))))
      (pss_one (ps_ret (pv 2))))), ?_⟩
  have lu := Paired.length hus
  refine ⟨d, .dK [], hd, True.intro, fun od => ⟨_, rfl, d, od, rfl, .inl ⟨[], upd_same, fun D nD => ?_⟩⟩⟩
  have ndD : D ≠ d := fun z => by
    rw [z, upd_same] at nD
    cases nD
  have nD0 : H D = none := by rwa [upd_ne ndD] at nD
  refine dc_it walk_keys (fun i H1 => H1 = upd (upd H d (.frz od (.dK []))) D (.dK [])) rfl (fun i H1 _ e => by rw [e, upd_ne ndD.symm]; exact upd_same) (fun i x H1 H2 hi => absurd hi (Nat.not_lt_zero _)) ?_
  rintro H1 rfl
  refine ⟨(upd_ne ndD.symm).trans upd_same, ?_⟩
  have s1 : Same H (upd (upd (upd H d (.frz od (.dK []))) D (.dK [])) d (.dK [])) := fun b o e => by
    by_cases c : b = d
    · rw [c] at e ⊢
      rw [upd_same, ← hd, e]
    · rw [upd_ne c]
      by_cases c2 : b = D
      · rw [c2, nD0] at e
        cases e
      · rw [upd_ne c2, upd_ne c]
        exact e
  have hD : upd (upd (upd H d (.frz od (.dK []))) D (.dK [])) d (.dK []) D = some (.dK []) := (upd_ne ndD).trans upd_same
  generalize upd (upd (upd H d (.frz od (.dK []))) D (.dK [])) d (.dK []) = H1 at s1 hD
  refine ⟨_, rfl, A, rfl, ⟨_, SqT.of (s1 _ _ hA)⟩, for_it (walk_tup (K := K) (xs := us)) (fun i σ H2 => ∃ (y3 y4 y5 y6 : Option V) (kvs : List (L2.Key × V)), σ = [some (.ref A), some (.ref d), some (.ref D), y3, y4, y5, y6] ∧ Same H H2 ∧ H2 D = some (.dK kvs) ∧ kvs.length ≤ 3 * i ∧ ∀ r v, valV kvs (Sum.inr r) = some v → v = .int (ar r : Nat)) ⟨_, _, _, _, [], rfl, s1, hD, Nat.zero_le _, fun r v h => nomatch h⟩ (fun i σ H2 _ ⟨_, _, _, _, _, _, s2, _⟩ => SqT.of (s2 _ _ hA)) ?_ ?_⟩
  · rintro i x σ H2 H2' hi ⟨y3, y4, y5, y6, kvs, rfl, s2, hD2, lk, hv⟩ ⟨rfl, hx⟩
    obtain ⟨c, hc, p, dx, B1, B2, as, ts, rfl, hp, hB1, has, hB2, hts⟩ := pget hus hx
    obtain ⟨g1, g2, g0, g3, g4, g5⟩ := good c (List.mem_of_getElem? hc)
    have la := Paired.length has
    have i6 : i < 6 := by omega
    refine ⟨_, rfl, p, _, dx, _, _, rfl, s2 _ _ hp, T.cl_Clause, T.na_Clause_atoms, c_atoms, B1, rfl, ⟨_, SqT.of (s2 _ _ hB1)⟩, ?_⟩
    refine for_it (walk_tup (K := K) (xs := as)) (fun j σ H3 => ∃ (y4 y5 y6 : Option V) (kvs : List (L2.Key × V)), σ = [some (.ref A), some (.ref d), some (.ref D), some (.ref p), y4, y5, y6] ∧ Same H H3 ∧ H3 D = some (.dK kvs) ∧ kvs.length ≤ 3 * i + j ∧ ∀ r v, valV kvs (Sum.inr r) = some v → v = .int (ar r : Nat)) ⟨_, _, _, kvs, rfl, s2, hD2, lk, hv⟩ (fun j σ H3 _ ⟨_, _, _, _, _, s3, _⟩ => SqT.of (s3 _ _ hB1)) ?_ ?_
    · rintro j x σ H3 H3' hj ⟨y4, y5, y6, kvs3, rfl, s3, hD3, lk3, hv3⟩ ⟨rfl, hx3⟩
      obtain ⟨a, ha, pa, n, y, vs, rfl, hpa, hn, hvs, hy⟩ := pget has hx3
      have ga := g1 a (List.mem_of_getElem? ha)
      have ea := at_ar a ga
      have lv := Paired.length hvs
      refine ⟨pa, _, rfl, SqT.of (s3 _ _ hpa), rfl, _, _, rfl, _, _, rfl, _, _, rfl, rfl, ?_⟩
      have hn3 := s3 _ _ hn
      refine ⟨_, rfl, D, rfl, .inl ⟨kvs3, .inl hD3⟩, _, rfl, _, rfl, n, vs, rfl, .inr (SqT.of hn3), kvs3, Sum.inr a.1, hD3, rfl, ofNat_lt (by omega), fun v ev => ?_, fun en => ?_⟩
      · have e := hv3 _ _ ev
        subst e
        refine ⟨_, rfl, n, vs, rfl, .inr (SqT.of hn3), rfl, _, rfl, ?_⟩
        refine ifNeE (by rw [lv, ea]) ⟨_, _, _, kvs3, rfl, s3, hD3, by omega, hv3⟩
      · have s4 := same_at (o := .dK (putK kvs3 (Sum.inr a.1 : L2.Key) (.int (vs.length : Nat)))) s3 nD0
        refine ⟨_, rfl, n, vs, rfl, .inr (SqT.of (s4 _ _ hn)), rfl, _, rfl, ?_⟩
        refine ifNeE rfl ⟨_, _, _, _, rfl, s4, upd_same, ?_, fun r v ev => ?_⟩
        · have := length_putK kvs3 (Sum.inr a.1 : L2.Key) (.int (vs.length : Nat))
          omega
        · rw [valV_put] at ev
          by_cases e : (Sum.inr r : L2.Key) = Sum.inr a.1
          · rw [if_pos e] at ev
            rw [← Option.some.inj ev, Sum.inr.inj e, lv, ea]
          · rw [if_neg e] at ev
            exact hv3 r v ev
    · rintro σ H3 ⟨y4, y5, y6, kvs3, rfl, s3, hD3, lk3, hv3⟩
      exact ⟨_, _, _, _, kvs3, rfl, s3, hD3, by omega, hv3⟩
  · rintro σ H2 ⟨y3, y4, y5, y6, kvs, rfl, s2, hD2, lk, hv⟩
    exact ⟨_, rfl, q H2 _ s2⟩
end
end Yj
set_option Elab.async false
set_option linter.all false
set_option maxRecDepth 100000
set_option maxHeartbeats 4000000
set_option pp.maxSteps 1500
namespace Yj
open PySem PySem.Spec PyProof.Rows L2 RZ YjD YjF
theorem ClsAt.ins {C : Addr} {H : Hp} {v : V} {c : Cls} (h : ClsAt C H v c) : ∃ p dx fs, v = .ref p ∧ H p = some (.ins C dx fs) := by
  obtain ⟨p, dx, A, B, us, ws, e, h1, _⟩ := h
  exact ⟨p, dx, _, e, h1⟩
theorem pin {α β : Type} {R : α → β → Prop} {us : List α} {l : List β} (h : Paired R us l) {v : α} (m : v ∈ us) : ∃ x ∈ l, R v x := by
  obtain ⟨i, hi⟩ := List.mem_iff_getElem?.mp m
  obtain ⟨x, hx, r⟩ := pget h hi
  exact ⟨x, List.mem_of_getElem? hx, r⟩
section
variable {P : Program} {w : World} {K : PySem.W.Frag} {mg : Str → Option Value} {base : Heap} {ad : Nat → Addr} {fds : Nat → FuncData} {cs : Nat → Value}
theorem ok_Question___init__ (T : Txt K mg ad fds cs) : FnOk P w K mg base CX0 5 (ad 59000) (fds 59000) ["self", "head", "clauses", "unless"] (spQInit (ad 59999) (ad 55999)) := by
  refine T.F_Question___init__.ok sc_Question___init__ (fun vs H Q E h => ?_) (fun cdv A0 outer s H vs Q E hr h => ?_)
  · obtain ⟨Hb, p, dx, A, B, D, hs, us, ws, hd, cl, un, rfl, _⟩ := h
    rfl
  obtain ⟨Hb, p, dx, A, B, D, hs, us, ws, hd, cl, un, rfl, nb, sb, hp, hA0, hhs0, hdA, hd4, hB0, hus0, hD0, hws0, good, k1, k2, k3, q⟩ := h
  refine ⟨_, (pss_cons (ps_if (PW.pt (pw_or (pt_not (pt_val (pe_call (ok__is_row T) (hr.mono (by decide)) rfl T.g__is_row T.F__is_row.kp (bi__is_row T) .nil pass0 (pa_cons (pv 1) (pa_cons pe_int (pa_cons (pe_glob rfl T.c_LONGEST_HEAD T.r_LONGEST_HEAD) pa_nil)))))) (pw_or1 (pt_not (pt_val (pe_callB (cr_all rfl) (by rfl) T.z_all (by decide +kernel) (pa_cons (pe_lc (own := [("term", 6)]) rfl sc_Question___init__.nd (pi_tup (pv 1)) (blkOk_by (N := N_Question___init__) (sc := defScope s_Question___init__) (own := [("term", 6)]) (by decide +kernel)) (fun _ _ _ _ _ => by exact (pg_name (i := 6) sc_Question___init__.nd rfl (.inl rfl))) (fun _ _ _ _ _ => by exact pts_nil) (fun _ _ _ _ _ => by exact (pe_call (ok_is_variable_name (P := P) (w := w) T) (hr.mono (by decide)) rfl T.g_is_variable_name T.F_is_variable_name.kp (bi_is_variable_name T) .nil pass0 (pa_cons (pv 6) pa_nil)))) pa_nil))))))) (pss_one YjE.ps_skip) pss_nil)
      (pss_cons (ps_if (pt_not (pt_val (pe_call (ok__are_clauses T) (hr.mono (by decide)) rfl T.g__are_clauses T.F__are_clauses.kp (bi__are_clauses T) .nil pass0 (pa_cons (pv 2) (pa_cons pe_int pa_nil))))) (pss_one YjE.ps_skip) pss_nil)
      (pss_cons (ps_if (pt_not (pt_val (pe_call (ok__are_clauses T) (hr.mono (by decide)) rfl T.g__are_clauses T.F__are_clauses.kp (bi__are_clauses T) .nil pass0 (pa_cons (pv 3) (pa_cons pe_int pa_nil))))) (pss_one YjE.ps_skip) pss_nil)
      (pss_cons (ps_for PassesOwn.never rfl (pi_tup (pe_op YjG.op_catT2 (pv 2) (pv 3))) (pg_name (i := 4) sc_Question___init__.nd rfl (by first | exact .inl rfl | exact .inr rfl))
      (pss_cons (ps_set (i := 5) sc_Question___init__.nd rfl (by first | exact .inl rfl | exact .inr rfl) (pe_call (ok_variables_of T) (hr.mono (by decide)) rfl T.g_variables_of T.F_variables_of.kp (bi_variables_of T) .nil pass0 (pa_cons (YjD.pe_fldK (K := K) (pv 4) rfl) pa_nil)))
      (pss_one (ps_if (pt_not (pt_val (pe_callB (cr_all rfl) (by rfl) T.z_all (by decide +kernel) (pa_cons (pe_lc (own := [("term", 6)]) rfl sc_Question___init__.nd (pi_tup (pv 1)) (blkOk_by (N := N_Question___init__) (sc := defScope s_Question___init__) (own := [("term", 6)]) (by decide +kernel)) (fun _ _ _ _ _ => by exact (pg_name (i := 6) sc_Question___init__.nd rfl (.inl rfl))) (fun _ _ _ _ _ => by exact pts_nil) (fun _ _ _ _ _ => by exact (pe_cmp (pc_din (hu_of hr) (pv 6) (pv 5)) rfl))) pa_nil)))) (pss_one YjE.ps_skip) pss_nil))))
      (pss_cons (ps_expr (pe_call (ok_minds T) (hr.mono (by decide)) rfl T.g_minds T.F_minds.kp (bi_minds T) .nil pass0 (pa_cons (pe_op YjG.op_catT2 (pv 2) (pv 3)) (pa_cons pe_dnewK pa_nil))))
      (pss_cons (ps_fld (pv 0) (pv 1) rfl)
      (pss_cons (ps_fld (pv 0) (pv 2) rfl)
      (pss_one (ps_fld (pv 0) (pv 3) rfl))))))))), ?_⟩
  have lh := Paired.length hhs0
  have lu := Paired.length hus0
  have lw := Paired.length hws0
  have fb := fixOf sb
  have hA := sb _ _ hA0
  have hB := sb _ _ hB0
  have hD := sb _ _ hD0
  have hhs : Paired (TmAt H) hs hd := Paired.mapP hhs0 fun _ _ z => z.fix fb
  have hus : Paired (ClsAt (ad 55999) H) us cl := Paired.mapP hus0 fun _ _ z => z.fix fb
  have hws : Paired (ClsAt (ad 55999) H) ws un := Paired.mapP hws0 fun _ _ z => z.fix fb
  have hall := pcat hus hws
  have une : us ≠ [] := fun z => by
    rw [z] at lu
    have : ([] : List V).length = 0 := rfl
    omega
  refine ⟨_, rfl, A, hs, 0, 4, rfl, hA, by omega, by omega, _, rfl, iteF ?_⟩
  refine ⟨_, rfl, A, rfl, ⟨_, SqT.of hA⟩, fun L nL => ?_⟩
  refine lc_tup (xs := hs) (fun i H2 => Same H H2 ∧ H2 L = some (.lst ((List.replicate i true).map V.bl))) ⟨same_upd nL, upd_same⟩ (fun i H2 _ h => SqT.of (h.1 _ _ hA)) ?_ ?_
  · rintro i x H2 hx ⟨s2, hL⟩
    obtain ⟨t, ht, hxt⟩ := pget hhs hx
    have tm := List.mem_of_getElem? ht
    have li := (List.getElem?_eq_some_iff.mp hx).1
    refine ⟨rfl, _, rfl, x, t, rfl, hxt.fix (fixOf s2), (hdA t tm).2, fun H3 s3 => ⟨_, s3 _ _ hL, ofNat_lt ?_, same_at (s2.trans s3) nL, ?_⟩⟩
    · rw [List.length_map, List.length_replicate]
      omega
    · rw [upd_same, (hdA t tm).1, rep_snoc]
  rintro H1 ⟨s1, hL⟩
  refine ⟨L, _, rfl, SqL.of hL, _, rfl, ?_⟩
  rw [all_rep]
  refine iteF ?_
  refine ⟨_, rfl, B, us, 1, rfl, s1 _ _ hB, fun v hv => ?_, by omega, by omega, fun H2 s2 => ⟨_, rfl, iteF ?_⟩⟩
  · obtain ⟨c, _, hc⟩ := pin hus hv
    exact (hc.fix (fixOf s1)).ins
  have s3 := s1.trans s2
  refine ⟨_, rfl, D, ws, 0, rfl, s3 _ _ hD, fun v hv => ?_, by omega, by omega, fun H3 s4 => ⟨_, rfl, iteF ?_⟩⟩
  · obtain ⟨c, _, hc⟩ := pin hws hv
    exact (hc.fix (fixOf s3)).ins
  have s5 := s3.trans s4
  refine ⟨_, rfl, _, rfl, B, D, us, ws, rfl, rfl, s5 _ _ hB, s5 _ _ hD, une, ofNat_le (by omega), fun H4 C4 s6 hC4 => ?_⟩
  have s7 : Same H H4 := s5.trans s6
  have f7 := fixOf s7
  refine ⟨C4, rfl, ⟨_, SqT.of hC4⟩, for_it (walk_tup (K := K) (xs := us ++ ws)) (fun i σ H5 => ∃ (y4 y5 y6 : Option V), σ = [some (.ref p), some (.ref A), some (.ref B), some (.ref D), y4, y5, y6] ∧ Same H H5 ∧ Same H4 H5) ⟨_, _, _, rfl, s7, Same.refl _⟩ (fun i σ H5 _ ⟨_, _, _, _, _, s8⟩ => SqT.of (s8 _ _ hC4)) ?_ ?_⟩
  · rintro i x σ H5 H5' hi ⟨y4, y5, y6, rfl, s8, s9⟩ ⟨rfl, hx⟩
    obtain ⟨c, hc, pc, dxc, B1, B2, as, ts, rfl, hpc, hB1, has, hB2, hts⟩ := pget hall hx
    obtain ⟨⟨g1, g2, g0, g3, g4, g5⟩, gh⟩ := good c (List.mem_of_getElem? hc)
    refine ⟨_, rfl, pc, _, dxc, _, _, rfl, s8 _ _ hpc, T.cl_Clause, T.na_Clause_atoms, c_atoms, B1, as, c.1, rfl, s8 _ _ hB1, Paired.mapP has fun _ _ z => z.fix (fixOf s8), g1, g3, fun H6 V1 kvs s10 hV hv => ?_⟩
    have s11 := s8.trans s10
    refine ⟨_, rfl, A, rfl, ⟨_, SqT.of (s11 _ _ hA)⟩, fun L2 nL2 => ?_⟩
    refine lc_tup (xs := hs) (fun i H7 => Same H6 H7 ∧ H7 L2 = some (.lst ((List.replicate i true).map V.bl))) ⟨same_upd nL2, upd_same⟩ (fun i H7 _ h => SqT.of (h.1 _ _ (s11 _ _ hA))) ?_ ?_
    · rintro i x H7 hx ⟨s12, hL⟩
      obtain ⟨t, ht, hxt⟩ := pget hhs hx
      have tm := List.mem_of_getElem? ht
      have li := (List.getElem?_eq_some_iff.mp hx).1
      obtain ⟨b, rfl, hb⟩ := hxt.fix (fixOf (s11.trans s12))
      obtain ⟨v, ev⟩ := hv t (gh t tm) (by unfold isVar; rw [(hdA t tm).1]; rfl)
      have gd := DGet.t (s12 _ _ hV) hb
      rw [ev] at gd
      refine ⟨rfl, _, rfl, _, rfl, V1, _, rfl, gd, _, hL, ofNat_lt ?_, same_at s12 nL2, ?_⟩
      · rw [List.length_map, List.length_replicate]
        omega
      · rw [upd_same]
        exact congrArg (fun z => some (HO.lst z)) (rep_snoc i)
    · rintro H7 ⟨s12, hL⟩
      refine ⟨L2, _, rfl, SqL.of hL, _, rfl, ?_⟩
      rw [all_rep]
      exact iteF ⟨_, _, _, rfl, s11.trans s12, s9.trans (s10.trans s12)⟩
  rintro σ H5 ⟨y4, y5, y6, rfl, s8, s9⟩
  refine ⟨_, rfl, _, rfl, B, D, us, ws, rfl, rfl, s8 _ _ hB, s8 _ _ hD, une, ofNat_le (by omega), fun H6 C6 s10 hC6 => fun d nd => ?_⟩
  have s11 : Same H H6 := s8.trans s10
  have s12 := s11.trans (same_upd (o := .dK []) nd)
  have hC7 := same_upd (o := .dK []) nd _ _ hC6
  refine ⟨C6, d, us ++ ws, cl ++ un, rfl, hC7, Paired.mapP hall fun _ _ z => z.fix (fixOf s12), fun c hc => (good c hc).1, ?_, upd_same, fun H7 v s13 => ?_⟩
  · rw [List.length_append]
    omega
  have s14 := s12.trans s13
  have hp7 := s14 _ _ hp
  have sb7 := sb.trans s14
  refine ⟨_, rfl, _, rfl, p, _, dx, _, rfl, hp7, T.cl_Question, T.na_Question_head, (by decide), ?_⟩
  have e1 : putF "head" (.ref A) [] = [(("head" : Str), V.ref A)] := rfl
  rw [e1]
  refine ⟨_, rfl, _, rfl, p, _, dx, _, rfl, upd_same, T.cl_Question, T.na_Question_clauses, (by show 1 < 1000; decide), ?_⟩
  have e2 : putF "clauses" (.ref B) [(("head" : Str), V.ref A)] = [(("head" : Str), V.ref A), (("clauses" : Str), V.ref B)] := by
    rw [putF_ne (by decide +kernel)]
    rfl
  rw [e2]
  refine ⟨_, rfl, _, rfl, p, _, dx, _, rfl, upd_same, T.cl_Question, T.na_Question_unless, (by show 2 < 1000; decide), ?_⟩
  have e3 : putF "unless" (.ref D) [(("head" : Str), V.ref A), (("clauses" : Str), V.ref B)] = qF A B D := by
    rw [putF_ne (by decide +kernel), putF_ne (by decide +kernel)]
    rfl
  rw [e3]
  exact q _ (same_at (same_at (same_at sb7 nb) nb) nb) upd_same
end
end Yj
set_option Elab.async false
set_option linter.all false
set_option maxRecDepth 100000
set_option maxHeartbeats 4000000
set_option pp.maxSteps 1500
namespace Yj
open PySem PySem.Spec PyProof.Rows L2 RZ
/-! ### the law's draws -/
theorem ints_lay : ∀ ns : List Int, PyData.canLayAll0 (ns.map PyData.int) = true ∧ PyData.depthAll (ns.map PyData.int) = 0
  | [] => ⟨rfl, rfl⟩
  | n :: r => by
    obtain ⟨h1, h2⟩ := ints_lay r
    refine ⟨?_, ?_⟩
    · show (true && PyData.canLayAll0 (r.map PyData.int)) = true
      rw [h1]
      rfl
    · show max 0 (PyData.depthAll (r.map PyData.int)) = 0
      rw [h2]
      rfl
theorem ints_shaped (ns : List Int) : SeqAt.shaped (.list (ns.map PyData.int)) = true := (shaped_of (n := 0) (ints_lay ns).1 (Nat.le_of_eq (ints_lay ns).2) (by decide)).2
theorem ints_dp {K : PySem.W.Frag} {H : Hp} : ∀ ns : List Int, DpAll K H (ns.map V.int) (ns.map PyData.int)
  | [] => .nil
  | n :: r => .cons (.int n) (ints_dp r)
/-- all but what is at d is as it was -/
def Keep (d : Addr) (H H' : Hp) : Prop := ∀ b o, b ≠ d → H b = some o → H' b = some o
theorem Keep.trans {d : Addr} {H H1 H2 : Hp} (a : Keep d H H1) (b : Keep d H1 H2) : Keep d H H2 := fun c o n h => b c o n (a c o n h)
theorem keepOf {d : Addr} {H H' : Hp} (s : Same H H') : Keep d H H' := fun b o _ h => s b o h
theorem Keep.refl (d : Addr) (H : Hp) : Keep d H H := fun _ _ _ h => h
/-- the draw at d over the script at a -/
def Draw (K : PySem.W.Frag) (H : Hp) (d a : Addr) (ns : List Int) : Prop := (∃ c, H d = some (.lst [.ref a, .int c])) ∧ SqL K H a (ns.map V.int) ∧ ns.length ≤ 63
theorem Draw.script {K : PySem.W.Frag} {H H' : Hp} {d a : Addr} {ns : List Int} (h : Draw K H d a ns) (k : Keep d H H') : SqL K H' a (ns.map V.int) := by
  obtain ⟨⟨c, hd⟩, hs, _⟩ := h
  rcases hs with (h | ⟨o, h⟩) | h
  · by_cases e : a = d
    · rw [e, hd] at h
      exfalso
      have z := HO.lst.inj (Option.some.inj h)
      cases ns with
      | nil => cases z
      | cons n r => exact nomatch (List.cons.inj z).1
    · exact .inl (.inl (k _ _ e h))
  · by_cases e : a = d
    · rw [e, hd] at h
      cases h
    · exact .inl (.inr ⟨o, k _ _ e h⟩)
  · exact .inr h
theorem Draw.keep {K : PySem.W.Frag} {H H' : Hp} {d a : Addr} {ns : List Int} {c : Int} (h : Draw K H d a ns) (k : Keep d H H') (e : H' d = some (.lst [.ref a, .int c])) : Draw K H' d a ns := ⟨⟨c, e⟩, h.script k, h.2.2⟩
theorem Draw.same {K : PySem.W.Frag} {H H' : Hp} {d a : Addr} {ns : List Int} (h : Draw K H d a ns) (s : Same H H') : Draw K H' d a ns := by
  obtain ⟨c, e⟩ := h.1
  exact h.keep (keepOf s) (s _ _ e)
theorem Pr.keep {H H' : Hp} {d : Addr} {v : V} {p : Int × Int} {ys : List V} (hd : H d = some (.lst ys)) (k : Keep d H H') (h : Pr H v p) : Pr H' v p := by
  obtain ⟨t, e, h⟩ := h
  refine ⟨t, e, k _ _ (fun z => ?_) h⟩
  rw [z, hd] at h
  cases h
theorem Prs.keep {H H' : Hp} {d : Addr} {ys : List V} (hd : H d = some (.lst ys)) (k : Keep d H H') : ∀ {vs : List V} {l : Sps}, Prs H vs l → Prs H' vs l
  | _, _, .nil => .nil
  | _, _, .cons h t => .cons (h.keep hd k) (t.keep hd k)
/-- behind a draw -/
def Drawn' (K : PySem.W.Frag) (H H' : Hp) (d a : Addr) (ns : List Int) : Prop := Draw K H' d a ns ∧ Keep d H H'
theorem fmod_at {ns : List Int} (c : Int) (h : ns ≠ []) : ∃ n : Int, ∃ k : Nat, c.fmod ((ns.map V.int).length : Nat) = (k : Int) ∧ ns[k]? = some n := by
  have h0 : 0 < ns.length := List.length_pos_iff.mpr h
  have e0 : c.fmod ((ns.length : Nat) : Int) = c % ((ns.length : Nat) : Int) := Int.fmod_eq_emod_of_nonneg _ (by omega)
  have h1 : 0 ≤ c % ((ns.length : Nat) : Int) := Int.emod_nonneg _ (by omega)
  have h2 : c % ((ns.length : Nat) : Int) < (ns.length : Nat) := Int.emod_lt_of_pos _ (by omega)
  refine ⟨ns[(c % ((ns.length : Nat) : Int)).toNat]'(by omega), (c % ((ns.length : Nat) : Int)).toNat, ?_, List.getElem?_eq_getElem _⟩
  rw [List.length_map, e0]
  omega
theorem nzA : (2147483647 : Int) ≠ 0 := by decide
theorem nzB : (2147483629 : Int) ≠ 0 := by decide
theorem nzC : (2147483587 : Int) ≠ 0 := by decide
theorem nzE : (10 : Int) ^ (18 : Int).toNat ≠ 0 := by decide
end Yj
set_option Elab.async false
set_option linter.all false
set_option maxRecDepth 100000
set_option maxHeartbeats 4000000
set_option pp.maxSteps 1500
namespace Yj
open PySem PySem.Spec PyProof.Rows L2 RZ YjD YjF
/-! ### draws -/
section
variable {P : Program} {w : World} {K : PySem.W.Frag} {mg : Str → Option Value} {base : Heap} {ad : Nat → Addr} {fds : Nat → FuncData} {cs : Nat → Value}
def spTake (K : PySem.W.Frag) : Sp := fun vs H Q _ => ∃ (d a : Addr) (ns : List Int) (m : Int), vs = [.ref d, .int m] ∧ Draw K H d a ns ∧ 0 < m ∧ ∀ r H', 0 ≤ r → r < m → Drawn' K H H' d a ns → Q (.int r) H'
theorem ok__law_take (T : Txt K mg ad fds cs) : FnOk P w K mg base CX0 2 (ad 60) (fds 60) ["draw", "many"] (spTake K) := by
  refine T.F__law_take.ok sc__law_take (fun vs H Q E h => ?_) (fun cdv A outer s H vs Q E hr h => ?_)
  · obtain ⟨d, a, ns, m, rfl, _⟩ := h
    rfl
  obtain ⟨d, a, ns, m, rfl, hD, hm, q⟩ := h
  refine ⟨_, (C8.pss_cut (ps_set (i := 2) sc__law_take.nd rfl (by first | exact .inl rfl | exact .inr rfl) (pe_ifExp (pt_cmpR (op_neD hr.units) (pe_ix ix_seq (pv 0) pe_int (fun _ _ => rfl)) (pe_lst pa_nil) (nomark _)) (pe_ix ix_seq (pe_ix ix_seq (pv 0) pe_int (fun _ _ => rfl)) (pe_op op_modN (pe_ix ix_seq (pv 0) pe_int (fun _ _ => rfl)) (pe_callB call_len_seq (by rfl) T.z_len (by decide +kernel) (pa_cons (pe_ix ix_seq (pv 0) pe_int (fun _ _ => rfl)) pa_nil))) (fun _ _ => rfl)) pe_int))
      (pss_cons (ps_set (i := 3) sc__law_take.nd rfl (by first | exact .inl rfl | exact .inr rfl) (pe_op op_fdiv (pe_ix ix_seq (pv 0) pe_int (fun _ _ => rfl)) (pe_callB (cr_max rfl) (by rfl) T.z_max (by decide +kernel) (pa_cons (pe_lst (pa_cons pe_int (pa_cons (pe_callB call_len_seq (by rfl) T.z_len (by decide +kernel) (pa_cons (pe_ix ix_seq (pv 0) pe_int (fun _ _ => rfl)) pa_nil)) pa_nil))) pa_nil))))
      (pss_cons (ps_augS (pv 0) pe_int pget_list pe_int ip_add set_list)
      (pss_cons (ps_if (pt_cmpR op_ge (pv 2) (pe_op op_pow pe_int pe_int) (nomark _)) (pss_cons (ps_for PassesOwn.never rfl (pi_range1 (by rfl) T.z_range (pa_cons (pe_op op_modN (pv 3) pe_int) pa_nil)) (pg_name (i := 4) sc__law_take.nd rfl (by first | exact .inl rfl | exact .inr rfl))
      (pss_one (ps_set (i := 2) sc__law_take.nd rfl (by first | exact .inl rfl | exact .inr rfl) (pe_op op_fdiv (pv 2) pe_int))))
      (pss_one (ps_ret (pe_op op_modN (pe_op op_modN (pe_callTy call_int1 (by rfl) T.z_int (by decide +kernel) (pa_cons (pv 2) pa_nil)) pe_int) (pv 1))))) pss_nil)
      (pss_cons (ps_set (i := 5) sc__law_take.nd rfl (by first | exact .inl rfl | exact .inr rfl) (pe_op op_modN (pe_op op_mul (pe_op op_add (pe_op op_add (pe_op op_modN (pe_callTy call_int1 (by rfl) T.z_int (by decide +kernel) (pa_cons (pe_op op_add (pv 2) (pe_op op_mul pe_int (pv 3))) pa_nil)) pe_int) (pe_op op_mul pe_int (pe_ix ix_seq (pv 0) pe_int (fun _ _ => rfl)))) pe_int) pe_int) pe_int))
      (pss_one (ps_ret (pe_op op_modN (pe_callTy call_int1 (by rfl) T.z_int (by decide +kernel) (pa_cons (pe_op op_modN (pe_op op_mul (pv 5) pe_int) pe_int) pa_nil)) (pv 1))))))))), ?_⟩
  obtain ⟨c, hd⟩ := hD.1
  refine ⟨fun σ H1 => ∃ n : Int, σ = [some (.ref d), some (.int m), some (.int n), none, none, none] ∧ Same H H1, ?_, ?_⟩
  · refine ⟨_, rfl, .inl ⟨d, _, 0, .ref a, rfl, rfl, SqL.of hd, atI_nat (j := 0) rfl, Nat.zero_le _, fun L nL => ?_⟩⟩
    have s1 := same_upd (o := .lst []) nL
    have hD1 := hD.same s1
    have hd1 := s1 _ _ hd
    refine ⟨.list (ns.map PyData.int), .list [], .lst hD1.2.1 (ints_dp ns), .lst (SqL.of upd_same) .nil, ints_shaped ns, by decide +kernel, _, rfl, ?_⟩
    cases ns with
    | nil => exact iteF ⟨7, rfl, s1⟩
    | cons n0 r =>
      obtain ⟨n, k, ek, en⟩ := fmod_at (ns := n0 :: r) c (by simp)
      refine iteT ⟨_, rfl, .inl ⟨d, _, 0, .ref a, rfl, rfl, SqL.of hd1, atI_nat (j := 0) rfl, _, rfl, .inl ⟨d, _, 1, .int c, rfl, rfl, SqL.of hd1, atI_nat (j := 1) rfl, _, rfl, .inl ⟨d, _, 0, .ref a, rfl, rfl, SqL.of hd1, atI_nat (j := 0) rfl, a, _, rfl, .inl hD1.2.1, _, _, rfl, rfl, ?_, .inl ⟨a, _, _, .int n, rfl, rfl, hD1.2.1, ?_, n, rfl, s1⟩⟩⟩⟩⟩
      · rw [List.length_map, List.length_cons]
        omega
      · rw [ek]
        exact atI_nat (by rw [List.getElem?_map, en]; rfl)
  rintro σ H1 ⟨n, rfl, s1⟩
  have hD1 := hD.same s1
  have hd1 := s1 _ _ hd
  have hl : ns.length ≤ 63 := hD.2.2
  refine ⟨_, rfl, .inl ⟨d, _, 1, .int c, rfl, rfl, SqL.of hd1, atI_nat (j := 1) rfl, _, rfl, .inl ⟨d, _, 0, .ref a, rfl, rfl, SqL.of hd1, atI_nat (j := 0) rfl, a, _, rfl, .inl hD1.2.1, (by show 2 ≤ sizeLine; decide), fun L nL => ⟨L, [1, ((ns.map V.int).length : Nat)], rfl, SqL.of upd_same, Nat.succ_pos _, fun mx m1 m2 => ?_⟩⟩⟩⟩
  have mlo : 1 ≤ mx := m2 1 (List.mem_cons_self ..)
  have mhi : mx ≤ 63 := by
    rcases List.mem_cons.mp m1 with e | e
    · omega
    · have e2 := List.mem_singleton.mp e
      rw [List.length_map] at e2
      omega
  refine ⟨_, _, rfl, rfl, ⟨by omega, by omega⟩, ?_⟩
  have s2 := s1.trans (same_upd (o := .lst [V.int 1, V.int ((ns.map V.int).length : Nat)]) nL)
  have hD2 := hD.same s2
  have hd2 := s2 _ _ hd
  have e0 : HO.lst ([1, (((ns.map V.int).length : Nat) : Int)].map V.int) = HO.lst [V.int 1, V.int ((ns.map V.int).length : Nat)] := rfl
  have turn0 : ∃ turn, c / mx = turn := ⟨_, rfl⟩
  generalize upd H1 L _ = H2 at s2 hD2 hd2
  refine ⟨_, rfl, d, _, 1, .int c, rfl, rfl, SqL.of hd2, rfl, c, 1, rfl, rfl, d, _, 1, 1, rfl, rfl, hd2, rfl, ?_⟩
  have es : (HO.lst ([V.ref a, V.int c].set 1 (V.int ((fun i j => i + j) c 1)))) = HO.lst [V.ref a, V.int (c + 1)] := rfl
  rw [es]
  have k1 : Keep d H2 (upd H2 d (.lst [.ref a, .int (c + 1)])) := fun b o n e => (upd_ne n).trans e
  have hD3 : Draw K (upd H2 d (.lst [.ref a, .int (c + 1)])) d a ns := hD2.keep k1 upd_same
  have dr : Drawn' K H (upd H2 d (.lst [.ref a, .int (c + 1)])) d a ns := ⟨hD3, (keepOf s2).trans k1⟩
  have hd3 : upd H2 d (.lst [.ref a, .int (c + 1)]) d = some (.lst [.ref a, .int (c + 1)]) := upd_same
  generalize upd H2 d (.lst [.ref a, .int (c + 1)]) = H3 at hD3 dr hd3
  have fin : ∀ x : Int, Q (.int (x.fmod m)) H3 := fun x => by
    have e0 : x.fmod m = x % m := Int.fmod_eq_emod_of_nonneg _ (by omega)
    rw [e0]
    exact q _ H3 (Int.emod_nonneg _ (by omega)) (Int.emod_lt_of_pos _ hm) dr
  refine ⟨_, rfl, 10, 18, rfl, rfl, ⟨by decide, by decide, by decide⟩, _, _, rfl, rfl, _, rfl, ?_⟩
  by_cases big : (10 : Int) ^ (18 : Int).toNat ≤ n
  · refine ifT big ⟨_, rfl, _, _, rfl, rfl, (by decide : (40 : Int) ≠ 0), (c / mx).fmod 40, rfl, ?_, ?_, ?_⟩
    · have e0 : (c / mx).fmod 40 = (c / mx) % 40 := Int.fmod_eq_emod_of_nonneg _ (by omega)
      rw [e0]
      omega
    · have e0 : (c / mx).fmod 40 = (c / mx) % 40 := Int.fmod_eq_emod_of_nonneg _ (by omega)
      rw [e0]
      omega
    refine for_it walk_range (fun i σ H4 => ∃ (x : Int) (y4 : Option V), σ = [some (.ref d), some (.int m), some (.int x), some (.int (c / mx)), y4, none] ∧ H4 = H3) ⟨n, none, rfl, rfl⟩ (fun _ _ _ _ _ => True.intro) ?_ ?_
    · rintro i x σ H4 H5 hi ⟨x0, y4, rfl, rfl⟩ ⟨rfl, rfl⟩
      exact ⟨_, rfl, _, _, rfl, rfl, ⟨by decide, by decide⟩, _, _, rfl, rfl⟩
    · rintro σ H4 ⟨x, y4, rfl, rfl⟩
      exact ⟨_, rfl, .inl ⟨_, rfl, _, _, rfl, rfl, (by decide : (97 : Int) ≠ 0), _, rfl, _, _, rfl, rfl, (by omega : m ≠ 0), fin _⟩⟩
  · refine ifF big ⟨_, rfl, _, rfl, _, _, rfl, rfl, .inl ⟨by decide, by decide⟩, _, _, rfl, rfl, .inl ⟨_, rfl, _, _, rfl, rfl, (by decide : (1000003 : Int) ≠ 0), ?_⟩⟩
    refine ⟨_, rfl, .inl ⟨d, _, 1, .int (c + 1), rfl, rfl, SqL.of hd3, atI_nat (j := 1) rfl, ?_⟩⟩
    refine ⟨_, _, rfl, rfl, .inl ⟨by decide, by decide⟩, _, _, rfl, rfl, _, _, rfl, rfl, _, _, rfl, rfl, .inr ⟨by decide, by decide⟩, _, _, rfl, rfl, (by decide : (2147483647 : Int) ≠ 0), ?_⟩
    exact ⟨_, rfl, _, _, rfl, rfl, .inr ⟨by decide, by decide⟩, _, _, rfl, rfl, (by decide : (4294967291 : Int) ≠ 0), .inl ⟨_, rfl, _, rfl, _, _, rfl, rfl, (by omega : m ≠ 0), fin _⟩⟩
end
end Yj
set_option Elab.async false
set_option linter.all false
set_option maxRecDepth 100000
set_option maxHeartbeats 4000000
set_option pp.maxSteps 1500
namespace Yj
open PySem PySem.Spec PyProof.Rows L2 RZ
section
variable {P : Program} {w : World} {K : PySem.W.Frag} {mg : Str → Option Value} {base : Heap} {ad : Nat → Addr} {fds : Nat → FuncData} {cs : Nat → Value}
def spPick (K : PySem.W.Frag) : Sp := fun vs H Q _ => ∃ (d a b : Addr) (ns : List Int) (xs : List V), vs = [.ref d, .ref b] ∧ Draw K H d a ns ∧ b ≠ d ∧ H b = some (.lst xs) ∧ xs ≠ [] ∧ ∀ x H', x ∈ xs → Drawn' K H H' d a ns → Q x H'
theorem ok__law_pick (T : Txt K mg ad fds cs) : FnOk P w K mg base CX0 3 (ad 61) (fds 61) ["draw", "things"] (spPick K) := by
  refine T.F__law_pick.ok sc__law_pick (fun vs H Q E h => ?_) (fun cdv A outer s H vs Q E hr h => ?_)
  · obtain ⟨d, a, b, ns, xs, rfl, _⟩ := h
    rfl
  obtain ⟨d, a, b, ns, xs, rfl, hD, hbd, hb, hx, q⟩ := h
  refine ⟨_, (pss_one (ps_ret (pe_ix ix_seq (pv 1) (pe_call (ok__law_take T) (hr.mono (by decide)) rfl T.g__law_take T.F__law_take.kp (bi__law_take T) .nil pass0 (pa_cons (pv 0) (pa_cons (pe_callB call_len_seq (by rfl) T.z_len (by decide +kernel) (pa_cons (pv 1) pa_nil)) pa_nil))) (fun _ _ => rfl)))), ?_⟩
  have h0 : 0 < xs.length := List.length_pos_iff.mpr hx
  refine ⟨_, rfl, _, rfl, _, rfl, b, xs, rfl, .inl (SqL.of hb), ?_⟩
  refine ⟨d, a, ns, _, rfl, hD, by omega, fun r H' r0 r1 z => ?_⟩
  obtain ⟨k, hk⟩ : ∃ k : Nat, r = (k : Int) := ⟨r.toNat, by omega⟩
  subst hk
  have hkl : k < xs.length := by omega
  exact .inl ⟨b, xs, _, _, rfl, rfl, SqL.of (z.2 _ _ hbd hb), atI_nat (List.getElem?_eq_getElem hkl), q _ _ (List.getElem_mem _) z⟩
end
end Yj
set_option Elab.async false
set_option linter.all false
set_option maxRecDepth 100000
set_option maxHeartbeats 4000000
set_option pp.maxSteps 1500
namespace Yj
open PySem PySem.Spec PyProof.Rows L2 RZ YjD YjF
theorem fixKeep {K : PySem.W.Frag} {H H' : Hp} {d a : Addr} {ns : List Int} (h : Draw K H d a ns) (k : Keep d H H') : Fix H H' := fun b o e f => by
  refine k b o (fun z => ?_) e
  obtain ⟨c, hd⟩ := h.1
  rw [z, hd] at e
  cases e
  exact f
theorem fixDrawn {K : PySem.W.Frag} {H H' : Hp} {d a : Addr} {ns : List Int} (h : Draw K H d a ns) (k : Drawn' K H H' d a ns) : Fix H H' := fixKeep h k.2
theorem drawn_trans {K : PySem.W.Frag} {H H1 H2 : Hp} {d a : Addr} {ns : List Int} (h : Drawn' K H H1 d a ns) (k : Drawn' K H1 H2 d a ns) : Drawn' K H H2 d a ns := ⟨k.1, h.2.trans k.2⟩
theorem drawn_same {K : PySem.W.Frag} {H H1 H2 : Hp} {d a : Addr} {ns : List Int} (h : Drawn' K H H1 d a ns) (s : Same H1 H2) : Drawn' K H H2 d a ns := ⟨h.1.same s, h.2.trans (keepOf s)⟩
theorem same_drawn {K : PySem.W.Frag} {H H1 H2 : Hp} {d a : Addr} {ns : List Int} (s : Same H H1) (k : Drawn' K H1 H2 d a ns) : Drawn' K H H2 d a ns := ⟨k.1, (keepOf s).trans k.2⟩
theorem ne_draw {K : PySem.W.Frag} {H : Hp} {d a : Addr} {ns : List Int} (h : Draw K H d a ns) {b : Addr} (n : H b = none) : b ≠ d := fun z => by
  obtain ⟨c, hd⟩ := h.1
  rw [z, hd] at n
  cases n
theorem nil_tm {H : Hp} : Paired (TmAt H) [] [] := .nil
/-- one more term, laid anew -/
theorem lay_tm {H H0 : Hp} {us : List V} {ts : List Tm} (h : Same H0 H ∧ Paired (TmAt H) us ts) {p : Addr} (np : H p = none) (t : Tm) :
    Same H0 (upd H p (.tup (t.key.map kV))) ∧ Paired (TmAt (upd H p (.tup (t.key.map kV)))) (us ++ [V.ref p]) (ts ++ [t]) :=
  ⟨h.1.trans (same_upd np), Paired.snoc (Paired.mapP h.2 fun _ _ z => z.fix (fixOf (same_upd np))) ⟨p, rfl, upd_same⟩⟩
def nmT4 : List Tm := [.any "p", .any "p", .any "q", .any "q", .name "ann", .name "rome"]
def dyT6 : List Tm := [.wh "t", .wh "t", .wh "u", .now, .day 3, .day 5]
theorem nmT4_sub : ∀ t ∈ nmT4, t ∈ nmTms := by decide +kernel
theorem dyT6_sub : ∀ t ∈ dyT6, t ∈ dyTms := by decide +kernel
def spNmT (K : PySem.W.Frag) : Sp := fun vs H Q _ => ∃ (d a : Addr) (ns : List Int), vs = [.ref d] ∧ Draw K H d a ns ∧ ∀ v t H', t ∈ nmTms → TmAt H' v t → Drawn' K H H' d a ns → Q v H'
def spDyT (K : PySem.W.Frag) : Sp := fun vs H Q _ => ∃ (d a : Addr) (ns : List Int), vs = [.ref d, .bl true] ∧ Draw K H d a ns ∧ ∀ v t H', t ∈ dyTms → TmAt H' v t → Drawn' K H H' d a ns → Q v H'
def spLAtom (K : PySem.W.Frag) : Sp := fun vs H Q _ => ∃ (d a : Addr) (ns : List Int), vs = [.ref d, .bl true] ∧ Draw K H d a ns ∧ ∀ v t H', t ∈ atL → AtmAt H' v t → Drawn' K H H' d a ns → Q v H'
section
variable {P : Program} {w : World} {K : PySem.W.Frag} {mg : Str → Option Value} {base : Heap} {ad : Nat → Addr} {fds : Nat → FuncData} {cs : Nat → Value}
theorem ok__law_name_term (T : Txt K mg ad fds cs) : FnOk P w K mg base CX0 4 (ad 62) (fds 62) ["draw"] (spNmT K) := by
  refine T.F__law_name_term.ok sc__law_name_term (fun vs H Q E h => ?_) (fun cdv A outer s H vs Q E hr h => ?_)
  · obtain ⟨d, a, ns, rfl, _⟩ := h
    rfl
  obtain ⟨d, a, ns, rfl, hD, q⟩ := h
  refine ⟨_, (pss_one (ps_ret (pe_call (ok__law_pick T) (hr.mono (by decide)) rfl T.g__law_pick T.F__law_pick.kp (bi__law_pick T) .nil pass0 (pa_cons (pv 0) (pa_cons (pe_lst (pa_cons (pe_tup (pa_cons pe_str (pa_cons pe_str pa_nil))) (pa_cons (pe_tup (pa_cons pe_str (pa_cons pe_str pa_nil))) (pa_cons (pe_tup (pa_cons pe_str (pa_cons pe_str pa_nil))) (pa_cons (pe_tup (pa_cons pe_str (pa_cons pe_str pa_nil))) (pa_cons (pe_tup (pa_cons pe_str (pa_cons pe_str pa_nil))) (pa_cons (pe_tup (pa_cons pe_str (pa_cons pe_str pa_nil))) pa_nil))))))) pa_nil))))), ?_⟩
  have two : (2 : Nat) ≤ sizeLine := by decide
  refine ⟨_, rfl, two, fun p1 n1 => ⟨two, fun p2 n2 => ⟨two, fun p3 n3 => ⟨two, fun p4 n4 => ⟨two, fun p5 n5 => ⟨two, fun p6 n6 => ⟨by show 6 ≤ sizeLine; decide, fun L nL => ?_⟩⟩⟩⟩⟩⟩⟩
  have h6 := lay_tm (lay_tm (lay_tm (lay_tm (lay_tm (lay_tm (⟨Same.refl H, .nil⟩ : Same H H ∧ Paired (TmAt H) [] []) n1 (.any "p")) n2 (.any "p")) n3 (.any "q")) n4 (.any "q")) n5 (.name "ann")) n6 (.name "rome")
  have s7 := h6.1.trans (same_upd (o := .lst [V.ref p1, .ref p2, .ref p3, .ref p4, .ref p5, .ref p6]) nL)
  have D7 := hD.same s7
  have nLd := ne_draw (hD.same h6.1) nL
  have us7 := Paired.mapP h6.2 fun _ _ z => z.fix (fixOf (same_upd (o := .lst [V.ref p1, .ref p2, .ref p3, .ref p4, .ref p5, .ref p6]) nL))
  refine ⟨d, a, L, ns, _, rfl, D7, nLd, upd_same, by simp, fun x H' hx dr => ?_⟩
  obtain ⟨t, ht, hxt⟩ := pin us7 hx
  exact q x t H' (nmT4_sub t ht) (hxt.fix (fixDrawn D7 dr)) (same_drawn s7 dr)
theorem ok__law_day_term (T : Txt K mg ad fds cs) : FnOk P w K mg base CX0 4 (ad 63) (fds 63) ["draw", "with_now"] (spDyT K) := by
  refine T.F__law_day_term.ok sc__law_day_term (fun vs H Q E h => ?_) (fun cdv A outer s H vs Q E hr h => ?_)
  · obtain ⟨d, a, ns, rfl, _⟩ := h
    rfl
  obtain ⟨d, a, ns, rfl, hD, q⟩ := h
  refine ⟨_, (pss_one (ps_ret (pe_call (ok__law_pick T) (hr.mono (by decide)) rfl T.g__law_pick T.F__law_pick.kp (bi__law_pick T) .nil pass0 (pa_cons (pv 0) (pa_cons (pe_lst (pa_cons (pe_tup (pa_cons pe_str (pa_cons pe_str pa_nil))) (pa_cons (pe_tup (pa_cons pe_str (pa_cons pe_str pa_nil))) (pa_cons (pe_tup (pa_cons pe_str (pa_cons pe_str pa_nil))) (pa_cons (pe_ifExp (pt_val (pv 1)) (pe_tup (pa_cons pe_str pa_nil)) (pe_tup (pa_cons pe_str (pa_cons pe_str pa_nil)))) (pa_cons (pe_tup (pa_cons pe_str (pa_cons pe_int pa_nil))) (pa_cons (pe_tup (pa_cons pe_str (pa_cons pe_int pa_nil))) pa_nil))))))) pa_nil))))), ?_⟩
  have two : (2 : Nat) ≤ sizeLine := by decide
  have one : (1 : Nat) ≤ sizeLine := by decide
  refine ⟨_, rfl, two, fun p1 n1 => ⟨two, fun p2 n2 => ⟨two, fun p3 n3 => ⟨_, rfl, true, rfl, iteT ⟨one, fun p4 n4 => ⟨two, fun p5 n5 => ⟨two, fun p6 n6 => ⟨by show 6 ≤ sizeLine; decide, fun L nL => ?_⟩⟩⟩⟩⟩⟩⟩⟩
  have h6 := lay_tm (lay_tm (lay_tm (lay_tm (lay_tm (lay_tm (⟨Same.refl H, .nil⟩ : Same H H ∧ Paired (TmAt H) [] []) n1 (.wh "t")) n2 (.wh "t")) n3 (.wh "u")) n4 .now) n5 (.day 3)) n6 (.day 5)
  have s7 := h6.1.trans (same_upd (o := .lst [V.ref p1, .ref p2, .ref p3, .ref p4, .ref p5, .ref p6]) nL)
  have D7 := hD.same s7
  have nLd := ne_draw (hD.same h6.1) nL
  have us7 := Paired.mapP h6.2 fun _ _ z => z.fix (fixOf (same_upd (o := .lst [V.ref p1, .ref p2, .ref p3, .ref p4, .ref p5, .ref p6]) nL))
  refine ⟨d, a, L, ns, _, rfl, D7, nLd, upd_same, by simp, fun x H' hx dr => ?_⟩
  obtain ⟨t, ht, hxt⟩ := pin us7 hx
  exact q x t H' (dyT6_sub t ht) (hxt.fix (fixDrawn D7 dr)) (same_drawn s7 dr)
theorem ok__law_atom (T : Txt K mg ad fds cs) : FnOk P w K mg base CX0 5 (ad 64) (fds 64) ["draw", "with_now"] (spLAtom K) := by
  refine T.F__law_atom.ok sc__law_atom (fun vs H Q E h => ?_) (fun cdv A outer s H vs Q E hr h => ?_)
  · obtain ⟨d, a, ns, rfl, _⟩ := h
    rfl
  obtain ⟨d, a, ns, rfl, hD, q⟩ := h
  refine ⟨_, (pss_cons (ps_if (pt_cmpR op_gt (pe_call (ok__law_take T) (hr.mono (by decide)) rfl T.g__law_take T.F__law_take.kp (bi__law_take T) .nil pass0 (pa_cons (pv 0) (pa_cons pe_int pa_nil))) pe_int (nomark _)) (pss_one (ps_ret (pe_tup (pa_cons pe_str (pa_cons (pe_tup (pa_cons (pe_call (ok__law_name_term T) (hr.mono (by decide)) rfl T.g__law_name_term T.F__law_name_term.kp (bi__law_name_term T) .nil pass0 (pa_cons (pv 0) pa_nil)) (pa_cons (pe_call (ok__law_name_term T) (hr.mono (by decide)) rfl T.g__law_name_term T.F__law_name_term.kp (bi__law_name_term T) .nil pass0 (pa_cons (pv 0) pa_nil)) pa_nil))) (pa_cons (pe_call (ok__law_day_term T) (hr.mono (by decide)) rfl T.g__law_day_term T.F__law_day_term.kp (bi__law_day_term T) .nil pass0 (pa_cons (pv 0) (pa_cons (pv 1) pa_nil))) pa_nil)))))) pss_nil)
      (pss_one (ps_ret (pe_tup (pa_cons pe_str (pa_cons (pe_tup (pa_cons (pe_call (ok__law_name_term T) (hr.mono (by decide)) rfl T.g__law_name_term T.F__law_name_term.kp (bi__law_name_term T) .nil pass0 (pa_cons (pv 0) pa_nil)) pa_nil)) (pa_cons (pe_call (ok__law_day_term T) (hr.mono (by decide)) rfl T.g__law_day_term T.F__law_day_term.kp (bi__law_day_term T) .nil pass0 (pa_cons (pv 0) (pa_cons (pv 1) pa_nil))) pa_nil))))))), ?_⟩
  refine ⟨_, rfl, d, a, ns, 3, rfl, hD, by decide, fun r H1 r0 r1 d1 => ⟨_, _, rfl, rfl, _, rfl, ?_⟩⟩
  by_cases c : r > 0
  · refine ifT c ⟨_, rfl, d, a, ns, rfl, d1.1, fun v1 t1 H2 m1 h1 d2 => ⟨_, rfl, d, a, ns, rfl, d2.1, fun v2 t2 H3 m2 h2 d3 => ⟨by show 2 ≤ sizeLine; decide, fun p np => ?_⟩⟩⟩
    have s4 := same_upd (o := .tup [v1, v2]) np
    have hp : upd H3 p (.tup [v1, v2]) p = some (.tup [v1, v2]) := upd_same
    have d4 := drawn_same d3 s4
    generalize upd H3 p (.tup [v1, v2]) = H4 at hp d4 s4
    refine ⟨_, rfl, _, rfl, d, a, ns, rfl, d4.1, fun v3 t3 H5 m3 h3 d5 => ⟨by show 3 ≤ sizeLine; decide, fun r nr => ?_⟩⟩
    have s6 := same_upd (o := .tup [V.str "lives", V.ref p, v3]) nr
    have f5 := fixDrawn d4.1 d5
    have f6 := f5.trans (fixOf s6)
    have f4 := (fixOf s4).trans f6
    refine q _ ("lives", [t1, t2], t3) _ (mem_lives m1 m2 m3) ⟨r, p, v3, [v1, v2], rfl, upd_same, f6 _ _ hp True.intro, .cons (h1.fix ((fixDrawn d2.1 d3).trans f4)) (.cons (h2.fix f4) .nil), h3.fix (fixOf s6)⟩ (drawn_same (drawn_trans (drawn_trans (drawn_trans d1 d2) d4) d5) s6)
  · refine ifF c ⟨_, rfl, d, a, ns, rfl, d1.1, fun v1 t1 H2 m1 h1 d2 => ⟨by show 1 ≤ sizeLine; decide, fun p np => ?_⟩⟩
    have s4 := same_upd (o := .tup [v1]) np
    have hp : upd H2 p (.tup [v1]) p = some (.tup [v1]) := upd_same
    have d4 := drawn_same d2 s4
    generalize upd H2 p (.tup [v1]) = H4 at hp d4 s4
    refine ⟨_, rfl, _, rfl, d, a, ns, rfl, d4.1, fun v3 t3 H5 m3 h3 d5 => ⟨by show 3 ≤ sizeLine; decide, fun r nr => ?_⟩⟩
    have s6 := same_upd (o := .tup [V.str "pays", V.ref p, v3]) nr
    have f5 := fixDrawn d4.1 d5
    have f6 := f5.trans (fixOf s6)
    have f4 := (fixOf s4).trans f6
    refine q _ ("pays", [t1], t3) _ (mem_pays m1 m3) ⟨r, p, v3, [v1], rfl, upd_same, f6 _ _ hp True.intro, .cons (h1.fix f4) .nil, h3.fix (fixOf s6)⟩ (drawn_same (drawn_trans (drawn_trans d1 d4) d5) s6)
end
end Yj
set_option Elab.async false
set_option linter.all false
set_option maxRecDepth 100000
set_option maxHeartbeats 1000000
set_option pp.maxSteps 1500
/-! x in t, t a tuple of data of any depth. -/
namespace YjG
open PySem PySem.Spec PyProof.Rows L2
def rInTD (K : PySem.W.Frag) : R2 := fun x y H Q => ∃ d ds, Dp K H x d ∧ Dp K H y (.tuple ds) ∧ SeqAt.shaped d = true ∧ SeqAt.shaped (.tuple ds) = true ∧ Q (.bl (ds.any fun z => PyData.eqv z d)) H
theorem op_inTDK {X : Cx} {K : PySem.W.Frag} (hu : X.A.units + 65 < cLine) (hK : X.K = K := by rfl) : OpR X (compareOp .In) (rInTD K) := by
  subst hK
  intro pins s σ H x y v u Q I rx ry h
  obtain ⟨d, ds, hd, he, sd, se, q⟩ := h
  obtain ⟨as, r1⟩ := Dp.reads I d x v hd rx
  obtain ⟨bs, r2⟩ := Dp.reads I (.tuple ds) y u he ry
  exact SeqAt.in_tuple_reads r2 r1 (SeqAt.canLay_of_shaped se) (SeqAt.canLay_of_shaped sd) (room_in_shaped sd hu) ⟨.bl _, H, I, rfl, q⟩
end YjG
set_option Elab.async false
set_option linter.all false
set_option maxRecDepth 100000
set_option maxHeartbeats 4000000
set_option pp.maxSteps 1500
namespace Yj
open PySem PySem.Spec PyProof.Rows L2 RZ YjD YjF
theorem fresh_keep {d : Addr} {H H1 : Hp} (k : Keep d H H1) {D : Addr} (n : H1 D = none) (ne : D ≠ d) : H D = none := by
  cases e : H D with
  | none => rfl
  | some o =>
    rw [k D o ne e] at n
    cases n
theorem draw_upd {K : PySem.W.Frag} {H0 H : Hp} {d a : Addr} {ns : List Int} (h0 : Draw K H0 d a ns) (h : Drawn' K H0 H d a ns) {D : Addr} {o : HO} (nD : H0 D = none) : Drawn' K H0 (upd H D o) d a ns := by
  have ne := ne_draw h0 nD
  obtain ⟨c, e⟩ := h.1.1
  have k : Keep d H0 (upd H D o) := fun b x nb eb => by
    have : b ≠ D := fun z => by
      rw [z, nD] at eb
      cases eb
    rw [upd_ne this]
    exact h.2 b x nb eb
  exact ⟨h0.keep k ((upd_ne ne.symm).trans e), k⟩
theorem tm_eqv : ∀ u ∈ tmL, ∀ t ∈ tmL, PyData.eqv (datT u) (datT t) = decide (u = t) := by decide +kernel
theorem any_eqv {t : Tm} (ht : t ∈ tmL) : ∀ {ns : List Tm}, (∀ u ∈ ns, u ∈ tmL) → ((ns.map datT).any fun z => PyData.eqv z (datT t)) = decide (t ∈ ns)
  | [], _ => by simp
  | u :: r, h => by
    rw [List.map_cons, List.any_cons, tm_eqv u (h u (List.mem_cons_self ..)) t ht, any_eqv ht fun x hx => h x (List.mem_cons_of_mem _ hx)]
    rw [Bool.eq_iff_iff, Bool.or_eq_true, decide_eq_true_eq, decide_eq_true_eq, decide_eq_true_eq, List.mem_cons]
    constructor
    · rintro (h | h)
      · exact .inl h.symm
      · exact .inr h
    · rintro (h | h)
      · exact .inl h.symm
      · exact .inr h
theorem tms_dp {K : PySem.W.Frag} {H : Hp} : ∀ {us : List V} {ts : List Tm}, Paired (TmAt H) us ts → DpAll K H us (ts.map datT)
  | _, _, .nil => .nil
  | _, _, .cons a t => .cons a.d.dp (tms_dp t)
theorem at_shaped : ∀ a ∈ atL, SeqAt.shaped (.tuple (a.2.1.map datT)) = true := by decide +kernel
def AtsAt (H : Hp) (D : Addr) (as : List Atm) : Prop := ∃ us, H D = some (.lst us) ∧ Paired (AtmAt H) us as
theorem AtsAt.drawn {K : PySem.W.Frag} {H H' : Hp} {d a : Addr} {ns : List Int} (h : Draw K H d a ns) (k : Drawn' K H H' d a ns) {D : Addr} {as : List Atm} (ne : D ≠ d) (t : AtsAt H D as) : AtsAt H' D as := by
  obtain ⟨us, h1, h2⟩ := t
  exact ⟨us, k.2 _ _ ne h1, Paired.mapP h2 fun _ _ z => z.fix (fixDrawn h k)⟩
theorem AtsAt.same {H H' : Hp} (s : Same H H') {D : Addr} {as : List Atm} (t : AtsAt H D as) : AtsAt H' D as := by
  obtain ⟨us, h1, h2⟩ := t
  exact ⟨us, s _ _ h1, Paired.mapP h2 fun _ _ z => z.fix (fixOf s)⟩
theorem AtsAt.put {H : Hp} {D X : Addr} {as : List Atm} {o u : HO} (t : AtsAt H D as) (hX : H X = some u) (nf : ¬ fixO u) (ne : D ≠ X) : AtsAt (upd H X o) D as := by
  obtain ⟨us, h1, h2⟩ := t
  exact ⟨us, (upd_ne ne).trans h1, Paired.mapP h2 fun _ _ z => z.fix (fix_upd hX nf)⟩
theorem AtsAt.set0 {H : Hp} {D : Addr} {u0 v : V} {ur : List V} {a0 b : Atm} {ar : List Atm} (hD : H D = some (.lst (u0 :: ur))) (has : Paired (AtmAt H) (u0 :: ur) (a0 :: ar)) (new : AtmAt H v b) : AtsAt (upd H D (.lst (v :: ur))) D (b :: ar) := by
  have f := fix_upd (o := .lst (v :: ur)) hD (fun z => z)
  cases has with
  | cons _ t => exact ⟨_, upd_same, .cons (new.fix f) (Paired.mapP t fun _ _ z => z.fix f)⟩
theorem dy_of {x : Atm} (h : x ∈ atL) : x.2.2 ∈ dyTms := by
  have : ∀ x ∈ atL, x.2.2 ∈ dyTms := by decide +kernel
  exact this x h
theorem iteAB {c : Bool} {A B : Prop} (hB : B) (hA : B → c = true → A) : if c = true then A else B := by
  cases c with
  | true => exact iteT (hA hB rfl)
  | false => exact iteF hB
theorem put_keys {kvs : List (List L2.Key × V)} {k : List L2.Key} {v : V} : ∀ kv ∈ putK kvs k v, kv.1 = k ∨ ∃ kv' ∈ kvs, kv'.1 = kv.1 := by
  intro kv h
  unfold putK at h
  split at h
  · obtain ⟨kv', h1, h2⟩ := List.mem_map.mp h
    refine .inr ⟨kv', h1, ?_⟩
    rw [← h2]
    split <;> rfl
  · rcases List.mem_append.mp h with h | h
    · exact .inr ⟨kv, h, rfl⟩
    · rw [List.mem_singleton.mp h]
      exact .inl rfl
theorem ixN0 {n : Nat} : ixN (n + 1) 0 = some 0 := by
  unfold ixN
  rw [if_pos (by omega), if_pos (by omega)]
  rfl
theorem put_ne {kvs : List (List L2.Key × V)} {k : List L2.Key} {v : V} : putK kvs k v ≠ [] := by
  unfold putK
  split
  · rename_i h
    cases kvs with
    | nil => exact nomatch h
    | cons a r => exact fun z => nomatch z
  · simp
def KeysOf (L : List Tm) (as : List Atm) (kvs : List (List L2.Key × V)) : Prop := ∀ kv ∈ kvs, ∃ t, kv.1 = t.key ∧ t ∈ L ∧ t ∈ termsOf as
theorem KeysOf.put {L : List Tm} {as : List Atm} {kvs : List (List L2.Key × V)} (h : KeysOf L as kvs) {t : Tm} (h1 : t ∈ L) (h2 : t ∈ termsOf as) {v : V} : KeysOf L as (putK kvs t.key v) := fun kv hk => by
  rcases put_keys kv hk with e | ⟨kv', m, e⟩
  · exact ⟨t, e, h1, h2⟩
  · obtain ⟨u, e2, h3⟩ := h kv' m
    exact ⟨u, e.symm.trans e2, h3⟩
theorem keys_tms {H : Hp} {Pt : Tm → Prop} : ∀ {kvs : List (List L2.Key × V)} {bs : List Addr}, IsKeys H kvs bs → (∀ kv ∈ kvs, ∃ t, kv.1 = t.key ∧ Pt t) → ∃ ts, Paired (TmAt H) (bs.map V.ref) ts ∧ (∀ t ∈ ts, Pt t) ∧ ts.length = kvs.length
  | _, _, .nil, _ => ⟨[], .nil, (fun t ht => nomatch ht), rfl⟩
  | kv :: kvs, b :: bs, .cons a r, h => by
    obtain ⟨ts, h1, h2, h3⟩ := keys_tms r fun x hx => h x (List.mem_cons_of_mem _ hx)
    obtain ⟨t, e, p⟩ := h kv (List.mem_cons_self ..)
    have a' : H b = some (.tup (kv.1.map kV)) := a
    rw [e] at a'
    refine ⟨t :: ts, .cons ⟨b, rfl, a'⟩ h1, fun u hu => ?_, by rw [List.length_cons, List.length_cons, h3]⟩
    rcases List.mem_cons.mp hu with e | hu
    · rw [e]
      exact p
    · exact h2 u hu
structure Bag (K : PySem.W.Frag) (H : Hp) (d a : Addr) (ns : List Int) (D N Y T : Addr) (us : List V) (as : List Atm) (kn ky : List (List L2.Key × V)) (H6 : Hp) (ts : List Tst) : Prop where
  dr : Drawn' K H H6 d a ns
  hD : H6 D = some (.lst us)
  has : Paired (AtmAt H6) us as
  hN : H6 N = some (.dT kn)
  hY : H6 Y = some (.dT ky)
  hT : ∃ ws, H6 T = some (.lst ws) ∧ Paired (TstAt H6) ws ts
structure Four (H : Hp) (d D N Y T : Addr) : Prop where
  nD : D ≠ d
  nN : N ≠ d
  nY : Y ≠ d
  nT : T ≠ d
  TD : D ≠ T
  TN : N ≠ T
  TY : Y ≠ T
  f : H T = none
theorem Bag.step {K : PySem.W.Frag} {H : Hp} {d a : Addr} {ns : List Int} {D N Y T : Addr} {us : List V} {as : List Atm} {kn ky : List (List L2.Key × V)} {H6 H7 : Hp} {ts : List Tst} (F : Four H d D N Y T) (b : Bag K H d a ns D N Y T us as kn ky H6 ts) (k : Drawn' K H6 H7 d a ns) : Bag K H d a ns D N Y T us as kn ky H7 ts := by
  have f := fixDrawn b.dr.1 k
  obtain ⟨ws, h1, h2⟩ := b.hT
  exact ⟨drawn_trans b.dr k, k.2 _ _ F.nD b.hD, Paired.mapP b.has fun _ _ z => z.fix f, k.2 _ _ F.nN b.hN, k.2 _ _ F.nY b.hY, ws, k.2 _ _ F.nT h1, Paired.mapP h2 fun _ _ z => z.fix f⟩
theorem Bag.same {K : PySem.W.Frag} {H : Hp} {d a : Addr} {ns : List Int} {D N Y T : Addr} {us : List V} {as : List Atm} {kn ky : List (List L2.Key × V)} {H6 H7 : Hp} {ts : List Tst} (F : Four H d D N Y T) (b : Bag K H d a ns D N Y T us as kn ky H6 ts) (s : Same H6 H7) : Bag K H d a ns D N Y T us as kn ky H7 ts := b.step F ⟨b.dr.1.same s, keepOf s⟩
theorem Bag.app {K : PySem.W.Frag} {H : Hp} {d a : Addr} {ns : List Int} {D N Y T : Addr} {us : List V} {as : List Atm} {kn ky : List (List L2.Key × V)} {H6 : Hp} {ts : List Tst} (h0 : Draw K H d a ns) (F : Four H d D N Y T) (b : Bag K H d a ns D N Y T us as kn ky H6 ts) {ws : List V} (hT : H6 T = some (.lst ws)) {v : V} {t : Tst} (hv : TstAt H6 v t) : Bag K H d a ns D N Y T us as kn ky (upd H6 T (.lst (ws ++ [v]))) (ts ++ [t]) := by
  have f := fix_upd (o := .lst (ws ++ [v])) hT (fun z => z)
  obtain ⟨ws', h1, h2⟩ := b.hT
  obtain rfl : ws' = ws := HO.lst.inj (Option.some.inj (h1.symm.trans hT))
  exact ⟨draw_upd h0 b.dr F.f, (upd_ne F.TD).trans b.hD, Paired.mapP b.has fun _ _ z => z.fix f, (upd_ne F.TN).trans b.hN, (upd_ne F.TY).trans b.hY, _, upd_same, Paired.snoc (Paired.mapP h2 fun _ _ z => z.fix f) (hv.fix f)⟩
def Vok (as : List Atm) (s : Tst) : Prop := ∀ t, (t = s.2.1 ∨ t = s.2.2) → isVar t = true → t ∈ termsOf as
def hdL : List (List Tm) := [[.any "p"], [], [.any "p", .any "q"]]
def spLClause (K : PySem.W.Frag) (C : Addr) : Sp := fun vs H Q _ => ∃ (d a : Addr) (ns : List Int) (A : Addr) (hs : List V) (hd : List Tm), vs = [.ref d, .ref A, .int 2, .bl true] ∧ Draw K H d a ns ∧ H A = some (.tup hs) ∧ Paired (TmAt H) hs hd ∧ hd ∈ hdL ∧
  ∀ v c H', GoodC c → (∀ t ∈ hd, t ∈ termsOf c.1) → ClsAt C H' v c → Drawn' K H H' d a ns → Q v H'
section
variable {P : Program} {w : World} {K : PySem.W.Frag} {mg : Str → Option Value} {base : Heap} {ad : Nat → Addr} {fds : Nat → FuncData} {cs : Nat → Value}
theorem ok__law_clause (T : Txt K mg ad fds cs) : FnOk P w K mg base CX0 7 (ad 65) (fds 65) ["draw", "head", "most", "with_now"] (spLClause K (ad 55999)) := by
  refine T.F__law_clause.ok sc__law_clause (fun vs H Q E h => ?_) (fun cdv A0 outer s H vs Q E hr h => ?_)
  · obtain ⟨d, a, ns, A, hs, hd, rfl, _⟩ := h
    rfl
  obtain ⟨d, a, ns, A, hs, hd, rfl, h0, hA, hhs, hdm, q⟩ := h
  refine ⟨_, (pss_cons (ps_setLc (i := 4) (own := [("turn", 12)]) rfl sc__law_clause.nd rfl rfl (sw_true rfl rfl rfl (by decide +kernel)) (pi_range1 (by rfl) T.z_range (pa_cons (pe_op op_add pe_int (pe_call (ok__law_take T) (hr.mono (by decide)) rfl T.g__law_take T.F__law_take.kp (bi__law_take T) .nil pass0 (pa_cons (pv 0) (pa_cons (pv 2) pa_nil)))) pa_nil)) (blkOk_by (N := N__law_clause) (sc := defScope s__law_clause) (own := [("turn", 12)]) (by decide +kernel)) (fun _ _ _ _ _ => by exact (pg_name (i := 12) sc__law_clause.nd rfl (.inl rfl))) (fun _ _ _ _ _ => by exact pts_nil) (fun _ _ _ _ _ => by exact (pe_call (ok__law_atom (P := P) (w := w) T) (hr.mono (by decide)) rfl T.g__law_atom T.F__law_atom.kp (bi__law_atom T) .nil pass0 (pa_cons (pv 0) (pa_cons (pv 3) pa_nil)))))
      (pss_cons (ps_for PassesOwn.never rfl (pi_tup (pv 1)) (pg_name (i := 5) sc__law_clause.nd rfl (by first | exact .inl rfl | exact .inr rfl))
      (pss_one (ps_if (pt_not (pt_val (pe_callB (cr_any rfl) (by rfl) T.z_any (by decide +kernel) (pa_cons (pe_lc (own := [("relation", 8), ("names", 6), ("day", 10)]) rfl sc__law_clause.nd (pi_list (pv 4)) (blkOk_by (N := N__law_clause) (sc := defScope s__law_clause) (own := [("relation", 8), ("names", 6), ("day", 10)]) (by decide +kernel)) (fun _ _ _ _ _ => by exact (pg_tupK (K := K) (n := 3) rfl (pgs_cons (pg_name (i := 8) sc__law_clause.nd rfl (.inl rfl)) (pgs_cons (pg_name (i := 6) sc__law_clause.nd rfl (.inl rfl)) (pgs_cons (pg_name (i := 10) sc__law_clause.nd rfl (.inl rfl)) pgs_nil))))) (fun _ _ _ _ _ => by exact pts_nil) (fun _ _ _ _ _ => by exact (pe_cmpR (YjG.op_inTDK (K := K) (YjD.room65 hr)) (pv 5) (pv 6) (by rfl)))) pa_nil)))) (pss_one (ps_asg (pe_ifExp (pt_cmpR op_eq (pe_callB call_len_seq (by rfl) T.z_len (by decide +kernel) (pa_cons (pv 1) pa_nil)) pe_int (nomark _)) (pe_tup (pa_cons pe_str (pa_cons (pe_tup (pa_cons (pv 5) (pa_cons (pe_call (ok__law_name_term T) (hr.mono (by decide)) rfl T.g__law_name_term T.F__law_name_term.kp (bi__law_name_term T) .nil pass0 (pa_cons (pv 0) pa_nil)) pa_nil))) (pa_cons (pe_ix ix_seq (pe_ix ix_seq (pv 4) pe_int (fun _ _ => rfl)) pe_int (fun _ _ => rfl)) pa_nil)))) (pe_tup (pa_cons pe_str (pa_cons (pe_tup (pa_cons (pe_ix ix_seq (pv 1) pe_int (fun _ _ => rfl)) (pa_cons (pe_ix ix_seq (pv 1) pe_int (fun _ _ => rfl)) pa_nil))) (pa_cons (pe_ix ix_seq (pe_ix ix_seq (pv 4) pe_int (fun _ _ => rfl)) pe_int (fun _ _ => rfl)) pa_nil))))) (pg_sub (pv 4) pe_int set_list))) pss_nil)))
      (pss_cons (ps_set (i := 6) sc__law_clause.nd rfl (by first | exact .inl rfl | exact .inr rfl) pe_dnewT)
      (pss_cons (ps_set (i := 7) sc__law_clause.nd rfl (by first | exact .inl rfl | exact .inr rfl) pe_dnewT)
      (pss_cons (ps_for PassesOwn.never rfl (pi_list (pv 4)) (pg_tup rfl (pgs_cons (pg_name (i := 8) sc__law_clause.nd rfl (by first | exact .inl rfl | exact .inr rfl)) (pgs_cons (pg_name (i := 9) sc__law_clause.nd rfl (by first | exact .inl rfl | exact .inr rfl)) (pgs_cons (pg_name (i := 10) sc__law_clause.nd rfl (by first | exact .inl rfl | exact .inr rfl)) pgs_nil))))
      (pss_cons (ps_for PassesOwn.never rfl (pi_tup (pv 9)) (pg_name (i := 5) sc__law_clause.nd rfl (by first | exact .inl rfl | exact .inr rfl))
      (pss_one (ps_dput (hu_of hr) (pv 6) (pv 5) pe_bl rfl)))
      (pss_one (ps_dput (hu_of hr) (pv 7) (pv 10) pe_bl rfl))))
      (pss_cons (ps_set (i := 11) sc__law_clause.nd rfl (by first | exact .inl rfl | exact .inr rfl) (pe_lst pa_nil))
      (pss_cons (ps_for PassesOwn.never rfl (pi_range1 (by rfl) T.z_range (pa_cons (pe_call (ok__law_take T) (hr.mono (by decide)) rfl T.g__law_take T.F__law_take.kp (bi__law_take T) .nil pass0 (pa_cons (pv 0) (pa_cons pe_int pa_nil))) pa_nil)) (pg_name (i := 12) sc__law_clause.nd rfl (by first | exact .inl rfl | exact .inr rfl))
      (pss_one (ps_if (PW.pt (pw_and (pt_cmpR op_eq (pe_call (ok__law_take T) (hr.mono (by decide)) rfl T.g__law_take T.F__law_take.kp (bi__law_take T) .nil pass0 (pa_cons (pv 0) (pa_cons pe_int pa_nil))) pe_int (nomark _)) (pw_and1 (pt_cmpR op_gt (pe_callB call_len_dT (by rfl) T.z_len (by decide +kernel) (pa_cons (pv 6) pa_nil)) pe_int (nomark _))))) (pss_one (ps_expr (pe_bm PySem.F.plainAttrs_list PySem.F.slot_list_append PySem.F.type_list_append mt_append (pv 11) (pa_cons (pe_tup (pa_cons (pe_call (ok__law_pick T) (hr.mono (by decide)) rfl T.g__law_pick T.F__law_pick.kp (bi__law_pick T) .nil pass0 (pa_cons (pv 0) (pa_cons (pe_lst (pa_cons pe_str (pa_cons pe_str (pa_cons pe_str pa_nil)))) pa_nil))) (pa_cons (pe_call (ok__law_pick T) (hr.mono (by decide)) rfl T.g__law_pick T.F__law_pick.kp (bi__law_pick T) .nil pass0 (pa_cons (pv 0) (pa_cons (pe_callTy (call_list_dT rfl) (by rfl) T.z_list (by decide +kernel) (pa_cons (pv 6) pa_nil)) pa_nil))) (pa_cons (pe_call (ok__law_pick T) (hr.mono (by decide)) rfl T.g__law_pick T.F__law_pick.kp (bi__law_pick T) .nil pass0 (pa_cons (pv 0) (pa_cons (pe_op op_cat (pe_callTy (call_list_dT rfl) (by rfl) T.z_list (by decide +kernel) (pa_cons (pv 6) pa_nil)) (pe_lst (pa_cons (pe_tup (pa_cons pe_str (pa_cons pe_str pa_nil))) pa_nil))) pa_nil))) pa_nil)))) pa_nil)))) (pss_cons (ps_set (i := 13) sc__law_clause.nd rfl (by first | exact .inl rfl | exact .inr rfl) (pe_call (ok__law_pick T) (hr.mono (by decide)) rfl T.g__law_pick T.F__law_pick.kp (bi__law_pick T) .nil pass0 (pa_cons (pv 0) (pa_cons (pe_op op_cat (pe_op op_cat (pe_callTy (call_list_dT rfl) (by rfl) T.z_list (by decide +kernel) (pa_cons (pv 7) pa_nil)) (pe_lst (pa_cons (pe_tup (pa_cons pe_str (pa_cons pe_int pa_nil))) (pa_cons (pe_tup (pa_cons pe_str (pa_cons pe_int pa_nil))) pa_nil)))) (pe_ifExp (pt_val (pv 3)) (pe_lst (pa_cons (pe_tup (pa_cons pe_str pa_nil)) pa_nil)) (pe_lst pa_nil))) pa_nil))))
      (pss_one (ps_expr (pe_bm PySem.F.plainAttrs_list PySem.F.slot_list_append PySem.F.type_list_append mt_append (pv 11) (pa_cons (pe_tup (pa_cons (pe_call (ok__law_pick T) (hr.mono (by decide)) rfl T.g__law_pick T.F__law_pick.kp (bi__law_pick T) .nil pass0 (pa_cons (pv 0) (pa_cons (pe_lst (pa_cons pe_str (pa_cons pe_str (pa_cons pe_str (pa_cons pe_str (pa_cons pe_str pa_nil)))))) pa_nil))) (pa_cons (pe_call (ok__law_pick T) (hr.mono (by decide)) rfl T.g__law_pick T.F__law_pick.kp (bi__law_pick T) .nil pass0 (pa_cons (pv 0) (pa_cons (pe_callTy (call_list_dT rfl) (by rfl) T.z_list (by decide +kernel) (pa_cons (pv 7) pa_nil)) pa_nil))) (pa_cons (pv 13) pa_nil)))) pa_nil))))))))
      (pss_one (ps_ret (pe_make T.mk_Clause (ok_Clause___init__ T) (hr.mono (by decide)) rfl T.g_Clause (bi_Clause___init__ T) .nil pass0 (pa_cons (pe_callTy call_tuple_of (by rfl) T.z_tuple (by decide +kernel) (pa_cons (pv 4) pa_nil)) (pa_cons (pe_callTy call_tuple_of (by rfl) T.z_tuple (by decide +kernel) (pa_cons (pv 11) pa_nil)) pa_nil)))))))))))), ?_⟩
  have hdt : ∀ t ∈ hd, t ∈ tmL ∧ t ∈ nmTms := by
    have : ∀ l ∈ hdL, ∀ t ∈ l, t ∈ tmL ∧ t ∈ nmTms := by decide +kernel
    exact this hd hdm
  have hA' : ∀ {H1}, Drawn' K H H1 d a ns → H1 A = some (.tup hs) := fun k => k.2 _ _ (fun z => by
    obtain ⟨c, e⟩ := h0.1
    rw [z, e] at hA
    cases hA) hA
  have hhs' : ∀ {H1}, Drawn' K H H1 d a ns → Paired (TmAt H1) hs hd := fun k => Paired.mapP hhs fun _ _ z => z.fix (fixDrawn h0 k)
  refine ⟨_, rfl, _, rfl, d, a, ns, 2, rfl, h0, by decide, fun r H1 r0 r1 d1 => ⟨_, _, rfl, rfl, _, rfl, by show _ ≤ 1 + r; omega, by show 1 + r < _; omega, fun D nD => ?_⟩⟩
  have neD := ne_draw d1.1 nD
  have nD0 := fresh_keep d1.2 nD neD
  refine lc_it walk_range (fun i H2 => Drawn' K H H2 d a ns ∧ ∃ as, AtsAt H2 D as ∧ as.length = i ∧ ∀ x ∈ as, x ∈ atL) ⟨drawn_same d1 (same_upd nD), [], ⟨[], upd_same, .nil⟩, rfl, fun x hx => nomatch hx⟩ (fun _ _ _ _ => True.intro) ?_ ?_
  · rintro i x H2 H2' hi ⟨d2, as, ⟨us, hD, has⟩, la, ga⟩ ⟨rfl, rfl⟩
    refine ⟨rfl, _, rfl, _, rfl, d, a, ns, rfl, d2.1, fun v t H3 mt ht d3 => ?_⟩
    have hD3 := d3.2 _ _ neD hD
    have lu := Paired.length has
    have f := fix_upd (o := .lst (us ++ [v])) hD3 (fun z => z)
    refine ⟨us, hD3, ofNat_lt (by omega), draw_upd h0 (drawn_trans d2 d3) nD0, as ++ [t], ⟨us ++ [v], upd_same, Paired.snoc (Paired.mapP has fun _ _ z => z.fix ((fixDrawn d2.1 d3).trans f)) (ht.fix f)⟩, by rw [List.length_append, la]; rfl, fun x hx => ?_⟩
    rcases List.mem_append.mp hx with hx | hx
    · exact ga x hx
    · rw [List.mem_singleton.mp hx]
      exact mt
  rintro H2 ⟨d2, as, hAs, la, ga⟩
  have la1 : 1 ≤ as.length := by omega
  have la2 : as.length ≤ 2 := by omega
  clear la
  have hA2 := hA' d2
  refine ⟨_, rfl, A, rfl, ⟨_, SqT.of hA2⟩, for_it (walk_tup (K := K) (xs := hs)) (fun i σ H3 => ∃ (y5 : Option V) (as : List Atm), σ = [some (.ref d), some (.ref A), some (.int 2), some (.bl true), some (.ref D), y5, none, none, none, none, none, none, none, none] ∧ Drawn' K H H3 d a ns ∧ AtsAt H3 D as ∧ 1 ≤ as.length ∧ as.length ≤ 2 ∧ (∀ x ∈ as, x ∈ atL) ∧ ∀ t ∈ hd.take i, ∃ x ∈ as, t ∈ x.2.1) ⟨_, as, rfl, d2, hAs, la1, la2, ga, fun t ht => nomatch ht⟩ (fun i σ H3 _ ⟨_, _, _, d3, _⟩ => SqT.of (hA' d3)) ?_ ?_⟩
  · rintro i x σ H3 H3' hi ⟨y5, as, rfl, d3, ⟨us, hD, has⟩, l1, l2, ga, hp⟩ ⟨rfl, hx⟩
    obtain ⟨t, ht, hxt⟩ := pget (hhs' d3) hx
    have tm := hdt t (List.mem_of_getElem? ht)
    refine ⟨_, rfl, D, rfl, ⟨_, SqL.of hD⟩, fun B nB => ?_⟩
    have neB := ne_draw d3.1 nB
    have lu := Paired.length has
    refine lc_it (walk_list (K := K) (a := D) (xs := us)) (fun j H4 => Same H3' H4 ∧ H4 B = some (.lst ((as.take j).map fun z => V.bl (decide (t ∈ z.2.1))))) ⟨same_upd nB, upd_same⟩ (fun j H4 _ z => SqL.of (z.1 _ _ hD)) ?_ ?_
    · rintro j x H4 H4' hj ⟨s4, hB⟩ ⟨rfl, hx⟩
      obtain ⟨z, hz, p, n, y, vs, rfl, hp, hn, hvs, hy⟩ := pget has hx
      have gz := ga z (List.mem_of_getElem? hz)
      have mz := (at_tms z gz).2.2.2
      refine ⟨p, _, rfl, SqT.of (s4 _ _ hp), rfl, _, _, rfl, _, _, rfl, _, _, rfl, rfl, rfl, _, rfl, _, rfl, datT t, z.2.1.map datT, (hxt.fix (fixOf s4)).d.dp, .tup (SqT.of (s4 _ _ hn)) (tms_dp (Paired.mapP hvs fun _ _ z => z.fix (fixOf s4))), tm_sh t tm.1, at_shaped z gz, ?_⟩
      rw [any_eqv tm.1 fun u hu => (mz u hu).1]
      refine ⟨_, hB, ofNat_lt ?_, same_at s4 nB, ?_⟩
      · rw [List.length_map, List.length_take]
        omega
      · rw [upd_same, tkS hz, List.map_append]
        rfl
    rintro H4 ⟨s4, hB⟩
    rw [lu, List.take_length] at hB
    have eb : (as.map fun z => V.bl (decide (t ∈ z.2.1))) = (as.map fun z => decide (t ∈ z.2.1)).map V.bl := by rw [List.map_map]; rfl
    rw [eb] at hB
    refine ⟨B, _, rfl, SqL.of hB, _, rfl, ?_⟩
    have d4 := drawn_same d3 s4
    cases c : (as.map fun z => decide (t ∈ z.2.1)).any id with
    | true =>
      refine iteF ⟨_, as, rfl, d4, AtsAt.same s4 ⟨us, hD, has⟩, l1, l2, ga, fun u hu => ?_⟩
      rw [tkS ht] at hu
      rcases List.mem_append.mp hu with hu | hu
      · exact hp u hu
      · rw [List.mem_singleton.mp hu]
        obtain ⟨b, hb, e⟩ := List.any_eq_true.mp c
        obtain ⟨z, hz, rfl⟩ := List.mem_map.mp hb
        exact ⟨z, hz, of_decide_eq_true e⟩
    | false =>
      have lh := Paired.length hhs
      have hD4 := s4 _ _ hD
      have has4 : Paired (AtmAt H4) us as := Paired.mapP has fun _ _ z => z.fix (fixOf s4)
      cases has4 with
      | nil => exact absurd l1 (by decide)
      | @cons u0 a0 ur ar hu0 har =>
        have ga0 := ga a0 (List.mem_cons_self ..)
        have gar : ∀ x ∈ ar, x ∈ atL := fun x hx => ga x (List.mem_cons_of_mem _ hx)
        rw [List.length_cons] at l1 l2
        have dy0 := dy_of ga0
        have hxt4 := hxt.fix (fixOf s4)
        simp only [hdL, List.mem_cons, List.mem_nil_iff, or_false] at hdm
        rcases hdm with rfl | rfl | rfl
        · have i0 : i = 0 := by
            rw [List.length_singleton] at lh
            omega
          subst i0
          obtain rfl : t = .any "p" := (Option.some.inj ht).symm
          refine iteT ⟨_, rfl, A, hs, rfl, .inr (SqT.of (hA' d4)), rfl, _, rfl, ?_⟩
          rw [lh]
          refine iteT ⟨_, rfl, _, rfl, d, a, ns, rfl, d4.1, fun v2 t2 H5 m2 h2 d5 => ⟨by show 2 ≤ sizeLine; decide, fun p np => ?_⟩⟩
          have f5 := fixDrawn d4.1 d5
          have hD5 := d5.2 _ _ neD hD4
          have s6 := same_upd (o := .tup [x, v2]) np
          have hp6 : upd H5 p (.tup [x, v2]) p = some (.tup [x, v2]) := upd_same
          have d6 := drawn_same (drawn_trans d4 d5) s6
          have hD6 := s6 _ _ hD5
          have f6 := f5.trans (fixOf s6)
          have h2' := h2.fix (fixOf s6)
          generalize upd H5 p (.tup [x, v2]) = H6 at s6 hp6 d6 hD6 f6 h2'
          obtain ⟨p0, n0, y0, vs0, rfl, q1, q2, q3, q4⟩ := hu0.fix f6
          refine ⟨_, rfl, .inl ⟨D, _, 0, .ref p0, rfl, rfl, SqL.of hD6, atI_nat (j := 0) rfl, .inr (.inl ⟨p0, _, 2, y0, rfl, rfl, SqT.of q1, atI_nat (j := 2) rfl, (by show 3 ≤ sizeLine; decide), fun r nr => ?_⟩)⟩⟩
          have s7 := same_upd (o := .tup [V.str "lives", V.ref p, y0]) nr
          have f7 := fixOf s7
          refine ⟨_, rfl, D, _, 0, 0, rfl, rfl, s7 _ _ hD6, ixN0, ?_⟩
          have new : AtmAt (upd H6 r (.tup [V.str "lives", V.ref p, y0])) (.ref r) (("lives" : Str), [.any "p", t2], a0.2.2) := ⟨r, p, y0, _, rfl, upd_same, s7 _ _ hp6, .cons ((hxt4.fix f6).fix f7) (.cons (h2'.fix f7) .nil), q4.fix f7⟩
          refine ⟨_, _ :: ar, rfl, draw_upd h0 (drawn_same d6 s7) nD0, AtsAt.set0 (s7 _ _ hD6) (Paired.mapP (.cons hu0 har) fun _ _ z => (z.fix f6).fix f7) new, by rw [List.length_cons]; omega, by rw [List.length_cons]; omega, fun z hz => ?_, fun u hu => ?_⟩
          · rcases List.mem_cons.mp hz with e | hz
            · rw [e]
              exact mem_lives tm.2 m2 dy0
            · exact gar z hz
          · obtain rfl := List.mem_singleton.mp hu
            exact ⟨_, List.mem_cons_self .., List.mem_cons_self ..⟩
        · cases ht
        · refine iteT ⟨_, rfl, A, hs, rfl, .inr (SqT.of (hA' d4)), rfl, _, rfl, ?_⟩
          rw [lh]
          refine iteF ?_
          have hA4 := hA' d4
          obtain ⟨x0, x1, ex, hx0, hx1⟩ : ∃ x0 x1, hs = [x0, x1] ∧ TmAt H4 x0 (.any "p") ∧ TmAt H4 x1 (.any "q") := by
            have z := hhs' d4
            cases z with
            | cons z0 z => cases z with
              | cons z1 z => cases z with
                | nil => exact ⟨_, _, rfl, z0, z1⟩
          rw [ex] at hA4
          refine ⟨_, rfl, .inr (.inl ⟨A, _, 0, x0, rfl, rfl, SqT.of hA4, atI_nat (j := 0) rfl, _, rfl, .inr (.inl ⟨A, _, 1, x1, rfl, rfl, SqT.of hA4, atI_nat (j := 1) rfl, (by show 2 ≤ sizeLine; decide), fun p np => ?_⟩)⟩)⟩
          have s6 := same_upd (o := .tup [x0, x1]) np
          have hp6 : upd H4 p (.tup [x0, x1]) p = some (.tup [x0, x1]) := upd_same
          have d6 := drawn_same d4 s6
          have hD6 := s6 _ _ hD4
          have f6 := fixOf s6
          generalize upd H4 p (.tup [x0, x1]) = H6 at s6 hp6 d6 hD6 f6
          obtain ⟨p0, n0, y0, vs0, rfl, q1, q2, q3, q4⟩ := hu0.fix f6
          refine ⟨_, rfl, .inl ⟨D, _, 0, .ref p0, rfl, rfl, SqL.of hD6, atI_nat (j := 0) rfl, .inr (.inl ⟨p0, _, 2, y0, rfl, rfl, SqT.of q1, atI_nat (j := 2) rfl, (by show 3 ≤ sizeLine; decide), fun r nr => ?_⟩)⟩⟩
          have s7 := same_upd (o := .tup [V.str "lives", V.ref p, y0]) nr
          have f7 := fixOf s7
          refine ⟨_, rfl, D, _, 0, 0, rfl, rfl, s7 _ _ hD6, ixN0, ?_⟩
          have new : AtmAt (upd H6 r (.tup [V.str "lives", V.ref p, y0])) (.ref r) (("lives" : Str), [.any "p", .any "q"], a0.2.2) := ⟨r, p, y0, _, rfl, upd_same, s7 _ _ hp6, .cons ((hx0.fix f6).fix f7) (.cons ((hx1.fix f6).fix f7) .nil), q4.fix f7⟩
          refine ⟨_, _ :: ar, rfl, draw_upd h0 (drawn_same d6 s7) nD0, AtsAt.set0 (s7 _ _ hD6) (Paired.mapP (.cons hu0 har) fun _ _ z => (z.fix f6).fix f7) new, by rw [List.length_cons]; omega, by rw [List.length_cons]; omega, fun z hz => ?_, fun u hu => ?_⟩
          · rcases List.mem_cons.mp hz with e | hz
            · rw [e]
              exact mem_lives (by decide) (by decide) dy0
            · exact gar z hz
          · exact ⟨_, List.mem_cons_self .., List.mem_of_mem_take hu⟩
  rintro σ H3 ⟨y5, as, rfl, d3, ⟨us, hD3, has3⟩, l1, l2, ga, hp⟩
  rw [Paired.length hhs, List.take_length] at hp
  have lu := Paired.length has3
  intro N nN
  have neN := ne_draw d3.1 nN
  have nN0 := fresh_keep d3.2 nN neN
  have d4 := drawn_same d3 (same_upd (o := .dT []) nN)
  have hD4 := same_upd (o := .dT []) nN _ _ hD3
  have has4 := Paired.mapP has3 fun _ _ z => z.fix (fixOf (same_upd (o := .dT []) nN))
  have hN4 : upd H3 N (.dT []) N = some (.dT []) := upd_same
  generalize upd H3 N (.dT []) = H4 at d4 hD4 has4 hN4
  intro Y nY
  have neY := ne_draw d4.1 nY
  have nY0 := fresh_keep d4.2 nY neY
  have neDN : D ≠ N := fun z => by rw [z, hN4] at hD4; cases hD4
  have neDY : D ≠ Y := fun z => by rw [z, nY] at hD4; cases hD4
  have neNY : N ≠ Y := fun z => by rw [z, nY] at hN4; cases hN4
  have d5 := drawn_same d4 (same_upd (o := .dT []) nY)
  have hD5 := same_upd (o := .dT []) nY _ _ hD4
  have has5 := Paired.mapP has4 fun _ _ z => z.fix (fixOf (same_upd (o := .dT []) nY))
  have hN5 := same_upd (o := .dT []) nY _ _ hN4
  have hY5 : upd H4 Y (.dT []) Y = some (.dT []) := upd_same
  generalize upd H4 Y (.dT []) = H5 at d5 hD5 has5 hN5 hY5
  refine ⟨_, rfl, D, rfl, ⟨_, SqL.of hD5⟩, for_it (walk_list (K := K) (a := D) (xs := us)) (fun i σ H6 => ∃ (y5 y8 y9 y10 : Option V) (kn ky : List (List L2.Key × V)), σ = [some (.ref d), some (.ref A), some (.int 2), some (.bl true), some (.ref D), y5, some (.ref N), some (.ref Y), y8, y9, y10, none, none, none] ∧ Drawn' K H H6 d a ns ∧ H6 D = some (.lst us) ∧ Paired (AtmAt H6) us as ∧
      H6 N = some (.dT kn) ∧ H6 Y = some (.dT ky) ∧ KeysOf nmTms as kn ∧ KeysOf dyTms as ky ∧ kn.length ≤ 2 * i ∧ ky.length ≤ i ∧ (1 ≤ i → ky ≠ [])) ⟨_, _, _, _, [], [], rfl, d5, hD5, has5, hN5, hY5, (fun _ z => nomatch z), (fun _ z => nomatch z), Nat.zero_le _, Nat.zero_le _, fun z => absurd z (by decide)⟩ (fun i σ H6 _ ⟨_, _, _, _, _, _, _, _, z, _⟩ => SqL.of z) ?_ ?_⟩
  · rintro i x σ H6 H6' hi ⟨y5, y8, y9, y10, kn, ky, rfl, d6, hD6, has6, hN6, hY6, kN, kY, lN, lY, nk⟩ ⟨rfl, hx⟩
    obtain ⟨z, hz, p, n, y, vs, rfl, hp6, hn6, hvs, hy⟩ := pget has6 hx
    have mz := List.mem_of_getElem? hz
    have gz := ga z mz
    obtain ⟨tz1, tz2, _, tz3⟩ := at_tms z gz
    have lz := Paired.length hvs
    obtain ⟨_, _, _, _, _, _, _, _, lz2, _⟩ := of_decide_eq_true (at_len z gz)
    refine ⟨p, _, rfl, SqT.of hp6, rfl, _, _, rfl, _, _, rfl, _, _, rfl, rfl, ?_⟩
    refine ⟨_, rfl, n, rfl, ⟨_, SqT.of hn6⟩, for_it (walk_tup (K := K) (xs := vs)) (fun j σ H7 => ∃ (y5 : Option V) (kn : List (List L2.Key × V)), σ = [some (.ref d), some (.ref A), some (.int 2), some (.bl true), some (.ref D), y5, some (.ref N), some (.ref Y), some (.str z.1), some (.ref n), some y, none, none, none] ∧ Drawn' K H H7 d a ns ∧ Fix H6' H7 ∧ H7 D = some (.lst us) ∧
      H7 N = some (.dT kn) ∧ H7 Y = some (.dT ky) ∧ KeysOf nmTms as kn ∧ kn.length ≤ 2 * i + j) ⟨_, kn, rfl, d6, Fix.refl _, hD6, hN6, hY6, kN, lN⟩ (fun j σ H7 _ ⟨_, _, _, _, f, _⟩ => SqT.of (f _ _ hn6 True.intro)) ?_ ?_⟩
    · rintro j x σ H7 H7' hj ⟨y5, kn, rfl, d7, f7, hD7, hN7, hY7, kN, lN⟩ ⟨rfl, hx⟩
      obtain ⟨t, ht, hxt⟩ := pget hvs hx
      have mt := List.mem_of_getElem? ht
      obtain ⟨b, rfl, hb⟩ := hxt.fix f7
      refine ⟨_, rfl, _, rfl, N, _, rfl, DPut.t hN7 hb (ofNat_lt (by omega)), _, _, rfl, draw_upd h0 d7 nN0, f7.trans (fix_upd hN7 fun z => z), (upd_ne neDN).trans hD7, upd_same, (upd_ne neNY.symm).trans hY7, kN.put (List.mem_filter.mpr (tz3 t mt)) (List.mem_flatMap.mpr ⟨z, mz, List.mem_append.mpr (.inl mt)⟩), ?_⟩
      have := length_putK kn t.key (.bl true)
      omega
    · rintro σ H7 ⟨y5, kn, rfl, d7, f7, hD7, hN7, hY7, kN, lN⟩
      obtain ⟨b, rfl, hb⟩ := hy.fix f7
      have f8 := f7.trans (fix_upd (o := .dT (putK ky z.2.2.key (.bl true))) hY7 fun z => z)
      refine ⟨_, rfl, _, rfl, Y, _, rfl, DPut.t hY7 hb (ofNat_lt (by omega)), _, _, _, _, _, _, rfl, draw_upd h0 d7 nY0, (upd_ne neDY).trans hD7, Paired.mapP has6 fun _ _ z => z.fix f8, (upd_ne neNY).trans hN7, upd_same, kN, kY.put (dy_of gz) (List.mem_flatMap.mpr ⟨z, mz, List.mem_append.mpr (.inr (List.mem_singleton.mpr rfl))⟩), ?_, ?_, fun _ => put_ne⟩
      · omega
      · have := length_putK ky z.2.2.key (.bl true)
        omega
  rintro σ H6 ⟨y5, y8, y9, y10, kn, ky, rfl, d6, hD6, has6, hN6, hY6, kN, kY, lN, lY, nk⟩
  have nky := nk (by omega)
  refine ⟨Nat.zero_le _, fun G nT => ?_⟩
  have neT := ne_draw d6.1 nT
  have F : Four H d D N Y G := ⟨neD, neN, neY, neT, (fun z => by rw [z, nT] at hD6; cases hD6), (fun z => by rw [z, nT] at hN6; cases hN6), (fun z => by rw [z, nT] at hY6; cases hY6), fresh_keep d6.2 nT neT⟩
  have s7 := same_upd (o := .lst []) nT
  have B7 : Bag K H d a ns D N Y G us as kn ky (upd H6 G (.lst [])) [] := ⟨drawn_same d6 s7, s7 _ _ hD6, Paired.mapP has6 fun _ _ z => z.fix (fixOf s7), s7 _ _ hN6, s7 _ _ hY6, [], upd_same, .nil⟩
  generalize upd H6 G (.lst []) = H7 at B7
  refine ⟨_, rfl, d, a, ns, 3, rfl, B7.dr.1, by decide, fun r3 H8 r30 r31 d8 => ⟨_, rfl, by omega, by omega, ?_⟩⟩
  have B8 := B7.step F d8
  refine for_it walk_range (fun i σ H8 => ∃ (y5 y8 y9 y10 y12 y13 : Option V) (ts : List Tst), σ = [some (.ref d), some (.ref A), some (.int 2), some (.bl true), some (.ref D), y5, some (.ref N), some (.ref Y), y8, y9, y10, some (.ref G), y12, y13] ∧ Bag K H d a ns D N Y G us as kn ky H8 ts ∧ ts.length ≤ i ∧ ∀ s ∈ ts, s ∈ tsL ∧ Vok as s) ⟨_, _, _, _, _, _, [], rfl, B8, Nat.zero_le _, fun s hs => nomatch hs⟩ (fun _ _ _ _ _ => True.intro) ?_ ?_
  · rintro i x σ H8 H8' hi ⟨y5, y8, y9, y10, y12, y13, ts, rfl, b8, lt, gt⟩ ⟨rfl, rfl⟩
    have nmL2 : ∀ t, t ∈ nmTms → t ∈ nmTms ∧ True := fun t h => ⟨h, True.intro⟩
    obtain ⟨ws, hG8, hws8⟩ := b8.hT
    refine ⟨_, rfl, d, a, ns, 3, rfl, b8.dr.1, by decide, fun r2 H9 _ _ d9 => ⟨rfl, _, rfl, ?_⟩⟩
    have b9 := b8.step F d9
    have three : (3 : Nat) ≤ sizeLine := by decide
    have two : (2 : Nat) ≤ sizeLine := by decide
    have one : (1 : Nat) ≤ sizeLine := by decide
    refine iteAB ?_ fun hB _ => ⟨_, rfl, N, kn, rfl, b9.hN, _, _, rfl, rfl, _, rfl, ?_⟩
    · -- days
      refine iteF ?_
      refine ⟨_, rfl, _, rfl, Y, ky, rfl, .inl b9.hY, fun p bs np ks => ⟨two, fun q1 n1 => ⟨two, fun q2 n2 => ⟨two, fun L1 nL1 => ?_⟩⟩⟩⟩
      obtain ⟨tys, py, gy, ly⟩ := keys_tms ks kY
      have e9 : Same H9 (upd H9 p (.lst (bs.map V.ref))) := same_upd np
      have h1 := lay_tm (lay_tm (⟨e9, Paired.mapP py fun _ _ z => z.fix (fixOf e9)⟩ : Same H9 _ ∧ Paired (TmAt _) (bs.map V.ref) tys) n1 (.day 3)) n2 (.day 6)
      have lp : upd H9 p (.lst (bs.map V.ref)) p = some (.lst (bs.map V.ref)) := upd_same
      have lp2 := same_upd n2 (o := .tup ((Tm.day 6).key.map kV)) _ _ (same_upd n1 (o := .tup ((Tm.day 3).key.map kV)) _ _ lp)
      have sL1 := same_upd (o := .lst [V.ref q1, V.ref q2]) nL1
      have lp3 := sL1 _ _ lp2
      have s10 := h1.1.trans sL1
      have p10 := Paired.mapP h1.2 fun _ _ z => z.fix (fixOf sL1)
      have hL1 : upd (upd (upd (upd H9 p (.lst (bs.map V.ref))) q1 (.tup ((Tm.day 3).key.map kV))) q2 (.tup ((Tm.day 6).key.map kV))) L1 (.lst [V.ref q1, V.ref q2]) L1 = some (.lst [V.ref q1, V.ref q2]) := upd_same
      show rCat _ _ (upd (upd (upd (upd H9 p (.lst (bs.map V.ref))) q1 (.tup ((Tm.day 3).key.map kV))) q2 (.tup ((Tm.day 6).key.map kV))) L1 (.lst [V.ref q1, V.ref q2])) _
      obtain ⟨H10, eH10⟩ : ∃ H10, H10 = upd (upd (upd (upd H9 p (.lst (bs.map V.ref))) q1 (.tup ((Tm.day 3).key.map kV))) q2 (.tup ((Tm.day 6).key.map kV))) L1 (.lst [V.ref q1, V.ref q2]) := ⟨_, rfl⟩
      rw [← eH10]
      have lp3 : H10 p = some (.lst (bs.map V.ref)) := by rw [eH10]; exact lp3
      have s10 : Same H9 H10 := by rw [eH10]; exact s10
      have p10 : Paired (TmAt H10) ((bs.map V.ref ++ [V.ref q1]) ++ [V.ref q2]) ((tys ++ [.day 3]) ++ [.day 6]) := by rw [eH10]; exact p10
      have hL1 : H10 L1 = some (.lst [V.ref q1, V.ref q2]) := by rw [eH10]; exact hL1
      have lb : ky.length = bs.length := Paired.length ks
      have lky : ky.length ≤ 2 := by omega
      refine ⟨p, L1, _, _, rfl, rfl, lp3, hL1, ofNat_le (by rw [List.length_map]; show bs.length + 2 ≤ _; omega), fun M1 nM1 => ⟨_, rfl, true, rfl, iteT ⟨one, fun q3 n3 => ⟨one, fun L2 nL2 => ?_⟩⟩⟩⟩
      have sM := same_upd (o := .lst (bs.map V.ref ++ [V.ref q1, V.ref q2])) nM1
      have hM1 : upd H10 M1 (.lst (bs.map V.ref ++ [V.ref q1, V.ref q2])) M1 = some (.lst (bs.map V.ref ++ [V.ref q1, V.ref q2])) := upd_same
      have h3 := lay_tm (⟨s10.trans sM, Paired.mapP p10 fun _ _ z => z.fix (fixOf sM)⟩ : Same H9 _ ∧ Paired (TmAt _) ((bs.map V.ref ++ [V.ref q1]) ++ [V.ref q2]) ((tys ++ [.day 3]) ++ [.day 6])) n3 .now
      have hM2 := same_upd n3 (o := .tup (Tm.now.key.map kV)) _ _ hM1
      have sL2 := same_upd (o := .lst [V.ref q3]) nL2
      have hM3 := sL2 _ _ hM2
      have s11 := h3.1.trans sL2
      have p11 := Paired.mapP h3.2 fun _ _ z => z.fix (fixOf sL2)
      have hL2 : upd (upd (upd H10 M1 (.lst (bs.map V.ref ++ [V.ref q1, V.ref q2]))) q3 (.tup (Tm.now.key.map kV))) L2 (.lst [V.ref q3]) L2 = some (.lst [V.ref q3]) := upd_same
      show rCat _ _ (upd (upd (upd H10 M1 (.lst (bs.map V.ref ++ [V.ref q1, V.ref q2]))) q3 (.tup (Tm.now.key.map kV))) L2 (.lst [V.ref q3])) _
      obtain ⟨H11, eH11⟩ : ∃ H11, H11 = upd (upd (upd H10 M1 (.lst (bs.map V.ref ++ [V.ref q1, V.ref q2]))) q3 (.tup (Tm.now.key.map kV))) L2 (.lst [V.ref q3]) := ⟨_, rfl⟩
      rw [← eH11]
      have hM3 : H11 M1 = some (.lst (bs.map V.ref ++ [V.ref q1, V.ref q2])) := by rw [eH11]; exact hM3
      have s11 : Same H9 H11 := by rw [eH11]; exact s11
      have p11 : Paired (TmAt H11) (((bs.map V.ref ++ [V.ref q1]) ++ [V.ref q2]) ++ [V.ref q3]) (((tys ++ [.day 3]) ++ [.day 6]) ++ [.now]) := by rw [eH11]; exact p11
      have hL2 : H11 L2 = some (.lst [V.ref q3]) := by rw [eH11]; exact hL2
      have b11 := b9.same F s11
      refine ⟨M1, L2, _, _, rfl, rfl, hM3, hL2, ofNat_le (by rw [List.length_append, List.length_map]; show bs.length + 2 + 1 ≤ _; omega), fun M2 nM2 => ?_⟩
      have sM2 := same_upd (o := .lst ((bs.map V.ref ++ [V.ref q1, V.ref q2]) ++ [V.ref q3])) nM2
      have b12 := b11.same F sM2
      have p12 := Paired.mapP p11 fun _ _ z => z.fix (fixOf sM2)
      refine ⟨d, a, M2, ns, _, rfl, b12.dr.1, ne_draw b11.dr.1 nM2, upd_same, by simp, fun ox H13 hox d13 => ?_⟩
      obtain ⟨ot, mot, hot⟩ := pin p12 (v := ox) (by simpa [or_assoc] using hox)
      have hot := hot.fix (fixDrawn b12.dr.1 d13)
      have b13 := b12.step F d13
      have got : ot ∈ dyTms ∧ (isVar ot = true → ot ∈ termsOf as) := by
        rcases List.mem_append.mp mot with m | m
        · rcases List.mem_append.mp m with m | m
          · rcases List.mem_append.mp m with m | m
            · exact ⟨(gy ot m).1, fun _ => (gy ot m).2⟩
            · rw [List.mem_singleton.mp m]
              exact ⟨by decide, fun z => nomatch z⟩
          · rw [List.mem_singleton.mp m]
            exact ⟨by decide, fun z => nomatch z⟩
        · rw [List.mem_singleton.mp m]
          exact ⟨by decide, fun z => nomatch z⟩
      obtain ⟨ws13, hG13, _⟩ := b13.hT
      refine ⟨.ref G, rfl, .inl ⟨rfl, _, SqL.of hG13⟩, _, rfl, (by show 5 ≤ sizeLine; decide), fun L3 nL3 => ?_⟩
      have s14 := same_upd (o := .lst [V.str "less", V.str "less", V.str "most", V.str "same", V.str "unlike"]) nL3
      have b14 := b13.same F s14
      refine ⟨d, a, L3, ns, _, rfl, b14.dr.1, ne_draw b13.dr.1 nL3, upd_same, by simp, fun xw H15 hw d15 => ?_⟩
      have b15 := b14.step F d15
      obtain ⟨wd, rfl, mwd⟩ : ∃ wd, xw = .str wd ∧ wd ∈ dayWs := by
        simp only [List.mem_cons, List.mem_nil_iff, or_false] at hw
        rcases hw with rfl | rfl | rfl | rfl | rfl <;> exact ⟨_, rfl, by decide⟩
      have hot15 := (hot.fix (fixOf s14)).fix (fixDrawn b14.dr.1 d15)
      refine ⟨_, rfl, _, rfl, Y, ky, rfl, .inl b15.hY, fun p5 bs5 np5 ks5 => ?_⟩
      obtain ⟨tys5, py5, gy5, ly5⟩ := keys_tms ks5 kY
      have s16 := same_upd (o := .lst (bs5.map V.ref)) np5
      have b16 := b15.same F s16
      have lb5 : ky.length = bs5.length := Paired.length ks5
      refine ⟨d, a, p5, ns, _, rfl, b16.dr.1, ne_draw b15.dr.1 np5, upd_same, (fun z => by
        have e := List.map_eq_nil_iff.mp z
        rw [e] at lb5
        exact nky (List.length_eq_zero_iff.mp lb5)), fun x2 H17 hx2 d17 => ?_⟩
      obtain ⟨t2, mt2, ht2⟩ := pin py5 hx2
      have b17 := b16.step F d17
      have f17 := fixDrawn b16.dr.1 d17
      have ht17 := (ht2.fix (fixOf s16)).fix f17
      have hot17 := (hot15.fix (fixOf s16)).fix f17
      refine ⟨_, rfl, three, fun r5 nr5 => ?_⟩
      have s18 := same_upd (o := .tup [V.str wd, x2, ox]) nr5
      have b18 := b17.same F s18
      obtain ⟨ws18, hG18, hws18⟩ := b18.hT
      have l18 := Paired.length hws18
      refine ⟨G, ws18, _, rfl, rfl, hG18, ofNat_lt (by omega), _, _, _, _, _, _, ts ++ [(wd, t2, ot)], rfl, b18.app h0 F hG18 ⟨r5, x2, ox, rfl, upd_same, ht17.fix (fixOf s18), hot17.fix (fixOf s18)⟩, by rw [List.length_append]; show ts.length + 1 ≤ _; omega, fun s hs => ?_⟩
      rcases List.mem_append.mp hs with hs | hs
      · exact gt s hs
      · rw [List.mem_singleton.mp hs]
        refine ⟨mem_tsD mwd (gy5 t2 mt2).1 got.1, fun t ht hv => ?_⟩
        rcases ht with rfl | rfl
        · exact (gy5 _ mt2).2
        · exact got.2 hv
    · -- names
      by_cases cn : ((1 : Int) < ((kn.length : Nat) : Int))
      · refine ifT cn ?_
        obtain ⟨ws9, hG9, _⟩ := b9.hT
        refine ⟨.ref G, rfl, .inl ⟨rfl, _, SqL.of hG9⟩, _, rfl, three, fun L3 nL3 => ?_⟩
        have s14 := same_upd (o := .lst [V.str "same", V.str "unlike", V.str "unlike"]) nL3
        have b14 := b9.same F s14
        refine ⟨d, a, L3, ns, _, rfl, b14.dr.1, ne_draw b9.dr.1 nL3, upd_same, by simp, fun xw H15 hw d15 => ?_⟩
        have b15 := b14.step F d15
        obtain ⟨wd, rfl, mwd⟩ : ∃ wd, xw = .str wd ∧ wd ∈ nameWs := by
          simp only [List.mem_cons, List.mem_nil_iff, or_false] at hw
          rcases hw with rfl | rfl | rfl <;> exact ⟨_, rfl, by decide⟩
        refine ⟨_, rfl, _, rfl, N, kn, rfl, .inl b15.hN, fun p5 bs5 np5 ks5 => ?_⟩
        obtain ⟨tys5, py5, gy5, ly5⟩ := keys_tms ks5 kN
        have s16 := same_upd (o := .lst (bs5.map V.ref)) np5
        have b16 := b15.same F s16
        have lb5 : kn.length = bs5.length := Paired.length ks5
        refine ⟨d, a, p5, ns, _, rfl, b16.dr.1, ne_draw b15.dr.1 np5, upd_same, (fun z => by
          have e := List.map_eq_nil_iff.mp z
          rw [e] at lb5
          have : ([] : List Addr).length = 0 := rfl
          omega), fun x2 H17 hx2 d17 => ?_⟩
        obtain ⟨t2, mt2, ht2⟩ := pin py5 hx2
        have b17 := b16.step F d17
        have f17 := fixDrawn b16.dr.1 d17
        have ht17 := (ht2.fix (fixOf s16)).fix f17
        refine ⟨_, rfl, _, rfl, N, kn, rfl, .inl b17.hN, fun p6 bs6 np6 ks6 => ⟨two, fun q1 n1 => ⟨one, fun L1 nL1 => ?_⟩⟩⟩
        obtain ⟨tys6, py6, gy6, ly6⟩ := keys_tms ks6 kN
        have lb6 : kn.length = bs6.length := Paired.length ks6
        have e9 : Same H17 (upd H17 p6 (.lst (bs6.map V.ref))) := same_upd np6
        have h1 := lay_tm (⟨e9, Paired.mapP py6 fun _ _ z => z.fix (fixOf e9)⟩ : Same H17 _ ∧ Paired (TmAt _) (bs6.map V.ref) tys6) n1 (.name "oslo")
        have lp : upd H17 p6 (.lst (bs6.map V.ref)) p6 = some (.lst (bs6.map V.ref)) := upd_same
        have lp2 := same_upd n1 (o := .tup ((Tm.name "oslo").key.map kV)) _ _ lp
        have sL1 := same_upd (o := .lst [V.ref q1]) nL1
        have lp3 := sL1 _ _ lp2
        have s18 := h1.1.trans sL1
        have p18 := Paired.mapP h1.2 fun _ _ z => z.fix (fixOf sL1)
        have hL1 : upd (upd (upd H17 p6 (.lst (bs6.map V.ref))) q1 (.tup ((Tm.name "oslo").key.map kV))) L1 (.lst [V.ref q1]) L1 = some (.lst [V.ref q1]) := upd_same
        show rCat _ _ (upd (upd (upd H17 p6 (.lst (bs6.map V.ref))) q1 (.tup ((Tm.name "oslo").key.map kV))) L1 (.lst [V.ref q1])) _
        obtain ⟨H18, eH18⟩ : ∃ H18, H18 = upd (upd (upd H17 p6 (.lst (bs6.map V.ref))) q1 (.tup ((Tm.name "oslo").key.map kV))) L1 (.lst [V.ref q1]) := ⟨_, rfl⟩
        rw [← eH18]
        have lp3 : H18 p6 = some (.lst (bs6.map V.ref)) := by rw [eH18]; exact lp3
        have s18 : Same H17 H18 := by rw [eH18]; exact s18
        have p18 : Paired (TmAt H18) (bs6.map V.ref ++ [V.ref q1]) (tys6 ++ [.name "oslo"]) := by rw [eH18]; exact p18
        have hL1 : H18 L1 = some (.lst [V.ref q1]) := by rw [eH18]; exact hL1
        have b18 := b17.same F s18
        refine ⟨p6, L1, _, _, rfl, rfl, lp3, hL1, ofNat_le (by rw [List.length_map]; show bs6.length + 1 ≤ _; omega), fun M1 nM1 => ?_⟩
        have sM := same_upd (o := .lst (bs6.map V.ref ++ [V.ref q1])) nM1
        have b19 := b18.same F sM
        refine ⟨d, a, M1, ns, _, rfl, b19.dr.1, ne_draw b18.dr.1 nM1, upd_same, by simp, fun x3 H20 hx3 d20 => ?_⟩
        obtain ⟨t3, mt3, ht3⟩ := pin p18 hx3
        have b20 := b19.step F d20
        have f20 := (fixOf sM).trans (fixDrawn b19.dr.1 d20)
        have ht3' := ht3.fix f20
        have ht2' := (ht17.fix (fixOf s18)).fix f20
        have got : t3 ∈ nmTms ∧ (isVar t3 = true → t3 ∈ termsOf as) := by
          rcases List.mem_append.mp mt3 with m | m
          · exact ⟨(gy6 t3 m).1, fun _ => (gy6 t3 m).2⟩
          · rw [List.mem_singleton.mp m]
            exact ⟨by decide, fun z => nomatch z⟩
        refine ⟨three, fun r5 nr5 => ?_⟩
        have s21 := same_upd (o := .tup [V.str wd, x2, x3]) nr5
        have b21 := b20.same F s21
        obtain ⟨ws21, hG21, hws21⟩ := b21.hT
        have l21 := Paired.length hws21
        refine ⟨G, ws21, _, rfl, rfl, hG21, ofNat_lt (by omega), _, _, _, _, _, _, ts ++ [(wd, t2, t3)], rfl, b21.app h0 F hG21 ⟨r5, x2, x3, rfl, upd_same, ht2'.fix (fixOf s21), ht3'.fix (fixOf s21)⟩, by rw [List.length_append]; show ts.length + 1 ≤ _; omega, fun s hs => ?_⟩
        rcases List.mem_append.mp hs with hs | hs
        · exact gt s hs
        · rw [List.mem_singleton.mp hs]
          refine ⟨mem_tsN mwd (gy5 t2 mt2).1 got.1, fun t ht hv => ?_⟩
          rcases ht with rfl | rfl
          · exact (gy5 _ mt2).2
          · exact got.2 hv
      · rw [decide_eq_false cn]
        exact hB
  rintro σ H8 ⟨y5, y8, y9, y10, y12, y13, ts, rfl, b8, lt, gt⟩
  obtain ⟨ws, hT8, hws8⟩ := b8.hT
  refine ⟨_, rfl, D, us, rfl, .inl ⟨SqL.of b8.hD, fun A2 nA2 => ?_⟩⟩
  have s9 := same_upd (o := .tup us) nA2
  have hA9 : upd H8 A2 (.tup us) A2 = some (.tup us) := upd_same
  have b9 := b8.same F s9
  have hT9 := s9 _ _ hT8
  have hws9 := Paired.mapP hws8 fun _ _ z => z.fix (fixOf s9)
  generalize upd H8 A2 (.tup us) = H9 at hA9 b9 hT9 hws9
  refine ⟨_, rfl, G, ws, rfl, .inl ⟨SqL.of hT9, fun B2 nB2 => ?_⟩⟩
  have s10 := same_upd (o := .tup ws) nB2
  have hB10 : upd H9 B2 (.tup ws) B2 = some (.tup ws) := upd_same
  have b10 := b9.same F s10
  have hA10 := s10 _ _ hA9
  have hws10 := Paired.mapP hws9 fun _ _ z => z.fix (fixOf s10)
  generalize upd H9 B2 (.tup ws) = H10 at hA10 b10 hB10 hws10
  intro x dx nx ndx ne
  have sx := same_at (o := .ins (ad 55999) dx []) (same_upd (o := .own x) ndx) nx
  refine ⟨H10, x, dx, A2, B2, us, ws, (as, ts), rfl, nx, sx, upd_same, hA10, b10.has, hB10, hws10, ⟨ga, fun s hs => (gt s hs).1, l1, by show as.length ≤ 3; omega, by show ts.length ≤ 6; omega, fun s hs => (gt s hs).2⟩, fun H' sH hc => ⟨rfl, ?_⟩⟩
  refine q _ (as, ts) H' ⟨ga, fun s hs => (gt s hs).1, l1, by show as.length ≤ 3; omega, by show ts.length ≤ 6; omega, fun s hs => (gt s hs).2⟩ (fun t ht => ?_) hc (drawn_same b10.dr sH)
  obtain ⟨z, hz, hm⟩ := hp t ht
  exact List.mem_flatMap.mpr ⟨z, hz, List.mem_append.mpr (.inl hm)⟩
end
end Yj
set_option Elab.async false
set_option linter.all false
set_option maxRecDepth 100000
set_option maxHeartbeats 4000000
set_option pp.maxSteps 1500
namespace Yj
open PySem PySem.Spec PyProof.Rows L2 RZ YjD YjF
def wTx (a : Atm) : Str := (((a.1 ++ ("(" : Str)) ++ Txt.join "," (a.2.1.map tmTx)) ++ (")@" : Str)) ++ tmTx a.2.2
theorem w_at : ∀ a ∈ atL, wTx a = atTx a := by decide +kernel
def wLen (a : Atm) : Bool := decide (a.1.length + ("(" : Str).length ≤ 100 ∧ (a.1 ++ ("(" : Str)).length + (Txt.join "," (a.2.1.map tmTx)).length ≤ 100 ∧ ((a.1 ++ ("(" : Str)) ++ Txt.join "," (a.2.1.map tmTx)).length + (")@" : Str).length ≤ 100 ∧
  (((a.1 ++ ("(" : Str)) ++ Txt.join "," (a.2.1.map tmTx)) ++ (")@" : Str)).length + (tmTx a.2.2).length ≤ 100)
theorem w_len : ∀ a ∈ atL, wLen a = true := by decide +kernel
def sgD : List (L2.Key × V) := [(Sum.inr "less", .str "<"), (Sum.inr "most", .str "<="), (Sum.inr "same", .str "="), (Sum.inr "unlike", .str "!=")]
theorem sgD_val {w : Str} (h : w ∈ dayWs) : valV sgD (Sum.inr w : L2.Key) = some (.str (sgn w)) := by
  revert h
  simp only [dayWs, List.mem_cons, List.mem_nil_iff, or_false]
  rintro (rfl | rfl | rfl | rfl) <;> rfl
def spLWords (C : Addr) : Sp := fun vs H Q _ => ∃ v c, vs = [v] ∧ ClsAt C H v c ∧ GoodC c ∧ ∀ H' L, Same H H' → H' L = some (.lst ((c.1.map atTx ++ c.2.map tstTx).map V.str)) → Q (.ref L) H'
section
variable {P : Program} {w : World} {K : PySem.W.Frag} {mg : Str → Option Value} {base : Heap} {ad : Nat → Addr} {fds : Nat → FuncData} {cs : Nat → Value}
theorem ok__law_word (T : Txt K mg ad fds cs) : FnOk P w K mg base CX0 1 (ad 76) (fds 76) ["term"] spTmTx := by
  refine T.F__law_word.ok sc__law_word (fun vs H Q E h => ?_) (fun cdv A outer s H vs Q E hr h => ?_)
  · obtain ⟨v, t, rfl, _⟩ := h
    rfl
  obtain ⟨v, t, rfl, hv, ht, q0⟩ := h
  obtain ⟨a, rfl, ha0⟩ := id hv
  refine ⟨_, (pss_cons (ps_if (pt_cmpR (op_eqD hr.units) (pv 0) (pe_tup (pa_cons pe_str pa_nil)) (nomark _)) (pss_one (ps_ret pe_str)) pss_nil)
      (pss_one (ps_ret (pe_ifExp (pt_cmpR op_in_seq (pe_ix ix_seq (pv 0) pe_int (fun _ _ => rfl)) (pe_tup (pa_cons pe_str (pa_cons pe_str pa_nil))) (by rfl)) (pe_op op_add_str pe_str (pe_ix ix_seq (pv 0) pe_int (fun _ _ => rfl))) (pe_callTy (YjG.callR_or call_str_int SkE.call_str_str) (by rfl) T.z_str (by decide +kernel) (pa_cons (pe_ix ix_seq (pv 0) pe_int (fun _ _ => rfl)) pa_nil)))))), ?_⟩
  refine ⟨_, rfl, (by show 1 ≤ sizeLine; decide), fun q1 n1 => ?_⟩
  have s0 := same_upd (o := .tup [V.str "now"]) n1
  have hq : upd H q1 (.tup [V.str "now"]) q1 = some (.tup [V.str "now"]) := upd_same
  have hv := hv.fix (fixOf s0)
  have ha := s0 _ _ ha0
  generalize upd H q1 (.tup [V.str "now"]) = H1 at s0 hq hv ha
  have q : ∀ H', Same H1 H' → Q (.str (tmTx t)) H' := fun H' s => q0 H' (s0.trans s)
  refine ⟨datT t, .tuple [.str "now"], hv.d.dp, .tup (SqT.of hq) (.cons (.str _) .nil), tm_sh t ht, now_sh, _, rfl, ?_⟩
  rw [tm_eqn t ht]
  cases t with
  | now => exact iteT (q H1 (Same.refl H1))
  | any n =>
    refine iteF ⟨_, rfl, .inr (.inl ⟨a, _, 0, .str "any", rfl, rfl, SqT.of ha, atI_nat (j := 0) rfl, (by show 2 ≤ sizeLine; decide), fun p hp => ?_⟩)⟩
    have s1 := same_upd (o := .tup [V.str "any", V.str "when"]) hp
    refine ⟨p, _, rfl, .inr (SqT.of upd_same), rfl, rfl, _, rfl, ?_⟩
    rw [show inV (.str "any") [V.str "any", V.str "when"] = true by decide +kernel]
    exact iteT ⟨_, rfl, .inr (.inl ⟨a, _, 1, .str n, rfl, rfl, SqT.of (s1 _ _ ha), atI_nat (j := 1) rfl, _, _, rfl, rfl, nm_len2 n (tm_nm _ ht n (.inl rfl)), q _ s1⟩)⟩
  | wh n =>
    refine iteF ⟨_, rfl, .inr (.inl ⟨a, _, 0, .str "when", rfl, rfl, SqT.of ha, atI_nat (j := 0) rfl, (by show 2 ≤ sizeLine; decide), fun p hp => ?_⟩)⟩
    have s1 := same_upd (o := .tup [V.str "any", V.str "when"]) hp
    refine ⟨p, _, rfl, .inr (SqT.of upd_same), rfl, rfl, _, rfl, ?_⟩
    rw [show inV (.str "when") [V.str "any", V.str "when"] = true by decide +kernel]
    exact iteT ⟨_, rfl, .inr (.inl ⟨a, _, 1, .str n, rfl, rfl, SqT.of (s1 _ _ ha), atI_nat (j := 1) rfl, _, _, rfl, rfl, nm_len2 n (tm_nm _ ht n (.inr (.inr rfl))), q _ s1⟩)⟩
  | name n =>
    refine iteF ⟨_, rfl, .inr (.inl ⟨a, _, 0, .str "name", rfl, rfl, SqT.of ha, atI_nat (j := 0) rfl, (by show 2 ≤ sizeLine; decide), fun p hp => ?_⟩)⟩
    have s1 := same_upd (o := .tup [V.str "any", V.str "when"]) hp
    refine ⟨p, _, rfl, .inr (SqT.of upd_same), rfl, rfl, _, rfl, ?_⟩
    rw [show inV (.str "name") [V.str "any", V.str "when"] = false by decide +kernel]
    exact iteF ⟨_, rfl, .inr (.inl ⟨a, _, 1, .str n, rfl, rfl, SqT.of (s1 _ _ ha), atI_nat (j := 1) rfl, .inr ⟨_, rfl, q _ s1⟩⟩)⟩
  | day n =>
    refine iteF ⟨_, rfl, .inr (.inl ⟨a, _, 0, .str "day", rfl, rfl, SqT.of ha, atI_nat (j := 0) rfl, (by show 2 ≤ sizeLine; decide), fun p hp => ?_⟩)⟩
    have s1 := same_upd (o := .tup [V.str "any", V.str "when"]) hp
    refine ⟨p, _, rfl, .inr (SqT.of upd_same), rfl, rfl, _, rfl, ?_⟩
    rw [show inV (.str "day") [V.str "any", V.str "when"] = false by decide +kernel]
    exact iteF ⟨_, rfl, .inr (.inl ⟨a, _, 1, .int n, rfl, rfl, SqT.of (s1 _ _ ha), atI_nat (j := 1) rfl, .inl ⟨_, rfl, tm_day _ ht n rfl, q _ s1⟩⟩)⟩
theorem ok__law_words (T : Txt K mg ad fds cs) : FnOk P w K mg base CX0 2 (ad 77) (fds 77) ["clause"] (spLWords (ad 55999)) := by
  refine T.F__law_words.ok sc__law_words (fun vs H Q E h => ?_) (fun cdv A0 outer s H vs Q E hr h => ?_)
  · obtain ⟨v, c, rfl, _⟩ := h
    rfl
  obtain ⟨v, c, rfl, ⟨p, dx, A, B, us, ws, rfl, hp, hA, hus, hB, hws⟩, ⟨g1, g2, _, g3, g4, _⟩, q⟩ := h
  refine ⟨_, (pss_cons (ps_set (i := 1) sc__law_words.nd rfl (by first | exact .inl rfl | exact .inr rfl) (pe_lst pa_nil))
      (pss_cons (ps_for PassesOwn.never rfl (pi_tup (YjD.pe_fldK (K := K) (pv 0) rfl)) (pg_tup rfl (pgs_cons (pg_name (i := 2) sc__law_words.nd rfl (by first | exact .inl rfl | exact .inr rfl)) (pgs_cons (pg_name (i := 3) sc__law_words.nd rfl (by first | exact .inl rfl | exact .inr rfl)) (pgs_cons (pg_name (i := 4) sc__law_words.nd rfl (by first | exact .inl rfl | exact .inr rfl)) pgs_nil))))
      (pss_one (ps_expr (pe_bm PySem.F.plainAttrs_list PySem.F.slot_list_append PySem.F.type_list_append mt_append (pv 1) (pa_cons (pe_op op_add_str (pe_op op_add_str (pe_op op_add_str (pe_op op_add_str (pv 2) pe_str) (pe_join pe_str (pe_lc (own := [("term", 6)]) rfl sc__law_words.nd (pi_tup (pv 3)) (blkOk_by (N := N__law_words) (sc := defScope s__law_words) (own := [("term", 6)]) (by decide +kernel)) (fun _ _ _ _ _ => by exact (pg_name (i := 6) sc__law_words.nd rfl (.inl rfl))) (fun _ _ _ _ _ => by exact pts_nil) (fun _ _ _ _ _ => by exact (pe_call (ok__law_word (P := P) (w := w) T) (hr.mono (by decide)) rfl T.g__law_word T.F__law_word.kp (bi__law_word T) .nil pass0 (pa_cons (pv 6) pa_nil)))))) pe_str) (pe_call (ok__law_word T) (hr.mono (by decide)) rfl T.g__law_word T.F__law_word.kp (bi__law_word T) .nil pass0 (pa_cons (pv 4) pa_nil))) pa_nil)))))
      (pss_cons (ps_set (i := 5) sc__law_words.nd rfl (by first | exact .inl rfl | exact .inr rfl) (pe_disp (pps_cons pe_str pe_str (pps_cons pe_str pe_str (pps_cons pe_str pe_str (pps_cons pe_str pe_str pps_nil)))) rfl rfl (by decide) (by decide)))
      (pss_one (ps_ret (pe_op op_cat (pv 1) (pe_lc (own := [("word", 7), ("one", 8), ("other", 9)]) rfl sc__law_words.nd (pi_tup (YjD.pe_fldK (K := K) (pv 0) rfl)) (blkOk_by (N := N__law_words) (sc := defScope s__law_words) (own := [("word", 7), ("one", 8), ("other", 9)]) (by decide +kernel)) (fun _ _ _ _ _ => by exact (pg_tupK (K := K) (n := 3) rfl (pgs_cons (pg_name (i := 7) sc__law_words.nd rfl (.inl rfl)) (pgs_cons (pg_name (i := 8) sc__law_words.nd rfl (.inl rfl)) (pgs_cons (pg_name (i := 9) sc__law_words.nd rfl (.inl rfl)) pgs_nil))))) (fun _ _ _ _ _ => by exact pts_nil) (fun _ _ _ _ _ => by exact (pe_op op_add_str (pe_op op_add_str (pe_call (ok__law_word (P := P) (w := w) T) (hr.mono (by decide)) rfl T.g__law_word T.F__law_word.kp (bi__law_word T) .nil pass0 (pa_cons (pv 8) pa_nil)) (pe_dget (hu_of hr) (pv 5) (pv 7) (fun _ _ => rfl))) (pe_call (ok__law_word (P := P) (w := w) T) (hr.mono (by decide)) rfl T.g__law_word T.F__law_word.kp (bi__law_word T) .nil pass0 (pa_cons (pv 9) pa_nil))))))))))), ?_⟩
  have lu := Paired.length hus
  have lw := Paired.length hws
  refine ⟨Nat.zero_le _, fun L nL => ?_⟩
  have s1 := same_upd (o := .lst []) nL
  refine ⟨_, rfl, p, _, dx, _, _, rfl, s1 _ _ hp, T.cl_Clause, T.na_Clause_atoms, c_atoms, A, rfl, ⟨_, SqT.of (s1 _ _ hA)⟩, for_it (walk_tup (K := K) (xs := us)) (fun i σ H2 => ∃ (y2 y3 y4 : Option V), σ = [some (.ref p), some (.ref L), y2, y3, y4, none, none, none, none, none] ∧ Same H H2 ∧ H2 L = some (.lst (((c.1.take i).map atTx).map V.str))) ⟨_, _, _, rfl, s1, upd_same⟩ (fun i σ H2 _ ⟨_, _, _, _, s2, _⟩ => SqT.of (s2 _ _ hA)) ?_ ?_⟩
  · rintro i x σ H2 H2' hi ⟨y2, y3, y4, rfl, s2, hL⟩ ⟨rfl, hx⟩
    obtain ⟨a, ha, pa, n, y, vs, rfl, hpa, hn, hvs, hy⟩ := pget hus hx
    have ga := g1 a (List.mem_of_getElem? ha)
    obtain ⟨l1, l2, l3, l4, l5, l6, l7, l8, l9, _⟩ := of_decide_eq_true (at_len a ga)
    obtain ⟨m1, m2, m3, m4⟩ := of_decide_eq_true (w_len a ga)
    obtain ⟨t1, _, _, t2⟩ := at_tms a ga
    have lv := Paired.length hvs
    refine ⟨pa, _, rfl, SqT.of (s2 _ _ hpa), rfl, _, _, rfl, _, _, rfl, _, _, rfl, rfl, ?_⟩
    refine ⟨.ref L, rfl, .inl ⟨rfl, _, SqL.of hL⟩, _, rfl, _, _, rfl, rfl, Nat.le_trans m1 (by decide), ?_⟩
    refine ⟨⟨_, rfl⟩, _, rfl, n, rfl, ⟨_, SqT.of (s2 _ _ hn)⟩, fun D nD => ?_⟩
    refine lc_tup (xs := vs) (fun j H3 => Same H2' H3 ∧ H3 D = some (.lst (((a.2.1.take j).map tmTx).map V.str))) ⟨same_upd nD, upd_same⟩ (fun j H3 _ h => SqT.of (h.1 _ _ (s2 _ _ hn))) ?_ ?_
    · rintro j x H3 hx ⟨s3, hD⟩
      obtain ⟨t, ht, hxt⟩ := pget hvs hx
      refine ⟨rfl, _, rfl, x, t, rfl, hxt.fix (fixOf (s2.trans s3)), (t2 t (List.mem_of_getElem? ht)).1, fun H4 s4 => ⟨_, s4 _ _ hD, ofNat_lt ?_, same_at (s3.trans s4) nD, ?_⟩⟩
      · rw [List.length_map, List.length_map, List.length_take]
        omega
      · rw [upd_same, tkS ht, List.map_append, List.map_append]
        rfl
    · rintro H3 ⟨s3, hD⟩
      rw [lv, List.take_length] at hD
      refine ⟨_, D, a.2.1.map tmTx, rfl, rfl, .inl (SqL.of hD), Nat.le_trans l8 (by decide), ?_⟩
      refine ⟨_, _, rfl, rfl, Nat.le_trans m2 (by decide), _, _, rfl, rfl, Nat.le_trans m3 (by decide), ?_⟩
      refine ⟨_, rfl, y, a.2.2, rfl, hy.fix (fixOf (s2.trans s3)), t1, fun H4 s4 => ?_⟩
      have hL4 := s4 _ _ (s3 _ _ hL)
      refine ⟨_, _, rfl, rfl, Nat.le_trans m4 (by decide), L, _, _, rfl, rfl, hL4, ofNat_lt ?_, _, _, _, rfl, same_at ((s2.trans s3).trans s4) nL, ?_⟩
      · rw [List.length_map, List.length_map, List.length_take]
        omega
      · have e : wTx a = atTx a := w_at a ga
        rw [upd_same, tkS ha, List.map_append, List.map_append]
        show _ = some (HO.lst (_ ++ [V.str (atTx a)]))
        rw [← e]
        rfl
  rintro σ H2 ⟨y2, y3, y4, rfl, s2, hL⟩
  rw [lu, List.take_length] at hL
  refine fun E nE => ⟨upd_same, sgD, rfl, by decide, ?_⟩
  have s3 := s2.trans (same_at (o := .dK (mergeK [] sgD)) (same_upd (o := .dK []) nE) nE)
  have hL3 := same_at (o := .dK (mergeK [] sgD)) (same_upd (o := .dK []) nE) nE _ _ hL
  have hE3 : upd (upd H2 E (.dK [])) E (.dK (mergeK [] sgD)) E = some (.dK sgD) := by
    rw [upd_same]
    rfl
  generalize upd (upd H2 E (.dK [])) E (.dK (mergeK [] sgD)) = H3 at s3 hL3 hE3
  refine ⟨_, rfl, _, rfl, p, _, dx, _, _, rfl, s3 _ _ hp, T.cl_Clause, T.na_Clause_tests, c_tests, B, rfl, ⟨_, SqT.of (s3 _ _ hB)⟩, fun D nD => ?_⟩
  refine lc_tup (xs := ws) (fun j H4 => Same H3 H4 ∧ H4 D = some (.lst (((c.2.take j).map tstTx).map V.str))) ⟨same_upd nD, upd_same⟩ (fun j H4 _ h => SqT.of (h.1 _ _ (s3 _ _ hB))) ?_ ?_
  · rintro j x H4 hx ⟨s4, hD⟩
    obtain ⟨t, ht, a, x1, x2, rfl, ha, hx1, hx2⟩ := pget hws hx
    have gt := g2 t (List.mem_of_getElem? ht)
    obtain ⟨l1, l2, l3, m1, m2, mw⟩ := ts_len t gt
    have s5 := s3.trans s4
    refine ⟨a, _, rfl, SqT.of (s5 _ _ ha), rfl, _, _, rfl, _, _, rfl, _, _, rfl, rfl, rfl, ?_⟩
    refine ⟨_, rfl, x1, t.2.1, rfl, hx1.fix (fixOf s5), m1, fun H5 s6 => ?_⟩
    have g := DGet.k (k := (Sum.inr t.1 : L2.Key)) (s6 _ _ (s4 _ _ hE3))
    rw [sgD_val mw] at g
    refine ⟨_, rfl, _, rfl, E, _, rfl, g, _, _, rfl, rfl, Nat.le_trans l1 (by decide), _, rfl, x2, t.2.2, rfl, hx2.fix (fixOf (s5.trans s6)), m2, fun H6 s7 => ?_⟩
    refine ⟨_, _, rfl, rfl, Nat.le_trans l2 (by decide), _, s7 _ _ (s6 _ _ hD), ofNat_lt ?_, same_at ((s4.trans s6).trans s7) nD, ?_⟩
    · rw [List.length_map, List.length_map, List.length_take]
      omega
    · rw [upd_same, tkS ht, List.map_append, List.map_append]
      rfl
  · rintro H4 ⟨s4, hD⟩
    rw [lw, List.take_length] at hD
    refine ⟨L, D, _, _, rfl, rfl, s4 _ _ hL3, hD, ofNat_le (by rw [List.length_map, List.length_map, List.length_map, List.length_map]; omega), fun R nR => ?_⟩
    refine q _ R ((s3.trans s4).trans (same_upd nR)) ?_
    rw [upd_same, List.map_append]
end
end Yj
set_option Elab.async false
set_option linter.all false
set_option maxRecDepth 100000
set_option maxHeartbeats 4000000
set_option pp.maxSteps 1500
namespace Yj
open PySem PySem.Spec PyProof.Rows L2 RZ YjD YjF
def HdAt (H : Hp) (v : V) (hd : List Tm) : Prop := ∃ A hs, v = .ref A ∧ H A = some (.tup hs) ∧ Paired (TmAt H) hs hd
theorem HdAt.fix {H H' : Hp} (s : Fix H H') {v : V} {hd : List Tm} (h : HdAt H v hd) : HdAt H' v hd := by
  obtain ⟨A, hs, e, h1, h2⟩ := h
  exact ⟨A, hs, e, s _ _ h1 True.intro, Paired.mapP h2 fun _ _ z => z.fix s⟩
def QAt (C Cc : Addr) (H : Hp) (v : V) : Prop := ∃ p dx A B D us ws cl un, v = .ref p ∧ H p = some (.ins C dx (qF A B D)) ∧ H B = some (.tup us) ∧ Paired (ClsAt Cc H) us cl ∧ H D = some (.tup ws) ∧ Paired (ClsAt Cc H) ws un ∧ (∀ c ∈ cl ++ un, GoodC c) ∧ us ≠ [] ∧ cl.length ≤ 3 ∧ un.length ≤ 3
def spLQ (K : PySem.W.Frag) (C Cc : Addr) : Sp := fun vs H Q _ => ∃ (d a : Addr) (ns : List Int), vs = [.ref d] ∧ Draw K H d a ns ∧ ∀ v H', QAt C Cc H' v → Drawn' K H H' d a ns → Q v H'
theorem lay_hd {H H0 : Hp} {us : List V} {ts : List Tm} (h : Same H0 H ∧ Paired (TmAt H) us ts) {o : Addr} (no : H o = none) : Same H0 (upd H o (.tup us)) ∧ HdAt (upd H o (.tup us)) (.ref o) ts :=
  ⟨h.1.trans (same_upd no), o, us, rfl, upd_same, Paired.mapP h.2 fun _ _ z => z.fix (fixOf (same_upd no))⟩
section
variable {P : Program} {w : World} {K : PySem.W.Frag} {mg : Str → Option Value} {base : Heap} {ad : Nat → Addr} {fds : Nat → FuncData} {cs : Nat → Value}
theorem ok__law_question (T : Txt K mg ad fds cs) : FnOk P w K mg base CX0 8 (ad 66) (fds 66) ["draw"] (spLQ K (ad 59999) (ad 55999)) := by
  refine T.F__law_question.ok sc__law_question (fun vs H Q E h => ?_) (fun cdv A0 outer s H vs Q E hr h => ?_)
  · obtain ⟨d, a, ns, rfl, _⟩ := h
    rfl
  obtain ⟨d, a, ns, rfl, h0, q⟩ := h
  refine ⟨_, (pss_cons (ps_set (i := 1) sc__law_question.nd rfl (by first | exact .inl rfl | exact .inr rfl) (pe_call (ok__law_pick T) (hr.mono (by decide)) rfl T.g__law_pick T.F__law_pick.kp (bi__law_pick T) .nil pass0 (pa_cons (pv 0) (pa_cons (pe_lst (pa_cons (pe_tup (pa_cons (pe_tup (pa_cons pe_str (pa_cons pe_str pa_nil))) pa_nil)) (pa_cons (pe_tup (pa_cons (pe_tup (pa_cons pe_str (pa_cons pe_str pa_nil))) pa_nil)) (pa_cons (pe_tup pa_nil) (pa_cons (pe_tup (pa_cons (pe_tup (pa_cons pe_str (pa_cons pe_str pa_nil))) (pa_cons (pe_tup (pa_cons pe_str (pa_cons pe_str pa_nil))) pa_nil))) pa_nil))))) pa_nil))))
      (pss_cons (ps_setLc (i := 2) (own := [("turn", 4)]) rfl sc__law_question.nd rfl rfl (sw_true rfl rfl rfl (by decide +kernel)) (pi_range1 (by rfl) T.z_range (pa_cons (pe_op op_add pe_int (pe_op op_fdivN (pe_call (ok__law_take T) (hr.mono (by decide)) rfl T.g__law_take T.F__law_take.kp (bi__law_take T) .nil pass0 (pa_cons (pv 0) (pa_cons pe_int pa_nil))) pe_int)) pa_nil)) (blkOk_by (N := N__law_question) (sc := defScope s__law_question) (own := [("turn", 4)]) (by decide +kernel)) (fun _ _ _ _ _ => by exact (pg_name (i := 4) sc__law_question.nd rfl (.inl rfl))) (fun _ _ _ _ _ => by exact pts_nil) (fun _ _ _ _ _ => by exact (pe_call (ok__law_clause (P := P) (w := w) T) (hr.mono (by decide)) rfl T.g__law_clause T.F__law_clause.kp (bi__law_clause T) .nil pass0 (pa_cons (pv 0) (pa_cons (pv 1) (pa_cons pe_int (pa_cons pe_bl pa_nil)))))))
      (pss_cons (ps_setLc (i := 3) (own := [("turn", 4)]) rfl sc__law_question.nd rfl rfl (sw_true rfl rfl rfl (by decide +kernel)) (pi_range1 (by rfl) T.z_range (pa_cons (pe_call (ok__law_take T) (hr.mono (by decide)) rfl T.g__law_take T.F__law_take.kp (bi__law_take T) .nil pass0 (pa_cons (pv 0) (pa_cons pe_int pa_nil))) pa_nil)) (blkOk_by (N := N__law_question) (sc := defScope s__law_question) (own := [("turn", 4)]) (by decide +kernel)) (fun _ _ _ _ _ => by exact (pg_name (i := 4) sc__law_question.nd rfl (.inl rfl))) (fun _ _ _ _ _ => by exact pts_nil) (fun _ _ _ _ _ => by exact (pe_call (ok__law_clause (P := P) (w := w) T) (hr.mono (by decide)) rfl T.g__law_clause T.F__law_clause.kp (bi__law_clause T) .nil pass0 (pa_cons (pv 0) (pa_cons (pv 1) (pa_cons pe_int (pa_cons pe_bl pa_nil)))))))
      (pss_one (ps_ret (pe_make T.mk_Question (ok_Question___init__ T) (hr.mono (by decide)) rfl T.g_Question (bi_Question___init__ T) .nil pass0 (pa_cons (pv 1) (pa_cons (pe_callTy call_tuple_of (by rfl) T.z_tuple (by decide +kernel) (pa_cons (pv 2) pa_nil)) (pa_cons (pe_callTy call_tuple_of (by rfl) T.z_tuple (by decide +kernel) (pa_cons (pv 3) pa_nil)) pa_nil))))))))), ?_⟩
  have two : (2 : Nat) ≤ sizeLine := by decide
  have one : (1 : Nat) ≤ sizeLine := by decide
  refine ⟨_, rfl, two, fun p1 n1 => ⟨one, fun o1 m1 => ⟨two, fun p2 n2 => ⟨one, fun o2 m2 => ⟨Nat.zero_le _, fun o3 m3 => ⟨two, fun p4 n4 => ⟨two, fun p5 n5 => ⟨two, fun o4 m4 => ⟨by show 4 ≤ sizeLine; decide, fun L nL => ?_⟩⟩⟩⟩⟩⟩⟩⟩⟩
  have A1 := lay_hd (lay_tm (⟨Same.refl H, .nil⟩ : Same H H ∧ Paired (TmAt H) [] []) n1 (.any "p")) m1
  have A2 := lay_hd (lay_tm (⟨Same.refl _, .nil⟩ : Same _ _ ∧ Paired (TmAt _) [] []) n2 (.any "p")) m2
  have A3 := lay_hd (⟨Same.refl _, .nil⟩ : Same _ _ ∧ Paired (TmAt _) [] []) m3
  have A4 := lay_hd (lay_tm (lay_tm (⟨Same.refl _, .nil⟩ : Same _ _ ∧ Paired (TmAt _) [] []) n4 (.any "p")) n5 (.any "q")) m4
  have sL := same_upd (o := .lst [V.ref o1, V.ref o2, V.ref o3, V.ref o4]) nL
  have s8 := ((A1.1.trans A2.1).trans A3.1).trans A4.1
  have a1 := A1.2.fix (fixOf (((A2.1.trans A3.1).trans A4.1).trans sL))
  have a2 := A2.2.fix (fixOf ((A3.1.trans A4.1).trans sL))
  have a3 := A3.2.fix (fixOf (A4.1.trans sL))
  have a4 := A4.2.fix (fixOf sL)
  have s9 := s8.trans sL
  have D9 := h0.same s9
  refine ⟨d, a, L, ns, _, rfl, D9, ne_draw (h0.same s8) nL, upd_same, by simp, fun x H9 hx d9 => ?_⟩
  have f9 := fixDrawn D9 d9
  have hH : ∃ hd ∈ hdL, HdAt H9 x hd := by
    simp only [List.mem_cons, List.mem_nil_iff, or_false] at hx
    rcases hx with rfl | rfl | rfl | rfl
    · exact ⟨_, by decide, a1.fix f9⟩
    · exact ⟨_, by decide, a2.fix f9⟩
    · exact ⟨_, by decide, a3.fix f9⟩
    · exact ⟨_, by decide, a4.fix f9⟩
  replace d9 := same_drawn s9 d9
  clear A1 A2 A3 A4 a1 a2 a3 a4 s8 s9 sL D9 f9 hx n1 m1 n2 m2 m3 n4 n5 m4 nL
  obtain ⟨hd, hdm, A, hs, rfl, hA, hhs⟩ := hH
  have hdt : ∀ t ∈ hd, isAny t = true ∧ t ∈ tmL := by
    have : ∀ l ∈ hdL, ∀ t ∈ l, isAny t = true ∧ t ∈ tmL := by decide +kernel
    exact this hd hdm
  have hd4 : hd.length ≤ 4 := by
    have : ∀ l ∈ hdL, l.length ≤ 4 := by decide +kernel
    exact this hd hdm
  refine ⟨_, rfl, d, a, ns, 4, rfl, d9.1, by decide, fun r H10 r0 r1 d10 => ⟨_, _, rfl, rfl, ⟨by decide, by decide⟩, _, _, rfl, rfl, _, rfl, ?_, ?_, fun B nB => ?_⟩⟩
  · have : r.fdiv 3 = r / 3 := Int.fdiv_eq_ediv_of_nonneg _ (by omega)
    show _ ≤ 1 + r.fdiv 3
    omega
  · have : r.fdiv 3 = r / 3 := Int.fdiv_eq_ediv_of_nonneg _ (by omega)
    show 1 + r.fdiv 3 < _
    omega
  have er : r.fdiv 3 = r / 3 := Int.fdiv_eq_ediv_of_nonneg _ (by omega)
  have f10 := fixDrawn d9.1 d10
  have HA10 : HdAt H10 (.ref A) hd := HdAt.fix f10 ⟨A, hs, rfl, hA, hhs⟩
  replace d10 := drawn_trans d9 d10
  have neB := ne_draw d10.1 nB
  have nB0 := fresh_keep d10.2 nB neB
  have f11 := fixOf (same_upd (o := .lst []) nB)
  refine lc_it walk_range (fun i H2 => Drawn' K H H2 d a ns ∧ HdAt H2 (.ref A) hd ∧ ∃ us cl, H2 B = some (.lst us) ∧ Paired (ClsAt (ad 55999) H2) us cl ∧ cl.length = i ∧ ∀ c ∈ cl, GoodC c ∧ ∀ t ∈ hd, t ∈ termsOf c.1) ⟨drawn_same d10 (same_upd nB), HA10.fix f11, [], [], upd_same, .nil, rfl, fun x hx => nomatch hx⟩ (fun _ _ _ _ => True.intro) ?_ ?_
  · rintro i x H2 H2' hi ⟨d2, HA, us, cl, hB, hus, lc, gc⟩ ⟨rfl, rfl⟩
    obtain ⟨A', hs', eA, hA2, hhs2⟩ := id HA
    obtain rfl := V.ref.inj eA
    refine ⟨rfl, _, rfl, _, rfl, d, a, ns, A, hs', hd, rfl, d2.1, hA2, hhs2, hdm, fun v c H3 good ht hc d3 => ?_⟩
    have hB3 := d3.2 _ _ neB hB
    have lu := Paired.length hus
    have f := fix_upd (o := .lst (us ++ [v])) hB3 (fun z => z)
    have f3 := (fixDrawn d2.1 d3).trans f
    refine ⟨us, hB3, ofNat_lt (by omega), draw_upd h0 (drawn_trans d2 d3) nB0, HA.fix f3, us ++ [v], cl ++ [c], upd_same, Paired.snoc (Paired.mapP hus fun _ _ z => z.fix f3) (hc.fix f), by rw [List.length_append, lc]; rfl, fun x hx => ?_⟩
    rcases List.mem_append.mp hx with hx | hx
    · exact gc x hx
    · rw [List.mem_singleton.mp hx]
      exact ⟨good, ht⟩
  rintro H2 ⟨d2, HA2, us, cl, hB, hus, lc, gc⟩
  have l1 : 1 ≤ cl.length := by omega
  have l2 : cl.length ≤ 3 := by omega
  clear lc
  refine ⟨_, rfl, d, a, ns, 2, rfl, d2.1, by decide, fun r4 H4 r40 r41 d4 => ⟨_, rfl, by omega, by omega, fun D nD => ?_⟩⟩
  have f4 := fixDrawn d2.1 d4
  have hB4 := d4.2 _ _ neB hB
  have hus4 := Paired.mapP hus fun _ _ z => z.fix f4
  have HA4 := HA2.fix f4
  replace d4 := drawn_trans d2 d4
  have neD := ne_draw d4.1 nD
  have nD0 := fresh_keep d4.2 nD neD
  have neBD : B ≠ D := fun z => by
    rw [z, nD] at hB4
    cases hB4
  have s5 := same_upd (o := .lst []) nD
  refine lc_it walk_range (fun i H2 => Drawn' K H H2 d a ns ∧ HdAt H2 (.ref A) hd ∧ H2 B = some (.lst us) ∧ Paired (ClsAt (ad 55999) H2) us cl ∧ ∃ ws un, H2 D = some (.lst ws) ∧ Paired (ClsAt (ad 55999) H2) ws un ∧ un.length = i ∧ ∀ c ∈ un, GoodC c ∧ ∀ t ∈ hd, t ∈ termsOf c.1) ⟨drawn_same d4 s5, HA4.fix (fixOf s5), s5 _ _ hB4, Paired.mapP hus4 fun _ _ z => z.fix (fixOf s5), [], [], upd_same, .nil, rfl, fun x hx => nomatch hx⟩ (fun _ _ _ _ => True.intro) ?_ ?_
  · rintro i x H5 H5' hi ⟨d5, HA, hB5, hus5, ws, un, hD, hws, lc, gu⟩ ⟨rfl, rfl⟩
    obtain ⟨A', hs', eA, hA2, hhs2⟩ := id HA
    obtain rfl := V.ref.inj eA
    refine ⟨rfl, _, rfl, _, rfl, d, a, ns, A, hs', hd, rfl, d5.1, hA2, hhs2, hdm, fun v c H3 good ht hc d3 => ?_⟩
    have hD3 := d3.2 _ _ neD hD
    have lu := Paired.length hws
    have f := fix_upd (o := .lst (ws ++ [v])) hD3 (fun z => z)
    have f3 := (fixDrawn d5.1 d3).trans f
    refine ⟨ws, hD3, ofNat_lt (by omega), draw_upd h0 (drawn_trans d5 d3) nD0, HA.fix f3, (upd_ne neBD).trans (d3.2 _ _ neB hB5), Paired.mapP hus5 fun _ _ z => z.fix f3, ws ++ [v], un ++ [c], upd_same, Paired.snoc (Paired.mapP hws fun _ _ z => z.fix f3) (hc.fix f), by rw [List.length_append, lc]; rfl, fun x hx => ?_⟩
    rcases List.mem_append.mp hx with hx | hx
    · exact gu x hx
    · rw [List.mem_singleton.mp hx]
      exact ⟨good, ht⟩
  rintro H5 ⟨d5, HA5, hB5, hus5, ws, un, hD, hws, lc, gu⟩
  have l3 : un.length ≤ 3 := by omega
  refine ⟨_, rfl, _, rfl, B, us, rfl, .inl ⟨SqL.of hB5, fun B2 nB2 => ?_⟩⟩
  have s6 := same_upd (o := .tup us) nB2
  have hB6 : upd H5 B2 (.tup us) B2 = some (.tup us) := upd_same
  have hD6 := s6 _ _ hD
  have d6 := drawn_same d5 s6
  have HA6 := HA5.fix (fixOf s6)
  have hus6 := Paired.mapP hus5 fun _ _ z => z.fix (fixOf s6)
  have hws6 := Paired.mapP hws fun _ _ z => z.fix (fixOf s6)
  generalize upd H5 B2 (.tup us) = H6 at hB6 hD6 d6 HA6 hus6 hws6
  refine ⟨_, rfl, D, ws, rfl, .inl ⟨SqL.of hD6, fun D2 nD2 => ?_⟩⟩
  have s7 := same_upd (o := .tup ws) nD2
  have hD7 : upd H6 D2 (.tup ws) D2 = some (.tup ws) := upd_same
  have hB7 := s7 _ _ hB6
  have d7 := drawn_same d6 s7
  have HA7 := HA6.fix (fixOf s7)
  have hus7 := Paired.mapP hus6 fun _ _ z => z.fix (fixOf s7)
  have hws7 := Paired.mapP hws6 fun _ _ z => z.fix (fixOf s7)
  generalize upd H6 D2 (.tup ws) = H7 at hB7 hD7 d7 HA7 hus7 hws7
  obtain ⟨A', hs', eA, hA7, hhs7⟩ := id HA7
  obtain rfl := V.ref.inj eA
  intro x dx nx ndx ne
  have sx := same_at (o := .ins (ad 59999) dx []) (same_upd (o := .own x) ndx) nx
  refine ⟨H7, x, dx, A, B2, D2, hs', us, ws, hd, cl, un, rfl, nx, sx, upd_same, hA7, hhs7, hdt, hd4, hB7, hus7, hD7, hws7, fun c hc => ?_, l1, l2, l3, fun H' sH hq => ⟨rfl, ?_⟩⟩
  · rcases List.mem_append.mp hc with hc | hc
    · exact gc c hc
    · exact gu c hc
  have fH := fixOf sH
  refine q _ H' ⟨x, dx, A, B2, D2, us, ws, cl, un, rfl, hq, sH _ _ hB7, Paired.mapP hus7 fun _ _ z => z.fix fH, sH _ _ hD7, Paired.mapP hws7 fun _ _ z => z.fix fH, fun c hc => ?_, fun z => ?_, l2, l3⟩ (drawn_same d7 sH)
  · rcases List.mem_append.mp hc with hc | hc
    · exact (gc c hc).1
    · exact (gu c hc).1
  · have := Paired.length hus7
    rw [z] at this
    have e : ([] : List V).length = 0 := rfl
    omega
end
end Yj
set_option Elab.async false
set_option linter.all false
set_option maxRecDepth 100000
set_option maxHeartbeats 4000000
set_option pp.maxSteps 1500
namespace Yj
open PySem PySem.Spec PyProof.Rows L2 RZ YjD YjF
def chkC (c : Cls) : Bool := c.1.all (fun a => decide (a ∈ atL)) && c.2.all (fun s => decide (s ∈ tsL)) && decide (1 ≤ c.1.length ∧ c.1.length ≤ 3 ∧ c.2.length ≤ 6) && c.2.all fun s => (!isVar s.2.1 || decide (s.2.1 ∈ termsOf c.1)) && (!isVar s.2.2 || decide (s.2.2 ∈ termsOf c.1))
theorem good_of {c : Cls} (h : chkC c = true) : GoodC c := by
  unfold chkC at h
  simp only [Bool.and_eq_true] at h
  obtain ⟨⟨⟨h1, h2⟩, h3⟩, h4⟩ := h
  obtain ⟨a, b, e⟩ := of_decide_eq_true h3
  refine ⟨fun x hx => of_decide_eq_true (List.all_eq_true.mp h1 x hx), fun x hx => of_decide_eq_true (List.all_eq_true.mp h2 x hx), a, b, e, fun s hs t ht hv => ?_⟩
  have z := List.all_eq_true.mp h4 s hs
  rw [Bool.and_eq_true] at z
  rcases ht with rfl | rfl
  · have z1 := z.1
    rw [hv] at z1
    exact of_decide_eq_true z1
  · have z1 := z.2
    rw [hv] at z1
    exact of_decide_eq_true z1
def cHome : Cls := ([("lives", [.any "p", .any "q"], .wh "t"), ("lives", [.any "p", .any "r"], .wh "t")], [("unlike", .any "q", .any "r")])
def cNone : Cls := ([("pays", [.any "p"], .wh "t"), ("lives", [.any "p", .name "rome"], .wh "t")], [])
def cOld : Cls := ([("pays", [.any "p"], .wh "t")], [("less", .wh "t", .day 3)])
theorem gHome : GoodC cHome := good_of (by decide +kernel)
theorem gNone : GoodC cNone := good_of (by decide +kernel)
theorem gOld : GoodC cOld := good_of (by decide +kernel)
def spLRules (K : PySem.W.Frag) (Cc : Addr) : Sp := fun vs H Q _ => ∃ (d a : Addr) (ns : List Int), vs = [.ref d] ∧ Draw K H d a ns ∧ ∀ A H' us cl, H' A = some (.tup us) → Paired (ClsAt Cc H') us cl → (∀ c ∈ cl, GoodC c) → cl.length ≤ 3 → Drawn' K H H' d a ns → Q (.ref A) H'
section
variable {P : Program} {w : World} {K : PySem.W.Frag} {mg : Str → Option Value} {base : Heap} {ad : Nat → Addr} {fds : Nat → FuncData} {cs : Nat → Value}
theorem ok__law_rules (T : Txt K mg ad fds cs) : FnOk P w K mg base CX0 7 (ad 67) (fds 67) ["draw"] (spLRules K (ad 55999)) := by
  refine T.F__law_rules.ok sc__law_rules (fun vs H Q E h => ?_) (fun cdv A0 outer s H vs Q E hr h => ?_)
  · obtain ⟨d, a, ns, rfl, _⟩ := h
    rfl
  obtain ⟨d, a, ns, rfl, h0, q⟩ := h
  refine ⟨_, (pss_cons (ps_asg (pe_tup (pa_cons (pe_tup (pa_cons pe_str (pa_cons pe_str pa_nil))) (pa_cons (pe_tup (pa_cons pe_str (pa_cons pe_str pa_nil))) (pa_cons (pe_tup (pa_cons pe_str (pa_cons pe_str pa_nil))) pa_nil)))) (pg_tup rfl (pgs_cons (pg_name (i := 1) sc__law_rules.nd rfl (by first | exact .inl rfl | exact .inr rfl)) (pgs_cons (pg_name (i := 2) sc__law_rules.nd rfl (by first | exact .inl rfl | exact .inr rfl)) (pgs_cons (pg_name (i := 3) sc__law_rules.nd rfl (by first | exact .inl rfl | exact .inr rfl)) pgs_nil)))))
      (pss_cons (ps_set (i := 4) sc__law_rules.nd rfl (by first | exact .inl rfl | exact .inr rfl) (pe_make T.mk_Clause (ok_Clause___init__ T) (hr.mono (by decide)) rfl T.g_Clause (bi_Clause___init__ T) .nil pass0 (pa_cons (pe_tup (pa_cons (pe_tup (pa_cons pe_str (pa_cons (pe_tup (pa_cons (pv 1) (pa_cons (pv 2) pa_nil))) (pa_cons (pv 3) pa_nil)))) (pa_cons (pe_tup (pa_cons pe_str (pa_cons (pe_tup (pa_cons (pv 1) (pa_cons (pe_tup (pa_cons pe_str (pa_cons pe_str pa_nil))) pa_nil))) (pa_cons (pv 3) pa_nil)))) pa_nil))) (pa_cons (pe_tup (pa_cons (pe_tup (pa_cons pe_str (pa_cons (pv 2) (pa_cons (pe_tup (pa_cons pe_str (pa_cons pe_str pa_nil))) pa_nil)))) pa_nil)) pa_nil))))
      (pss_cons (ps_set (i := 5) sc__law_rules.nd rfl (by first | exact .inl rfl | exact .inr rfl) (pe_make T.mk_Clause (ok_Clause___init__ T) (hr.mono (by decide)) rfl T.g_Clause (bi_Clause___init__ T) .nil pass0 (pa_cons (pe_tup (pa_cons (pe_tup (pa_cons pe_str (pa_cons (pe_tup (pa_cons (pv 1) pa_nil)) (pa_cons (pv 3) pa_nil)))) (pa_cons (pe_tup (pa_cons pe_str (pa_cons (pe_tup (pa_cons (pv 1) (pa_cons (pe_tup (pa_cons pe_str (pa_cons pe_str pa_nil))) pa_nil))) (pa_cons (pv 3) pa_nil)))) pa_nil))) (pa_cons (pe_tup pa_nil) pa_nil))))
      (pss_cons (ps_set (i := 6) sc__law_rules.nd rfl (by first | exact .inl rfl | exact .inr rfl) (pe_make T.mk_Clause (ok_Clause___init__ T) (hr.mono (by decide)) rfl T.g_Clause (bi_Clause___init__ T) .nil pass0 (pa_cons (pe_tup (pa_cons (pe_tup (pa_cons pe_str (pa_cons (pe_tup (pa_cons (pv 1) pa_nil)) (pa_cons (pv 3) pa_nil)))) pa_nil)) (pa_cons (pe_tup (pa_cons (pe_tup (pa_cons pe_str (pa_cons (pv 3) (pa_cons (pe_tup (pa_cons pe_str (pa_cons pe_int pa_nil))) pa_nil)))) pa_nil)) pa_nil))))
      (pss_one (ps_ret (pe_callTy call_tuple_of (by rfl) T.z_tuple (by decide +kernel) (pa_cons (pe_lc (own := [("rule", 7)]) rfl sc__law_rules.nd (pi_tup (pe_tup (pa_cons (pv 4) (pa_cons (pv 5) (pa_cons (pv 6) pa_nil))))) (blkOk_by (N := N__law_rules) (sc := defScope s__law_rules) (own := [("rule", 7)]) (by decide +kernel)) (fun _ _ _ _ _ => by exact (pg_name (i := 7) sc__law_rules.nd rfl (.inl rfl))) (fun _ _ _ _ _ => by exact (pts_one (pt_cmpR op_eq (pe_call (ok__law_take (P := P) (w := w) T) (hr.mono (by decide)) rfl T.g__law_take T.F__law_take.kp (bi__law_take T) .nil pass0 (pa_cons (pv 0) (pa_cons pe_int pa_nil))) pe_int (nomark _)))) (fun _ _ _ _ _ => by exact (pv 7))) pa_nil)))))))), ?_⟩
  have one : (1 : Nat) ≤ sizeLine := by decide
  have two : (2 : Nat) ≤ sizeLine := by decide
  have three : (3 : Nat) ≤ sizeLine := by decide
  refine ⟨two, fun p1 n1 => ⟨two, fun p2 n2 => ⟨two, fun p3 n3 => ⟨three, fun o no => ⟨o, _, rfl, SqT.of upd_same, rfl, _, _, rfl, _, _, rfl, _, _, rfl, rfl, ?_⟩⟩⟩⟩⟩
  have h3 := lay_tm (lay_tm (lay_tm (⟨Same.refl H, .nil⟩ : Same H H ∧ Paired (TmAt H) [] []) n1 (.any "p")) n2 (.any "q")) n3 (.wh "t")
  have so := same_upd (o := .tup [V.ref p1, V.ref p2, V.ref p3]) no
  have S1 := h3.1.trans so
  have P1 := Paired.mapP h3.2 fun _ _ z => z.fix (fixOf so)
  obtain ⟨H1, eH1⟩ : ∃ H1, H1 = upd (upd (upd (upd H p1 (.tup ((Tm.any "p").key.map kV))) p2 (.tup ((Tm.any "q").key.map kV))) p3 (.tup ((Tm.wh "t").key.map kV))) o (.tup [V.ref p1, V.ref p2, V.ref p3]) := ⟨_, rfl⟩
  have S1 : Same H H1 := by rw [eH1]; exact S1
  obtain ⟨t1, t2, t3⟩ : TmAt H1 (.ref p1) (.any "p") ∧ TmAt H1 (.ref p2) (.any "q") ∧ TmAt H1 (.ref p3) (.wh "t") := by
    rw [eH1]
    cases P1 with
    | cons z1 z => cases z with
      | cons z2 z => cases z with
        | cons z3 z => exact ⟨z1, z2, z3⟩
  rw [show upd (upd (upd (upd H p1 (.tup [V.str "any", V.str "p"])) p2 (.tup [V.str "any", V.str "q"])) p3 (.tup [V.str "when", V.str "t"])) o (.tup [V.ref p1, V.ref p2, V.ref p3]) = H1 from eH1.symm]
  clear eH1 h3 so P1 n1 n2 n3 no
  -- home
  refine ⟨_, rfl, _, rfl, two, fun a1 na1 => ⟨_, rfl, three, fun b1 nb1 => ⟨_, rfl, two, fun c1 nc1 => ⟨two, fun a2 na2 => ⟨_, rfl, three, fun b2 nb2 => ⟨two, fun A nA => ⟨_, rfl, two, fun e1 ne1 => ⟨three, fun g ng => ⟨one, fun B nB => ?_⟩⟩⟩⟩⟩⟩⟩⟩⟩
  intro x dx nx ndx ne
  have sx := same_at (o := .ins (ad 55999) dx []) (same_upd (o := .own x) ndx) nx
  have r9 := same_upd nB (o := .tup [V.ref g])
  have r8 := (same_upd ng (o := .tup [V.str "unlike", .ref p2, .ref e1])).trans r9
  have r7 := (same_upd ne1 (o := .tup [V.str "any", .str "r"])).trans r8
  have r6 := (same_upd nA (o := .tup [V.ref b1, .ref b2])).trans r7
  have r5 := (same_upd nb2 (o := .tup [V.str "lives", .ref a2, .ref p3])).trans r6
  have r4 := (same_upd na2 (o := .tup [V.ref p1, .ref c1])).trans r5
  have r3 := (same_upd nc1 (o := .tup [V.str "any", .str "r"])).trans r4
  have r2 := (same_upd nb1 (o := .tup [V.str "lives", .ref a1, .ref p3])).trans r3
  have r1 := (same_upd na1 (o := .tup [V.ref p1, .ref p2])).trans r2
  have f1 := fixOf r1
  refine ⟨_, x, dx, A, B, [.ref b1, .ref b2], [.ref g], cHome, rfl, nx, sx, upd_same, r7 _ _ upd_same,
    .cons ⟨b1, a1, .ref p3, [.ref p1, .ref p2], rfl, r3 _ _ upd_same, r2 _ _ upd_same, .cons (t1.fix f1) (.cons (t2.fix f1) .nil), t3.fix f1⟩ (.cons ⟨b2, a2, .ref p3, [.ref p1, .ref c1], rfl, r6 _ _ upd_same, r5 _ _ upd_same, .cons (t1.fix f1) (.cons ⟨c1, rfl, r4 _ _ upd_same⟩ .nil), t3.fix f1⟩ .nil),
    upd_same, .cons ⟨g, .ref p2, .ref e1, rfl, r9 _ _ upd_same, t2.fix f1, ⟨e1, rfl, r8 _ _ upd_same⟩⟩ .nil, gHome, fun H2 s2 hc1 => ⟨rfl, ?_⟩⟩
  have S2 := (S1.trans r1).trans s2
  have f2 := fixOf (r1.trans s2)
  replace t1 := t1.fix f2
  replace t2 := t2.fix f2
  replace t3 := t3.fix f2
  clear r1 r2 r3 r4 r5 r6 r7 r8 r9 f1 f2 sx s2 S1 nx ndx ne na1 nb1 nc1 na2 nb2 nA ne1 ng nB
  -- none
  refine ⟨_, rfl, one, fun a1 na1 => ⟨_, rfl, three, fun b1 nb1 => ⟨_, rfl, two, fun c1 nc1 => ⟨two, fun a2 na2 => ⟨_, rfl, three, fun b2 nb2 => ⟨two, fun A nA => ⟨Nat.zero_le _, fun B nB => ?_⟩⟩⟩⟩⟩⟩⟩
  intro x2 dx nx ndx ne
  have sx := same_at (o := .ins (ad 55999) dx []) (same_upd (o := .own x2) ndx) nx
  have r7 := same_upd nB (o := .tup [])
  have r6 := (same_upd nA (o := .tup [V.ref b1, .ref b2])).trans r7
  have r5 := (same_upd nb2 (o := .tup [V.str "lives", .ref a2, .ref p3])).trans r6
  have r4 := (same_upd na2 (o := .tup [V.ref p1, .ref c1])).trans r5
  have r3 := (same_upd nc1 (o := .tup [V.str "name", .str "rome"])).trans r4
  have r2 := (same_upd nb1 (o := .tup [V.str "pays", .ref a1, .ref p3])).trans r3
  have r1 := (same_upd na1 (o := .tup [V.ref p1])).trans r2
  have f1 := fixOf r1
  refine ⟨_, x2, dx, A, B, [.ref b1, .ref b2], [], cNone, rfl, nx, sx, upd_same, r7 _ _ upd_same,
    .cons ⟨b1, a1, .ref p3, [.ref p1], rfl, r3 _ _ upd_same, r2 _ _ upd_same, .cons (t1.fix f1) .nil, t3.fix f1⟩ (.cons ⟨b2, a2, .ref p3, [.ref p1, .ref c1], rfl, r6 _ _ upd_same, r5 _ _ upd_same, .cons (t1.fix f1) (.cons ⟨c1, rfl, r4 _ _ upd_same⟩ .nil), t3.fix f1⟩ .nil),
    upd_same, .nil, gNone, fun H3 s3 hc2 => ⟨rfl, ?_⟩⟩
  have S3 := (S2.trans r1).trans s3
  have f2 := fixOf (r1.trans s3)
  replace t1 := t1.fix f2
  replace t3 := t3.fix f2
  replace hc1 := hc1.fix f2
  clear r1 r2 r3 r4 r5 r6 r7 f1 f2 sx s3 S2 nx ndx ne na1 nb1 nc1 na2 nb2 nA nB
  -- old
  refine ⟨_, rfl, one, fun a1 na1 => ⟨_, rfl, three, fun b1 nb1 => ⟨one, fun A nA => ⟨_, rfl, two, fun e1 ne1 => ⟨three, fun g ng => ⟨one, fun B nB => ?_⟩⟩⟩⟩⟩⟩
  intro x3 dx nx ndx ne
  have sx := same_at (o := .ins (ad 55999) dx []) (same_upd (o := .own x3) ndx) nx
  have r6 := same_upd nB (o := .tup [V.ref g])
  have r5 := (same_upd ng (o := .tup [V.str "less", .ref p3, .ref e1])).trans r6
  have r4 := (same_upd ne1 (o := .tup [V.str "day", .int 3])).trans r5
  have r3 := (same_upd nA (o := .tup [V.ref b1])).trans r4
  have r2 := (same_upd nb1 (o := .tup [V.str "pays", .ref a1, .ref p3])).trans r3
  have r1 := (same_upd na1 (o := .tup [V.ref p1])).trans r2
  have f1 := fixOf r1
  refine ⟨_, x3, dx, A, B, [.ref b1], [.ref g], cOld, rfl, nx, sx, upd_same, r4 _ _ upd_same,
    .cons ⟨b1, a1, .ref p3, [.ref p1], rfl, r3 _ _ upd_same, r2 _ _ upd_same, .cons (t1.fix f1) .nil, t3.fix f1⟩ .nil,
    upd_same, .cons ⟨g, .ref p3, .ref e1, rfl, r6 _ _ upd_same, t3.fix f1, ⟨e1, rfl, r5 _ _ upd_same⟩⟩ .nil, gOld, fun H4 s4 hc3 => ⟨rfl, ?_⟩⟩
  have S4' := (S3.trans r1).trans s4
  have f2 := fixOf (r1.trans s4)
  replace hc1 := hc1.fix f2
  replace hc2 := hc2.fix f2
  clear r1 r2 r3 r4 r5 r6 f1 f2 sx s4 S3 nx ndx ne na1 nb1 nA ne1 ng nB t1 t2 t3
  have d4 : Drawn' K H H4 d a ns := ⟨h0.same S4', keepOf S4'⟩
  refine ⟨_, rfl, _, rfl, _, rfl, three, fun W nW => ⟨W, rfl, ⟨_, SqT.of upd_same⟩, ?_⟩⟩
  have sW := same_upd (o := .tup [V.ref x, .ref x2, .ref x3]) nW
  have hW : upd H4 W (.tup [V.ref x, .ref x2, .ref x3]) W = some (.tup [V.ref x, .ref x2, .ref x3]) := upd_same
  have d5 := drawn_same d4 sW
  replace hc1 := hc1.fix (fixOf sW)
  replace hc2 := hc2.fix (fixOf sW)
  replace hc3 := hc3.fix (fixOf sW)
  generalize upd H4 W (.tup [V.ref x, .ref x2, .ref x3]) = H5 at hW d5 hc1 hc2 hc3
  intro D nD
  have neD := ne_draw d5.1 nD
  have nD0 := fresh_keep d5.2 nD neD
  have all3 : Paired (ClsAt (ad 55999) H5) [.ref x, .ref x2, .ref x3] [cHome, cNone, cOld] := .cons hc1 (.cons hc2 (.cons hc3 .nil))
  have good3 : ∀ c ∈ [cHome, cNone, cOld], GoodC c := fun c hc => by
    simp only [List.mem_cons, List.mem_nil_iff, or_false] at hc
    rcases hc with rfl | rfl | rfl
    · exact gHome
    · exact gNone
    · exact gOld
  have sD := same_upd (o := .lst []) nD
  refine lc_tup (xs := [.ref x, .ref x2, .ref x3]) (fun i H6 => Drawn' K H H6 d a ns ∧ Fix H5 H6 ∧ ∃ us cl, H6 D = some (.lst us) ∧ Paired (ClsAt (ad 55999) H6) us cl ∧ cl.length ≤ i ∧ ∀ c ∈ cl, GoodC c) ⟨drawn_same d5 sD, fixOf sD, [], [], upd_same, .nil, Nat.zero_le _, fun c hc => nomatch hc⟩ (fun i H6 _ z => SqT.of (z.2.1 _ _ hW True.intro)) ?_ ?_
  · rintro i x H6 hx ⟨d6, f6, us, cl, hD, hus, lc, gc⟩
    obtain ⟨c, hc, hxc⟩ := pget all3 hx
    refine ⟨rfl, _, rfl, d, a, ns, 3, rfl, d6.1, by decide, fun r H7 _ _ d7 => ⟨rfl, _, rfl, ?_⟩⟩
    have f7 := fixDrawn d6.1 d7
    have hD7 := d7.2 _ _ neD hD
    have d8 := drawn_trans d6 d7
    have li : i < 3 := (List.getElem?_eq_some_iff.mp hx).1
    have lu := Paired.length hus
    cases ec : decide (V.int r = V.int 0) with
    | true =>
      have f := fix_upd (o := .lst (us ++ [x])) hD7 (fun z => z)
      refine iteT ⟨_, rfl, us, hD7, ofNat_lt (by omega), draw_upd h0 d8 nD0, (f6.trans f7).trans f, us ++ [x], cl ++ [c], upd_same, Paired.snoc (Paired.mapP hus fun _ _ z => z.fix (f7.trans f)) (hxc.fix ((f6.trans f7).trans f)), by rw [List.length_append]; show cl.length + 1 ≤ _; omega, fun z hz => ?_⟩
      rcases List.mem_append.mp hz with hz | hz
      · exact gc z hz
      · rw [List.mem_singleton.mp hz]
        exact good3 c (List.mem_of_getElem? hc)
    | false => exact iteF ⟨d8, f6.trans f7, us, cl, hD7, Paired.mapP hus fun _ _ z => z.fix f7, by omega, gc⟩
  · rintro H6 ⟨d6, f6, us, cl, hD, hus, lc, gc⟩
    refine ⟨D, us, rfl, .inl ⟨SqL.of hD, fun t nt => ?_⟩⟩
    have st := same_upd (o := .tup us) nt
    exact q t _ us cl upd_same (Paired.mapP hus fun _ _ z => z.fix (fixOf st)) gc lc (drawn_same d6 st)
end
end Yj
set_option Elab.async false
set_option linter.all false
set_option maxRecDepth 100000
set_option maxHeartbeats 4000000
set_option pp.maxSteps 1500
namespace Yj
open PySem PySem.Spec PyProof.Rows L2 RZ YjD YjF
/-! ### there and back -/
def datA (a : Atm) : PyData := .tuple [.str a.1, .tuple (a.2.1.map datT), datT a.2.2]
def datS (s : Tst) : PyData := .tuple [.str s.1, datT s.2.1, datT s.2.2]
def datOA : Option Atm → PyData
  | none => .none
  | some a => datA a
def datOS : Option Tst → PyData
  | none => .none
  | some a => datS a
theorem tmds_dp {K : PySem.W.Frag} {H : Hp} : ∀ {us : List V} {ts : List Tm}, Paired (TmD K H) us ts → DpAll K H us (ts.map datT)
  | _, _, .nil => .nil
  | _, _, .cons a t => .cons a.dp (tmds_dp t)
theorem OAt.dp {K : PySem.W.Frag} {H : Hp} {v : V} : ∀ {o : Option Atm}, OAt K H v o → Dp K H v (datOA o)
  | none, h => by
    obtain rfl : v = .non := h
    exact .non
  | some a, h => by
    obtain ⟨p, n, y, us, rfl, h1, h2, h3, h4⟩ := h
    exact .tup (SqT.of h1) (.cons (.str _) (.cons (.tup (SqT.of h2) (tmds_dp h3)) (.cons h4.dp .nil)))
theorem OTs.dp {K : PySem.W.Frag} {H : Hp} {v : V} : ∀ {o : Option Tst}, OTs K H v o → Dp K H v (datOS o)
  | none, h => by
    obtain rfl : v = .non := h
    exact .non
  | some s, h => by
    obtain ⟨p, x, y, rfl, h1, h2, h3⟩ := h
    exact .tup (SqT.of h1) (.cons (.str _) (.cons h2.dp (.cons h3.dp .nil)))
theorem AtmAt.o {K : PySem.W.Frag} {H : Hp} {v : V} {a : Atm} (h : AtmAt H v a) : OAt K H v (some a) := by
  obtain ⟨p, n, y, us, rfl, h1, h2, h3, h4⟩ := h
  exact ⟨p, n, y, us, rfl, h1, h2, Paired.mapP h3 fun _ _ z => z.d, h4.d⟩
theorem TstAt.o {K : PySem.W.Frag} {H : Hp} {v : V} {s : Tst} (h : TstAt H v s) : OTs K H v (some s) := by
  obtain ⟨p, x, y, rfl, h1, h2, h3⟩ := h
  exact ⟨p, x, y, rfl, h1, h2.d, h3.d⟩
theorem OAt.fix {K : PySem.W.Frag} {H H' : Hp} (f : Fix H H') {v : V} : ∀ {o : Option Atm}, OAt K H v o → OAt K H' v o
  | none, h => h
  | some a, h => by
    obtain ⟨p, n, y, us, e, h1, h2, h3, h4⟩ := h
    exact ⟨p, n, y, us, e, f _ _ h1 True.intro, f _ _ h2 True.intro, Paired.mapP h3 fun _ _ z => z.fix f, h4.fix f⟩
theorem OTs.fix {K : PySem.W.Frag} {H H' : Hp} (f : Fix H H') {v : V} : ∀ {o : Option Tst}, OTs K H v o → OTs K H' v o
  | none, h => h
  | some s, h => by
    obtain ⟨p, x, y, e, h1, h2, h3⟩ := h
    exact ⟨p, x, y, e, f _ _ h1 True.intro, h2.fix f, h3.fix f⟩
theorem at_rt : ∀ a ∈ atL, atC (atTx a) = true ∧ atomOf (atTx a) = some a := by decide +kernel
theorem at_eqv : ∀ a ∈ atL, PyData.eqv (datOA (some a)) (datOA (some a)) = true ∧ SeqAt.shaped (datOA (some a)) = true := by decide +kernel
theorem ts_eqv : ∀ s ∈ tsL, PyData.eqv (datOS (some s)) (datOS (some s)) = true ∧ SeqAt.shaped (datOS (some s)) = true := by decide +kernel
def dayN : Tm → Option Str
  | .wh n => some n
  | _ => none
def dsOf (as : List Atm) : List Str := as.filterMap fun a => dayN a.2.2
def dsN : Nat → List (List Str)
  | 0 => [[]]
  | n + 1 => [] :: (["t", "u"] : List Str).flatMap fun x => (dsN n).map fun l => x :: l
theorem mem_dsN : ∀ {n : Nat} {l : List Str}, l.length ≤ n → (∀ x ∈ l, x ∈ (["t", "u"] : List Str)) → l ∈ dsN n
  | 0, [], _, _ => List.mem_cons_self ..
  | n + 1, [], _, _ => List.mem_cons_self ..
  | n + 1, x :: r, h, g => List.mem_cons_of_mem _ (List.mem_flatMap.mpr ⟨x, g x (List.mem_cons_self ..), List.mem_map.mpr ⟨r, mem_dsN (Nat.le_of_succ_le_succ h) (fun y hy => g y (List.mem_cons_of_mem _ hy)), rfl⟩⟩)
def okDs (s : Tst) (ds : List Str) : Bool := (match dayN s.2.1 with | some n => decide (n ∈ ds) | none => true) && (match dayN s.2.2 with | some n => decide (n ∈ ds) | none => true)
theorem ts_rt : ∀ s ∈ tsL, tsC (tstTx s) = true ∧ ∀ ds ∈ dsN 3, okDs s ds = true → testOf (tstTx s) ds = some s := by decide +kernel
theorem ds_tu : ∀ a ∈ atL, ∀ n, dayN a.2.2 = some n → n ∈ (["t", "u"] : List Str) := by
  have h : ∀ t ∈ dyTms, (match dayN t with | some n => decide (n ∈ (["t", "u"] : List Str)) | none => true) = true := by decide +kernel
  intro a ha n e
  have z := h a.2.2 (dy_of ha)
  rw [e] at z
  exact of_decide_eq_true z
theorem ds_mem {as : List Atm} (h : ∀ a ∈ as, a ∈ atL) (l : as.length ≤ 3) : dsOf as ∈ dsN 3 := by
  refine mem_dsN (Nat.le_trans (List.length_filterMap_le ..) l) fun x hx => ?_
  obtain ⟨a, ha, e⟩ := List.mem_filterMap.mp hx
  exact ds_tu a (h a ha) x e
theorem ds_has {as : List Atm} (h : ∀ a ∈ as, a ∈ atL) {n : Str} (m : Tm.wh n ∈ termsOf as) : n ∈ dsOf as := by
  obtain ⟨a, ha, hm⟩ := List.mem_flatMap.mp m
  rcases List.mem_append.mp hm with hm | hm
  · have z := ((at_tms a (h a ha)).2.2.2 _ hm).2
    cases z
  · have e := List.mem_singleton.mp hm
    exact List.mem_filterMap.mpr ⟨a, ha, by rw [← e]; rfl⟩
theorem ds_ok {c : Cls} (g : GoodC c) {s : Tst} (hs : s ∈ c.2) : okDs s (dsOf c.1) = true := by
  obtain ⟨g1, g2, _, _, _, g5⟩ := g
  have one : ∀ t, (t = s.2.1 ∨ t = s.2.2) → (match dayN t with | some n => decide (n ∈ dsOf c.1) | none => true) = true := fun t ht => by
    cases t with
    | wh n => exact decide_eq_true (ds_has g1 (g5 s hs _ ht rfl))
    | _ => rfl
  unfold okDs
  rw [one _ (.inl rfl), one _ (.inr rfl)]
  rfl
theorem cls_sum {c : Cls} (g : GoodC c) : ((c.1.map atTx ++ c.2.map tstTx).map (·.length)).sum + (c.1.map atTx ++ c.2.map tstTx).length * (" " : Str).length ≤ 16777216 := by
  obtain ⟨g1, g2, _, g3, g4, _⟩ := g
  have ln : (c.1.map atTx ++ c.2.map tstTx).length ≤ 9 := by
    rw [List.length_append, List.length_map, List.length_map]
    omega
  have b := sum_le (n := 100) (l := (c.1.map atTx ++ c.2.map tstTx).map (·.length)) fun x hx => by
    obtain ⟨z, hz, rfl⟩ := List.mem_map.mp hx
    rcases List.mem_append.mp hz with hz | hz
    · obtain ⟨a, ha, rfl⟩ := List.mem_map.mp hz
      obtain ⟨_, _, _, _, _, _, l7, _⟩ := of_decide_eq_true (at_len a (g1 a ha))
      exact l7
    · obtain ⟨a, ha, rfl⟩ := List.mem_map.mp hz
      exact (ts_len a (g2 a ha)).2.2.1
  rw [List.length_map] at b
  have e1 : (" " : Str).length = 1 := by decide +kernel
  rw [e1]
  omega
/-! the fixed words -/
abbrev RowA2 := Str × Option Atm
abbrev RowS2 := Str × Option Tst
def rows2 : List RowA2 := [("lives(ann,rome)@3", some ("lives", [.name "ann", .name "rome"], .day 3)), ("pays(?p)@now", some ("pays", [.any "p"], .now))]
def words8 : List Str := ["lives", "lives()@3", "lives(ann,)@3", "lives(ann)@", "lives(ann)@03", "lives(ann)@?", "lives(Ann)@3", ""]
def words6 : List Str := ["lives(ann)@1000000", "(ann)@3", "Lives(ann)@3", "lives(a,b,c,d,e)@3", "(ann)@", "lives(ann)3"]
def noA (z : Str) : RowA2 := (z, none)
def noS (z : Str) : RowS2 := (z, none)
def rowsAll : List RowA2 := (rows2 ++ words8.map noA) ++ words6.map noA
theorem rows_ok : ∀ r ∈ rowsAll, atC r.1 = true ∧ atomOf r.1 = r.2 ∧ PyData.eqv (datOA r.2) (datOA r.2) = true ∧ SeqAt.shaped (datOA r.2) = true := by decide +kernel
def told7 : List RowS2 := [("?t<5", some ("less", .wh "t", .day 5)), ("5<=now", some ("most", .day 5, .now)), ("?p!=ann", some ("unlike", .any "p", .name "ann")), ("?p=?q", some ("same", .any "p", .any "q")), ("?p=at", some ("same", .any "p", .name "at")), ("au!=?q", some ("unlike", .name "au", .any "q")), ("?t=?u", some ("same", .wh "t", .wh "u"))]
def words10 : List Str := ["?t<", "<5", "?t", "?p<ann", "ann<=rome", "?t<ann", "?t<05", "?t==5", "", "?t<1000000"]
def toldAll : List RowS2 := told7 ++ words10.map noS
theorem told_ok : ∀ r ∈ toldAll, tsC r.1 = true ∧ testOf r.1 ["t", "u"] = r.2 ∧ PyData.eqv (datOS r.2) (datOS r.2) = true ∧ SeqAt.shaped (datOS r.2) = true := by decide +kernel
def RowAt2 {α : Type} (R : Hp → V → α → Prop) (H : Hp) (v : V) (r : Str × α) : Prop := ∃ p x, v = .ref p ∧ H p = some (.tup [.str r.1, x]) ∧ R H x r.2
theorem RowAt2.fix {α : Type} {R : Hp → V → α → Prop} {H H' : Hp} (f : Fix H H') (hR : ∀ v o, R H v o → R H' v o) {v : V} {r : Str × α} (h : RowAt2 R H v r) : RowAt2 R H' v r := by
  obtain ⟨p, x, e, h1, h2⟩ := h
  exact ⟨p, x, e, f _ _ h1 True.intro, hR _ _ h2⟩
/-- a list of rows -/
def LsAt {α : Type} (R : Hp → V → α → Prop) (H : Hp) (G : Addr) (l : List (Str × α)) : Prop := ∃ ws, H G = some (.lst ws) ∧ Paired (RowAt2 R H) ws l
theorem LsAt.same {α : Type} {R : Hp → V → α → Prop} (hR : ∀ {H H' v o}, Fix H H' → R H v o → R H' v o) {H H' : Hp} (s : Same H H') {G : Addr} {l : List (Str × α)} (h : LsAt R H G l) : LsAt R H' G l := by
  obtain ⟨ws, h1, h2⟩ := h
  exact ⟨ws, s _ _ h1, Paired.mapP h2 fun _ _ z => z.fix (fixOf s) fun _ _ => hR (fixOf s)⟩
theorem LsAt.app {α : Type} {R : Hp → V → α → Prop} (hR : ∀ {H H' v o}, Fix H H' → R H v o → R H' v o) {H : Hp} {G : Addr} {l : List (Str × α)} {ws : List V} (h1 : H G = some (.lst ws)) (h : LsAt R H G l) {v : V} {r : Str × α} (hv : RowAt2 R H v r) : LsAt R (upd H G (.lst (ws ++ [v]))) G (l ++ [r]) := by
  obtain ⟨ws', h1', h2⟩ := h
  obtain rfl : ws' = ws := HO.lst.inj (Option.some.inj (h1'.symm.trans h1))
  have f := fix_upd (o := .lst (ws' ++ [v])) h1 (fun z => z)
  exact ⟨_, upd_same, Paired.snoc (Paired.mapP h2 fun _ _ z => z.fix f fun _ _ => hR f) (hv.fix f fun _ _ => hR f)⟩
theorem same_app {H : Hp} {G : Addr} {o u : HO} (_ : H G = some u) (n : ∀ x, u ≠ .tup x) : ∀ b x, H b = some (.tup x) → upd H G o b = some (.tup x) := fun b x e => by
  have : b ≠ G := fun z => by
    subst z
    rename_i h
    rw [h] at e
    exact n x (Option.some.inj e)
  rw [upd_ne this]
  exact e
end Yj
set_option Elab.async false
set_option linter.all false
set_option maxRecDepth 100000
set_option maxHeartbeats 4000000
set_option pp.maxSteps 1500
namespace Yj
open PySem PySem.Spec PyProof.Rows L2 RZ
/-! ### a def that may raise, where nothing is handled -/
theorem Fun.okN {P : Program} {w : World} {K : PySem.W.Frag} {mg : Str → Option Value} {base : Heap} {x qual : Str} {st : Stmt} {f : Addr} {fd : FuncData} {N ps : List Str} {k : Nat} {sp : Sp} (F : Fun K x qual st f fd) (S : FnScope N ps (defScope st)) (len : ∀ vs H Q E, sp vs H Q E → vs.length = ps.length)
    (hbody : ∀ (cdv : Value) (A : Around) (outer : List Env) (s : Shared) (H : Hp) (vs : List V) (Q : VK) (E : XK), Room k (A.deeper (envOfC qual (defScope st) s.heap.objs.size f cdv)) → sp vs H Q E →
      ∃ t, PSs (cxOf (L2N.CX P w) P w K mg base N qual (defScope st) f cdv A outer s H E) (defBody st) t ∧ t { nx := fun _ H' => Q .non H', rt := Q } (start N vs) H) : FnOk P w K mg base (L2N.CX P w) (k + 1) f fd ps sp := by
  obtain ⟨oc, od, kV, doc, pm, an, cdv, ct, osl, rfl, lk, hcd⟩ := F.ex
  exact fn_of lk hcd S len fun A outer s H vs Q E hr hsp => by
    exact hbody cdv A outer s H vs Q E hr hsp
theorem Pl.mono {H H' : Hp} {x : V} (s : Same H H') (h : Pl H x) : Pl H' x := by
  cases h with
  | non => exact .non
  | bl b => exact .bl b
  | int i => exact .int i
  | str x => exact .str x
  | lst h => exact .lst (s _ _ h)
  | tup h => exact .tup (s _ _ h)
end Yj
set_option Elab.async false
set_option linter.all false
set_option maxRecDepth 100000
set_option maxHeartbeats 8000000
set_option pp.maxSteps 1500
namespace Yj
open PySem PySem.Spec PyProof.Rows L2 RZ YjD YjF
abbrev q_head {A B D : Addr} : (qF A B D).lookup ("head" : Str) = some (.ref A) := lk_eq
theorem q_cl {A B D : Addr} : (qF A B D).lookup ("clauses" : Str) = some (.ref B) := (lk_ne (by decide +kernel)).trans lk_eq
theorem q_un {A B D : Addr} : (qF A B D).lookup ("unless" : Str) = some (.ref D) := (lk_ne (by decide +kernel)).trans ((lk_ne (by decide +kernel)).trans lk_eq)
theorem row_s {K : PySem.W.Frag} {H : Hp} {q1 q2 s r : Addr} {t u : Tm} {wd z : Str} (h1 : H q1 = some (.tup (t.key.map kV))) (h2 : H q2 = some (.tup (u.key.map kV))) (h3 : H s = some (.tup [.str wd, .ref q1, .ref q2])) (h4 : H r = some (.tup [.str z, .ref s])) : RowAt2 (OTs K) H (.ref r) (z, some (wd, t, u)) :=
  ⟨r, .ref s, rfl, h4, s, .ref q1, .ref q2, rfl, h3, ⟨q1, rfl, .inl h1⟩, ⟨q2, rfl, .inl h2⟩⟩
theorem LsAt.cat {α : Type} {R : Hp → V → α → Prop} (hR : ∀ {H H' v o}, Fix H H' → R H v o → R H' v o) {H : Hp} {G L : Addr} {l m : List (Str × α)} {ws us : List V} (h1 : H G = some (.lst ws)) (h : LsAt R H G l) (h2 : H L = some (.lst us)) (h3 : LsAt R H L m) {G2 : Addr} (n : H G2 = none) : LsAt R (upd H G2 (.lst (ws ++ us))) G2 (l ++ m) := by
  obtain ⟨ws', e1, p1⟩ := h
  obtain rfl : ws' = ws := HO.lst.inj (Option.some.inj (e1.symm.trans h1))
  obtain ⟨us', e2, p2⟩ := h3
  obtain rfl : us' = us := HO.lst.inj (Option.some.inj (e2.symm.trans h2))
  have f := fixOf (same_upd (o := .lst (ws' ++ us')) n)
  exact ⟨_, upd_same, Paired.mapP (pcat p1 p2) fun _ _ z => z.fix f fun _ _ => hR f⟩
theorem strs_get {zs : List Str} {i : Nat} {x : V} (h : (zs.map V.str)[i]? = some x) : ∃ z, zs[i]? = some z ∧ x = .str z := by
  rw [List.getElem?_map] at h
  cases e : zs[i]? with
  | none =>
    rw [e] at h
    cases h
  | some r =>
    rw [e] at h
    exact ⟨r, rfl, (Option.some.inj h).symm⟩
def spLaw (K : PySem.W.Frag) : Sp := fun vs H Q _ => ∃ (a : Addr) (ns : List Int), vs = [.ref a] ∧ SqL K H a (ns.map V.int) ∧ ns.length ≤ 63 ∧ ∀ H', Q (.bl true) H'
section
variable {P : Program} {w : World} {K : PySem.W.Frag} {mg : Str → Option Value} {base : Heap} {ad : Nat → Addr} {fds : Nat → FuncData} {cs : Nat → Value}
theorem ok_law (T : Txt K mg ad fds cs) : FnOk P w K mg base (L2N.CX P w) 14 (ad 78) (fds 78) ["script"] (spLaw K) := by
  refine Fun.okN T.F_law sc_law (fun vs H Q E h => ?_) (fun cdv A0 outer s H vs Q E hr h => ?_)
  · obtain ⟨a, ns, rfl, _⟩ := h
    rfl
  obtain ⟨a, ns, rfl, hs, hl, q⟩ := h
  refine ⟨_, (pss_cons (ps_set (i := 1) sc_law.nd rfl (by first | exact .inl rfl | exact .inr rfl) (pe_lst (pa_cons (pv 0) (pa_cons pe_int pa_nil))))
      (pss_cons (ps_set (i := 2) sc_law.nd rfl (by first | exact .inl rfl | exact .inr rfl) (pe_call (ok__law_question T) (hr.mono (by decide)) rfl T.g__law_question T.F__law_question.kp (bi__law_question T) .nil pass0 (pa_cons (pv 1) pa_nil)))
      (pss_cons (ps_for PassesOwn.leaving rfl (pi_tup (pe_op YjG.op_catT2 (pe_op YjG.op_catT2 (YjD.pe_fldK (K := K) (pv 2) rfl) (YjD.pe_fldK (K := K) (pv 2) rfl)) (pe_call (ok__law_rules T) (hr.mono (by decide)) rfl T.g__law_rules T.F__law_rules.kp (bi__law_rules T) .nil pass0 (pa_cons (pv 1) pa_nil)))) (pg_name (i := 3) sc_law.nd rfl (by first | exact .inl rfl | exact .inr rfl))
      (pss_cons (ps_if (pt_cmpR op_ne (pe_call (ok_clause_text T) (hr.mono (by decide)) rfl T.g_clause_text T.F_clause_text.kp (bi_clause_text T) .nil pass0 (pa_cons (pv 3) pa_nil)) (pe_join pe_str (pe_call (ok__law_words T) (hr.mono (by decide)) rfl T.g__law_words T.F__law_words.kp (bi__law_words T) .nil pass0 (pa_cons (pv 3) pa_nil))) (nomark _)) (pss_one (ps_ret pe_bl)) pss_nil)
      (pss_cons (ps_setLc (i := 4) (own := [("relation", 11), ("names", 12), ("day", 13)]) rfl sc_law.nd rfl rfl (sw_true rfl rfl rfl (by decide +kernel)) (pi_tup (YjD.pe_fldK (K := K) (pv 3) rfl)) (blkOk_by (N := N_law) (sc := defScope s_law) (own := [("relation", 11), ("names", 12), ("day", 13)]) (by decide +kernel)) (fun _ _ _ _ _ => by exact (pg_tupK (K := K) (n := 3) rfl (pgs_cons (pg_name (i := 11) sc_law.nd rfl (.inl rfl)) (pgs_cons (pg_name (i := 12) sc_law.nd rfl (.inl rfl)) (pgs_cons (pg_name (i := 13) sc_law.nd rfl (.inl rfl)) pgs_nil))))) (fun _ _ _ _ _ => by exact (pts_one (pt_cmpR op_eq (pe_ix (ix_seqK (K := K)) (pv 13) pe_int (fun _ _ => rfl)) pe_str (nomark _)))) (fun _ _ _ _ _ => by exact (pe_ix (ix_seqK (K := K)) (pv 13) pe_int (fun _ _ => rfl))))
      (pss_cons (ps_for PassesOwn.leaving rfl (pi_tup (YjD.pe_fldK (K := K) (pv 3) rfl)) (pg_name (i := 5) sc_law.nd rfl (by first | exact .inl rfl | exact .inr rfl))
      (pss_one (ps_if (pt_cmpR (op_neD hr.units) (pe_call (ok_atom_of T) (hr.mono (by decide)) rfl T.g_atom_of T.F_atom_of.kp (bi_atom_of T) .nil pass0 (pa_cons (pe_call (ok_atom_text T) (hr.mono (by decide)) rfl T.g_atom_text T.F_atom_text.kp (bi_atom_text T) .nil pass0 (pa_cons (pv 5) pa_nil)) pa_nil)) (pv 5) (nomark _)) (pss_one (ps_ret pe_bl)) pss_nil)))
      (pss_one (ps_for PassesOwn.leaving rfl (pi_tup (YjD.pe_fldK (K := K) (pv 3) rfl)) (pg_name (i := 6) sc_law.nd rfl (by first | exact .inl rfl | exact .inr rfl))
      (pss_one (ps_if (pt_cmpR (op_neD hr.units) (pe_call (ok_test_of T) (hr.mono (by decide)) rfl T.g_test_of T.F_test_of.kp (bi_test_of T) .nil pass0 (pa_cons (pe_call (ok_test_text T) (hr.mono (by decide)) rfl T.g_test_text T.F_test_text.kp (bi_test_text T) .nil pass0 (pa_cons (pv 6) pa_nil)) (pa_cons (pv 4) pa_nil))) (pv 6) (nomark _)) (pss_one (ps_ret pe_bl)) pss_nil))))))))
      (pss_cons (ps_set (i := 7) sc_law.nd rfl (by first | exact .inl rfl | exact .inr rfl) (pe_lst (pa_cons (pe_tup (pa_cons pe_str (pa_cons (pe_tup (pa_cons pe_str (pa_cons (pe_tup (pa_cons (pe_tup (pa_cons pe_str (pa_cons pe_str pa_nil))) (pa_cons (pe_tup (pa_cons pe_str (pa_cons pe_str pa_nil))) pa_nil))) (pa_cons (pe_tup (pa_cons pe_str (pa_cons pe_int pa_nil))) pa_nil)))) pa_nil))) pa_nil)))
      (pss_cons (ps_expr (pe_bm PySem.F.plainAttrs_list PySem.F.slot_list_append PySem.F.type_list_append mt_append (pv 7) (pa_cons (pe_tup (pa_cons pe_str (pa_cons (pe_tup (pa_cons pe_str (pa_cons (pe_tup (pa_cons (pe_tup (pa_cons pe_str (pa_cons pe_str pa_nil))) pa_nil)) (pa_cons (pe_tup (pa_cons pe_str pa_nil)) pa_nil)))) pa_nil))) pa_nil)))
      (pss_cons (ps_for PassesOwn.leaving rfl (pi_tup (pe_tup (pa_cons pe_str (pa_cons pe_str (pa_cons pe_str (pa_cons pe_str (pa_cons pe_str (pa_cons pe_str (pa_cons pe_str (pa_cons pe_str pa_nil)))))))))) (pg_name (i := 8) sc_law.nd rfl (by first | exact .inl rfl | exact .inr rfl))
      (pss_one (ps_expr (pe_bm PySem.F.plainAttrs_list PySem.F.slot_list_append PySem.F.type_list_append mt_append (pv 7) (pa_cons (pe_tup (pa_cons (pv 8) (pa_cons pe_non pa_nil))) pa_nil)))))
      (pss_cons (ps_for PassesOwn.leaving rfl (pi_tup (pe_tup (pa_cons pe_str (pa_cons pe_str (pa_cons pe_str (pa_cons pe_str (pa_cons pe_str (pa_cons pe_str pa_nil)))))))) (pg_name (i := 8) sc_law.nd rfl (by first | exact .inl rfl | exact .inr rfl))
      (pss_one (ps_expr (pe_bm PySem.F.plainAttrs_list PySem.F.slot_list_append PySem.F.type_list_append mt_append (pv 7) (pa_cons (pe_tup (pa_cons (pv 8) (pa_cons pe_non pa_nil))) pa_nil)))))
      (pss_cons (ps_for PassesOwn.leaving rfl (pi_list (pv 7)) (pg_tup rfl (pgs_cons (pg_name (i := 8) sc_law.nd rfl (by first | exact .inl rfl | exact .inr rfl)) (pgs_cons (pg_name (i := 9) sc_law.nd rfl (by first | exact .inl rfl | exact .inr rfl)) pgs_nil)))
      (pss_one (ps_if (pt_cmpR (op_neD hr.units) (pe_call (ok_atom_of T) (hr.mono (by decide)) rfl T.g_atom_of T.F_atom_of.kp (bi_atom_of T) .nil pass0 (pa_cons (pv 8) pa_nil)) (pv 9) (nomark _)) (pss_one (ps_ret pe_bl)) pss_nil)))
      (pss_cons (ps_set (i := 10) sc_law.nd rfl (by first | exact .inl rfl | exact .inr rfl) (pe_lst (pa_cons (pe_tup (pa_cons pe_str (pa_cons (pe_tup (pa_cons pe_str (pa_cons (pe_tup (pa_cons pe_str (pa_cons pe_str pa_nil))) (pa_cons (pe_tup (pa_cons pe_str (pa_cons pe_int pa_nil))) pa_nil)))) pa_nil))) (pa_cons (pe_tup (pa_cons pe_str (pa_cons (pe_tup (pa_cons pe_str (pa_cons (pe_tup (pa_cons pe_str (pa_cons pe_int pa_nil))) (pa_cons (pe_tup (pa_cons pe_str pa_nil)) pa_nil)))) pa_nil))) pa_nil))))
      (pss_cons (ps_set (i := 10) sc_law.nd rfl (by first | exact .inl rfl | exact .inr rfl) (pe_op op_cat (pv 10) (pe_lst (pa_cons (pe_tup (pa_cons pe_str (pa_cons (pe_tup (pa_cons pe_str (pa_cons (pe_tup (pa_cons pe_str (pa_cons pe_str pa_nil))) (pa_cons (pe_tup (pa_cons pe_str (pa_cons pe_str pa_nil))) pa_nil)))) pa_nil))) (pa_cons (pe_tup (pa_cons pe_str (pa_cons (pe_tup (pa_cons pe_str (pa_cons (pe_tup (pa_cons pe_str (pa_cons pe_str pa_nil))) (pa_cons (pe_tup (pa_cons pe_str (pa_cons pe_str pa_nil))) pa_nil)))) pa_nil))) pa_nil)))))
      (pss_cons (ps_set (i := 10) sc_law.nd rfl (by first | exact .inl rfl | exact .inr rfl) (pe_op op_cat (pv 10) (pe_lst (pa_cons (pe_tup (pa_cons pe_str (pa_cons (pe_tup (pa_cons pe_str (pa_cons (pe_tup (pa_cons pe_str (pa_cons pe_str pa_nil))) (pa_cons (pe_tup (pa_cons pe_str (pa_cons pe_str pa_nil))) pa_nil)))) pa_nil))) (pa_cons (pe_tup (pa_cons pe_str (pa_cons (pe_tup (pa_cons pe_str (pa_cons (pe_tup (pa_cons pe_str (pa_cons pe_str pa_nil))) (pa_cons (pe_tup (pa_cons pe_str (pa_cons pe_str pa_nil))) pa_nil)))) pa_nil))) pa_nil)))))
      (pss_cons (ps_expr (pe_bm PySem.F.plainAttrs_list PySem.F.slot_list_append PySem.F.type_list_append mt_append (pv 10) (pa_cons (pe_tup (pa_cons pe_str (pa_cons (pe_tup (pa_cons pe_str (pa_cons (pe_tup (pa_cons pe_str (pa_cons pe_str pa_nil))) (pa_cons (pe_tup (pa_cons pe_str (pa_cons pe_str pa_nil))) pa_nil)))) pa_nil))) pa_nil)))
      (pss_cons (ps_for PassesOwn.leaving rfl (pi_tup (pe_tup (pa_cons pe_str (pa_cons pe_str (pa_cons pe_str (pa_cons pe_str (pa_cons pe_str (pa_cons pe_str (pa_cons pe_str (pa_cons pe_str (pa_cons pe_str (pa_cons pe_str pa_nil)))))))))))) (pg_name (i := 8) sc_law.nd rfl (by first | exact .inl rfl | exact .inr rfl))
      (pss_one (ps_expr (pe_bm PySem.F.plainAttrs_list PySem.F.slot_list_append PySem.F.type_list_append mt_append (pv 10) (pa_cons (pe_tup (pa_cons (pv 8) (pa_cons pe_non pa_nil))) pa_nil)))))
      (pss_cons (ps_for PassesOwn.leaving rfl (pi_list (pv 10)) (pg_tup rfl (pgs_cons (pg_name (i := 8) sc_law.nd rfl (by first | exact .inl rfl | exact .inr rfl)) (pgs_cons (pg_name (i := 9) sc_law.nd rfl (by first | exact .inl rfl | exact .inr rfl)) pgs_nil)))
      (pss_one (ps_if (pt_cmpR (op_neD hr.units) (pe_call (ok_test_of T) (hr.mono (by decide)) rfl T.g_test_of T.F_test_of.kp (bi_test_of T) .nil pass0 (pa_cons (pv 8) (pa_cons (pe_lst (pa_cons pe_str (pa_cons pe_str pa_nil))) pa_nil))) (pv 9) (nomark _)) (pss_one (ps_ret pe_bl)) pss_nil)))
      (pss_one (ps_ret (pe_and (pe_cmpR op_eq (pe_call (ok_answers_text T) (hr.mono (by decide)) rfl T.g_answers_text T.F_answers_text.kp (bi_answers_text T) .nil pass0 (pa_cons (pe_lst (pa_cons (pe_tup (pa_cons pe_str (pa_cons pe_str pa_nil))) (pa_cons (pe_tup (pa_cons pe_str (pa_cons pe_str pa_nil))) pa_nil))) pa_nil)) pe_str (nomark _)) (pe_and (pe_cmpR op_eq (pe_call (ok_answers_text T) (hr.mono (by decide)) rfl T.g_answers_text T.F_answers_text.kp (bi_answers_text T) .nil pass0 (pa_cons (pe_lst (pa_cons (pe_tup pa_nil) pa_nil)) pa_nil)) pe_str (nomark _)) (pe_one (pe_cmpR op_eq (pe_call (ok_answers_text T) (hr.mono (by decide)) rfl T.g_answers_text T.F_answers_text.kp (bi_answers_text T) .nil pass0 (pa_cons (pe_tup pa_nil) pa_nil)) pe_str (nomark _))))))))))))))))))))), ?_⟩
  refine ⟨_, rfl, (by show 2 ≤ sizeLine; decide), fun d nd => ?_⟩
  have s1 := same_upd (o := .lst [.ref a, .int 0]) nd
  have hD : Draw K (upd H d (.lst [.ref a, .int 0])) d a ns := ⟨⟨0, upd_same⟩, hs.ext s1, hl⟩
  generalize upd H d (.lst [.ref a, .int 0]) = H1 at *
  refine ⟨_, rfl, d, a, ns, rfl, hD, fun v H2 hq d2 => ?_⟩
  obtain ⟨p, dx, A, B, D, us, ws, cl, un, rfl, hp, hB, hus, hD2, hws, good, une, l1, l2⟩ := hq
  have lu := Paired.length hus
  have lw := Paired.length hws
  refine ⟨_, rfl, p, _, dx, _, _, rfl, hp, T.cl_Question, T.na_Question_clauses, q_cl, _, rfl, p, _, dx, _, _, rfl, hp, T.cl_Question, T.na_Question_unless, q_un, B, D, us, ws, rfl, rfl, hB, hD2, une, ofNat_le (by omega), fun H3 C3 s3 hC3 => ?_⟩
  have s3 : Same H2 H3 := s3
  have hall := Paired.mapP (pcat hus hws) fun _ _ z => z.fix (fixOf s3)
  refine ⟨_, rfl, d, a, ns, rfl, d2.1.same s3, fun C4 H4 rs cr hC4 hrs gr lr d4 => ?_⟩
  have f4 := fixDrawn (d2.1.same s3) d4
  have hC3' := f4 _ _ hC3 True.intro
  have lrr := Paired.length hrs
  have hall4 := pcat (Paired.mapP hall fun _ _ z => z.fix f4) hrs
  have goodAll : ∀ c ∈ (cl ++ un) ++ cr, GoodC c := fun c hc => by
    rcases List.mem_append.mp hc with hc | hc
    · exact good c hc
    · exact gr c hc
  refine ⟨C3, C4, us ++ ws, rs, rfl, rfl, hC3', hC4, (fun z => une (List.append_eq_nil_iff.mp z).1), ofNat_le (by rw [List.length_append]; omega), fun H5 C5 s5 hC5 => ?_⟩
  have s5 : Same H4 H5 := s5
  have hall5 := Paired.mapP hall4 fun _ _ z => z.fix (fixOf s5)
  clear hall4 hall hC3' hC3 hC4 hus hws hrs d4 f4 s3 hp hB hD2 d2 hD s1 s5
  refine ⟨C5, rfl, ⟨_, SqT.of hC5⟩, for_it (walk_tup (K := K) (xs := (us ++ ws) ++ rs)) (fun i σ H6 => ∃ (y3 y4 y5 y6 : Option V), σ = [some (.ref a), some (.ref d), some (.ref p), y3, y4, y5, y6, none, none, none, none, none, none, none] ∧ Same H5 H6) ⟨_, _, _, _, rfl, Same.refl _⟩ (fun i σ H6 _ ⟨_, _, _, _, _, z⟩ => SqT.of (z _ _ hC5)) ?_ ?_⟩
  · rintro i x σ H6 H6' hi ⟨y3, y4, y5, y6, rfl, s6⟩ ⟨rfl, hx⟩
    obtain ⟨c, hc, hxc⟩ := pget hall5 hx
    have gc := goodAll c (List.mem_of_getElem? hc)
    obtain ⟨g1, g2, g0, g3, g4, g5⟩ := id gc
    have hx6 := hxc.fix (fixOf s6)
    refine ⟨_, rfl, x, c, rfl, hx6, gc, fun H7 s7 => ⟨⟨_, rfl⟩, _, rfl, x, c, rfl, hx6.fix (fixOf s7), gc, fun H8 L s8 hL => ⟨_, L, _, rfl, rfl, .inl (SqL.of hL), cls_sum gc, rfl, _, rfl, ?_⟩⟩⟩
    refine ifNeE rfl ?_
    have s9 := s6.trans (s7.trans s8)
    obtain ⟨pc, dxc, A1, B1, as, ts, rfl, hpc, hA1, has, hB1, hts⟩ := hxc
    have la := Paired.length has
    have lt := Paired.length hts
    refine ⟨_, rfl, pc, _, dxc, _, _, rfl, s9 _ _ hpc, T.cl_Clause, T.na_Clause_atoms, c_atoms, A1, rfl, ⟨_, SqT.of (s9 _ _ hA1)⟩, fun E nE => ?_⟩
    refine lc_tup (xs := as) (fun j H9 => Same H8 H9 ∧ H9 E = some (.lst ((dsOf (c.1.take j)).map V.str))) ⟨same_upd nE, upd_same⟩ (fun j H9 _ h => SqT.of (h.1 _ _ (s9 _ _ hA1))) ?_ ?_
    · rintro j x H9 hx9 ⟨s10, hE⟩
      obtain ⟨z, hz, pa, n, y, vs, rfl, hpa, hn, hvs, hy⟩ := pget has hx9
      have s11 := s9.trans s10
      have lj : (dsOf (c.1.take j)).length ≤ 3 := by
        have e1 : (dsOf (c.1.take j)).length ≤ (c.1.take j).length := List.length_filterMap_le ..
        have e2 := List.length_take_le' j c.1
        omega
      obtain ⟨py, rfl, hpy⟩ := hy.fix (fixOf s11)
      refine ⟨pa, _, rfl, SqT.of (s11 _ _ hpa), rfl, _, _, rfl, _, _, rfl, _, _, rfl, rfl, rfl, ?_⟩
      have tk : dsOf (c.1.take (j + 1)) = dsOf (c.1.take j) ++ (dayN z.2.2).toList := by
        unfold dsOf
        rw [tkS hz, List.filterMap_append]
        congr 1
      obtain ⟨zr, zn, zt⟩ := z
      dsimp only at hpy tk
      cases zt with
      | wh m =>
        refine ⟨_, rfl, .inr (.inl ⟨py, _, 0, .str "when", rfl, rfl, SqT.of hpy, atI_nat (j := 0) rfl, rfl, _, rfl, ?_⟩)⟩
        rw [strv_eq, show decide (("when" : Str) = "when") = true by decide +kernel]
        refine iteT ⟨_, rfl, .inr (.inl ⟨py, _, 1, .str m, rfl, rfl, SqT.of hpy, atI_nat (j := 1) rfl, _, hE, ofNat_lt (by rw [List.length_map]; omega), same_at s10 nE, ?_⟩)⟩
        rw [upd_same, tk, List.map_append]
        rfl
      | any m =>
        refine ⟨_, rfl, .inr (.inl ⟨py, _, 0, .str "any", rfl, rfl, SqT.of hpy, atI_nat (j := 0) rfl, rfl, _, rfl, ?_⟩)⟩
        rw [strv_eq, show decide (("any" : Str) = "when") = false by decide +kernel]
        refine iteF ⟨s10, ?_⟩
        rw [tk]
        exact hE.trans (congrArg (fun l => some (HO.lst (List.map V.str l))) (List.append_nil _).symm)
      | name m =>
        refine ⟨_, rfl, .inr (.inl ⟨py, _, 0, .str "name", rfl, rfl, SqT.of hpy, atI_nat (j := 0) rfl, rfl, _, rfl, ?_⟩)⟩
        rw [strv_eq, show decide (("name" : Str) = "when") = false by decide +kernel]
        refine iteF ⟨s10, ?_⟩
        rw [tk]
        exact hE.trans (congrArg (fun l => some (HO.lst (List.map V.str l))) (List.append_nil _).symm)
      | day m =>
        refine ⟨_, rfl, .inr (.inl ⟨py, _, 0, .str "day", rfl, rfl, SqT.of hpy, atI_nat (j := 0) rfl, rfl, _, rfl, ?_⟩)⟩
        rw [strv_eq, show decide (("day" : Str) = "when") = false by decide +kernel]
        refine iteF ⟨s10, ?_⟩
        rw [tk]
        exact hE.trans (congrArg (fun l => some (HO.lst (List.map V.str l))) (List.append_nil _).symm)
      | now =>
        refine ⟨_, rfl, .inr (.inl ⟨py, _, 0, .str "now", rfl, rfl, SqT.of hpy, atI_nat (j := 0) rfl, rfl, _, rfl, ?_⟩)⟩
        rw [strv_eq, show decide (("now" : Str) = "when") = false by decide +kernel]
        refine iteF ⟨s10, ?_⟩
        rw [tk]
        exact hE.trans (congrArg (fun l => some (HO.lst (List.map V.str l))) (List.append_nil _).symm)
    rintro H9 ⟨s10, hE⟩
    rw [la, List.take_length] at hE
    have s11 := s9.trans s10
    have dsm := ds_mem g1 g3
    refine ⟨_, rfl, pc, _, dxc, _, _, rfl, s11 _ _ hpc, T.cl_Clause, T.na_Clause_atoms, c_atoms, A1, rfl, ⟨_, SqT.of (s11 _ _ hA1)⟩, ?_⟩
    refine for_it (walk_tup (K := K) (xs := as)) (fun j σ H10 => ∃ (y5 : Option V), σ = [some (.ref a), some (.ref d), some (.ref p), some (.ref pc), some (.ref E), y5, y6, none, none, none, none, none, none, none] ∧ Same H9 H10) ⟨_, rfl, Same.refl _⟩ (fun j σ H10 _ ⟨_, _, z⟩ => SqT.of ((s11.trans z) _ _ hA1)) ?_ ?_
    · rintro j x σ H10 H10' hj ⟨y5, rfl, s12⟩ ⟨rfl, hx10⟩
      obtain ⟨z, hz, hxz⟩ := pget has hx10
      have gz := g1 z (List.mem_of_getElem? hz)
      obtain ⟨rt1, rt2⟩ := at_rt z gz
      obtain ⟨ev, sh⟩ := at_eqv z gz
      have s13 := s11.trans s12
      refine ⟨_, rfl, x, z, rfl, hxz.fix (fixOf s13), gz, fun H11 s14 => ⟨_, rfl, rt1, fun H12 v s15 ho => ?_⟩⟩
      rw [rt2] at ho
      refine ⟨_, rfl, datOA (some z), datOA (some z), ho.dp, (OAt.dp (K := K) ((hxz.fix (fixOf ((s13.trans s14).trans s15))).o)), sh, sh, _, rfl, ?_⟩
      rw [ev]
      exact iteF ⟨_, rfl, (s12.trans s14).trans s15⟩
    rintro σ H10 ⟨y5, rfl, s12⟩
    have s13 := s11.trans s12
    refine ⟨_, rfl, pc, _, dxc, _, _, rfl, s13 _ _ hpc, T.cl_Clause, T.na_Clause_tests, c_tests, B1, rfl, ⟨_, SqT.of (s13 _ _ hB1)⟩, ?_⟩
    refine for_it (walk_tup (K := K) (xs := ts)) (fun j σ H11 => ∃ (y6 : Option V), σ = [some (.ref a), some (.ref d), some (.ref p), some (.ref pc), some (.ref E), y5, y6, none, none, none, none, none, none, none] ∧ Same H10 H11) ⟨_, rfl, Same.refl _⟩ (fun j σ H11 _ ⟨_, _, z⟩ => SqT.of ((s13.trans z) _ _ hB1)) ?_ ?_
    · rintro j x σ H11 H11' hj ⟨y6, rfl, s14⟩ ⟨rfl, hx11⟩
      obtain ⟨z, hz, hxz⟩ := pget hts hx11
      have mz := List.mem_of_getElem? hz
      have gz := g2 z mz
      obtain ⟨rt1, rt2⟩ := ts_rt z gz
      obtain ⟨ev, sh⟩ := ts_eqv z gz
      have s15 := s13.trans s14
      have hE11 := (s12.trans s14) _ _ hE
      refine ⟨_, rfl, x, z, rfl, hxz.fix (fixOf s15), gz, fun H12 s16 => ⟨_, rfl, _, E, dsOf c.1, rfl, rt1, s16 _ _ hE11, fun H13 v s17 ho => ?_⟩⟩
      rw [rt2 _ dsm (ds_ok gc mz)] at ho
      refine ⟨_, rfl, datOS (some z), datOS (some z), ho.dp, (OTs.dp (K := K) ((hxz.fix (fixOf ((s15.trans s16).trans s17))).o)), sh, sh, _, rfl, ?_⟩
      rw [ev]
      exact iteF ⟨_, rfl, (s14.trans s16).trans s17⟩
    rintro σ H11 ⟨y6, rfl, s14⟩
    exact ⟨_, _, _, _, rfl, s6.trans (((s7.trans s8).trans s10).trans (s12.trans s14))⟩
  rintro σ H6 ⟨y3, y4, y5, y6, rfl, s6⟩
  clear hall5 goodAll hC5 s6 hs
  have one : (1 : Nat) ≤ sizeLine := by decide
  have two : (2 : Nat) ≤ sizeLine := by decide
  have three : (3 : Nat) ≤ sizeLine := by decide
  have fA : ∀ {H H' v o}, Fix H H' → OAt K H v o → OAt K H' v o := fun f h => h.fix f
  have fS : ∀ {H H' v o}, Fix H H' → OTs K H v o → OTs K H' v o := fun f h => h.fix f
  refine ⟨two, fun q1 n1 => ⟨two, fun q2 n2 => ⟨two, fun m nm => ⟨two, fun y ny => ⟨three, fun p1 np1 => ⟨two, fun r nr => ⟨one, fun G nG => ?_⟩⟩⟩⟩⟩⟩⟩
  have r7 := same_upd nG (o := .lst [V.ref r])
  have r6 := (same_upd nr (o := .tup [V.str "lives(ann,rome)@3", .ref p1])).trans r7
  have r5 := (same_upd np1 (o := .tup [V.str "lives", .ref m, .ref y])).trans r6
  have r4 := (same_upd ny (o := .tup [V.str "day", .int 3])).trans r5
  have r3 := (same_upd nm (o := .tup [V.ref q1, .ref q2])).trans r4
  have r2 := (same_upd n2 (o := .tup [V.str "name", .str "rome"])).trans r3
  have L1 : LsAt (OAt K) _ G [(("lives(ann,rome)@3" : Str), some (("lives" : Str), [Tm.name "ann", .name "rome"], Tm.day 3))] := ⟨[.ref r], upd_same, .cons ⟨r, .ref p1, rfl, r7 _ _ upd_same, p1, m, .ref y, [.ref q1, .ref q2], rfl, r6 _ _ upd_same, r4 _ _ upd_same, .cons ⟨q1, rfl, .inl (r2 _ _ upd_same)⟩ (.cons ⟨q2, rfl, .inl (r3 _ _ upd_same)⟩ .nil), ⟨y, rfl, .inl (r5 _ _ upd_same)⟩⟩ .nil⟩
  clear r7 r6 r5 r4 r3 r2
  generalize upd _ G (HO.lst [V.ref r]) = H7 at L1
  clear n1 n2 nm ny np1 nr nG q1 q2 m y p1 r
  obtain ⟨ws1, hG1, hp1⟩ := id L1
  refine ⟨.ref G, rfl, .inl ⟨rfl, _, SqL.of hG1⟩, two, fun q1 n1 => ⟨one, fun m nm => ⟨one, fun y ny => ⟨three, fun p1 np1 => ⟨two, fun r nr => ?_⟩⟩⟩⟩⟩
  have r5 := same_upd nr (o := .tup [V.str "pays(?p)@now", .ref p1])
  have r4 := (same_upd np1 (o := .tup [V.str "pays", .ref m, .ref y])).trans r5
  have r3 := (same_upd ny (o := .tup [V.str "now"])).trans r4
  have r2 := (same_upd nm (o := .tup [V.ref q1])).trans r3
  have r1 := (same_upd n1 (o := .tup [V.str "any", .str "p"])).trans r2
  have hG2 := r1 _ _ hG1
  have l1' := Paired.length hp1
  refine ⟨G, ws1, _, rfl, rfl, hG2, ofNat_lt (by rw [l1']; decide), ?_⟩
  have L2 := LsAt.app (R := OAt K) fA hG2 (LsAt.same (R := OAt K) fA r1 L1) (v := .ref r) (r := (("pays(?p)@now" : Str), some (("pays" : Str), [Tm.any "p"], Tm.now))) ⟨r, .ref p1, rfl, upd_same, p1, m, .ref y, [.ref q1], rfl, r5 _ _ upd_same, r3 _ _ upd_same, .cons ⟨q1, rfl, .inl (r2 _ _ upd_same)⟩ .nil, ⟨y, rfl, .inl (r4 _ _ upd_same)⟩⟩
  replace L2 : LsAt (OAt K) _ G rows2 := L2
  clear r5 r4 r3 r2 r1 hG2 l1'
  generalize upd _ G (HO.lst (ws1 ++ [V.ref r])) = H8 at L2
  clear n1 nm ny np1 nr q1 m y p1 r L1 hG1 hp1 ws1
  -- the words
  refine ⟨(by show 8 ≤ sizeLine; decide), fun W nW => ⟨W, rfl, ⟨_, SqT.of upd_same⟩, ?_⟩⟩
  have L3 := LsAt.same (R := OAt K) fA (same_upd (o := .tup (words8.map V.str)) nW) L2
  have hW : upd H8 W (.tup (words8.map V.str)) W = some (.tup (words8.map V.str)) := upd_same
  refine for_it (walk_tup (K := K) (xs := words8.map V.str)) (fun i σ H10 => ∃ (y8 : Option V), σ = [some (.ref a), some (.ref d), some (.ref p), y3, y4, y5, y6, some (.ref G), y8, none, none, none, none, none] ∧ H10 W = some (.tup (words8.map V.str)) ∧ LsAt (OAt K) H10 G (rows2 ++ (words8.take i).map noA)) ⟨_, rfl, hW, by rw [List.take_zero, List.map_nil, List.append_nil]; exact L3⟩ (fun i σ H10 _ ⟨_, _, z, _⟩ => SqT.of z) ?_ ?_
  · rintro i x σ H10 H10' hi ⟨y8, rfl, hW, L⟩ ⟨rfl, hx⟩
    obtain ⟨z, hz, rfl⟩ := strs_get hx
    obtain ⟨ws, hG, hws⟩ := id L
    have lws := Paired.length hws
    have li : i < 8 := hi
    have neW : W ≠ G := fun e => by
      rw [e, hG] at hW
      cases hW
    refine ⟨.ref G, rfl, .inl ⟨rfl, _, SqL.of hG⟩, _, rfl, two, fun r nr => ?_⟩
    have s1 := same_upd (o := .tup [V.str z, V.non]) nr
    refine ⟨G, ws, _, rfl, rfl, s1 _ _ hG, ofNat_lt ?_, _, rfl, (upd_ne neW).trans (s1 _ _ hW), ?_⟩
    · rw [lws, List.length_append, List.length_map, List.length_take]
      have e : rows2.length = 2 := rfl
      omega
    · rw [tkS hz, List.map_append, ← List.append_assoc]
      exact LsAt.app (R := OAt K) fA (s1 _ _ hG) (LsAt.same (R := OAt K) fA s1 L) ⟨r, .non, rfl, upd_same, rfl⟩
  rintro σ H9 ⟨y8, rfl, _, L4⟩
  have L4 : LsAt (OAt K) H9 G (rows2 ++ words8.map noA) := L4
  clear L3 hW L2 nW
  refine ⟨(by show 6 ≤ sizeLine; decide), fun W2 nW => ⟨W2, rfl, ⟨_, SqT.of upd_same⟩, ?_⟩⟩
  have L5 := LsAt.same (R := OAt K) fA (same_upd (o := .tup (words6.map V.str)) nW) L4
  have hW : upd H9 W2 (.tup (words6.map V.str)) W2 = some (.tup (words6.map V.str)) := upd_same
  refine for_it (walk_tup (K := K) (xs := words6.map V.str)) (fun i σ H10 => ∃ (y8 : Option V), σ = [some (.ref a), some (.ref d), some (.ref p), y3, y4, y5, y6, some (.ref G), y8, none, none, none, none, none] ∧ H10 W2 = some (.tup (words6.map V.str)) ∧ LsAt (OAt K) H10 G ((rows2 ++ words8.map noA) ++ (words6.take i).map noA)) ⟨_, rfl, hW, by rw [List.take_zero, List.map_nil, List.append_nil]; exact L5⟩ (fun i σ H10 _ ⟨_, _, z, _⟩ => SqT.of z) ?_ ?_
  · rintro i x σ H10 H10' hi ⟨y8, rfl, hW, L⟩ ⟨rfl, hx⟩
    obtain ⟨z, hz, rfl⟩ := strs_get hx
    obtain ⟨ws, hG, hws⟩ := id L
    have lws := Paired.length hws
    have li : i < 6 := hi
    have neW : W2 ≠ G := fun e => by
      rw [e, hG] at hW
      cases hW
    refine ⟨.ref G, rfl, .inl ⟨rfl, _, SqL.of hG⟩, _, rfl, two, fun r nr => ?_⟩
    have s1 := same_upd (o := .tup [V.str z, V.non]) nr
    refine ⟨G, ws, _, rfl, rfl, s1 _ _ hG, ofNat_lt ?_, _, rfl, (upd_ne neW).trans (s1 _ _ hW), ?_⟩
    · rw [lws, List.length_append, List.length_map, List.length_take]
      have e : (rows2 ++ words8.map noA).length = 10 := rfl
      omega
    · rw [tkS hz, List.map_append, ← List.append_assoc]
      exact LsAt.app (R := OAt K) fA (s1 _ _ hG) (LsAt.same (R := OAt K) fA s1 L) ⟨r, .non, rfl, upd_same, rfl⟩
  rintro σ H10 ⟨y8, rfl, _, L6⟩
  have L6 : LsAt (OAt K) H10 G rowsAll := L6
  clear L5 hW L4 nW
  obtain ⟨ws, hG, hws⟩ := L6
  refine ⟨_, rfl, G, rfl, ⟨_, SqL.of hG⟩, for_it (walk_list (K := K) (a := G) (xs := ws)) (fun i σ H11 => ∃ (y8 y9 : Option V), σ = [some (.ref a), some (.ref d), some (.ref p), y3, y4, y5, y6, some (.ref G), y8, y9, none, none, none, none] ∧ Same H10 H11) ⟨_, _, rfl, Same.refl _⟩ (fun i σ H11 _ ⟨_, _, _, z⟩ => SqL.of (z _ _ hG)) ?_ ?_⟩
  · rintro i x σ H11 H11' hi ⟨y8, y9, rfl, s1⟩ ⟨rfl, hx⟩
    obtain ⟨row, hrow, r, x2, rfl, hr1, ho⟩ := pget hws hx
    obtain ⟨k1, k2, k3, k4⟩ := rows_ok row (List.mem_of_getElem? hrow)
    refine ⟨r, _, rfl, SqT.of (s1 _ _ hr1), rfl, _, _, rfl, _, _, rfl, rfl, _, rfl, _, rfl, k1, fun H12 v s2 hv => ?_⟩
    rw [k2] at hv
    refine ⟨_, rfl, datOA row.2, datOA row.2, hv.dp, (OAt.dp (K := K) (ho.fix (fixOf (s1.trans s2)))), k4, k4, _, rfl, ?_⟩
    rw [k3]
    exact iteF ⟨_, _, rfl, s1.trans s2⟩
  rintro σ H11 ⟨y8', y9, rfl, s11⟩
  clear hG hws s11
  refine ⟨two, fun q1 n1 => ⟨two, fun q2 n2 => ⟨three, fun u1 m1 => ⟨two, fun r1 k1 => ⟨two, fun q3 n3 => ⟨one, fun q4 n4 => ⟨three, fun u2 m2 => ⟨two, fun r2 k2 => ⟨two, fun G1 nG1 => ?_⟩⟩⟩⟩⟩⟩⟩⟩⟩
  have c9 := same_upd nG1 (o := .lst [V.ref r1, .ref r2])
  have c8 := (same_upd k2 (o := .tup [V.str "5<=now", .ref u2])).trans c9
  have c7 := (same_upd m2 (o := .tup [V.str "most", .ref q3, .ref q4])).trans c8
  have c6 := (same_upd n4 (o := .tup [V.str "now"])).trans c7
  have c5 := (same_upd n3 (o := .tup [V.str "day", .int 5])).trans c6
  have c4 := (same_upd k1 (o := .tup [V.str "?t<5", .ref u1])).trans c5
  have c3 := (same_upd m1 (o := .tup [V.str "less", .ref q1, .ref q2])).trans c4
  have c2 := (same_upd n2 (o := .tup [V.str "day", .int 5])).trans c3
  have T1 : LsAt (OTs K) _ G1 [(("?t<5" : Str), some (("less" : Str), ((.wh "t" : Tm)), ((.day 5 : Tm)))), (("5<=now" : Str), some (("most" : Str), ((.day 5 : Tm)), ((.now : Tm))))] := ⟨[.ref r1, .ref r2], upd_same, (.cons (row_s (t := .wh "t") (u := .day 5) (c2 _ _ upd_same) (c3 _ _ upd_same) (c4 _ _ upd_same) (c5 _ _ upd_same)) (.cons (row_s (t := .day 5) (u := .now) (c6 _ _ upd_same) (c7 _ _ upd_same) (c8 _ _ upd_same) (c9 _ _ upd_same)) .nil))⟩
  clear c9 c8 c7 c6 c5 c4 c3 c2
  generalize upd _ G1 (HO.lst [V.ref r1, V.ref r2]) = H12 at T1
  clear nG1 k2 m2 n4 n3 k1 m1 n2 n1 r2 u2 q4 q3 r1 u1 q2 q1
  obtain ⟨ws, hG, pG⟩ := id T1
  have lG := Paired.length pG
  refine ⟨_, rfl, two, fun q1 n1 => ⟨two, fun q2 n2 => ⟨three, fun u1 m1 => ⟨two, fun r1 k1 => ⟨two, fun q3 n3 => ⟨two, fun q4 n4 => ⟨three, fun u2 m2 => ⟨two, fun r2 k2 => ⟨two, fun L nL => ?_⟩⟩⟩⟩⟩⟩⟩⟩⟩
  have c9 := same_upd nL (o := .lst [V.ref r1, .ref r2])
  have c8 := (same_upd k2 (o := .tup [V.str "?p=?q", .ref u2])).trans c9
  have c7 := (same_upd m2 (o := .tup [V.str "same", .ref q3, .ref q4])).trans c8
  have c6 := (same_upd n4 (o := .tup [V.str "any", .str "q"])).trans c7
  have c5 := (same_upd n3 (o := .tup [V.str "any", .str "p"])).trans c6
  have c4 := (same_upd k1 (o := .tup [V.str "?p!=ann", .ref u1])).trans c5
  have c3 := (same_upd m1 (o := .tup [V.str "unlike", .ref q1, .ref q2])).trans c4
  have c2 := (same_upd n2 (o := .tup [V.str "name", .str "ann"])).trans c3
  have c1 := (same_upd n1 (o := .tup [V.str "any", .str "p"])).trans c2
  have M : LsAt (OTs K) _ L [(("?p!=ann" : Str), some (("unlike" : Str), ((.any "p" : Tm)), ((.name "ann" : Tm)))), (("?p=?q" : Str), some (("same" : Str), ((.any "p" : Tm)), ((.any "q" : Tm))))] := ⟨[.ref r1, .ref r2], upd_same, (.cons (row_s (t := .any "p") (u := .name "ann") (c2 _ _ upd_same) (c3 _ _ upd_same) (c4 _ _ upd_same) (c5 _ _ upd_same)) (.cons (row_s (t := .any "p") (u := .any "q") (c6 _ _ upd_same) (c7 _ _ upd_same) (c8 _ _ upd_same) (c9 _ _ upd_same)) .nil))⟩
  have T' := LsAt.same (R := OTs K) fS c1 T1
  have hG' := c1 _ _ hG
  refine ⟨G1, L, ws, [.ref r1, .ref r2], rfl, rfl, hG', upd_same, ofNat_le (by rw [lG]; show _ + 2 ≤ 1000000; decide), fun G2 nG2 => ?_⟩
  have T2 := LsAt.cat (R := OTs K) fS hG' T' upd_same M nG2
  clear T' hG' M c1 c2 c3 c4 c5 c6 c7 c8 c9
  generalize upd _ G2 (HO.lst (ws ++ [V.ref r1, V.ref r2])) = H13 at T2
  clear nG2 nL k2 m2 n4 n3 k1 m1 n2 n1 lG pG hG ws
  obtain ⟨ws, hG, pG⟩ := id T2
  have lG := Paired.length pG
  refine ⟨_, rfl, two, fun q1 n1 => ⟨two, fun q2 n2 => ⟨three, fun u1 m1 => ⟨two, fun r1 k1 => ⟨two, fun q3 n3 => ⟨two, fun q4 n4 => ⟨three, fun u2 m2 => ⟨two, fun r2 k2 => ⟨two, fun L nL => ?_⟩⟩⟩⟩⟩⟩⟩⟩⟩
  have c9 := same_upd nL (o := .lst [V.ref r1, .ref r2])
  have c8 := (same_upd k2 (o := .tup [V.str "au!=?q", .ref u2])).trans c9
  have c7 := (same_upd m2 (o := .tup [V.str "unlike", .ref q3, .ref q4])).trans c8
  have c6 := (same_upd n4 (o := .tup [V.str "any", .str "q"])).trans c7
  have c5 := (same_upd n3 (o := .tup [V.str "name", .str "au"])).trans c6
  have c4 := (same_upd k1 (o := .tup [V.str "?p=at", .ref u1])).trans c5
  have c3 := (same_upd m1 (o := .tup [V.str "same", .ref q1, .ref q2])).trans c4
  have c2 := (same_upd n2 (o := .tup [V.str "name", .str "at"])).trans c3
  have c1 := (same_upd n1 (o := .tup [V.str "any", .str "p"])).trans c2
  have M : LsAt (OTs K) _ L [(("?p=at" : Str), some (("same" : Str), ((.any "p" : Tm)), ((.name "at" : Tm)))), (("au!=?q" : Str), some (("unlike" : Str), ((.name "au" : Tm)), ((.any "q" : Tm))))] := ⟨[.ref r1, .ref r2], upd_same, (.cons (row_s (t := .any "p") (u := .name "at") (c2 _ _ upd_same) (c3 _ _ upd_same) (c4 _ _ upd_same) (c5 _ _ upd_same)) (.cons (row_s (t := .name "au") (u := .any "q") (c6 _ _ upd_same) (c7 _ _ upd_same) (c8 _ _ upd_same) (c9 _ _ upd_same)) .nil))⟩
  have T' := LsAt.same (R := OTs K) fS c1 T2
  have hG' := c1 _ _ hG
  refine ⟨G2, L, ws, [.ref r1, .ref r2], rfl, rfl, hG', upd_same, ofNat_le (by rw [lG]; show _ + 2 ≤ 1000000; decide), fun G3 nG3 => ?_⟩
  have T3 := LsAt.cat (R := OTs K) fS hG' T' upd_same M nG3
  clear T' hG' M c1 c2 c3 c4 c5 c6 c7 c8 c9
  generalize upd _ G3 (HO.lst (ws ++ [V.ref r1, V.ref r2])) = H14 at T3
  clear nG3 nL k2 m2 n4 n3 k1 m1 n2 n1 lG pG hG ws
  obtain ⟨ws, hG, pG⟩ := id T3
  have lG := Paired.length pG
  refine ⟨.ref G3, rfl, .inl ⟨rfl, _, SqL.of hG⟩, two, fun q1 n1 => ⟨two, fun q2 n2 => ⟨three, fun u1 m1 => ⟨two, fun r1 k1 => ?_⟩⟩⟩⟩
  have c4 := same_upd k1 (o := .tup [V.str "?t=?u", .ref u1])
  have c3 := (same_upd m1 (o := .tup [V.str "same", .ref q1, .ref q2])).trans c4
  have c2 := (same_upd n2 (o := .tup [V.str "when", .str "u"])).trans c3
  have c1 := (same_upd n1 (o := .tup [V.str "when", .str "t"])).trans c2
  have hG' := c1 _ _ hG
  refine ⟨G3, ws, _, rfl, rfl, hG', ofNat_lt (by rw [lG]; decide), ?_⟩
  have T4 := LsAt.app (R := OTs K) fS hG' (LsAt.same (R := OTs K) fS c1 T3) (row_s (z := "?t=?u") (wd := "same") (t := .wh "t") (u := .wh "u") (c2 _ _ upd_same) (c3 _ _ upd_same) (c4 _ _ upd_same) upd_same)
  replace T4 : LsAt (OTs K) _ G3 told7 := T4
  clear hG' c1 c2 c3 c4
  generalize upd _ G3 (HO.lst (ws ++ [V.ref r1])) = H15 at T4
  clear k1 m1 n2 n1 lG pG hG ws T1 T2 T3
  refine ⟨(by show 10 ≤ sizeLine; decide), fun W3 nW => ⟨W3, rfl, ⟨_, SqT.of upd_same⟩, ?_⟩⟩
  have T5 := LsAt.same (R := OTs K) fS (same_upd (o := .tup (words10.map V.str)) nW) T4
  have hW : upd H15 W3 (.tup (words10.map V.str)) W3 = some (.tup (words10.map V.str)) := upd_same
  refine for_it (walk_tup (K := K) (xs := words10.map V.str)) (fun i σ H10 => ∃ (y8 : Option V), σ = [some (.ref a), some (.ref d), some (.ref p), y3, y4, y5, y6, some (.ref G), y8, y9, some (.ref G3), none, none, none] ∧ H10 W3 = some (.tup (words10.map V.str)) ∧ LsAt (OTs K) H10 G3 (told7 ++ (words10.take i).map noS)) ⟨_, rfl, hW, by rw [List.take_zero, List.map_nil, List.append_nil]; exact T5⟩ (fun i σ H10 _ ⟨_, _, z, _⟩ => SqT.of z) ?_ ?_
  · rintro i x σ H10 H10' hi ⟨y8, rfl, hW, L⟩ ⟨rfl, hx⟩
    obtain ⟨z, hz, rfl⟩ := strs_get hx
    obtain ⟨ws, hG, hws⟩ := id L
    have lws := Paired.length hws
    have li : i < 10 := hi
    have neW : W3 ≠ G3 := fun e => by
      rw [e, hG] at hW
      cases hW
    refine ⟨.ref G3, rfl, .inl ⟨rfl, _, SqL.of hG⟩, _, rfl, two, fun r nr => ?_⟩
    have s1 := same_upd (o := .tup [V.str z, V.non]) nr
    refine ⟨G3, ws, _, rfl, rfl, s1 _ _ hG, ofNat_lt ?_, _, rfl, (upd_ne neW).trans (s1 _ _ hW), ?_⟩
    · rw [lws, List.length_append, List.length_map, List.length_take]
      have e : told7.length = 7 := rfl
      omega
    · rw [tkS hz, List.map_append, ← List.append_assoc]
      exact LsAt.app (R := OTs K) fS (s1 _ _ hG) (LsAt.same (R := OTs K) fS s1 L) ⟨r, .non, rfl, upd_same, rfl⟩
  rintro σ H16 ⟨y8, rfl, _, T6⟩
  have T6 : LsAt (OTs K) H16 G3 toldAll := T6
  clear T5 hW T4 nW
  obtain ⟨ws, hG, hws⟩ := T6
  refine ⟨_, rfl, G3, rfl, ⟨_, SqL.of hG⟩, for_it (walk_list (K := K) (a := G3) (xs := ws)) (fun i σ H17 => ∃ (y8 y9 : Option V), σ = [some (.ref a), some (.ref d), some (.ref p), y3, y4, y5, y6, some (.ref G), y8, y9, some (.ref G3), none, none, none] ∧ Same H16 H17) ⟨_, _, rfl, Same.refl _⟩ (fun i σ H17 _ ⟨_, _, _, z⟩ => SqL.of (z _ _ hG)) ?_ ?_⟩
  · rintro i x σ H17 H17' hi ⟨y8, y9, rfl, s1⟩ ⟨rfl, hx⟩
    obtain ⟨row, hrow, r, x2, rfl, hr1, ho⟩ := pget hws hx
    obtain ⟨k1, k2, k3, k4⟩ := told_ok row (List.mem_of_getElem? hrow)
    refine ⟨r, _, rfl, SqT.of (s1 _ _ hr1), rfl, _, _, rfl, _, _, rfl, rfl, _, rfl, two, fun E nE => ?_⟩
    have s2 := s1.trans (same_upd (o := .lst [V.str "t", V.str "u"]) nE)
    refine ⟨_, E, ["t", "u"], rfl, k1, upd_same, fun H18 v s3 hv => ?_⟩
    rw [k2] at hv
    refine ⟨_, rfl, datOS row.2, datOS row.2, hv.dp, (OTs.dp (K := K) (ho.fix (fixOf (s2.trans s3)))), k4, k4, _, rfl, ?_⟩
    rw [k3]
    exact iteF ⟨_, _, rfl, s2.trans s3⟩
  rintro σ H17 ⟨y8', y9', rfl, _⟩
  clear hG hws
  -- answers
  refine ⟨two, fun a1 na1 => ⟨two, fun a2 na2 => ⟨two, fun L nL => ?_⟩⟩⟩
  have s2 := same_upd (o := .lst [V.ref a1, V.ref a2]) nL
  have s1 := (same_upd (o := .tup [V.str "bob", V.str "oslo"]) na2).trans s2
  refine ⟨L, rfl, .inr ⟨[.ref a1, .ref a2], [["ann", "rome"], ["bob", "oslo"]], upd_same, (by simp), (by show 2 ≤ 10; decide), .cons ⟨a1, rfl, s1 _ _ upd_same⟩ (.cons ⟨a2, rfl, s2 _ _ upd_same⟩ .nil), (by decide +kernel), fun H18 _ => ⟨rfl, _, rfl, ?_⟩⟩⟩
  rw [show decide (V.str (Txt.join ";" (([["ann", "rome"], ["bob", "oslo"]] : List (List Str)).map rowTx)) = V.str "ann,rome;bob,oslo") = true by rw [strv_eq]; decide +kernel]
  refine iteT ⟨Nat.zero_le _, fun a3 na3 => ⟨one, fun L3 nL3 => ?_⟩⟩
  have s3 := same_upd (o := .lst [V.ref a3]) nL3
  refine ⟨L3, rfl, .inr ⟨[.ref a3], [[]], upd_same, (by simp), (by show 1 ≤ 10; decide), .cons ⟨a3, rfl, s3 _ _ upd_same⟩ .nil, (by decide +kernel), fun H19 _ => ⟨rfl, _, rfl, ?_⟩⟩⟩
  rw [show decide (V.str (Txt.join ";" (([[]] : List (List Str)).map rowTx)) = V.str "yes") = true by rw [strv_eq]; decide +kernel]
  refine iteT ⟨Nat.zero_le _, fun a4 na4 => ⟨a4, rfl, .inl ⟨upd_same, rfl, ?_⟩⟩⟩
  rw [show decide (V.str "-" = V.str "-") = true from decide_eq_true rfl]
  exact q _
end
end Yj
set_option Elab.async false
set_option linter.all false
set_option maxRecDepth 100000
set_option maxHeartbeats 4000000
set_option pp.maxSteps 1500
namespace Yj
open PySem PySem.Spec PyProof.Rows L2
theorem no_exc {P : Program} {w : World} {outer : List Env} {H : Hp} {s s' : Shared} {e : Value} (h : L2N.CX P w outer H s (fun _ _ _ => False) e s') : False := by
  obtain ⟨_, _, _, _, _, _, _, _, _, _, _, _, z⟩ := h
  exact z
theorem dict_of {K : PySem.W.Frag} {C : Addr} (h : PySem.W.hasDictIn K C = true) : ∃ cd, PySem.W.clsIn K C = some cd ∧ cd.hasDict = true := by
  unfold PySem.W.hasDictIn at h
  cases e : PySem.W.clsIn K C with
  | none =>
    rw [e] at h
    cases h
  | some cd =>
    rw [e] at h
    exact ⟨cd, rfl, h⟩
/-- an error of the class at S is what «except S» names -/
theorem exm_own {K : PySem.W.Frag} {S : Addr} (h1 : PySem.W.subIn K (.ref S) (.type "BaseException") = some true) (h2 : PySem.W.isClsIn K S = true) (h3 : PySem.W.typeIn K (.ref S) = some (.type "type")) (h4 : PySem.W.subIn K (.ref S) (.ref S) = some true) : PySem.W.exmOne K (.ref S) (.ref S) = some true := by
  have e1 : (PySem.W.subIn K (.ref S) (.type "BaseException") == some true) = true := by rw [h1]; rfl
  have h2' : (PySem.W.clsIn K S).isSome = true := h2
  have e2 : ((PySem.W.clsIn K S).isSome && PySem.W.typeIn K (.ref S) == some (.type "type")) = true := by rw [h2', h3]; rfl
  unfold PySem.W.exmOne
  rw [if_pos e1]
  unfold PySem.W.kitCls
  dsimp only
  rw [if_pos e2]
  exact h4
theorem kit_self {K : PySem.W.Frag} {C : Addr} : PySem.W.kitOne K (.ref C) (.ref C) = some true := by
  unfold PySem.W.kitOne
  rw [if_pos (by simp)]
theorem kit_not {K : PySem.W.Frag} {C : Addr} (h2 : PySem.W.isClsIn K C = true) (h3 : PySem.W.typeIn K (.ref C) = some (.type "type")) (h4 : PySem.W.subIn K (.type "dict") (.ref C) = some false) : PySem.W.kitOne K (.type "dict") (.ref C) = some false := by
  have h2' : (PySem.W.clsIn K C).isSome = true := h2
  have e2 : ((PySem.W.clsIn K C).isSome && PySem.W.typeIn K (.ref C) == some (.type "type")) = true := by rw [h2', h3]; rfl
  unfold PySem.W.kitOne
  rw [if_neg (by simp)]
  unfold PySem.W.kitCls
  dsimp only
  rw [if_pos e2]
  exact h4
set_option maxHeartbeats 16000000 in
theorem all_mk {l : PySem.W.OpenLaw} {w : World} {K : PySem.W.Frag} {h : Heap} {mg : Str → Option Value} {fa : Addr} (X : K.In h) (G : h.Ns mainGlobals mg) (hfa : mg "law" = some (.ref fa))
    {f8 f9 f10 f15 f16 f17 f18 f19 f20 f21 f24 f25 f31 f32 f33 f34 f35 f36 f37 f38 f40 f39 f41 f42 f51 f52 f53 f55 f56 f57 f60 f61 f62 f63 f64 f65 f66 f67 f76 f77 f78 f55999 f55000 f59999 f59000 f12 f13 f14 f29 h29_0 h29_1 h29_2 h29_3 f30 : Addr} {od8 an8 od9 an9 od10 an10 od15 an15 od16 an16 od17 an17 od18 an18 od19 an19 od20 an20 od21 an21 od24 an24 od25 an25 od31 an31 od32 an32 od33 an33 od34 an34 od35 an35 od36 an36 od37 an37 od38 an38 od40 an40 od39 an39 od41 an41 od42 an42 od51 an51 od52 an52 od53 an53 od55 an55 od56 an56 od57 an57 od60 an60 od61 an61 od62 an62 od63 an63 od64 an64 od65 an65 od66 an66 od67 an67 od76 an76 od77 an77 od78 an78 od55000 an55000 od59000 an59000 od12 od13 od14 od29 od29_0 od29_1 od29_2 od29_3 od30 : Option Addr} {sl8 sl9 sl10 sl15 sl16 sl17 sl18 sl19 sl20 sl21 sl24 sl25 sl31 sl32 sl33 sl34 sl35 sl36 sl37 sl38 sl40 sl39 sl41 sl42 sl51 sl52 sl53 sl55 sl56 sl57 sl60 sl61 sl62 sl63 sl64 sl65 sl66 sl67 sl76 sl77 sl78 sl55000 sl59000 sl12 sl13 sl14 sl29 sl29_0 sl29_1 sl29_2 sl29_3 sl30 : Array (Option Value)} {oc8 kV8 dc8 pm8 cd8 ct8 oc9 kV9 dc9 pm9 cd9 ct9 oc10 kV10 dc10 pm10 cd10 ct10 oc15 kV15 dc15 pm15 cd15 ct15 oc16 kV16 dc16 pm16 cd16 ct16 oc17 kV17 dc17 pm17 cd17 ct17 oc18 kV18 dc18 pm18 cd18 ct18 oc19 kV19 dc19 pm19 cd19 ct19 oc20 kV20 dc20 pm20 cd20 ct20 oc21 kV21 dc21 pm21 cd21 ct21 oc24 kV24 dc24 pm24 cd24 ct24 oc25 kV25 dc25 pm25 cd25 ct25 oc31 kV31 dc31 pm31 cd31 ct31 oc32 kV32 dc32 pm32 cd32 ct32 oc33 kV33 dc33 pm33 cd33 ct33 oc34 kV34 dc34 pm34 cd34 ct34 oc35 kV35 dc35 pm35 cd35 ct35 oc36 kV36 dc36 pm36 cd36 ct36 oc37 kV37 dc37 pm37 cd37 ct37 oc38 kV38 dc38 pm38 cd38 ct38 oc40 kV40 dc40 pm40 cd40 ct40 oc39 kV39 dc39 pm39 cd39 ct39 oc41 kV41 dc41 pm41 cd41 ct41 oc42 kV42 dc42 pm42 cd42 ct42 oc51 kV51 dc51 pm51 cd51 ct51 oc52 kV52 dc52 pm52 cd52 ct52 oc53 kV53 dc53 pm53 cd53 ct53 oc55 kV55 dc55 pm55 cd55 ct55 oc56 kV56 dc56 pm56 cd56 ct56 oc57 kV57 dc57 pm57 cd57 ct57 oc60 kV60 dc60 pm60 cd60 ct60 oc61 kV61 dc61 pm61 cd61 ct61 oc62 kV62 dc62 pm62 cd62 ct62 oc63 kV63 dc63 pm63 cd63 ct63 oc64 kV64 dc64 pm64 cd64 ct64 oc65 kV65 dc65 pm65 cd65 ct65 oc66 kV66 dc66 pm66 cd66 ct66 oc67 kV67 dc67 pm67 cd67 ct67 oc76 kV76 dc76 pm76 cd76 ct76 oc77 kV77 dc77 pm77 cd77 ct77 oc78 kV78 dc78 pm78 cd78 ct78 oc55000 kV55000 dc55000 pm55000 cd55000 ct55000 oc59000 kV59000 dc59000 pm59000 cd59000 ct59000 : Value} {tk3 tk4 tk5 tk6 tk7 tk23 tk27 tk28 tk47 tk48 tk49 tk50 tk12_0 tk13_0 tk13_1 tk13_2 tk13_3 tk14_0 tk14_1 tk29_0_0 tk29_0_1 tk29_1_0 tk29_1_1 tk29_2_0 tk29_2_1 tk29_3_0 tk29_3_1 tk30_0 tk30_1 : Tok} {cp12 cp13 cp14 cp29 cp29_0 cp29_1 cp29_2 cp29_3 cp30 : Nat}
    (a8 : PySem.W.nsIn K mainGlobals "is_integer" = some (some (.ref f8)))
    (l8 : K.lookup f8 = some ⟨oc8, od8, .func (PySem.W.fnOf "is_integer" "is_integer" (defArgs s_is_integer) (defBody s_is_integer) (defScope s_is_integer) .none kV8 dc8 pm8 an8 cd8 ct8), sl8⟩)
    (c8 : PySem.W.codeIn K cd8 "is_integer" = true)
    (k8 : PySem.W.keepIn K (.ref f8) = true)
    (a9 : PySem.W.nsIn K mainGlobals "is_name" = some (some (.ref f9)))
    (l9 : K.lookup f9 = some ⟨oc9, od9, .func (PySem.W.fnOf "is_name" "is_name" (defArgs s_is_name) (defBody s_is_name) (defScope s_is_name) .none kV9 dc9 pm9 an9 cd9 ct9), sl9⟩)
    (c9 : PySem.W.codeIn K cd9 "is_name" = true)
    (k9 : PySem.W.keepIn K (.ref f9) = true)
    (a10 : PySem.W.nsIn K mainGlobals "is_day" = some (some (.ref f10)))
    (l10 : K.lookup f10 = some ⟨oc10, od10, .func (PySem.W.fnOf "is_day" "is_day" (defArgs s_is_day) (defBody s_is_day) (defScope s_is_day) .none kV10 dc10 pm10 an10 cd10 ct10), sl10⟩)
    (c10 : PySem.W.codeIn K cd10 "is_day" = true)
    (k10 : PySem.W.keepIn K (.ref f10) = true)
    (a15 : PySem.W.nsIn K mainGlobals "is_pair" = some (some (.ref f15)))
    (l15 : K.lookup f15 = some ⟨oc15, od15, .func (PySem.W.fnOf "is_pair" "is_pair" (defArgs s_is_pair) (defBody s_is_pair) (defScope s_is_pair) .none kV15 dc15 pm15 an15 cd15 ct15), sl15⟩)
    (c15 : PySem.W.codeIn K cd15 "is_pair" = true)
    (k15 : PySem.W.keepIn K (.ref f15) = true)
    (a16 : PySem.W.nsIn K mainGlobals "is_variable_name" = some (some (.ref f16)))
    (l16 : K.lookup f16 = some ⟨oc16, od16, .func (PySem.W.fnOf "is_variable_name" "is_variable_name" (defArgs s_is_variable_name) (defBody s_is_variable_name) (defScope s_is_variable_name) .none kV16 dc16 pm16 an16 cd16 ct16), sl16⟩)
    (c16 : PySem.W.codeIn K cd16 "is_variable_name" = true)
    (k16 : PySem.W.keepIn K (.ref f16) = true)
    (a17 : PySem.W.nsIn K mainGlobals "is_name_term" = some (some (.ref f17)))
    (l17 : K.lookup f17 = some ⟨oc17, od17, .func (PySem.W.fnOf "is_name_term" "is_name_term" (defArgs s_is_name_term) (defBody s_is_name_term) (defScope s_is_name_term) .none kV17 dc17 pm17 an17 cd17 ct17), sl17⟩)
    (c17 : PySem.W.codeIn K cd17 "is_name_term" = true)
    (k17 : PySem.W.keepIn K (.ref f17) = true)
    (a18 : PySem.W.nsIn K mainGlobals "is_variable_day" = some (some (.ref f18)))
    (l18 : K.lookup f18 = some ⟨oc18, od18, .func (PySem.W.fnOf "is_variable_day" "is_variable_day" (defArgs s_is_variable_day) (defBody s_is_variable_day) (defScope s_is_variable_day) .none kV18 dc18 pm18 an18 cd18 ct18), sl18⟩)
    (c18 : PySem.W.codeIn K cd18 "is_variable_day" = true)
    (k18 : PySem.W.keepIn K (.ref f18) = true)
    (a19 : PySem.W.nsIn K mainGlobals "is_now" = some (some (.ref f19)))
    (l19 : K.lookup f19 = some ⟨oc19, od19, .func (PySem.W.fnOf "is_now" "is_now" (defArgs s_is_now) (defBody s_is_now) (defScope s_is_now) .none kV19 dc19 pm19 an19 cd19 ct19), sl19⟩)
    (c19 : PySem.W.codeIn K cd19 "is_now" = true)
    (k19 : PySem.W.keepIn K (.ref f19) = true)
    (a20 : PySem.W.nsIn K mainGlobals "is_day_term" = some (some (.ref f20)))
    (l20 : K.lookup f20 = some ⟨oc20, od20, .func (PySem.W.fnOf "is_day_term" "is_day_term" (defArgs s_is_day_term) (defBody s_is_day_term) (defScope s_is_day_term) .none kV20 dc20 pm20 an20 cd20 ct20), sl20⟩)
    (c20 : PySem.W.codeIn K cd20 "is_day_term" = true)
    (k20 : PySem.W.keepIn K (.ref f20) = true)
    (a21 : PySem.W.nsIn K mainGlobals "is_test" = some (some (.ref f21)))
    (l21 : K.lookup f21 = some ⟨oc21, od21, .func (PySem.W.fnOf "is_test" "is_test" (defArgs s_is_test) (defBody s_is_test) (defScope s_is_test) .none kV21 dc21 pm21 an21 cd21 ct21), sl21⟩)
    (c21 : PySem.W.codeIn K cd21 "is_test" = true)
    (k21 : PySem.W.keepIn K (.ref f21) = true)
    (a24 : PySem.W.nsIn K mainGlobals "number_by" = some (some (.ref f24)))
    (l24 : K.lookup f24 = some ⟨oc24, od24, .func (PySem.W.fnOf "number_by" "number_by" (defArgs s_number_by) (defBody s_number_by) (defScope s_number_by) .none kV24 dc24 pm24 an24 cd24 ct24), sl24⟩)
    (c24 : PySem.W.codeIn K cd24 "number_by" = true)
    (k24 : PySem.W.keepIn K (.ref f24) = true)
    (a25 : PySem.W.nsIn K mainGlobals "names_word" = some (some (.ref f25)))
    (l25 : K.lookup f25 = some ⟨oc25, od25, .func (PySem.W.fnOf "names_word" "names_word" (defArgs s_names_word) (defBody s_names_word) (defScope s_names_word) .none kV25 dc25 pm25 an25 cd25 ct25), sl25⟩)
    (c25 : PySem.W.codeIn K cd25 "names_word" = true)
    (k25 : PySem.W.keepIn K (.ref f25) = true)
    (a31 : PySem.W.nsIn K mainGlobals "_term_text" = some (some (.ref f31)))
    (l31 : K.lookup f31 = some ⟨oc31, od31, .func (PySem.W.fnOf "_term_text" "_term_text" (defArgs s__term_text) (defBody s__term_text) (defScope s__term_text) .none kV31 dc31 pm31 an31 cd31 ct31), sl31⟩)
    (c31 : PySem.W.codeIn K cd31 "_term_text" = true)
    (k31 : PySem.W.keepIn K (.ref f31) = true)
    (a32 : PySem.W.nsIn K mainGlobals "variable_of" = some (some (.ref f32)))
    (l32 : K.lookup f32 = some ⟨oc32, od32, .func (PySem.W.fnOf "variable_of" "variable_of" (defArgs s_variable_of) (defBody s_variable_of) (defScope s_variable_of) .none kV32 dc32 pm32 an32 cd32 ct32), sl32⟩)
    (c32 : PySem.W.codeIn K cd32 "variable_of" = true)
    (k32 : PySem.W.keepIn K (.ref f32) = true)
    (a33 : PySem.W.nsIn K mainGlobals "_name_of" = some (some (.ref f33)))
    (l33 : K.lookup f33 = some ⟨oc33, od33, .func (PySem.W.fnOf "_name_of" "_name_of" (defArgs s__name_of) (defBody s__name_of) (defScope s__name_of) .none kV33 dc33 pm33 an33 cd33 ct33), sl33⟩)
    (c33 : PySem.W.codeIn K cd33 "_name_of" = true)
    (k33 : PySem.W.keepIn K (.ref f33) = true)
    (a34 : PySem.W.nsIn K mainGlobals "_day_of" = some (some (.ref f34)))
    (l34 : K.lookup f34 = some ⟨oc34, od34, .func (PySem.W.fnOf "_day_of" "_day_of" (defArgs s__day_of) (defBody s__day_of) (defScope s__day_of) .none kV34 dc34 pm34 an34 cd34 ct34), sl34⟩)
    (c34 : PySem.W.codeIn K cd34 "_day_of" = true)
    (k34 : PySem.W.keepIn K (.ref f34) = true)
    (a35 : PySem.W.nsIn K mainGlobals "atom_text" = some (some (.ref f35)))
    (l35 : K.lookup f35 = some ⟨oc35, od35, .func (PySem.W.fnOf "atom_text" "atom_text" (defArgs s_atom_text) (defBody s_atom_text) (defScope s_atom_text) .none kV35 dc35 pm35 an35 cd35 ct35), sl35⟩)
    (c35 : PySem.W.codeIn K cd35 "atom_text" = true)
    (k35 : PySem.W.keepIn K (.ref f35) = true)
    (a36 : PySem.W.nsIn K mainGlobals "atom_of" = some (some (.ref f36)))
    (l36 : K.lookup f36 = some ⟨oc36, od36, .func (PySem.W.fnOf "atom_of" "atom_of" (defArgs s_atom_of) (defBody s_atom_of) (defScope s_atom_of) .none kV36 dc36 pm36 an36 cd36 ct36), sl36⟩)
    (c36 : PySem.W.codeIn K cd36 "atom_of" = true)
    (k36 : PySem.W.keepIn K (.ref f36) = true)
    (a37 : PySem.W.nsIn K mainGlobals "test_text" = some (some (.ref f37)))
    (l37 : K.lookup f37 = some ⟨oc37, od37, .func (PySem.W.fnOf "test_text" "test_text" (defArgs s_test_text) (defBody s_test_text) (defScope s_test_text) .none kV37 dc37 pm37 an37 cd37 ct37), sl37⟩)
    (c37 : PySem.W.codeIn K cd37 "test_text" = true)
    (k37 : PySem.W.keepIn K (.ref f37) = true)
    (a38 : PySem.W.nsIn K mainGlobals "_tells_day" = some (some (.ref f38)))
    (l38 : K.lookup f38 = some ⟨oc38, od38, .func (PySem.W.fnOf "_tells_day" "_tells_day" (defArgs s__tells_day) (defBody s__tells_day) (defScope s__tells_day) .none kV38 dc38 pm38 an38 cd38 ct38), sl38⟩)
    (c38 : PySem.W.codeIn K cd38 "_tells_day" = true)
    (k38 : PySem.W.keepIn K (.ref f38) = true)
    (a40 : PySem.W.nsIn K mainGlobals "_test_or_none" = some (some (.ref f40)))
    (l40 : K.lookup f40 = some ⟨oc40, od40, .func (PySem.W.fnOf "_test_or_none" "_test_or_none" (defArgs s__test_or_none) (defBody s__test_or_none) (defScope s__test_or_none) .none kV40 dc40 pm40 an40 cd40 ct40), sl40⟩)
    (c40 : PySem.W.codeIn K cd40 "_test_or_none" = true)
    (k40 : PySem.W.keepIn K (.ref f40) = true)
    (a39 : PySem.W.nsIn K mainGlobals "test_of" = some (some (.ref f39)))
    (l39 : K.lookup f39 = some ⟨oc39, od39, .func (PySem.W.fnOf "test_of" "test_of" (defArgs s_test_of) (defBody s_test_of) (defScope s_test_of) .none kV39 dc39 pm39 an39 cd39 ct39), sl39⟩)
    (c39 : PySem.W.codeIn K cd39 "test_of" = true)
    (k39 : PySem.W.keepIn K (.ref f39) = true)
    (a41 : PySem.W.nsIn K mainGlobals "clause_text" = some (some (.ref f41)))
    (l41 : K.lookup f41 = some ⟨oc41, od41, .func (PySem.W.fnOf "clause_text" "clause_text" (defArgs s_clause_text) (defBody s_clause_text) (defScope s_clause_text) .none kV41 dc41 pm41 an41 cd41 ct41), sl41⟩)
    (c41 : PySem.W.codeIn K cd41 "clause_text" = true)
    (k41 : PySem.W.keepIn K (.ref f41) = true)
    (a42 : PySem.W.nsIn K mainGlobals "answers_text" = some (some (.ref f42)))
    (l42 : K.lookup f42 = some ⟨oc42, od42, .func (PySem.W.fnOf "answers_text" "answers_text" (defArgs s_answers_text) (defBody s_answers_text) (defScope s_answers_text) .none kV42 dc42 pm42 an42 cd42 ct42), sl42⟩)
    (c42 : PySem.W.codeIn K cd42 "answers_text" = true)
    (k42 : PySem.W.keepIn K (.ref f42) = true)
    (a51 : PySem.W.nsIn K mainGlobals "_is_row" = some (some (.ref f51)))
    (l51 : K.lookup f51 = some ⟨oc51, od51, .func (PySem.W.fnOf "_is_row" "_is_row" (defArgs s__is_row) (defBody s__is_row) (defScope s__is_row) .none kV51 dc51 pm51 an51 cd51 ct51), sl51⟩)
    (c51 : PySem.W.codeIn K cd51 "_is_row" = true)
    (k51 : PySem.W.keepIn K (.ref f51) = true)
    (a52 : PySem.W.nsIn K mainGlobals "_check_atom" = some (some (.ref f52)))
    (l52 : K.lookup f52 = some ⟨oc52, od52, .func (PySem.W.fnOf "_check_atom" "_check_atom" (defArgs s__check_atom) (defBody s__check_atom) (defScope s__check_atom) .none kV52 dc52 pm52 an52 cd52 ct52), sl52⟩)
    (c52 : PySem.W.codeIn K cd52 "_check_atom" = true)
    (k52 : PySem.W.keepIn K (.ref f52) = true)
    (a53 : PySem.W.nsIn K mainGlobals "_is_variable" = some (some (.ref f53)))
    (l53 : K.lookup f53 = some ⟨oc53, od53, .func (PySem.W.fnOf "_is_variable" "_is_variable" (defArgs s__is_variable) (defBody s__is_variable) (defScope s__is_variable) .none kV53 dc53 pm53 an53 cd53 ct53), sl53⟩)
    (c53 : PySem.W.codeIn K cd53 "_is_variable" = true)
    (k53 : PySem.W.keepIn K (.ref f53) = true)
    (a55 : PySem.W.nsIn K mainGlobals "variables_of" = some (some (.ref f55)))
    (l55 : K.lookup f55 = some ⟨oc55, od55, .func (PySem.W.fnOf "variables_of" "variables_of" (defArgs s_variables_of) (defBody s_variables_of) (defScope s_variables_of) .none kV55 dc55 pm55 an55 cd55 ct55), sl55⟩)
    (c55 : PySem.W.codeIn K cd55 "variables_of" = true)
    (k55 : PySem.W.keepIn K (.ref f55) = true)
    (a56 : PySem.W.nsIn K mainGlobals "_are_clauses" = some (some (.ref f56)))
    (l56 : K.lookup f56 = some ⟨oc56, od56, .func (PySem.W.fnOf "_are_clauses" "_are_clauses" (defArgs s__are_clauses) (defBody s__are_clauses) (defScope s__are_clauses) .none kV56 dc56 pm56 an56 cd56 ct56), sl56⟩)
    (c56 : PySem.W.codeIn K cd56 "_are_clauses" = true)
    (k56 : PySem.W.keepIn K (.ref f56) = true)
    (a57 : PySem.W.nsIn K mainGlobals "minds" = some (some (.ref f57)))
    (l57 : K.lookup f57 = some ⟨oc57, od57, .func (PySem.W.fnOf "minds" "minds" (defArgs s_minds) (defBody s_minds) (defScope s_minds) .none kV57 dc57 pm57 an57 cd57 ct57), sl57⟩)
    (c57 : PySem.W.codeIn K cd57 "minds" = true)
    (k57 : PySem.W.keepIn K (.ref f57) = true)
    (a60 : PySem.W.nsIn K mainGlobals "_law_take" = some (some (.ref f60)))
    (l60 : K.lookup f60 = some ⟨oc60, od60, .func (PySem.W.fnOf "_law_take" "_law_take" (defArgs s__law_take) (defBody s__law_take) (defScope s__law_take) .none kV60 dc60 pm60 an60 cd60 ct60), sl60⟩)
    (c60 : PySem.W.codeIn K cd60 "_law_take" = true)
    (k60 : PySem.W.keepIn K (.ref f60) = true)
    (a61 : PySem.W.nsIn K mainGlobals "_law_pick" = some (some (.ref f61)))
    (l61 : K.lookup f61 = some ⟨oc61, od61, .func (PySem.W.fnOf "_law_pick" "_law_pick" (defArgs s__law_pick) (defBody s__law_pick) (defScope s__law_pick) .none kV61 dc61 pm61 an61 cd61 ct61), sl61⟩)
    (c61 : PySem.W.codeIn K cd61 "_law_pick" = true)
    (k61 : PySem.W.keepIn K (.ref f61) = true)
    (a62 : PySem.W.nsIn K mainGlobals "_law_name_term" = some (some (.ref f62)))
    (l62 : K.lookup f62 = some ⟨oc62, od62, .func (PySem.W.fnOf "_law_name_term" "_law_name_term" (defArgs s__law_name_term) (defBody s__law_name_term) (defScope s__law_name_term) .none kV62 dc62 pm62 an62 cd62 ct62), sl62⟩)
    (c62 : PySem.W.codeIn K cd62 "_law_name_term" = true)
    (k62 : PySem.W.keepIn K (.ref f62) = true)
    (a63 : PySem.W.nsIn K mainGlobals "_law_day_term" = some (some (.ref f63)))
    (l63 : K.lookup f63 = some ⟨oc63, od63, .func (PySem.W.fnOf "_law_day_term" "_law_day_term" (defArgs s__law_day_term) (defBody s__law_day_term) (defScope s__law_day_term) .none kV63 dc63 pm63 an63 cd63 ct63), sl63⟩)
    (c63 : PySem.W.codeIn K cd63 "_law_day_term" = true)
    (k63 : PySem.W.keepIn K (.ref f63) = true)
    (a64 : PySem.W.nsIn K mainGlobals "_law_atom" = some (some (.ref f64)))
    (l64 : K.lookup f64 = some ⟨oc64, od64, .func (PySem.W.fnOf "_law_atom" "_law_atom" (defArgs s__law_atom) (defBody s__law_atom) (defScope s__law_atom) .none kV64 dc64 pm64 an64 cd64 ct64), sl64⟩)
    (c64 : PySem.W.codeIn K cd64 "_law_atom" = true)
    (k64 : PySem.W.keepIn K (.ref f64) = true)
    (a65 : PySem.W.nsIn K mainGlobals "_law_clause" = some (some (.ref f65)))
    (l65 : K.lookup f65 = some ⟨oc65, od65, .func (PySem.W.fnOf "_law_clause" "_law_clause" (defArgs s__law_clause) (defBody s__law_clause) (defScope s__law_clause) .none kV65 dc65 pm65 an65 cd65 ct65), sl65⟩)
    (c65 : PySem.W.codeIn K cd65 "_law_clause" = true)
    (k65 : PySem.W.keepIn K (.ref f65) = true)
    (a66 : PySem.W.nsIn K mainGlobals "_law_question" = some (some (.ref f66)))
    (l66 : K.lookup f66 = some ⟨oc66, od66, .func (PySem.W.fnOf "_law_question" "_law_question" (defArgs s__law_question) (defBody s__law_question) (defScope s__law_question) .none kV66 dc66 pm66 an66 cd66 ct66), sl66⟩)
    (c66 : PySem.W.codeIn K cd66 "_law_question" = true)
    (k66 : PySem.W.keepIn K (.ref f66) = true)
    (a67 : PySem.W.nsIn K mainGlobals "_law_rules" = some (some (.ref f67)))
    (l67 : K.lookup f67 = some ⟨oc67, od67, .func (PySem.W.fnOf "_law_rules" "_law_rules" (defArgs s__law_rules) (defBody s__law_rules) (defScope s__law_rules) .none kV67 dc67 pm67 an67 cd67 ct67), sl67⟩)
    (c67 : PySem.W.codeIn K cd67 "_law_rules" = true)
    (k67 : PySem.W.keepIn K (.ref f67) = true)
    (a76 : PySem.W.nsIn K mainGlobals "_law_word" = some (some (.ref f76)))
    (l76 : K.lookup f76 = some ⟨oc76, od76, .func (PySem.W.fnOf "_law_word" "_law_word" (defArgs s__law_word) (defBody s__law_word) (defScope s__law_word) .none kV76 dc76 pm76 an76 cd76 ct76), sl76⟩)
    (c76 : PySem.W.codeIn K cd76 "_law_word" = true)
    (k76 : PySem.W.keepIn K (.ref f76) = true)
    (a77 : PySem.W.nsIn K mainGlobals "_law_words" = some (some (.ref f77)))
    (l77 : K.lookup f77 = some ⟨oc77, od77, .func (PySem.W.fnOf "_law_words" "_law_words" (defArgs s__law_words) (defBody s__law_words) (defScope s__law_words) .none kV77 dc77 pm77 an77 cd77 ct77), sl77⟩)
    (c77 : PySem.W.codeIn K cd77 "_law_words" = true)
    (k77 : PySem.W.keepIn K (.ref f77) = true)
    (a78 : PySem.W.nsIn K mainGlobals "law" = some (some (.ref f78)))
    (l78 : K.lookup f78 = some ⟨oc78, od78, .func (PySem.W.fnOf "law" "law" (defArgs s_law) (defBody s_law) (defScope s_law) .none kV78 dc78 pm78 an78 cd78 ct78), sl78⟩)
    (c78 : PySem.W.codeIn K cd78 "law" = true)
    (k78 : PySem.W.keepIn K (.ref f78) = true)
    (C55999 : PySem.W.nsIn K mainGlobals "Clause" = some (some (.ref f55999)))
    (Cpg55999 : PySem.W.plainGet K f55999 Str.empty = true)
    (Chd55999 : PySem.W.hasDictIn K f55999 = true)
    (Cpo55999 : PySem.W.plainOver K f55999 = true)
    (Csa55999 : PySem.W.findIn K (.ref f55999) "__setattr__" = some (some (.builtin "object.__setattr__")))
    (Cmk55999 : PySem.W.makesIn K f55999 = true)
    (Ckp55999 : PySem.W.keepIn K (.ref f55999) = true)
    (m55000 : PySem.W.findIn K (.ref f55999) "__init__" = some (some (.ref f55000)))
    (n55000 : PySem.W.isFn K (.ref f55000) = true)
    (l55000 : K.lookup f55000 = some ⟨oc55000, od55000, .func (PySem.W.fnOf "__init__" "Clause.__init__" (defArgs s_Clause___init__) (defBody s_Clause___init__) (defScope s_Clause___init__) .none kV55000 dc55000 pm55000 an55000 cd55000 ct55000), sl55000⟩)
    (c55000 : PySem.W.codeIn K cd55000 "Clause.__init__" = true)
    (k55000 : PySem.W.keepIn K (.ref f55000) = true)
    (na55999_atoms : PySem.W.findIn K (.ref f55999) "atoms" = some none)
    (na55999_tests : PySem.W.findIn K (.ref f55999) "tests" = some none)
    (Ica55999 : PySem.W.findIn K (.ref f55999) "__class__" = some (some (.builtin "object.__class__")))
    (Icn55999 : PySem.W.specialIn K (.builtin "object.__class__") "__get__" = some (some (.builtin "getset_descriptor.__get__")))
    (Ict55999 : PySem.W.takesIn K (.builtin "object.__class__") = some true)
    (Icm55999 : PySem.W.mroIn K f55999 (.type "object") = some true)
    (Iic55999 : PySem.W.isClsIn K f55999 = true)
    (Itc55999 : PySem.W.typeIn K (.ref f55999) = some (.type "type"))
    (Isd55999 : PySem.W.subIn K (.type "dict") (.ref f55999) = some false)
    (C59999 : PySem.W.nsIn K mainGlobals "Question" = some (some (.ref f59999)))
    (Cpg59999 : PySem.W.plainGet K f59999 Str.empty = true)
    (Chd59999 : PySem.W.hasDictIn K f59999 = true)
    (Cpo59999 : PySem.W.plainOver K f59999 = true)
    (Csa59999 : PySem.W.findIn K (.ref f59999) "__setattr__" = some (some (.builtin "object.__setattr__")))
    (Cmk59999 : PySem.W.makesIn K f59999 = true)
    (Ckp59999 : PySem.W.keepIn K (.ref f59999) = true)
    (m59000 : PySem.W.findIn K (.ref f59999) "__init__" = some (some (.ref f59000)))
    (n59000 : PySem.W.isFn K (.ref f59000) = true)
    (l59000 : K.lookup f59000 = some ⟨oc59000, od59000, .func (PySem.W.fnOf "__init__" "Question.__init__" (defArgs s_Question___init__) (defBody s_Question___init__) (defScope s_Question___init__) .none kV59000 dc59000 pm59000 an59000 cd59000 ct59000), sl59000⟩)
    (c59000 : PySem.W.codeIn K cd59000 "Question.__init__" = true)
    (k59000 : PySem.W.keepIn K (.ref f59000) = true)
    (na59999_head : PySem.W.findIn K (.ref f59999) "head" = some none)
    (na59999_clauses : PySem.W.findIn K (.ref f59999) "clauses" = some none)
    (na59999_unless : PySem.W.findIn K (.ref f59999) "unless" = some none)
    (Ica59999 : PySem.W.findIn K (.ref f59999) "__class__" = some (some (.builtin "object.__class__")))
    (Icn59999 : PySem.W.specialIn K (.builtin "object.__class__") "__get__" = some (some (.builtin "getset_descriptor.__get__")))
    (Ict59999 : PySem.W.takesIn K (.builtin "object.__class__") = some true)
    (Icm59999 : PySem.W.mroIn K f59999 (.type "object") = some true)
    (Iic59999 : PySem.W.isClsIn K f59999 = true)
    (Itc59999 : PySem.W.typeIn K (.ref f59999) = some (.type "type"))
    (Isd59999 : PySem.W.subIn K (.type "dict") (.ref f59999) = some false)
    (z_isinstance : PySem.W.nsIn K mainGlobals "isinstance" = some none)
    (z_len : PySem.W.nsIn K mainGlobals "len" = some none)
    (z_all : PySem.W.nsIn K mainGlobals "all" = some none)
    (z_any : PySem.W.nsIn K mainGlobals "any" = some none)
    (z_max : PySem.W.nsIn K mainGlobals "max" = some none)
    (z_tuple : PySem.W.nsIn K mainGlobals "tuple" = some none)
    (z_list : PySem.W.nsIn K mainGlobals "list" = some none)
    (z_int : PySem.W.nsIn K mainGlobals "int" = some none)
    (z_str : PySem.W.nsIn K mainGlobals "str" = some none)
    (z_range : PySem.W.nsIn K mainGlobals "range" = some none)
    (z_bool : PySem.W.nsIn K mainGlobals "bool" = some none)
    (tn12 : PySem.W.nsIn K mainGlobals "NOW" = some (some (.ref f12)))
    (tl12 : K.lookup f12 = some ⟨.type "tuple", od12, .seq #[Value.str "now" tk12_0] cp12, sl12⟩)
    (tn13 : PySem.W.nsIn K mainGlobals "DAY_WORDS" = some (some (.ref f13)))
    (tl13 : K.lookup f13 = some ⟨.type "tuple", od13, .seq #[Value.str "less" tk13_0, Value.str "most" tk13_1, Value.str "same" tk13_2, Value.str "unlike" tk13_3] cp13, sl13⟩)
    (tn14 : PySem.W.nsIn K mainGlobals "NAME_WORDS" = some (some (.ref f14)))
    (tl14 : K.lookup f14 = some ⟨.type "tuple", od14, .seq #[Value.str "same" tk14_0, Value.str "unlike" tk14_1] cp14, sl14⟩)
    (tn29 : PySem.W.nsIn K mainGlobals "SIGNS" = some (some (.ref f29)))
    (tl29 : K.lookup f29 = some ⟨.type "tuple", od29, .seq #[Value.ref h29_0, Value.ref h29_1, Value.ref h29_2, Value.ref h29_3] cp29, sl29⟩)
    (tl29_0 : K.lookup h29_0 = some ⟨.type "tuple", od29_0, .seq #[Value.str "!=" tk29_0_0, Value.str "unlike" tk29_0_1] cp29_0, sl29_0⟩)
    (tl29_1 : K.lookup h29_1 = some ⟨.type "tuple", od29_1, .seq #[Value.str "<=" tk29_1_0, Value.str "most" tk29_1_1] cp29_1, sl29_1⟩)
    (tl29_2 : K.lookup h29_2 = some ⟨.type "tuple", od29_2, .seq #[Value.str "<" tk29_2_0, Value.str "less" tk29_2_1] cp29_2, sl29_2⟩)
    (tl29_3 : K.lookup h29_3 = some ⟨.type "tuple", od29_3, .seq #[Value.str "=" tk29_3_0, Value.str "same" tk29_3_1] cp29_3, sl29_3⟩)
    (tn30 : PySem.W.nsIn K mainGlobals "OF_NAMES" = some (some (.ref f30)))
    (tl30 : K.lookup f30 = some ⟨.type "tuple", od30, .seq #[Value.str "same" tk30_0, Value.str "unlike" tk30_1] cp30, sl30⟩)
    (v3 : PySem.W.nsIn K mainGlobals "LETTERS" = some (some (Value.str "abcdefghijklmnopqrstuvwxyz" tk3)))
    (v4 : PySem.W.nsIn K mainGlobals "FIGURES" = some (some (Value.str "0123456789" tk4)))
    (v5 : PySem.W.nsIn K mainGlobals "LONGEST_NAME" = some (some (Value.int 8 tk5)))
    (v6 : PySem.W.nsIn K mainGlobals "LAST_DAY" = some (some (Value.int 999999 tk6)))
    (v7 : PySem.W.nsIn K mainGlobals "MOST_NAMES" = some (some (Value.int 4 tk7)))
    (v23 : PySem.W.nsIn K mainGlobals "MOST_FIGURES" = some (some (Value.int 6 tk23)))
    (v27 : PySem.W.nsIn K mainGlobals "VARIABLE" = some (some (Value.str "?" tk27)))
    (v28 : PySem.W.nsIn K mainGlobals "NOW_WORD" = some (some (Value.str "now" tk28)))
    (v47 : PySem.W.nsIn K mainGlobals "MOST_ATOMS" = some (some (Value.int 3 tk47)))
    (v48 : PySem.W.nsIn K mainGlobals "MOST_TESTS" = some (some (Value.int 6 tk48)))
    (v49 : PySem.W.nsIn K mainGlobals "MOST_CLAUSES" = some (some (Value.int 3 tk49)))
    (v50 : PySem.W.nsIn K mainGlobals "LONGEST_HEAD" = some (some (Value.int 4 tk50))) :
    ∃ fd : FuncData, (∀ (s : Shared) (v : Value), BindsTo s fd ⟨[v], []⟩ [("script", v)]) ∧ ∀ base : Heap, K.In base → base.Ns mainGlobals mg → FnOk l.prog w K mg base (L2N.CX l.prog w) 14 fa fd ["script"] (spLaw K) := by
  have e := hfa.symm.trans (PySem.W.mg_of X G a78)
  cases e
  have T : Txt K mg (fun i => match i with | 8 => f8 | 9 => f9 | 10 => f10 | 15 => f15 | 16 => f16 | 17 => f17 | 18 => f18 | 19 => f19 | 20 => f20 | 21 => f21 | 24 => f24 | 25 => f25 | 31 => f31 | 32 => f32 | 33 => f33 | 34 => f34 | 35 => f35 | 36 => f36 | 37 => f37 | 38 => f38 | 40 => f40 | 39 => f39 | 41 => f41 | 42 => f42 | 51 => f51 | 52 => f52 | 53 => f53 | 55 => f55 | 56 => f56 | 57 => f57 | 60 => f60 | 61 => f61 | 62 => f62 | 63 => f63 | 64 => f64 | 65 => f65 | 66 => f66 | 67 => f67 | 76 => f76 | 77 => f77 | 78 => fa | 55999 => f55999 | 55000 => f55000 | 59999 => f59999 | 59000 => f59000 | 12 => f12 | 13 => f13 | 14 => f14 | 29 => f29 | 30 => f30 | _ => 0) (fun i => match i with | 8 => PySem.W.fnOf "is_integer" "is_integer" (defArgs s_is_integer) (defBody s_is_integer) (defScope s_is_integer) .none kV8 dc8 pm8 an8 cd8 ct8 | 9 => PySem.W.fnOf "is_name" "is_name" (defArgs s_is_name) (defBody s_is_name) (defScope s_is_name) .none kV9 dc9 pm9 an9 cd9 ct9 | 10 => PySem.W.fnOf "is_day" "is_day" (defArgs s_is_day) (defBody s_is_day) (defScope s_is_day) .none kV10 dc10 pm10 an10 cd10 ct10 | 15 => PySem.W.fnOf "is_pair" "is_pair" (defArgs s_is_pair) (defBody s_is_pair) (defScope s_is_pair) .none kV15 dc15 pm15 an15 cd15 ct15 | 16 => PySem.W.fnOf "is_variable_name" "is_variable_name" (defArgs s_is_variable_name) (defBody s_is_variable_name) (defScope s_is_variable_name) .none kV16 dc16 pm16 an16 cd16 ct16 | 17 => PySem.W.fnOf "is_name_term" "is_name_term" (defArgs s_is_name_term) (defBody s_is_name_term) (defScope s_is_name_term) .none kV17 dc17 pm17 an17 cd17 ct17 | 18 => PySem.W.fnOf "is_variable_day" "is_variable_day" (defArgs s_is_variable_day) (defBody s_is_variable_day) (defScope s_is_variable_day) .none kV18 dc18 pm18 an18 cd18 ct18 | 19 => PySem.W.fnOf "is_now" "is_now" (defArgs s_is_now) (defBody s_is_now) (defScope s_is_now) .none kV19 dc19 pm19 an19 cd19 ct19 | 20 => PySem.W.fnOf "is_day_term" "is_day_term" (defArgs s_is_day_term) (defBody s_is_day_term) (defScope s_is_day_term) .none kV20 dc20 pm20 an20 cd20 ct20 | 21 => PySem.W.fnOf "is_test" "is_test" (defArgs s_is_test) (defBody s_is_test) (defScope s_is_test) .none kV21 dc21 pm21 an21 cd21 ct21 | 24 => PySem.W.fnOf "number_by" "number_by" (defArgs s_number_by) (defBody s_number_by) (defScope s_number_by) .none kV24 dc24 pm24 an24 cd24 ct24 | 25 => PySem.W.fnOf "names_word" "names_word" (defArgs s_names_word) (defBody s_names_word) (defScope s_names_word) .none kV25 dc25 pm25 an25 cd25 ct25 | 31 => PySem.W.fnOf "_term_text" "_term_text" (defArgs s__term_text) (defBody s__term_text) (defScope s__term_text) .none kV31 dc31 pm31 an31 cd31 ct31 | 32 => PySem.W.fnOf "variable_of" "variable_of" (defArgs s_variable_of) (defBody s_variable_of) (defScope s_variable_of) .none kV32 dc32 pm32 an32 cd32 ct32 | 33 => PySem.W.fnOf "_name_of" "_name_of" (defArgs s__name_of) (defBody s__name_of) (defScope s__name_of) .none kV33 dc33 pm33 an33 cd33 ct33 | 34 => PySem.W.fnOf "_day_of" "_day_of" (defArgs s__day_of) (defBody s__day_of) (defScope s__day_of) .none kV34 dc34 pm34 an34 cd34 ct34 | 35 => PySem.W.fnOf "atom_text" "atom_text" (defArgs s_atom_text) (defBody s_atom_text) (defScope s_atom_text) .none kV35 dc35 pm35 an35 cd35 ct35 | 36 => PySem.W.fnOf "atom_of" "atom_of" (defArgs s_atom_of) (defBody s_atom_of) (defScope s_atom_of) .none kV36 dc36 pm36 an36 cd36 ct36 | 37 => PySem.W.fnOf "test_text" "test_text" (defArgs s_test_text) (defBody s_test_text) (defScope s_test_text) .none kV37 dc37 pm37 an37 cd37 ct37 | 38 => PySem.W.fnOf "_tells_day" "_tells_day" (defArgs s__tells_day) (defBody s__tells_day) (defScope s__tells_day) .none kV38 dc38 pm38 an38 cd38 ct38 | 40 => PySem.W.fnOf "_test_or_none" "_test_or_none" (defArgs s__test_or_none) (defBody s__test_or_none) (defScope s__test_or_none) .none kV40 dc40 pm40 an40 cd40 ct40 | 39 => PySem.W.fnOf "test_of" "test_of" (defArgs s_test_of) (defBody s_test_of) (defScope s_test_of) .none kV39 dc39 pm39 an39 cd39 ct39 | 41 => PySem.W.fnOf "clause_text" "clause_text" (defArgs s_clause_text) (defBody s_clause_text) (defScope s_clause_text) .none kV41 dc41 pm41 an41 cd41 ct41 | 42 => PySem.W.fnOf "answers_text" "answers_text" (defArgs s_answers_text) (defBody s_answers_text) (defScope s_answers_text) .none kV42 dc42 pm42 an42 cd42 ct42 | 51 => PySem.W.fnOf "_is_row" "_is_row" (defArgs s__is_row) (defBody s__is_row) (defScope s__is_row) .none kV51 dc51 pm51 an51 cd51 ct51 | 52 => PySem.W.fnOf "_check_atom" "_check_atom" (defArgs s__check_atom) (defBody s__check_atom) (defScope s__check_atom) .none kV52 dc52 pm52 an52 cd52 ct52 | 53 => PySem.W.fnOf "_is_variable" "_is_variable" (defArgs s__is_variable) (defBody s__is_variable) (defScope s__is_variable) .none kV53 dc53 pm53 an53 cd53 ct53 | 55 => PySem.W.fnOf "variables_of" "variables_of" (defArgs s_variables_of) (defBody s_variables_of) (defScope s_variables_of) .none kV55 dc55 pm55 an55 cd55 ct55 | 56 => PySem.W.fnOf "_are_clauses" "_are_clauses" (defArgs s__are_clauses) (defBody s__are_clauses) (defScope s__are_clauses) .none kV56 dc56 pm56 an56 cd56 ct56 | 57 => PySem.W.fnOf "minds" "minds" (defArgs s_minds) (defBody s_minds) (defScope s_minds) .none kV57 dc57 pm57 an57 cd57 ct57 | 60 => PySem.W.fnOf "_law_take" "_law_take" (defArgs s__law_take) (defBody s__law_take) (defScope s__law_take) .none kV60 dc60 pm60 an60 cd60 ct60 | 61 => PySem.W.fnOf "_law_pick" "_law_pick" (defArgs s__law_pick) (defBody s__law_pick) (defScope s__law_pick) .none kV61 dc61 pm61 an61 cd61 ct61 | 62 => PySem.W.fnOf "_law_name_term" "_law_name_term" (defArgs s__law_name_term) (defBody s__law_name_term) (defScope s__law_name_term) .none kV62 dc62 pm62 an62 cd62 ct62 | 63 => PySem.W.fnOf "_law_day_term" "_law_day_term" (defArgs s__law_day_term) (defBody s__law_day_term) (defScope s__law_day_term) .none kV63 dc63 pm63 an63 cd63 ct63 | 64 => PySem.W.fnOf "_law_atom" "_law_atom" (defArgs s__law_atom) (defBody s__law_atom) (defScope s__law_atom) .none kV64 dc64 pm64 an64 cd64 ct64 | 65 => PySem.W.fnOf "_law_clause" "_law_clause" (defArgs s__law_clause) (defBody s__law_clause) (defScope s__law_clause) .none kV65 dc65 pm65 an65 cd65 ct65 | 66 => PySem.W.fnOf "_law_question" "_law_question" (defArgs s__law_question) (defBody s__law_question) (defScope s__law_question) .none kV66 dc66 pm66 an66 cd66 ct66 | 67 => PySem.W.fnOf "_law_rules" "_law_rules" (defArgs s__law_rules) (defBody s__law_rules) (defScope s__law_rules) .none kV67 dc67 pm67 an67 cd67 ct67 | 76 => PySem.W.fnOf "_law_word" "_law_word" (defArgs s__law_word) (defBody s__law_word) (defScope s__law_word) .none kV76 dc76 pm76 an76 cd76 ct76 | 77 => PySem.W.fnOf "_law_words" "_law_words" (defArgs s__law_words) (defBody s__law_words) (defScope s__law_words) .none kV77 dc77 pm77 an77 cd77 ct77 | 78 => PySem.W.fnOf "law" "law" (defArgs s_law) (defBody s_law) (defScope s_law) .none kV78 dc78 pm78 an78 cd78 ct78 | 55000 => PySem.W.fnOf "__init__" "Clause.__init__" (defArgs s_Clause___init__) (defBody s_Clause___init__) (defScope s_Clause___init__) .none kV55000 dc55000 pm55000 an55000 cd55000 ct55000 | 59000 => PySem.W.fnOf "__init__" "Question.__init__" (defArgs s_Question___init__) (defBody s_Question___init__) (defScope s_Question___init__) .none kV59000 dc59000 pm59000 an59000 cd59000 ct59000 | _ => PySem.W.fnOf "law" "law" (defArgs s_law) (defBody s_law) (defScope s_law) .none kV78 dc78 pm78 an78 cd78 ct78) (fun i => match i with | 3 => Value.str "abcdefghijklmnopqrstuvwxyz" tk3 | 4 => Value.str "0123456789" tk4 | 5 => Value.int 8 tk5 | 6 => Value.int 999999 tk6 | 7 => Value.int 4 tk7 | 23 => Value.int 6 tk23 | 27 => Value.str "?" tk27 | 28 => Value.str "now" tk28 | 47 => Value.int 3 tk47 | 48 => Value.int 6 tk48 | 49 => Value.int 3 tk49 | 50 => Value.int 4 tk50 | _ => Value.none) := { g_is_integer := PySem.W.mg_of X G a8, F_is_integer := fun_mk (st := s_is_integer) l8 c8 k8, g_is_name := PySem.W.mg_of X G a9, F_is_name := fun_mk (st := s_is_name) l9 c9 k9, g_is_day := PySem.W.mg_of X G a10, F_is_day := fun_mk (st := s_is_day) l10 c10 k10, g_is_pair := PySem.W.mg_of X G a15, F_is_pair := fun_mk (st := s_is_pair) l15 c15 k15, g_is_variable_name := PySem.W.mg_of X G a16, F_is_variable_name := fun_mk (st := s_is_variable_name) l16 c16 k16, g_is_name_term := PySem.W.mg_of X G a17, F_is_name_term := fun_mk (st := s_is_name_term) l17 c17 k17, g_is_variable_day := PySem.W.mg_of X G a18, F_is_variable_day := fun_mk (st := s_is_variable_day) l18 c18 k18, g_is_now := PySem.W.mg_of X G a19, F_is_now := fun_mk (st := s_is_now) l19 c19 k19, g_is_day_term := PySem.W.mg_of X G a20, F_is_day_term := fun_mk (st := s_is_day_term) l20 c20 k20, g_is_test := PySem.W.mg_of X G a21, F_is_test := fun_mk (st := s_is_test) l21 c21 k21, g_number_by := PySem.W.mg_of X G a24, F_number_by := fun_mk (st := s_number_by) l24 c24 k24, g_names_word := PySem.W.mg_of X G a25, F_names_word := fun_mk (st := s_names_word) l25 c25 k25, g__term_text := PySem.W.mg_of X G a31, F__term_text := fun_mk (st := s__term_text) l31 c31 k31, g_variable_of := PySem.W.mg_of X G a32, F_variable_of := fun_mk (st := s_variable_of) l32 c32 k32, g__name_of := PySem.W.mg_of X G a33, F__name_of := fun_mk (st := s__name_of) l33 c33 k33, g__day_of := PySem.W.mg_of X G a34, F__day_of := fun_mk (st := s__day_of) l34 c34 k34, g_atom_text := PySem.W.mg_of X G a35, F_atom_text := fun_mk (st := s_atom_text) l35 c35 k35, g_atom_of := PySem.W.mg_of X G a36, F_atom_of := fun_mk (st := s_atom_of) l36 c36 k36, g_test_text := PySem.W.mg_of X G a37, F_test_text := fun_mk (st := s_test_text) l37 c37 k37, g__tells_day := PySem.W.mg_of X G a38, F__tells_day := fun_mk (st := s__tells_day) l38 c38 k38, g__test_or_none := PySem.W.mg_of X G a40, F__test_or_none := fun_mk (st := s__test_or_none) l40 c40 k40, g_test_of := PySem.W.mg_of X G a39, F_test_of := fun_mk (st := s_test_of) l39 c39 k39, g_clause_text := PySem.W.mg_of X G a41, F_clause_text := fun_mk (st := s_clause_text) l41 c41 k41, g_answers_text := PySem.W.mg_of X G a42, F_answers_text := fun_mk (st := s_answers_text) l42 c42 k42, g__is_row := PySem.W.mg_of X G a51, F__is_row := fun_mk (st := s__is_row) l51 c51 k51, g__check_atom := PySem.W.mg_of X G a52, F__check_atom := fun_mk (st := s__check_atom) l52 c52 k52, g__is_variable := PySem.W.mg_of X G a53, F__is_variable := fun_mk (st := s__is_variable) l53 c53 k53, g_variables_of := PySem.W.mg_of X G a55, F_variables_of := fun_mk (st := s_variables_of) l55 c55 k55, g__are_clauses := PySem.W.mg_of X G a56, F__are_clauses := fun_mk (st := s__are_clauses) l56 c56 k56, g_minds := PySem.W.mg_of X G a57, F_minds := fun_mk (st := s_minds) l57 c57 k57, g__law_take := PySem.W.mg_of X G a60, F__law_take := fun_mk (st := s__law_take) l60 c60 k60, g__law_pick := PySem.W.mg_of X G a61, F__law_pick := fun_mk (st := s__law_pick) l61 c61 k61, g__law_name_term := PySem.W.mg_of X G a62, F__law_name_term := fun_mk (st := s__law_name_term) l62 c62 k62, g__law_day_term := PySem.W.mg_of X G a63, F__law_day_term := fun_mk (st := s__law_day_term) l63 c63 k63, g__law_atom := PySem.W.mg_of X G a64, F__law_atom := fun_mk (st := s__law_atom) l64 c64 k64, g__law_clause := PySem.W.mg_of X G a65, F__law_clause := fun_mk (st := s__law_clause) l65 c65 k65, g__law_question := PySem.W.mg_of X G a66, F__law_question := fun_mk (st := s__law_question) l66 c66 k66, g__law_rules := PySem.W.mg_of X G a67, F__law_rules := fun_mk (st := s__law_rules) l67 c67 k67, g__law_word := PySem.W.mg_of X G a76, F__law_word := fun_mk (st := s__law_word) l76 c76 k76, g__law_words := PySem.W.mg_of X G a77, F__law_words := fun_mk (st := s__law_words) l77 c77 k77, g_law := PySem.W.mg_of X G a78, F_law := fun_mk (st := s_law) l78 c78 k78, g_Clause := PySem.W.mg_of X G C55999, cl_Clause := ⟨Cpg55999, Chd55999, Cpo55999, Csa55999⟩, F_Clause___init__ := fun_mk (st := s_Clause___init__) l55000 c55000 k55000, mk_Clause := ⟨Cmk55999, m55000, n55000, Ckp55999⟩, na_Clause_atoms := na55999_atoms, na_Clause_tests := na55999_tests, is_Clause := ⟨Ica55999, Icn55999, Ict55999, Icm55999, kit_self, kit_not Iic55999 Itc55999 Isd55999⟩, g_Question := PySem.W.mg_of X G C59999, cl_Question := ⟨Cpg59999, Chd59999, Cpo59999, Csa59999⟩, F_Question___init__ := fun_mk (st := s_Question___init__) l59000 c59000 k59000, mk_Question := ⟨Cmk59999, m59000, n59000, Ckp59999⟩, na_Question_head := na59999_head, na_Question_clauses := na59999_clauses, na_Question_unless := na59999_unless, is_Question := ⟨Ica59999, Icn59999, Ict59999, Icm59999, kit_self, kit_not Iic59999 Itc59999 Isd59999⟩, z_isinstance := PySem.W.mg_none_of X G z_isinstance, z_len := PySem.W.mg_none_of X G z_len, z_all := PySem.W.mg_none_of X G z_all, z_any := PySem.W.mg_none_of X G z_any, z_max := PySem.W.mg_none_of X G z_max, z_tuple := PySem.W.mg_none_of X G z_tuple, z_list := PySem.W.mg_none_of X G z_list, z_int := PySem.W.mg_none_of X G z_int, z_str := PySem.W.mg_none_of X G z_str, z_range := PySem.W.mg_none_of X G z_range, z_bool := PySem.W.mg_none_of X G z_bool, c_NOW := PySem.W.mg_of X G tn12, w_NOW := ⟨_, _, _, tl12, rfl, rfl, (by show 1 ≤ sizeLine; decide), (.cons ⟨tk12_0, rfl⟩ .nil)⟩, c_DAY_WORDS := PySem.W.mg_of X G tn13, w_DAY_WORDS := ⟨_, _, _, tl13, rfl, rfl, (by show 4 ≤ sizeLine; decide), (.cons ⟨tk13_0, rfl⟩ (.cons ⟨tk13_1, rfl⟩ (.cons ⟨tk13_2, rfl⟩ (.cons ⟨tk13_3, rfl⟩ .nil))))⟩, c_NAME_WORDS := PySem.W.mg_of X G tn14, w_NAME_WORDS := ⟨_, _, _, tl14, rfl, rfl, (by show 2 ≤ sizeLine; decide), (.cons ⟨tk14_0, rfl⟩ (.cons ⟨tk14_1, rfl⟩ .nil))⟩, c_SIGNS := PySem.W.mg_of X G tn29, w_SIGNS := ⟨h29_0, h29_1, h29_2, h29_3, ⟨_, _, _, tl29, rfl, rfl, (by show 4 ≤ sizeLine; decide), (.cons rfl (.cons rfl (.cons rfl (.cons rfl .nil))))⟩, ⟨_, _, _, tl29_0, rfl, rfl, (by show 2 ≤ sizeLine; decide), (.cons ⟨tk29_0_0, rfl⟩ (.cons ⟨tk29_0_1, rfl⟩ .nil))⟩, ⟨_, _, _, tl29_1, rfl, rfl, (by show 2 ≤ sizeLine; decide), (.cons ⟨tk29_1_0, rfl⟩ (.cons ⟨tk29_1_1, rfl⟩ .nil))⟩, ⟨_, _, _, tl29_2, rfl, rfl, (by show 2 ≤ sizeLine; decide), (.cons ⟨tk29_2_0, rfl⟩ (.cons ⟨tk29_2_1, rfl⟩ .nil))⟩, ⟨_, _, _, tl29_3, rfl, rfl, (by show 2 ≤ sizeLine; decide), (.cons ⟨tk29_3_0, rfl⟩ (.cons ⟨tk29_3_1, rfl⟩ .nil))⟩⟩, c_OF_NAMES := PySem.W.mg_of X G tn30, w_OF_NAMES := ⟨_, _, _, tl30, rfl, rfl, (by show 2 ≤ sizeLine; decide), (.cons ⟨tk30_0, rfl⟩ (.cons ⟨tk30_1, rfl⟩ .nil))⟩, c_LETTERS := PySem.W.mg_of X G v3, r_LETTERS := ⟨tk3, rfl⟩, c_FIGURES := PySem.W.mg_of X G v4, r_FIGURES := ⟨tk4, rfl⟩, c_LONGEST_NAME := PySem.W.mg_of X G v5, r_LONGEST_NAME := ⟨tk5, rfl⟩, c_LAST_DAY := PySem.W.mg_of X G v6, r_LAST_DAY := ⟨tk6, rfl⟩, c_MOST_NAMES := PySem.W.mg_of X G v7, r_MOST_NAMES := ⟨tk7, rfl⟩, c_MOST_FIGURES := PySem.W.mg_of X G v23, r_MOST_FIGURES := ⟨tk23, rfl⟩, c_VARIABLE := PySem.W.mg_of X G v27, r_VARIABLE := ⟨tk27, rfl⟩, c_NOW_WORD := PySem.W.mg_of X G v28, r_NOW_WORD := ⟨tk28, rfl⟩, c_MOST_ATOMS := PySem.W.mg_of X G v47, r_MOST_ATOMS := ⟨tk47, rfl⟩, c_MOST_TESTS := PySem.W.mg_of X G v48, r_MOST_TESTS := ⟨tk48, rfl⟩, c_MOST_CLAUSES := PySem.W.mg_of X G v49, r_MOST_CLAUSES := ⟨tk49, rfl⟩, c_LONGEST_HEAD := PySem.W.mg_of X G v50, r_LONGEST_HEAD := ⟨tk50, rfl⟩ }
  exact ⟨PySem.W.fnOf "law" "law" (defArgs s_law) (defBody s_law) (defScope s_law) .none kV78 dc78 pm78 an78 cd78 ct78, fun s v => .of_eq rfl, fun base _ _ => ok_law T⟩
end Yj
set_option Elab.async false
set_option linter.all false
open PySem PySem.W PyProof.Rows
set_option maxRecDepth 100000 in
set_option maxHeartbeats 0 in
theorem PySem.Challenge.cw_twicedated_k47_whole_words_holds : PySem.Challenge.rw_twicedated_k47_whole_words.Holds := by
  w_on; o_law; k_head; (case hw => w_witness2)
  k_fill
  refine L2.walk_of (l := PySem.Challenge.rw_twicedated_k47_whole_words) (n := 63) (k := 14) (x := "script") (CX := fun w => L2N.CX PySem.Challenge.rw_twicedated_k47_whole_words.prog w) (sp := fun w => Yj.spLaw _) rfl (by decide) rfl ⟨rfl, by decide, by decide⟩ (fun w h Y => PySem.W.kIn_of Y) ?F (fun _ _ a ns hl _ hS => ⟨a, ns, rfl, hS, hl, fun _ => rfl⟩) (fun _ _ _ _ _ h => Yj.no_exc h)
  case F =>
    intro w mg fa h KX G hmg
    refine' Yj.all_mk KX G hmg ?a8 ?l8 ?c8 ?k8 ?a9 ?l9 ?c9 ?k9 ?a10 ?l10 ?c10 ?k10 ?a15 ?l15 ?c15 ?k15 ?a16 ?l16 ?c16 ?k16 ?a17 ?l17 ?c17 ?k17 ?a18 ?l18 ?c18 ?k18 ?a19 ?l19 ?c19 ?k19 ?a20 ?l20 ?c20 ?k20 ?a21 ?l21 ?c21 ?k21 ?a24 ?l24 ?c24 ?k24 ?a25 ?l25 ?c25 ?k25 ?a31 ?l31 ?c31 ?k31 ?a32 ?l32 ?c32 ?k32 ?a33 ?l33 ?c33 ?k33 ?a34 ?l34 ?c34 ?k34 ?a35 ?l35 ?c35 ?k35 ?a36 ?l36 ?c36 ?k36 ?a37 ?l37 ?c37 ?k37 ?a38 ?l38 ?c38 ?k38 ?a40 ?l40 ?c40 ?k40 ?a39 ?l39 ?c39 ?k39 ?a41 ?l41 ?c41 ?k41 ?a42 ?l42 ?c42 ?k42 ?a51 ?l51 ?c51 ?k51 ?a52 ?l52 ?c52 ?k52 ?a53 ?l53 ?c53 ?k53 ?a55 ?l55 ?c55 ?k55 ?a56 ?l56 ?c56 ?k56 ?a57 ?l57 ?c57 ?k57 ?a60 ?l60 ?c60 ?k60 ?a61 ?l61 ?c61 ?k61 ?a62 ?l62 ?c62 ?k62 ?a63 ?l63 ?c63 ?k63 ?a64 ?l64 ?c64 ?k64 ?a65 ?l65 ?c65 ?k65 ?a66 ?l66 ?c66 ?k66 ?a67 ?l67 ?c67 ?k67 ?a76 ?l76 ?c76 ?k76 ?a77 ?l77 ?c77 ?k77 ?a78 ?l78 ?c78 ?k78 ?C55999 ?Cpg55999 ?Chd55999 ?Cpo55999 ?Csa55999 ?Cmk55999 ?Ckp55999 ?m55000 ?n55000 ?l55000 ?c55000 ?k55000 ?na55999_atoms ?na55999_tests ?Ica55999 ?Icn55999 ?Ict55999 ?Icm55999 ?Iic55999 ?Itc55999 ?Isd55999 ?C59999 ?Cpg59999 ?Chd59999 ?Cpo59999 ?Csa59999 ?Cmk59999 ?Ckp59999 ?m59000 ?n59000 ?l59000 ?c59000 ?k59000 ?na59999_head ?na59999_clauses ?na59999_unless ?Ica59999 ?Icn59999 ?Ict59999 ?Icm59999 ?Iic59999 ?Itc59999 ?Isd59999 ?z_isinstance ?z_len ?z_all ?z_any ?z_max ?z_tuple ?z_list ?z_int ?z_str ?z_range ?z_bool ?tn12 ?tl12 ?tn13 ?tl13 ?tn14 ?tl14 ?tn29 ?tl29 ?tl29_0 ?tl29_1 ?tl29_2 ?tl29_3 ?tn30 ?tl30 ?v3 ?v4 ?v5 ?v6 ?v7 ?v23 ?v27 ?v28 ?v47 ?v48 ?v49 ?v50
    (case a8 => k_is); (case l8 => k_is); (case c8 => k_is); (case k8 => k_is); (case a9 => k_is); (case l9 => k_is); (case c9 => k_is); (case k9 => k_is)
    (case a10 => k_is); (case l10 => k_is); (case c10 => k_is); (case k10 => k_is); (case a15 => k_is); (case l15 => k_is); (case c15 => k_is); (case k15 => k_is)
    (case a16 => k_is); (case l16 => k_is); (case c16 => k_is); (case k16 => k_is); (case a17 => k_is); (case l17 => k_is); (case c17 => k_is); (case k17 => k_is)
    (case a18 => k_is); (case l18 => k_is); (case c18 => k_is); (case k18 => k_is); (case a19 => k_is); (case l19 => k_is); (case c19 => k_is); (case k19 => k_is)
    (case a20 => k_is); (case l20 => k_is); (case c20 => k_is); (case k20 => k_is); (case a21 => k_is); (case l21 => k_is); (case c21 => k_is); (case k21 => k_is)
    (case a24 => k_is); (case l24 => k_is); (case c24 => k_is); (case k24 => k_is); (case a25 => k_is); (case l25 => k_is); (case c25 => k_is); (case k25 => k_is)
    (case a31 => k_is); (case l31 => k_is); (case c31 => k_is); (case k31 => k_is); (case a32 => k_is); (case l32 => k_is); (case c32 => k_is); (case k32 => k_is)
    (case a33 => k_is); (case l33 => k_is); (case c33 => k_is); (case k33 => k_is); (case a34 => k_is); (case l34 => k_is); (case c34 => k_is); (case k34 => k_is)
    (case a35 => k_is); (case l35 => k_is); (case c35 => k_is); (case k35 => k_is); (case a36 => k_is); (case l36 => k_is); (case c36 => k_is); (case k36 => k_is)
    (case a37 => k_is); (case l37 => k_is); (case c37 => k_is); (case k37 => k_is); (case a38 => k_is); (case l38 => k_is); (case c38 => k_is); (case k38 => k_is)
    (case a40 => k_is); (case l40 => k_is); (case c40 => k_is); (case k40 => k_is); (case a39 => k_is); (case l39 => k_is); (case c39 => k_is); (case k39 => k_is)
    (case a41 => k_is); (case l41 => k_is); (case c41 => k_is); (case k41 => k_is); (case a42 => k_is); (case l42 => k_is); (case c42 => k_is); (case k42 => k_is)
    (case a51 => k_is); (case l51 => k_is); (case c51 => k_is); (case k51 => k_is); (case a52 => k_is); (case l52 => k_is); (case c52 => k_is); (case k52 => k_is)
    (case a53 => k_is); (case l53 => k_is); (case c53 => k_is); (case k53 => k_is); (case a55 => k_is); (case l55 => k_is); (case c55 => k_is); (case k55 => k_is)
    (case a56 => k_is); (case l56 => k_is); (case c56 => k_is); (case k56 => k_is); (case a57 => k_is); (case l57 => k_is); (case c57 => k_is); (case k57 => k_is)
    (case a60 => k_is); (case l60 => k_is); (case c60 => k_is); (case k60 => k_is); (case a61 => k_is); (case l61 => k_is); (case c61 => k_is); (case k61 => k_is)
    (case a62 => k_is); (case l62 => k_is); (case c62 => k_is); (case k62 => k_is); (case a63 => k_is); (case l63 => k_is); (case c63 => k_is); (case k63 => k_is)
    (case a64 => k_is); (case l64 => k_is); (case c64 => k_is); (case k64 => k_is); (case a65 => k_is); (case l65 => k_is); (case c65 => k_is); (case k65 => k_is)
    (case a66 => k_is); (case l66 => k_is); (case c66 => k_is); (case k66 => k_is); (case a67 => k_is); (case l67 => k_is); (case c67 => k_is); (case k67 => k_is)
    (case a76 => k_is); (case l76 => k_is); (case c76 => k_is); (case k76 => k_is); (case a77 => k_is); (case l77 => k_is); (case c77 => k_is); (case k77 => k_is)
    (case a78 => k_is); (case l78 => k_is); (case c78 => k_is); (case k78 => k_is); (case C55999 => k_is); (case Cpg55999 => k_is); (case Chd55999 => k_is); (case Cpo55999 => k_is)
    (case Csa55999 => k_is); (case Cmk55999 => k_is); (case Ckp55999 => k_is); (case m55000 => k_is); (case n55000 => k_is); (case l55000 => k_is); (case c55000 => k_is); (case k55000 => k_is)
    (case na55999_atoms => k_is); (case na55999_tests => k_is); (case Ica55999 => k_is); (case Icn55999 => k_is); (case Ict55999 => k_is); (case Icm55999 => k_is); (case Iic55999 => k_is); (case Itc55999 => k_is)
    (case Isd55999 => k_is); (case C59999 => k_is); (case Cpg59999 => k_is); (case Chd59999 => k_is); (case Cpo59999 => k_is); (case Csa59999 => k_is); (case Cmk59999 => k_is); (case Ckp59999 => k_is)
    (case m59000 => k_is); (case n59000 => k_is); (case l59000 => k_is); (case c59000 => k_is); (case k59000 => k_is); (case na59999_head => k_is); (case na59999_clauses => k_is); (case na59999_unless => k_is)
    (case Ica59999 => k_is); (case Icn59999 => k_is); (case Ict59999 => k_is); (case Icm59999 => k_is); (case Iic59999 => k_is); (case Itc59999 => k_is); (case Isd59999 => k_is); (case z_isinstance => k_is)
    (case z_len => k_is); (case z_all => k_is); (case z_any => k_is); (case z_max => k_is); (case z_tuple => k_is); (case z_list => k_is); (case z_int => k_is); (case z_str => k_is)
    (case z_range => k_is); (case z_bool => k_is); (case tn12 => k_is); (case tl12 => k_is); (case tn13 => k_is); (case tl13 => k_is); (case tn14 => k_is); (case tl14 => k_is)
    (case tn29 => k_is); (case tl29 => k_is); (case tl29_0 => k_is); (case tl29_1 => k_is); (case tl29_2 => k_is); (case tl29_3 => k_is); (case tn30 => k_is); (case tl30 => k_is)
    (case v3 => k_is); (case v4 => k_is); (case v5 => k_is); (case v6 => k_is); (case v7 => k_is); (case v23 => k_is); (case v27 => k_is); (case v28 => k_is)
    (case v47 => k_is); (case v48 => k_is); (case v49 => k_is); (case v50 => k_is)

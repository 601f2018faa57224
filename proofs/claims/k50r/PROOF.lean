import PyProof.Rows.All
import Wide.All
import OpenK.AllK
import Wide.FinOn
import HandS.ForMost
import HandS.ForExc
import HandS.IsInst
import HandS.SortRule
import HandS.SortInts
import HandS.Star
import HandS.Flow
import HandS.Style
import HandS.Zip
import HandS.Conv
import HandS.Deep
import HandS.ExcCtx
import HandS.HotCalls
import HandS.DictComp
import HandS.OwnEq
import KE.KExcInit
import PyProof.TupleIter
import KE.KDictKeyed
import KE.KDictWalk
import HandS.Walk
import KE.KDictSum
import KE.KDictCopyH
import KE.SortData
import HandS.DictEq
import KE.KDictDisplayH
import PySem.Challenge.RW_twicedated_k50_whole_spans
import KE.GoesMore
import HandS.TupAny
import KE.KExcLine

set_option Elab.async false
set_option linter.all false
set_option maxRecDepth 100000
set_option pp.maxSteps 1500
/-! Dicts whose keys are facts: (relation, names), names a tuple of texts. -/
namespace YjD
open PySem PySem.Spec PyProof.Rows L2
abbrev Fct := Str × List Str
def keyF (f : Fct) : NestedKey := .tup [.text f.1, .tup (f.2.map NestedKey.text)]
theorem texts_inj : ∀ {a b : List Str}, a.map NestedKey.text = b.map NestedKey.text → a = b
  | [], [], _ => rfl
  | [], _ :: _, h => by cases h
  | _ :: _, [], h => by cases h
  | x :: a, y :: b, h => by
    rw [List.map_cons, List.map_cons] at h
    injection h with h1 h2
    injection h1 with h1
    rw [h1, texts_inj h2]
theorem keyF_inj {f g : Fct} (h : keyF f = keyF g) : f = g := by
  obtain ⟨r, n⟩ := f
  obtain ⟨s, m⟩ := g
  unfold keyF at h
  injection h with h
  injection h with h1 h2
  injection h1 with h1
  injection h2 with h2 _
  injection h2 with h2
  exact Prod.ext h1 (texts_inj h2)
theorem depth_texts : ∀ n : List Str, NestedKey.depthAll (n.map NestedKey.text) = 0
  | [] => rfl
  | x :: n => by
    show max 0 (NestedKey.depthAll (n.map NestedKey.text)) = 0
    rw [depth_texts n]
    rfl
theorem depth_key (f : Fct) : (keyF f).depth ≤ 8 := by
  show max 0 (max (NestedKey.depthAll (f.2.map NestedKey.text) + 1) 0) + 1 ≤ 8
  rw [depth_texts]
  decide
/-- the fact f stands at a: a tuple of its relation and of a tuple of its names -/
def KeyAt (H : Hp) (a : Addr) (f : Fct) : Prop := ∃ n, H a = some (.tup [.str f.1, .ref n]) ∧ H n = some (.tup (f.2.map V.str))
theorem KeyAt.tups {H H' : Hp} {a : Addr} {f : Fct} (ht : ∀ b xs, H b = some (.tup xs) → H' b = some (.tup xs)) (h : KeyAt H a f) : KeyAt H' a f := by
  obtain ⟨n, h1, h2⟩ := h
  exact ⟨n, ht _ _ h1, ht _ _ h2⟩
theorem KeyAt.mono {H H' : Hp} {a : Addr} {f : Fct} (s : Same H H') (h : KeyAt H a f) : KeyAt H' a f := h.tups fun b xs e => s _ _ e
theorem strs_inj : ∀ {a b : List Str}, a.map V.str = b.map V.str → a = b
  | [], [], _ => rfl
  | [], _ :: _, h => by cases h
  | _ :: _, [], h => by cases h
  | x :: a, y :: b, h => by
    rw [List.map_cons, List.map_cons] at h
    injection h with h1 h2
    injection h1 with h1
    rw [h1, strs_inj h2]
theorem KeyAt.inj {H : Hp} {a : Addr} {f g : Fct} (h : KeyAt H a f) (k : KeyAt H a g) : f = g := by
  obtain ⟨n, h1, h2⟩ := h
  obtain ⟨m, k1, k2⟩ := k
  rw [h1] at k1
  injection k1 with k1
  injection k1 with k1
  injection k1 with e1 e2
  injection e1 with e1
  injection e2 with e2 _
  injection e2 with e2
  subst e2
  rw [h2] at k2
  injection k2 with k2
  injection k2 with k2
  exact Prod.ext e1 (strs_inj k2)
theorem texts_are {h : Heap} : ∀ {n : List Str} {us : List Value}, Vals (n.map V.str) us → NestedAll h (n.map NestedKey.text) us
  | [], _, r => by
    cases r
    exact .nil
  | x :: n, _, r => by
    cases r with
    | cons a t =>
      obtain ⟨k, rfl⟩ := (show ∃ t, _ = Value.str x t from a)
      exact .cons (.text x k) (texts_are t)
theorem fact_is {P : Program} {w : World} {H : Hp} {h : Heap} {a : Addr} {f : Fct} (ok : HOk P w H h) (k : KeyAt H a f) : (nestedKind P w).is h (keyF f) a := by
  obtain ⟨n, h1, h2⟩ := k
  obtain ⟨_, its, r, o, e1, e2, m, e3⟩ := (show ObjOk P w H h a _ from ok a _ h1)
  obtain ⟨_, jts, q, u, d1, d2, l, d3⟩ := (show ObjOk P w H h n _ from ok n _ h2)
  refine ⟨.tup e1 e2 e3 ?_, depth_key f⟩
  cases r with
  | cons r1 t1 =>
    cases t1 with
    | cons r2 t2 =>
      cases t2
      obtain ⟨k, rfl⟩ := (show ∃ t, _ = Value.str f.1 t from r1)
      obtain rfl := (show _ = Value.ref n from r2)
      refine .cons (.text _ _) (.cons (.tup d1 d2 d3 ?_) .nil)
      exact texts_are q
/-- the object o stands at d -/
def obO (d : Addr) (o : Obj) : HO := .ext fun h => h.get? d = some o
/-- entries told by values -/
abbrev FR (H : Hp) : List (Fct × V) → List (NestedKey × Addr × Value) → Prop := Paired fun p q => keyF p.1 = q.1 ∧ KeyAt H q.2.1 p.1 ∧ RelV p.2 q.2.2
/-- at d stands a dict with the facts and values kvs, in the order of insertion: the object o -/
structure FDo (P : Program) (w : World) (H : Hp) (d : Addr) (o : Obj) (kvs : List (Fct × V)) : Prop where
  sys : (d == sysModules) = false
  len : kvs.length ≤ sizeLine
  nod : (kvs.map (·.1)).Nodup
  here : H d = some (obO d o)
  exact' : o.ExactDict
  ent : ∃ es ep xs, o.data = .dict es ep ∧ es.toList = xs.map (entryOfKey (nestedKind P w)) ∧ FR H kvs xs
def FD (P : Program) (w : World) (H : Hp) (d : Addr) (kvs : List (Fct × V)) : Prop := ∃ o, FDo P w H d o kvs
theorem FD.sys {P : Program} {w : World} {H : Hp} {d : Addr} {kvs : List (Fct × V)} (F : FD P w H d kvs) : (d == sysModules) = false := let ⟨_, f⟩ := F; f.sys
theorem FD.len {P : Program} {w : World} {H : Hp} {d : Addr} {kvs : List (Fct × V)} (F : FD P w H d kvs) : kvs.length ≤ sizeLine := let ⟨_, f⟩ := F; f.len
theorem FD.nod {P : Program} {w : World} {H : Hp} {d : Addr} {kvs : List (Fct × V)} (F : FD P w H d kvs) : (kvs.map (·.1)).Nodup := let ⟨_, f⟩ := F; f.nod
theorem FR.tups {H H' : Hp} {kvs : List (Fct × V)} {xs : List (NestedKey × Addr × Value)} (ht : ∀ b ys, H b = some (.tup ys) → H' b = some (.tup ys)) (r : FR H kvs xs) : FR H' kvs xs :=
  Paired.mapP r fun _ _ z => ⟨z.1, z.2.1.tups ht, z.2.2⟩
theorem FDo.keep {P : Program} {w : World} {H H' : Hp} {d : Addr} {o : Obj} {kvs : List (Fct × V)} (F : FDo P w H d o kvs) (hd : H' d = H d) (ht : ∀ b ys, H b = some (.tup ys) → H' b = some (.tup ys)) : FDo P w H' d o kvs := by
  obtain ⟨s, l, n, h, x, es, ep, xs, e1, e2, r⟩ := F
  exact ⟨s, l, n, hd.trans h, x, es, ep, xs, e1, e2, r.tups ht⟩
theorem FD.keep {P : Program} {w : World} {H H' : Hp} {d : Addr} {kvs : List (Fct × V)} (F : FD P w H d kvs) (hd : H' d = H d) (ht : ∀ b ys, H b = some (.tup ys) → H' b = some (.tup ys)) : FD P w H' d kvs := by
  obtain ⟨o, F⟩ := F
  exact ⟨o, F.keep hd ht⟩
theorem FD.ext {P : Program} {w : World} {H : Hp} {d : Addr} {kvs : List (Fct × V)} (F : FD P w H d kvs) : ∃ φ, H d = some (.ext φ) := by
  obtain ⟨o, F⟩ := F
  exact ⟨_, F.here⟩
theorem FDo.mono {P : Program} {w : World} {H H' : Hp} {d : Addr} {o : Obj} {kvs : List (Fct × V)} (s : Same H H') (F : FDo P w H d o kvs) : FDo P w H' d o kvs := F.keep ((s _ _ F.here).trans F.here.symm) fun b ys e => s _ _ e
theorem FD.mono {P : Program} {w : World} {H H' : Hp} {d : Addr} {kvs : List (Fct × V)} (s : Same H H') (F : FD P w H d kvs) : FD P w H' d kvs := by
  obtain ⟨o, F⟩ := F
  exact ⟨o, F.mono s⟩
theorem FR.nodup {H : Hp} {kvs : List (Fct × V)} {xs : List (NestedKey × Addr × Value)} (r : FR H kvs xs) (n : (kvs.map (·.1)).Nodup) : (xs.map (·.1)).Nodup := by
  have e : xs.map (·.1) = (kvs.map (·.1)).map keyF := by
    clear n
    induction r with
    | nil => rfl
    | cons h t ih =>
      rw [List.map_cons, List.map_cons, List.map_cons, ih, h.1]
  rw [e]
  unfold List.Nodup at n ⊢
  rw [List.pairwise_map]
  exact n.imp fun h z => h (keyF_inj z)
theorem FR.all {P : Program} {w : World} {H : Hp} {h : Heap} (ok : HOk P w H h) {kvs : List (Fct × V)} {xs : List (NestedKey × Addr × Value)} (r : FR H kvs xs) : ∀ x ∈ xs, (nestedKind P w).is h x.1 x.2.1 := by
  induction r with
  | nil =>
    intro x hx
    cases hx
  | cons a t ih =>
    intro x hx
    rcases List.mem_cons.mp hx with e | hx
    · rw [e, ← a.1]
      exact fact_is ok a.2.1
    · exact ih x hx
/-- the library's own word of it -/
theorem FDo.of {P : Program} {w : World} {H : Hp} {h : Heap} {d : Addr} {o : Obj} {kvs : List (Fct × V)} (ok : HOk P w H h) (F : FDo P w H d o kvs) : h.get? d = some o ∧ ∃ xs, FR H kvs xs ∧ h.DictOfH (nestedKind P w) d xs := by
  obtain ⟨_, _, n, e, h2, es, ep, xs, h3, h4, r⟩ := F
  obtain ⟨h1, _⟩ := (show ObjOk P w H h d (obO d o) from ok d _ e)
  exact ⟨h1, xs, r, o, es, ep, h1, h2, h3, h4, r.all ok, r.nodup n⟩
theorem FD.of {P : Program} {w : World} {H : Hp} {h : Heap} {d : Addr} {kvs : List (Fct × V)} (ok : HOk P w H h) (F : FD P w H d kvs) : ∃ xs, FR H kvs xs ∧ h.DictOfH (nestedKind P w) d xs := by
  obtain ⟨o, F⟩ := F
  exact (F.of ok).2
theorem ob_new {P : Program} {w : World} {H : Hp} {h : Heap} {d : Addr} {o : Obj} (e : h.get? d = some o) : ObjOk P w H h d (obO d o) := ⟨e, ⟨o, e⟩, fun _ _ z k => k _ z⟩
theorem FR.val {H : Hp} {kvs : List (Fct × V)} {xs : List (NestedKey × Addr × Value)} (r : FR H kvs xs) (f : Fct) : RelO (valV kvs f) ((atKey xs (keyF f)).map (·.2)) := by
  induction r with
  | nil => exact True.intro
  | @cons p q ps qs a t ih =>
    by_cases e : p.1 = f
    · have e' : q.1 = keyF f := by rw [← a.1, e]
      have b : atKey (q :: qs) (keyF f) = some q.2 := by simp [atKey, List.find?_cons, e']
      rw [valV_pos e, b]
      exact a.2.2
    · have e' : ¬ q.1 = keyF f := fun z => e (keyF_inj (a.1.trans z))
      have b : atKey (q :: qs) (keyF f) = atKey qs (keyF f) := by simp [atKey, List.find?_cons, e']
      rw [valV_neg e, b]
      exact ih
theorem FR.swap {H : Hp} {kvs : List (Fct × V)} {xs : List (NestedKey × Addr × Value)} (r : FR H kvs xs) (f : Fct) {y : V} {u : Value} (ry : RelV y u) : FR H (kvs.map fun kv => if kv.1 = f then (kv.1, y) else kv) (xs.map (putAt (keyF f) u)) := by
  induction r with
  | nil => exact .nil
  | @cons p q ps qs a t ih =>
    refine .cons ?_ ih
    unfold putAt
    dsimp only
    by_cases e : p.1 = f
    · rw [if_pos e, if_pos (by rw [← a.1, e])]
      exact ⟨a.1, a.2.1, ry⟩
    · rw [if_neg e, if_neg fun z => e (keyF_inj (a.1.trans z))]
      exact a
theorem FR.put {H : Hp} {kvs : List (Fct × V)} {xs : List (NestedKey × Addr × Value)} (r : FR H kvs xs) (f : Fct) {b : Addr} {y : V} {u : Value} (hb : KeyAt H b f) (ry : RelV y u) : FR H (putK kvs f y) (storedH xs (keyF f) b u) := by
  have e : (kvs.any fun kv => decide (kv.1 = f)) = (atKey xs (keyF f)).isSome := by
    rw [valV_any, (r.val f).isSome_eq, Option.isSome_map]
  unfold putK storedH
  rw [e]
  by_cases q : (atKey xs (keyF f)).isSome = true
  · rw [if_pos q, if_pos q]
    exact r.swap f ry
  · rw [if_neg q, if_neg q]
    exact Paired.snoc r ⟨rfl, hb, ry⟩
theorem keys_put {kvs : List (Fct × V)} (f : Fct) (y : V) : (putK kvs f y).map (·.1) = if (valV kvs f).isSome then kvs.map (·.1) else kvs.map (·.1) ++ [f] := by
  unfold putK
  rw [valV_any]
  by_cases q : (valV kvs f).isSome = true
  · rw [if_pos q, if_pos q, List.map_map]
    refine List.map_congr_left fun p _ => ?_
    by_cases e : p.1 = f
    · simp [e]
    · simp [e]
  · rw [if_neg q, if_neg q, List.map_append]
    rfl
theorem valV_mem {kvs : List (Fct × V)} {f : Fct} (h : valV kvs f = none) : f ∉ kvs.map (·.1) := by
  induction kvs with
  | nil => intro z; cases z
  | cons p ps ih =>
    by_cases e : p.1 = f
    · rw [valV_pos e] at h
      cases h
    · rw [valV_neg e] at h
      intro z
      rcases List.mem_cons.mp z with z | z
      · exact e z.symm
      · exact ih h z
theorem nod_put {kvs : List (Fct × V)} (f : Fct) (y : V) (n : (kvs.map (·.1)).Nodup) : ((putK kvs f y).map (·.1)).Nodup := by
  rw [keys_put]
  split
  · exact n
  · rename_i h
    have h' : valV kvs f = none := by
      cases e : valV kvs f with
      | none => rfl
      | some v => rw [e] at h; exact absurd rfl h
    rw [List.nodup_append]
    exact ⟨n, List.nodup_cons.mpr ⟨List.not_mem_nil, List.nodup_nil⟩, fun a ha b hb => by
      rw [List.mem_singleton.mp hb]
      intro z
      exact valV_mem h' (z ▸ ha)⟩
section
variable {X : Cx} {pins : List (Addr × Obj)} {σ : L2.St} {H : Hp} {s : Shared}
/-- the dict at d behind a store -/
theorem FD.stored {d b : Addr} {kvs : List (Fct × V)} {f : Fct} {y : V} {u : Value} {xs : List (NestedKey × Addr × Value)} {h' : Heap} {t' : Nat} (I : Inv X pins σ H s) (F : FD X.prog X.w H d kvs) (hb : KeyAt H b f) (ry : RelV y u) (hl : kvs.length < sizeLine) (r : FR H kvs xs)
    (D : h'.DictOfH (nestedKind X.prog X.w) d (storedH xs (keyF f) b u)) (hs : Heap.SameBut d s.heap h') :
    ∃ o', Inv X pins σ (upd H d o') { s with heap := h', toks := t' } ∧ FD X.prog X.w (upd H d o') d (putK kvs f y) := by
  obtain ⟨φ, hd⟩ := F.ext
  obtain ⟨o, es, ep, h1, h2, h3, h4, _⟩ := D
  refine ⟨obO d o, d_write I (by rw [hd]; exact True.intro) hs ⟨o, h1⟩ (ob_new h1), o, F.sys, ?_, nod_put f y F.nod, upd_same, h2, es, ep, _, h3, h4, (r.put f hb ry).tups fun b ys e => ?_⟩
  · have := length_putK kvs f y
    omega
  · rw [upd_ne fun z => ?_]
    · exact e
    · rw [z, hd] at e
      cases e
variable {a e k v : Expr} {ta te tk tv : TE} {pos apos cpos : Pos}
/-- d[k], there -/
def tFGet (P : Program) (w : World) (ta tk : TE) : TE := fun σ H Q => ta σ H fun x H1 => tk σ H1 fun y H2 => ∃ d kvs b f v, x = .ref d ∧ y = .ref b ∧ FD P w H2 d kvs ∧ KeyAt H2 b f ∧ valV kvs f = some v ∧ Q v H2
theorem pe_fget (hu : X.A.units + 64 < cLine) (ho : PE X a ta) (hi : PE X k tk) (hs : NoSl k) : PE X (.Subscript a k pos) (tFGet X.prog X.w ta tk) := by
  refine ⟨fun pins s σ H Q I h => ?_⟩
  refine subD_of PySem.F.slot_dict_getitem.lookup hs ?_
  refine thn (ho.run pins s σ H _ I h) fun u s1 h1 => ?_
  obtain ⟨x, H1, I1, rx, q1⟩ := h1
  refine thn (hi.run pins s1 σ H1 _ I1 q1) fun j s2 h2 => ?_
  obtain ⟨y, H2, I2, ry, d, kvs, b, f, z, rfl, rfl, F, K, hv, q⟩ := h2
  obtain rfl : u = Value.ref d := rx
  obtain rfl : j = Value.ref b := ry
  obtain ⟨xs, r, D⟩ := F.of I2.hok
  obtain ⟨u', hu', ru⟩ := RelO.some_of (v := z) (o := (atKey xs (keyF f)).map (·.2)) (by rw [← hv]; exact r.val f)
  obtain ⟨p, hp, hp2⟩ := Option.map_eq_some_iff.mp hu'
  refine ⟨D.typeIs, wpAny_getItem_heap (by show X.A.units + 1 + 8 < cLine; omega) (fact_is I2.hok K) D hp ?_⟩
  rw [hp2]
  exact ⟨z, H2, I2.tok _, ru, q⟩
/-- d.get(k, e) -/
def tFOr (P : Program) (w : World) (ta tk te : TE) : TE := fun σ H Q => ta σ H fun x H1 => ∃ d kvs, x = .ref d ∧ FD P w H1 d kvs ∧ tk σ H1 fun y H2 => te σ H2 fun z H3 => ∃ b f, y = .ref b ∧ FD P w H3 d kvs ∧ KeyAt H3 b f ∧ Q ((valV kvs f).getD z) H3
theorem pe_for (hu : X.A.units + 64 < cLine) (ho : PE X a ta) (hk : PE X k tk) (he : PE X e te) (m : M2 X a "get" apos k e cpos) : PE X (.Call (.Attribute a "get" apos) [k, e] [] cpos) (tFOr X.prog X.w ta tk te) := by
  refine ⟨fun pins s σ H Q I h => ?_⟩
  refine wpAny_Call_method m.base m.few m.line PySem.F.plainAttrs_dict PySem.F.slot_dict_get PySem.F.type_dict_get (thn (ho.run pins s σ H _ I h) fun u s1 h1 => ?_)
  obtain ⟨x, H1, I1, rx, d, kvs, rfl, F, q1⟩ := h1
  obtain rfl : u = Value.ref d := rx
  obtain ⟨_, _, D1⟩ := F.of I1.hok
  have one : ∀ c, Value.ref d = .ref c → ∃ ob, s1.heap.get? c = some ob ∧ ob.dict = none := fun c z => by
    cases z
    obtain ⟨ob, _, _, h1, h2, _⟩ := D1
    exact ⟨ob, h1, h2.2.1⟩
  refine ⟨D1.typeIs, one, ?_⟩
  rw [m.trees]
  refine Calls.callWith_builtin rfl (Calls.evalArgs_plain (Calls.spliced_cons (thn (hk.run pins s1 σ H1 _ I1 q1) fun j s2 h2 => ?_)))
  obtain ⟨y, H2, I2, ry, q2⟩ := h2
  refine Calls.spliced_cons (thn (he.run pins s2 σ H2 _ I2 q2) fun l s3 h3 => Calls.spliced_nil ?_)
  obtain ⟨z, H3, I3, rz, b, f, rfl, F3, K, q⟩ := h3
  obtain rfl : j = Value.ref b := ry
  obtain ⟨xs, r, D⟩ := F3.of I3.hok
  refine call_meetsIn PySem.F.slot_dict_get D.typeIs PySem.F.entry_dict_get (PySem.F.args_dict_get_3 _ _ _) (meetsH_dict_get_default (nestedKind X.prog X.w) d b F3.sys l) ?_
  refine ⟨by show X.A.units + 1 + 8 < cLine; omega, keyF f, xs, fact_is I3.hok K, D, ?_⟩
  exact ⟨_, H3, I3.tok _, (r.val f).getD rz, q⟩
/-- k in d -/
def rInF (P : Program) (w : World) (neg : Bool) : R2 := fun x y H Q => ∃ d kvs b f, x = .ref b ∧ y = .ref d ∧ FD P w H d kvs ∧ KeyAt H b f ∧ Q (.bl (if neg then !(valV kvs f).isSome else (valV kvs f).isSome)) H
theorem op_inF (hu : X.A.units + 64 < cLine) : OpR X (compareOp .In) (rInF X.prog X.w false) := by
  intro pins s σ H x y v u Q I rx ry h
  obtain ⟨d, kvs, b, f, rfl, rfl, F, K, q⟩ := h
  obtain rfl : v = Value.ref b := rx
  obtain rfl : u = Value.ref d := ry
  obtain ⟨xs, r, D⟩ := F.of I.hok
  refine wpAny_in_heap (by show X.A.units + 1 + 8 < cLine; omega) (fact_is I.hok K) F.sys D ?_
  have e := (r.val f).isSome_eq
  rw [Option.isSome_map] at e
  rw [← e]
  exact ⟨.bl _, H, I.tok _, rfl, q⟩
theorem op_notInF (hu : X.A.units + 64 < cLine) : OpR X (compareOp .NotIn) (rInF X.prog X.w true) := by
  intro pins s σ H x y v u Q I rx ry h
  obtain ⟨d, kvs, b, f, rfl, rfl, F, K, q⟩ := h
  obtain rfl : v = Value.ref b := rx
  obtain rfl : u = Value.ref d := ry
  obtain ⟨xs, r, D⟩ := F.of I.hok
  refine wpAny_notIn_heap (by show X.A.units + 1 + 8 < cLine; omega) (fact_is I.hok K) F.sys D ?_
  have e := (r.val f).isSome_eq
  rw [Option.isSome_map] at e
  rw [← e]
  exact ⟨.bl _, H, I.tok _, rfl, q⟩
/-- d[k] = v -/
def tSetF (P : Program) (w : World) : V → V → V → Hp → (Hp → Prop) → Prop := fun o i v H Q => ∃ d kvs b f, o = .ref d ∧ i = .ref b ∧ FD P w H d kvs ∧ KeyAt H b f ∧ kvs.length < sizeLine ∧ ∀ o', FD P w (upd H d o') d (putK kvs f v) → Q (upd H d o')
theorem set_fact (hu : X.A.units + 64 < cLine) : PSet X (tSetF X.prog X.w) := by
  intro pins s σ H o i v ov iv u Q I ro ri rv h
  obtain ⟨d, kvs, b, f, rfl, rfl, F, K, hl, q⟩ := h
  obtain rfl : ov = Value.ref d := ro
  obtain rfl : iv = Value.ref b := ri
  obtain ⟨xs, r, D⟩ := F.of I.hok
  have e := Paired.length r
  refine wpAny_setItem_heap (hsz := by omega) (by show X.A.units + 1 + 8 < cLine; omega) (fact_is I.hok K) D fun h' D' hs => ?_
  obtain ⟨o', I', F'⟩ := F.stored (t' := s.toks + (nestedKind X.prog X.w).draws (keyF f)) I K rv hl r D' hs
  exact ⟨_, I', q o' F'⟩
/-- {}, to be a dict of facts -/
def tFNew (P : Program) (w : World) : TE := fun _ H Q => ∀ d o, H d = none → FD P w (upd H d o) d [] → Q (.ref d) (upd H d o)
def newO : Obj := { cls := .type "dict", data := .dict #[] }
theorem fd_empty {P : Program} {w : World} {H : Hp} {d : Addr} (hb : sysModules < d) : FD P w (upd H d (obO d newO)) d [] :=
  ⟨newO, beq_eq_false_iff_ne.mpr (Ne.symm (Nat.ne_of_lt hb)), Nat.zero_le _, List.nodup_nil, upd_same, ⟨rfl, rfl, rfl⟩, #[], 0, [], rfl, rfl, .nil⟩
theorem pe_fnew : PE X (.Dict [] [] pos) (tFNew X.prog X.w) := ⟨fun pins s σ H Q I h => by
  refine wpAny_Dict_empty ⟨.ref s.heap.objs.size, _, I.laid (a := s.heap.objs.size) (o := obO s.heap.objs.size newO) (t' := s.toks) (fun _ _ q => Heap.get?_push_of_some _ q) (Nat.le_refl _) (ob_new (Heap.get?_push_size _ rfl)), rfl, ?_⟩
  exact h _ _ (I.hok.fresh (Nat.le_refl _)) (fd_empty I.big)⟩
/-- len(d) -/
theorem call_lenF (hc : X.calm = true) : CallR X (.builtin "len") (fun vs H Q => ∃ d kvs, vs = [V.ref d] ∧ FD X.prog X.w H d kvs ∧ Q (.int (kvs.length : Nat)) H) := by
  intro pins s σ H vs us Q I r h
  obtain ⟨d, kvs, rfl, F, q⟩ := h
  obtain ⟨u, rfl, ru⟩ := vals1 r
  obtain rfl : u = Value.ref d := ru
  obtain ⟨xs, rr, D⟩ := F.of I.hok
  have e := Paired.length rr
  have hz := F.len
  have hz2 := sizeLine_eq
  refine PyProof.Rows.call_len_slot (n := xs.length) D.typeIs PySem.F.slot_dict_len (fun Q' hq => len_keyed F.sys ⟨xs, D, rfl⟩ (by rw [pairsH_length]; exact hq)) (by omega) (by omega) ?_
  rw [← e]
  exact ⟨.int _, H, I.tok _, ⟨_, rfl⟩, q⟩
end
end YjD
set_option Elab.async false
set_option linter.all false
set_option maxRecDepth 100000
set_option pp.maxSteps 1500
/-! A dict of facts, walked by its keys. -/
namespace YjD
open PySem PySem.Spec PyProof.Rows L2
theorem FDo.at {P : Program} {w : World} {H : Hp} {d : Addr} {o : Obj} {kvs : List (Fct × V)} {es : Array DictEntry} {ep : Nat} (F : FDo P w H d o kvs) (hod : o.data = .dict es ep) : es.size = kvs.length ∧
    ∀ i (hi : i < es.size), ∃ ka f v, kvs[i]? = some (f, v) ∧ es[i].key = .ref ka ∧ KeyAt H ka f ∧ RelV v es[i].val := by
  obtain ⟨_, _, _, _, _, es', ep', xs, e1, e2, r⟩ := F
  rw [hod] at e1
  cases e1
  have hl := Paired.length r
  have hs := size_of_entries e2
  refine ⟨hs.trans hl.symm, fun i hi => ?_⟩
  have he := entry_at e2 i
  have hx : i < xs.length := hs ▸ hi
  rw [Array.getElem?_eq_getElem hi, List.getElem?_eq_getElem hx, Option.map_some] at he
  have he := Option.some.inj he
  have g : ∀ {l : List (Fct × V)} {m : List (NestedKey × Addr × Value)}, FR H l m → ∀ (j : Nat) (hj : j < m.length), ∃ f v, l[j]? = some (f, v) ∧ KeyAt H m[j].2.1 f ∧ RelV v m[j].2.2 := by
    intro l m q
    induction q with
    | nil =>
      intro j hj
      exact absurd hj (Nat.not_lt_zero j)
    | @cons p q ps qs a t ih =>
      intro j hj
      cases j with
      | zero => exact ⟨p.1, p.2, rfl, a.2.1, a.2.2⟩
      | succ j => exact ih j (Nat.lt_of_succ_lt_succ hj)
  obtain ⟨f, v, h1, h2, h3⟩ := g r i hx
  refine ⟨xs[i].2.1, f, v, h1, ?_, h2, ?_⟩
  · rw [he]
    rfl
  · rw [he]
    exact h3
/-- the keys of the dict at d, one by one -/
def ItF (P : Program) (w : World) (d : Addr) (o : Obj) (kvs : List (Fct × V)) : It :=
  ⟨fun i H => FDo P w H d o kvs ∧ i < kvs.length, fun i H x H' => H' = H ∧ ∃ ka f v, x = .ref ka ∧ kvs[i]? = some (f, v) ∧ KeyAt H ka f, fun i H => FDo P w H d o kvs ∧ i = kvs.length⟩
theorem turn_facts {P : Program} {w : World} {K : PySem.W.Frag} {tg : Expr} {d : Addr} {o : Obj} {kvs : List (Fct × V)} {es : Array DictEntry} {ep : Nat} (it : Addr) (hod : o.data = .dict es ep) :
    Turn P w K tg (ItF P w d o kvs) [it] it (fun i h => h.IsKeyIter it d i es.size ep) := by
  refine ⟨by simp, fun i h st b hb => ?_, fun i h h' st k => st.at fun oi e => k it (by simp) oi e, ?_, ?_, fun A i s Q E st h => wpAny_pyIter_keyiter st h⟩
  · rw [List.mem_singleton.mp hb]
    obtain ⟨oi, e, _, dd⟩ := st
    exact ⟨oi, e, fun v z => by rw [dd] at z; cases z⟩
  · intro X hP hw hK hc i pins s σ H E I hf st hg
    subst hP hw hK
    obtain ⟨F, hi⟩ := hg
    obtain ⟨f0, f1, f2, f3, f4, f5⟩ := hf it (by simp)
    obtain ⟨hd, _⟩ := F.of I.hok
    obtain ⟨hs, hat⟩ := F.at hod
    obtain ⟨ka, f, v, h1, h2, h3, _⟩ := hat i (by omega)
    refine wpAny_pyNext_keys_item_raw st ⟨o, hd, F.exact', hod⟩ (by omega) fun h' st' sb => ?_
    have J : Inv X pins σ H { s with heap := h' } := I.turned (t' := s.toks) (fun b ob hb e => (sb.2 b hb).trans e) f0 f1 f3 f4 f5
    obtain ⟨oi, e, c, dd⟩ := id st'
    exact ⟨_, rfl, go_of (s := { s with heap := h' }) e c dd (by decide) ⟨.ref ka, H, J, h2, ⟨rfl, ka, f, v, rfl, h1, h3⟩, st', fun b hb => (hf b hb).1⟩⟩
  · intro X hP hw hK hc i pins s σ H E I hf st hg
    subst hP hw hK
    obtain ⟨F, hi⟩ := hg
    obtain ⟨f0, f1, f2, f3, f4, f5⟩ := hf it (by simp)
    obtain ⟨hd, _⟩ := F.of I.hok
    obtain ⟨hs, _⟩ := F.at hod
    exact wpAny_pyNext_keys_end_raw (I.ok.hd hc) st ⟨o, hd, F.exact', hod⟩ (by omega) fun h' eb => ⟨rfl, I.turned (t' := s.toks) (fun b ob hb e => eb b ob hb e) f0 f1 f3 f4 f5⟩
/-- a dict of facts, walked -/
def iFacts (P : Program) (w : World) (te : TE) : TI := fun σ H R => te σ H fun x H1 => ∃ d o kvs, x = .ref d ∧ FDo P w H1 d o kvs ∧ R (ItF P w d o kvs) H1
theorem pi_facts {X : Cx} {e tg : Expr} {te : TE} (ha : PE X e te) : PI X tg e (iFacts X.prog X.w te) := by
  refine ⟨fun pins s σ H R I h => ?_⟩
  refine thn (ha.run pins s σ H _ I h) fun u s1 h1 => ?_
  obtain ⟨x, H1, I1, rx, d, o, kvs, rfl, F, q⟩ := h1
  obtain rfl : u = Value.ref d := rx
  obtain ⟨hd, _⟩ := F.of I1.hok
  obtain ⟨es, ep, xs, e1, e2, r⟩ := F.ent
  refine wpAny_pyIter_dict_raw F.sys ⟨o, hd, F.exact', e1⟩ ?_
  have fp : ∀ b ∈ [s1.heap.objs.size], FpOk X pins H1 b := fun b hb => by
    rw [List.mem_singleton.mp hb]
    exact I1.fpOk (Nat.le_refl _) (I1.hok.fresh (Nat.le_refl _))
  refine ⟨s1.heap.objs.size, _, _, _, H1, rfl, I1.kept (t' := s1.toks) fun b ob z => Heap.get?_push_of_some _ z, turn_facts s1.heap.objs.size e1, ?_, fp, q⟩
  exact ⟨_, Heap.get?_push_size _ rfl, rfl, rfl⟩
theorem walk_facts {P : Program} {w : World} {d : Addr} {o : Obj} {kvs : List (Fct × V)} : Walk (ItF P w d o kvs) kvs.length (fun H => FDo P w H d o kvs) (fun i H x H' => H' = H ∧ ∃ ka f v, x = .ref ka ∧ kvs[i]? = some (f, v) ∧ KeyAt H ka f) :=
  ⟨fun i H hi q => ⟨q, hi⟩, fun H q => ⟨q, rfl⟩, fun i H x H' hi q y => y⟩
end YjD
set_option Elab.async false
set_option linter.all false
set_option maxRecDepth 100000
set_option pp.maxSteps 1500
/-! The facts of a dict as a list, and sorted. -/
namespace YjD
open PySem PySem.Spec PyProof.Rows L2
/-- references to facts that stand in the heap -/
abbrev KeysAt (H : Hp) : List V → List Fct → Prop := Paired fun u f => ∃ ka, u = V.ref ka ∧ KeyAt H ka f
theorem KeysAt.mono {H H' : Hp} (s : Same H H') {us : List V} {fs : List Fct} (h : KeysAt H us fs) : KeysAt H' us fs := Paired.mapP h fun _ _ ⟨ka, e, k⟩ => ⟨ka, e, k.mono s⟩
theorem KeysAt.get {H : Hp} {us : List V} {fs : List Fct} (h : KeysAt H us fs) : ∀ {i : Nat} {v : V}, us[i]? = some v → ∃ ka f, v = .ref ka ∧ fs[i]? = some f ∧ KeyAt H ka f := by
  induction h with
  | nil =>
    intro i v e
    cases e
  | @cons u f us fs a t ih =>
    intro i v e
    cases i with
    | zero =>
      obtain ⟨ka, e2, k⟩ := a
      have e := Option.some.inj e
      exact ⟨ka, f, e.symm.trans e2, rfl, k⟩
    | succ i => exact ih (i := i) e
def factD (f : Fct) : PyData := .tuple [.str f.1, .tuple (f.2.map PyData.str)]
def sortF (fs : List Fct) : List Fct := fs.mergeSort (PySem.W.dataLe false factD)
theorem alike_strs : ∀ a b : List Str, PySem.W.alikeAll (a.map PyData.str) (b.map PyData.str) = true
  | [], _ => by simp [PySem.W.alikeAll]
  | _ :: _, [] => by simp [PySem.W.alikeAll]
  | x :: a, y :: b => by
    show PySem.W.alikeAll (PyData.str x :: a.map PyData.str) (PyData.str y :: b.map PyData.str) = true
    rw [PySem.W.alikeAll, alike_strs a b]
    simp [PySem.W.alike]
theorem alike_facts (f g : Fct) : PySem.W.alike (factD f) (factD g) = true := by
  unfold factD
  rw [PySem.W.alike, PySem.W.alikeAll, PySem.W.alikeAll, PySem.W.alikeAll, PySem.W.alike, PySem.W.alike, alike_strs]
  rfl
theorem depth_strs : ∀ n : List Str, PyData.depthAll (n.map PyData.str) = 0
  | [] => by simp [PyData.depthAll]
  | x :: n => by
    show PyData.depthAll (PyData.str x :: n.map PyData.str) = 0
    rw [PyData.depthAll, depth_strs n]
    simp [PyData.depth]
theorem depth_fact (f : Fct) : (factD f).depth = 2 := by
  unfold factD
  rw [PyData.depth, PyData.depthAll, PyData.depthAll, PyData.depthAll, PyData.depth, PyData.depth, depth_strs]
  rfl
theorem reads_strs {h : Heap} : ∀ {n : List Str} {us : List Value}, Vals (n.map V.str) us → ReadsAll h us (n.map PyData.str) []
  | [], _, r => by
    cases r
    exact .nil
  | x :: n, _, r => by
    cases r with
    | cons a t =>
      obtain ⟨k, rfl⟩ := (show ∃ t, _ = Value.str x t from a)
      exact ReadsAll.cons (as := []) (bs := []) (.str x k) (reads_strs t)
theorem reads_fact {P : Program} {w : World} {H : Hp} {h : Heap} {a : Addr} {f : Fct} (ok : HOk P w H h) (k : KeyAt H a f) : Reads h (.ref a) (factD f) [] := by
  obtain ⟨n, h1, h2⟩ := k
  obtain ⟨_, its, r, o, e1, e2, m, e3⟩ := (show ObjOk P w H h a _ from ok a _ h1)
  obtain ⟨_, jts, q, u, d1, d2, l, d3⟩ := (show ObjOk P w H h n _ from ok n _ h2)
  refine .tuple e1 e2 e3 ?_
  cases r with
  | cons r1 t1 =>
    cases t1 with
    | cons r2 t2 =>
      cases t2
      obtain ⟨k, rfl⟩ := (show ∃ t, _ = Value.str f.1 t from r1)
      obtain rfl := (show _ = Value.ref n from r2)
      refine ReadsAll.cons (as := []) (bs := []) (.str _ _) (ReadsAll.cons (as := []) (bs := []) (.tuple d1 d2 d3 ?_) .nil)
      exact reads_strs q
theorem sortF_perm (fs : List Fct) : (sortF fs).Perm fs := List.mergeSort_perm fs _
section
variable {X : Cx}
/-- the values that a walk of the keys has collected -/
theorem keys_of {P : Program} {w : World} {H : Hp} {d : Addr} {o : Obj} {kvs : List (Fct × V)} {es : Array DictEntry} {ep : Nat} {acc : Array Value} (F : FDo P w H d o kvs) (hod : o.data = .dict es ep)
    (hacc : PySem.ItemsOf (fun i v => ∃ hi : i < es.size, v = es[i].key) acc es.size) : ∃ us, Vals us acc.toList ∧ KeysAt H us (kvs.map (·.1)) := by
  obtain ⟨hs, hat⟩ := F.at hod
  obtain ⟨h1, h2⟩ := hacc
  have g : ∀ (vs : List Value) (fs : List Fct), vs.length = fs.length → (∀ (i : Nat) (v : Value) (f : Fct), vs[i]? = some v → fs[i]? = some f → ∃ ka, v = Value.ref ka ∧ KeyAt H ka f) → ∃ us, Vals us vs ∧ KeysAt H us fs := by
    intro vs
    induction vs with
    | nil =>
      intro fs e _
      cases fs with
      | nil => exact ⟨[], .nil, .nil⟩
      | cons f fs => cases e
    | cons v vs ih =>
      intro fs e k
      cases fs with
      | nil => cases e
      | cons f fs =>
        obtain ⟨ka, e1, k1⟩ := k 0 v f rfl rfl
        obtain ⟨us, r1, r2⟩ := ih fs (Nat.succ.inj e) fun i => k (i + 1)
        exact ⟨.ref ka :: us, .cons e1 r1, .cons ⟨ka, rfl, k1⟩ r2⟩
  refine g acc.toList (kvs.map (·.1)) ?_ fun i v f ev ef => ?_
  · rw [Array.length_toList, List.length_map, h1, hs]
  · rw [Array.getElem?_toList] at ev
    obtain ⟨hi, rfl⟩ := h2 i v ev
    obtain ⟨ka, f', v', e1, e2, e3, _⟩ := hat i hi
    rw [List.getElem?_map, e1] at ef
    have ef := Option.some.inj ef
    dsimp only at ef
    subst ef
    exact ⟨ka, e2, e3⟩
/-- list(d) -/
def rListF (P : Program) (w : World) : List V → Hp → VK → Prop := fun vs H Q => ∃ d kvs, vs = [V.ref d] ∧ FD P w H d kvs ∧ ∀ us p, H p = none → KeysAt H us (kvs.map (·.1)) → Q (.ref p) (upd H p (.lst us))
theorem call_listF (hc : X.calm = true) : CallR X (.type "list") (rListF X.prog X.w) := by
  intro pins s σ H vs us Q I r h
  obtain ⟨d, kvs, rfl, ⟨o, F⟩, q⟩ := h
  obtain ⟨u, rfl, ru⟩ := vals1 r
  obtain rfl : u = Value.ref d := ru
  obtain ⟨hd, _⟩ := F.of I.hok
  obtain ⟨es, ep, xs, e1, e2, _⟩ := F.ent
  have hs := (F.at e1).1
  refine PySem.W.kdl_call (PySem.KdlSrc.rawDict F.sys) (I.ok.hd hc) ⟨o, hd, F.exact', e1⟩ (by have := F.len; omega) fun h' tk acc c hk hn hacc => ?_
  obtain ⟨ks, k1, k2⟩ := keys_of F e1 hacc
  refine ⟨.ref s.heap.objs.size, upd H s.heap.objs.size (.lst ks), I.laid (t' := tk) hk (Nat.le_refl _) ?_, rfl, q ks _ (I.hok.fresh (Nat.le_refl _)) k2⟩
  refine ⟨?_, acc.toList, c, k1, ?_⟩
  · have := Paired.length k2
    rw [List.length_map] at this
    have := F.len
    omega
  · rw [Array.toArray_toList]
    exact hn
/-- sorted(d) -/
def rSortF (P : Program) (w : World) : List V → Hp → VK → Prop := fun vs H Q => ∃ d kvs, vs = [V.ref d] ∧ FD P w H d kvs ∧ ∀ us p, H p = none → KeysAt H us (sortF (kvs.map (·.1))) → Q (.ref p) (upd H p (.lst us))
theorem each_paired {α β : Type} {F : α → β → Prop} : ∀ {l : List α} {m : List β}, PySem.W.EachIs F l m → Paired F l m
  | _, _, .nil => .nil
  | _, _, .cons a t => .cons a (each_paired t)
theorem cr_sortF (hc : X.calm = true) (hu : X.A.units + 64 < cLine) : CallR X (.builtin "sorted") (rSortF X.prog X.w) := by
  intro pins s σ H vs us Q I r h
  obtain ⟨d, kvs, rfl, ⟨o, F⟩, q⟩ := h
  obtain ⟨u, rfl, ru⟩ := vals1 r
  obtain rfl : u = Value.ref d := ru
  obtain ⟨hd, _⟩ := F.of I.hok
  obtain ⟨es, ep, xs, e1, e2, _⟩ := F.ent
  have hs := (F.at e1).1
  have hlen := F.len
  refine Calls.call_function_entry PyProof.Rows.kind_sorted PyProof.Rows.plain_sorted PyProof.Rows.entry_sorted (PyProof.Rows.args_sorted1 _) ?_
  unfold Builtin.«sorted»
  refine wpAny_bind (m := checkCount "sorted" 1 1 _) (wpAny_pure ?_)
  refine wpAny_bind (PySem.W.kdu_collect (A := X.A.in1) (PySem.KdlSrc.rawDict F.sys) (I.ok.hd hc) ⟨o, hd, F.exact', e1⟩ (by omega) fun h' tk acc hk hacc => ?_)
  obtain ⟨ks, k1, k2⟩ := keys_of F e1 hacc
  have I1 : Inv X pins σ H { s with heap := h', toks := tk } := I.kept hk
  have hal : acc.toList.length = kvs.length := by rw [Array.length_toList, hacc.1, hs]
  refine wpAny_bind (wpAny_newList ?_ (by omega))
  have hoL : (h'.push (seqObj "list" acc.toList.toArray 0)).get? h'.objs.size = some (seqObj "list" acc.toList.toArray 0) := Heap.get?_push_size _ rfl
  show wpAny _ _ _ _ _ { s with heap := h'.push (seqObj "list" acc.toList.toArray 0), toks := tk }
  have old : ∀ b ob, h'.get? b = some ob → (h'.push (seqObj "list" acc.toList.toArray 0)).get? b = some ob := fun b ob e => Heap.get?_push_of_some _ e
  have each : ∀ {R : Value → Fct → Prop}, (∀ v ka f, KeyAt H ka f → v = .ref ka → R v f) → PySem.W.EachIs R acc.toList (kvs.map (·.1)) := by
    intro R hR
    have g : ∀ {us : List V} {vs : List Value} {fs : List Fct}, Vals us vs → KeysAt H us fs → PySem.W.EachIs R vs fs := by
      intro us vs fs a b
      induction b generalizing vs with
      | nil =>
        cases a
        exact .nil
      | cons x t ih =>
        cases a with
        | cons a1 a2 =>
          obtain ⟨ka, rfl, kk⟩ := x
          exact .cons (hR _ ka _ kk a1) (ih a2)
    exact g k1 k2
  refine wpAny_bind (wpAny_holding ?_)
  refine PySem.W.list_sort_data (s := { s with heap := h'.push (seqObj "list" acc.toList.toArray 0), toks := tk }) (bs := kvs.map (·.1)) (enc := factD) (R := fun v f => ∃ ka, v = Value.ref ka ∧ KeyAt H ka f) hoL
    (each fun v ka f kk e => ⟨ka, e, kk⟩) (each fun v ka f kk e => ⟨[], by rw [e]; exact PyProof.Rows.Reads.keeps old (reads_fact I1.hok kk), List.not_mem_nil⟩) (PySem.W.AllAlike.of alike_facts) (PySem.W.Sortable.tuples fun f => ⟨_, _, rfl⟩) (by rw [List.length_map]; omega)
    (fun f _ => by rw [depth_fact]; show X.A.units + 1 + 1 + 2 < cLine; omega) fun out ho hout => ?_
  obtain ⟨c, hc'⟩ := PyProof.Rows.sortedHeap_at (vs := acc.toList) (out := List.toArray out) hoL
  have back : ∀ {vs : List Value} {fs : List Fct}, PySem.W.EachIs (fun v f => ∃ ka, v = Value.ref ka ∧ KeyAt H ka f) vs fs → ∃ us, Vals us vs ∧ KeysAt H us fs := by
    intro vs fs a
    induction a with
    | nil => exact ⟨[], .nil, .nil⟩
    | cons a t ih =>
      obtain ⟨us, r1, r2⟩ := ih
      obtain ⟨ka, rfl, kk⟩ := a
      exact ⟨.ref ka :: us, .cons rfl r1, .cons ⟨ka, rfl, kk⟩ r2⟩
  obtain ⟨us, u1, u2⟩ := back hout
  have hz : us.length ≤ sizeLine := by
    have h1 := Paired.length u1
    rw [List.length_map] at ho
    omega
  refine wpAny_pure ⟨_, rfl, .ref h'.objs.size, upd H h'.objs.size (.lst us), I1.laid (t' := tk) (fun b u e => ?_) (Nat.le_refl _) ⟨hz, out, c, u1, hc'⟩, rfl, q us _ (I1.hok.fresh (Nat.le_refl _)) u2⟩
  have hb : b < h'.objs.size := Heap.lt_size e
  rw [PyProof.Rows.sortedHeap_old (Nat.ne_of_lt hb) (by rw [size_push']; exact Nat.lt_succ_of_lt hb)]
  exact old _ _ e
end
end YjD
set_option Elab.async false
set_option linter.all false
set_option maxRecDepth 100000
set_option maxHeartbeats 1000000
set_option pp.maxSteps 1500
/-! {fact: value for .. in .. if ..} -/
namespace YjD
open PySem PySem.Spec PyProof.Rows L2
/-- one turn's end: the pair is stored, or there was none -/
def FcEnd (P : Program) (w : World) (D : Addr) (tk tv : TE) (Nx : Hp → Prop) (σ : L2.St) (b : Bool) (H : Hp) : Prop :=
  if b = true then tk σ H fun y H4 => tv σ H4 fun z H5 => ∃ kvs a f, y = .ref a ∧ FD P w H5 D kvs ∧ KeyAt H5 a f ∧ kvs.length < sizeLine ∧ ∀ o', FD P w (upd H5 D o') D (putK kvs f z) → Nx (upd H5 D o') else Nx H
/-- what is left to show of the turns: W says what holds ahead of the i-th -/
def FcTurns (P : Program) (w : World) (D : Addr) (J : It) (g : TG) (tt : TT) (tk tv : TE) (vs : List Nat) (σ : L2.St) (Qd : Hp → Prop) (W : Nat → Nat → Hp → Prop) : Prop :=
  ∀ i m H, W i m H → (J.stop i H ∧ Qd H) ∨ (J.go i H ∧ ∃ Nx : Hp → Prop, (∀ H', Nx H' → ∃ m', m' < m ∧ W (i + 1) m' H') ∧
    ∀ x H', J.yld i H x H' → g x (wipe σ vs) H' fun σ2 H2 => wipe σ2 vs = wipe σ vs ∧ tt σ2 H2 (FcEnd P w D tk tv Nx σ2))
def tFc (P : Program) (w : World) (wi : TI) (g : TG) (tt : TT) (tk tv : TE) (vs : List Nat) : TE := fun σ H Q =>
  wi σ H fun J H1 => ∀ D o0, H1 D = none → FD P w (upd H1 D o0) D [] → ∃ W : Nat → Nat → Hp → Prop, (∃ m, W 0 m (upd H1 D o0)) ∧ FcTurns P w D J g tt tk tv vs σ (Q (.ref D)) W
section
variable {X : Cx} {kx vx tg iter : Expr} {ifs : List Expr} {scope : Scope} {own : List (Str × Nat)} {pos pos' : Pos} {wi : TI} {g : TG} {tt : TT} {tk tv : TE}
/-- the parts of the comprehension, each read in the comprehension's own frame -/
structure FcParts (X : Cx) (scope : Scope) (tg kx vx : Expr) (ifs : List Expr) (g : TG) (tt : TT) (tk tv : TE) : Prop where
  pg : ∀ (s : Shared) (H : Hp) (C : Addr) (cl : List (Str × Addr)) (fp : List Addr), PG (X.blk s H scope (compEnvC scope cl C X.env) fp) tg g
  pt : ∀ (s : Shared) (H : Hp) (C : Addr) (cl : List (Str × Addr)) (fp : List Addr), PTs (X.blk s H scope (compEnvC scope cl C X.env) fp) ifs tt
  pk : ∀ (s : Shared) (H : Hp) (C : Addr) (cl : List (Str × Addr)) (fp : List Addr), PE (X.blk s H scope (compEnvC scope cl C X.env) fp) kx tk
  pv : ∀ (s : Shared) (H : Hp) (C : Addr) (cl : List (Str × Addr)) (fp : List Addr), PE (X.blk s H scope (compEnvC scope cl C X.env) fp) vx tv
/-- the loop, in its frame B: from W at the start to Qd at the end -/
theorem fc_loop {B : Cx} {pins : List (Addr × Obj)} {J : It} {fp : List Addr} {it D C : Addr} {tn : Nat → Heap → Prop} {W : Nat → Nat → Hp → Prop} {σ : L2.St} {Qd : Hp → Prop} {R : Result → Shared → Prop} {ce : Env} {vs : List Nat} {s3 : Shared} {H3 : Hp}
    (hB : B = X.blk s3 H3 scope ce fp) (hc : X.calm = true) (hu : X.A.units + 64 < cLine) (T : Turn X.prog X.w X.K tg J fp it tn) (pg : PG B tg g) (pt : PTs B ifs tt) (pk : PE B kx tk) (pv : PE B vx tv)
    (turns : FcTurns X.prog X.w D J g tt tk tv vs σ Qd W)
    (hx : ∀ {σ' : L2.St} {H' : Hp} {s' : Shared}, Inv B [] σ' H' s' → (∀ b ∈ fp, H' b = none) → ∀ b ∈ fp, FpOk B [] H' b) (hend : ∀ s' H', Inv B [] (wipe σ vs) H' s' → Qd H' → R (.ok .next) s')
    {n : Nat} {s4 : Shared} {H4 : Hp} (I4 : Inv B [] (wipe σ vs) H4 s4) (st4 : tn 0 s4.heap) (n4 : ∀ b ∈ fp, H4 b = none) (w4 : W 0 n H4) :
    codeAny (model X.prog X.w) X.A (.compLoop (.DictComp kx vx [⟨tg, iter, ifs, 0⟩] scope pos) 0 (.ref it) (.ref D) ce) R s4 := by
  subst hB
  refine L2.compLoop_anyD (fun n s' => ∃ i H', Inv (X.blk s3 H3 scope ce fp) [] (wipe σ vs) H' s' ∧ tn i s'.heap ∧ (∀ b ∈ fp, H' b = none) ∧ W i n H') (fun n s5 z => ?_) n ⟨0, H4, I4, st4, n4, w4⟩
  obtain ⟨i, H5, I5, st5, n5, w5⟩ := z
  rcases turns i n H5 w5 with ⟨stop, qd⟩ | ⟨go, Nx, hNx, step⟩
  · refine thnF (T.done (X.blk s3 H3 scope ce fp) rfl rfl rfl hc i [] s5 _ H5 (fun _ _ => False) I5 (hx I5 n5) st5 stop) ?_
    rintro r s6 ⟨rfl, I6⟩
    exact hend s6 H5 I6 qd
  refine thnF (T.item (X.blk s3 H3 scope ce fp) rfl rfl rfl hc i [] s5 _ H5 (fun _ _ => False) I5 (hx I5 n5) st5 go) ?_
  rintro r s6 ⟨u, rfl, h6⟩
  refine thnF h6 ?_
  rintro _ s7 ⟨x, H7, I7, r7, y7, st7, n7⟩
  have P7 := I7.pinned (hx I7 n7) (T.obj _ _ st7)
  refine thnF (pg.run _ s7 _ H7 x u _ P7 r7 (step x H7 y7)) ?_
  rintro _ s8 ⟨σ8, H8, I8, hw, q8⟩
  refine thnF (pt.run _ s8 σ8 H8 _ I8 q8) ?_
  rintro b s9 ⟨H9, I9, q9⟩
  have ended : ∀ {s' : Shared} {H' : Hp}, Inv (X.blk s3 H3 scope ce fp) ([] ++ pinsAt fp s7.heap) σ8 H' s' → Nx H' →
      ∃ m, m < n ∧ ∃ i H', Inv (X.blk s3 H3 scope ce fp) [] (wipe σ vs) H' s' ∧ tn i s'.heap ∧ (∀ b ∈ fp, H' b = none) ∧ W i m H' := by
    intro s' H' J' nx
    obtain ⟨m', hm, w'⟩ := hNx H' nx
    have still : ∀ b ∈ fp, ∀ o, s7.heap.get? b = some o → s'.heap.get? b = some o ∧ H' b = none := by
      intro b hb o e
      have z := J'.pin (b, o) (List.mem_append_right _ (List.mem_append_right _ (mem_pinsAt hb e)))
      exact ⟨z.1, z.2.1⟩
    refine ⟨m', hm, i + 1, H', (J'.unpinned (pins := [])).weak (by rw [← hw, wipe_length]) (fun j v e => ?_), T.keep _ _ _ st7 fun b hb o e => (still b hb o e).1, fun b hb => ?_, w'⟩
    · rw [← hw] at e
      exact (wipe_some e).1
    · obtain ⟨o, e, _⟩ := T.obj _ _ st7 b hb
      exact (still b hb o e).2
  unfold FcEnd at q9
  cases b with
  | false => exact ended I9 q9
  | true =>
    refine thnF (pk.run _ s9 σ8 H9 _ I9 q9) ?_
    rintro zk s10 ⟨yk, H10, I10, r10, q10⟩
    refine thnF (pv.run _ s10 σ8 H10 _ I10 q10) ?_
    rintro zv s11 ⟨yv, H11, I11, r11, kvs, a, f, rfl, F11, K11, hl, nx⟩
    obtain rfl : zk = Value.ref a := r10
    obtain ⟨xs, rr, DD⟩ := F11.of I11.hok
    have e := Paired.length rr
    refine wpAny_dictSet_heap (hsz := by omega) (by show X.A.units + 8 < cLine; omega) (fact_is I11.hok K11) DD fun h' D' hs => ?_
    obtain ⟨o', I', F'⟩ := FD.stored (X := X.blk s3 H3 scope ce fp) (t' := s11.toks + (nestedKind X.prog X.w).draws (keyF f)) I11 F11 K11 r11 hl rr D' hs
    exact ended I' (nx o' F')
/-- up to the loop: the new dict, the comprehension's own frame -/
theorem fc_core {pins : List (Addr × Obj)} {s : Shared} {σ : L2.St} {H : Hp} {Q : VK} {use : Option (Value → Sem Unit)} {Qf : Value → Shared → Prop}
    (hc : X.calm = true) (hu : X.A.units + 64 < cLine) (hN : X.N.Nodup) (I : Inv X pins σ H s) (hi : PI X tg iter wi) (ok : BlkOk X.N X.env.scope scope own) (G : FcParts X scope tg kx vx ifs g tt tk tv)
    (hs : ∀ x, foldedSetIterable iter X.env x = pure x) (h : tFc X.prog X.w wi g tt tk tv (own.map (·.2)) σ H Q)
    (hRR : ∀ D C s' m H', Inv X pins σ H' s' → Q (.ref D) H' → s'.heap.Ns C m → FpOk X pins H' C → compPost (model X.prog X.w) X.A X.xe use Qf (.ref D) C (.ok .next) s') :
    wpAny (model X.prog X.w) X.A (comprehension (.DictComp kx vx [⟨tg, iter, ifs, 0⟩] scope pos) scope X.env pos' newDict false (eval iter X.env) use) Qf X.xe s := by
  have bound : ∀ y ∈ scope.names, y.2 = .free → ∃ c, X.env.cells.lookup y.1 = some c := by
    intro y hy e
    rcases ok.free y hy e with k | k
    · exact I.ok.has _ (.inl k)
    · exact I.ok.has _ (.inr k)
  have walked := thn (hi.run pins s σ H _ I h) (Q' := fun v s1 => wpAny (model X.prog X.w) X.A (pyIter v) (PIE X pins σ tg (fun J H1 => ∀ D o0, H1 D = none → FD X.prog X.w (upd H1 D o0) D [] → ∃ W : Nat → Nat → Hp → Prop, (∃ m, W 0 m (upd H1 D o0)) ∧ FcTurns X.prog X.w D J g tt tk tv (own.map (·.2)) σ (Q (.ref D)) W)) X.xe s1) fun _ _ z => z
  refine wpAny_comprehension_free (use := use) rfl hs (closure_ok bound) ok.kind (fun y hy e => by rw [ok.uniq y hy, e]) (thn walked fun xv s1 hx => thn hx fun itv s2 h2 => ?_)
  obtain ⟨it, fp, tn, J, H2, rfl, I2, T, st2, f2, q⟩ := h2
  have fresh : H2 s2.heap.objs.size = none := I2.hok.fresh (Nat.le_refl _)
  obtain ⟨W, ⟨m0, w0⟩, turns⟩ := q _ _ fresh (fd_empty I2.big)
  have I3 : Inv X pins σ (upd H2 s2.heap.objs.size (obO s2.heap.objs.size newO)) { s2 with heap := s2.heap.push newO } :=
    I2.laid (t' := s2.toks) (fun _ _ e => Heap.get?_push_of_some _ e) (Nat.le_refl _) (ob_new (Heap.get?_push_size _ rfl))
  have old : ∀ b ∈ fp, b < s2.heap.objs.size := by
    intro b hb
    obtain ⟨o, e, _⟩ := T.obj _ _ st2 b hb
    exact Heap.lt_size e
  have f3 : ∀ b ∈ fp, FpOk X pins (upd H2 s2.heap.objs.size (obO s2.heap.objs.size newO)) b ∧ b < (s2.heap.push newO).objs.size := by
    intro b hb
    have lt := old b hb
    refine ⟨⟨?_, (f2 b hb).2⟩, by rw [Heap.size_push]; exact Nat.lt_succ_of_lt lt⟩
    rw [upd_ne (Nat.ne_of_lt lt)]
    exact (f2 b hb).1
  have st3 : tn 0 (s2.heap.push newO) := T.keep _ _ _ st2 fun b _ o e => Heap.get?_push_of_some _ e
  refine wpAny_newObj_type (newEnv_comp ?_)
  show codeAny _ _ (.compStart (.DictComp kx vx [⟨tg, iter, ifs, 0⟩] scope pos) 0 (.ref it) (.ref s2.heap.objs.size) (compEnvC scope (cellsFrom ((s2.heap.push newO).objs.size + 1) scope.names (cloFrom X.env.cells scope.names [])) (s2.heap.push newO).objs.size X.env))
    (compPost (model X.prog X.w) X.A X.xe use Qf (.ref s2.heap.objs.size) (s2.heap.push newO).objs.size) { s2 with heap := pushCells ((s2.heap.push newO).push { cls := .type "dict", data := .dict #[] }) scope.names }
  generalize hs3 : ({ s2 with heap := s2.heap.push newO } : Shared) = s3 at I3
  have h3 : s3.heap = s2.heap.push newO := by rw [← hs3]
  rw [← h3] at f3 st3 ⊢
  generalize s2.heap.objs.size = D at *
  generalize hH3 : upd H2 D (obO D newO) = H3 at I3 f3 w0
  have I4 := block_start I3 ok hN f3
  have pg := G.pg s3 H3 s3.heap.objs.size (cellsFrom (s3.heap.objs.size + 1) scope.names (cloFrom X.env.cells scope.names [])) fp
  have pt := G.pt s3 H3 s3.heap.objs.size (cellsFrom (s3.heap.objs.size + 1) scope.names (cloFrom X.env.cells scope.names [])) fp
  have pk := G.pk s3 H3 s3.heap.objs.size (cellsFrom (s3.heap.objs.size + 1) scope.names (cloFrom X.env.cells scope.names [])) fp
  have pv := G.pv s3 H3 s3.heap.objs.size (cellsFrom (s3.heap.objs.size + 1) scope.names (cloFrom X.env.cells scope.names [])) fp
  generalize hce : compEnvC scope (cellsFrom (s3.heap.objs.size + 1) scope.names (cloFrom X.env.cells scope.names [])) s3.heap.objs.size X.env = ce at I4 pg pt pk pv ⊢
  have cL : ce.locals = s3.heap.objs.size := by
    rw [← hce]
    rfl
  have e4 : ({ s2 with heap := pushCells (s3.heap.push { cls := .type "dict", data := .dict #[] }) scope.names } : Shared) = { s3 with heap := pushCells (s3.heap.push { cls := .type "dict", data := .dict #[] }) scope.names } := by rw [← hs3]
  rw [e4]
  have st4 : tn 0 (pushCells (s3.heap.push { cls := .type "dict", data := .dict #[] }) scope.names) := T.keep _ _ _ st3 fun b _ o e => pushCells_keeps _ _ _ _ (Heap.get?_push_of_some _ e)
  have mine : ∀ {σ' : L2.St} {H' : Hp} {s' : Shared}, Inv (X.blk s3 H3 scope ce fp) [] σ' H' s' → (∀ b ∈ fp, H' b = none) → ∀ b ∈ fp, FpOk (X.blk s3 H3 scope ce fp) [] H' b := by
    intro σ' H' s' J' n b hb
    exact ⟨n b hb, (J'.ok.exf b hb).1, J'.ok.exfs b hb, .inl hb, fun x c e => (J'.ok.exf b hb).2 x c e, fun p hp => nomatch (show p ∈ ([] : List (Addr × Obj)) ++ [] from hp)⟩
  have out : ∀ s' H', Inv (X.blk s3 H3 scope ce fp) [] (wipe σ (own.map (·.2))) H' s' → Q (.ref D) H' → compPost (model X.prog X.w) X.A X.xe use Qf (.ref D) s3.heap.objs.size (.ok .next) s' := by
    intro s' H' J' qd
    have back : Inv X pins σ H' s' := I3.call' (ch := fp) J'.os J'.base J'.hok J'.bare fun b hb => ⟨(f3 b hb).1.2.2.2.1, (f3 b hb).1.2.1, (f3 b hb).1.2.2.2.2.1, (f3 b hb).1.2.2.2.2.2⟩
    have nC : H' s3.heap.objs.size = none := by
      have z : H' ce.locals = none := J'.free
      rw [cL] at z
      exact z
    obtain ⟨m, hn, _⟩ := J'.loc
    have hn : s'.heap.Ns ce.locals m := hn
    rw [cL] at hn
    exact hRR D _ s' m H' back qd hn (I3.fpOk (Nat.le_refl _) nC)
  have loop := fc_loop (C := s3.heap.objs.size) (pins := pins) (kx := kx) (vx := vx) (tg := tg) (iter := iter) (ifs := ifs) (scope := scope) (pos := pos) (D := D) (it := it) rfl hc hu T pg pt pk pv turns mine out I4 st4 (fun b hb => (f3 b hb).1.1) w0
  exact codeAny_compStart_dict loop (T.self X.A 0 _ _ _ st4 loop)
/-- as a value -/
theorem pe_fc (hc : X.calm = true) (hu : X.A.units + 64 < cLine) (hN : X.N.Nodup) (hi : PI X tg iter wi) (ok : BlkOk X.N X.env.scope scope own) (G : FcParts X scope tg kx vx ifs g tt tk tv) (hs : ∀ x, foldedSetIterable iter X.env x = pure x := by intro _; rfl) :
    PE X (.DictComp kx vx [⟨tg, iter, ifs, 0⟩] scope pos) (tFc X.prog X.w wi g tt tk tv (own.map (·.2))) := by
  refine ⟨fun pins s σ H Q I h => ?_⟩
  rw [arm_eval_DictComp]
  refine fc_core hc hu hN I hi ok G hs h fun D C s' m H' J q hn f => ⟨m, hn, fun h'' sb => ?_⟩
  obtain ⟨f0, f1, f2, f3, f4, f5⟩ := f
  exact ⟨.ref D, H', J.turned (t' := s'.toks) (fun b o hb e => (sb.2 b hb).trans e) f0 f1 f3 f4 f5, rfl, q⟩
/-- the turns of a comprehension over a walk, by what holds ahead of each -/
theorem fc_it {J : It} {n : Nat} {Gd : Hp → Prop} {Y : Nat → Hp → V → Hp → Prop} (w : Walk J n Gd Y) {P : Program} {wd : World} {vs : List Nat} {σ : L2.St} {H1 : Hp} {D : Addr} {Qd : Hp → Prop} (Pv : Nat → Hp → Prop) (h0 : Pv 0 H1) (hG : ∀ i H, i ≤ n → Pv i H → Gd H)
    (hs : ∀ i x H H', i < n → Pv i H → Y i H x H' → g x (wipe σ vs) H' fun σ2 H2 => wipe σ2 vs = wipe σ vs ∧ tt σ2 H2 (FcEnd P wd D tk tv (Pv (i + 1)) σ2)) (hd : ∀ H, Pv n H → Qd H) :
    ∃ W : Nat → Nat → Hp → Prop, (∃ m, W 0 m H1) ∧ FcTurns P wd D J g tt tk tv vs σ Qd W := by
  refine ⟨fun i m H => m = n - i ∧ i ≤ n ∧ Pv i H, ⟨n, rfl, Nat.zero_le _, h0⟩, ?_⟩
  rintro i m H ⟨rfl, hi, p⟩
  have gd := hG i H hi p
  by_cases lt : i < n
  · refine .inr ⟨w.1 i H lt gd, Pv (i + 1), fun H' p' => ⟨n - (i + 1), by omega, rfl, lt, p'⟩, fun x H' y => ?_⟩
    exact hs i x H H' lt p (w.3 i H x H' lt gd y)
  · have e : i = n := by omega
    subst e
    exact .inl ⟨w.2 H gd, hd H p⟩
end
end YjD
set_option Elab.async false
set_option linter.all false
set_option maxRecDepth 100000
set_option maxHeartbeats 1000000
set_option pp.maxSteps 1500
/-! name = {fact: value for ..}; == of dicts of facts. -/
namespace YjD
open PySem PySem.Spec PyProof.Rows L2
section
variable {X : Cx} {kx vx tg iter : Expr} {ifs : List Expr} {scope : Scope} {own : List (Str × Nat)} {pos spos py : Pos} {wi : TI} {g : TG} {tt : TT} {tk tv : TE} {i : Nat} {y : Str}
theorem ps_setFc (hc : X.calm = true) (hu : X.A.units + 64 < cLine) (hN : X.N.Nodup) (hy : X.N[i]? = some y) (hyl : X.env.scope.names.lookup y = some .local)
    (hsw : swapsWith (.DictComp kx vx [⟨tg, iter, ifs, 0⟩] scope pos) (some (.Name y py)) spos.line X.env = pure true) (hi : PI X tg iter wi) (ok : BlkOk X.N X.env.scope scope own) (G : FcParts X scope tg kx vx ifs g tt tk tv)
    (hs : ∀ x, foldedSetIterable iter X.env x = pure x := by intro _; rfl) :
    PS X (.Assign [.Name y py] (.DictComp kx vx [⟨tg, iter, ifs, 0⟩] scope pos) spos) (tAsg (tFc X.prog X.w wi g tt tk tv (own.map (·.2))) (gName i)) := by
  refine ⟨fun pins s σ H D I h => ?_⟩
  have h0 : tFc X.prog X.w wi g tt tk tv (own.map (·.2)) σ H (fun x H1 => gName i x σ H1 D.nx) := h
  have stored : ∀ L C s' m H', Inv X pins σ H' s' → gName i (V.ref L) σ H' D.nx → s'.heap.Ns C m → FpOk X pins H' C →
      compPost (model X.prog X.w) X.A X.xe (some (assign (.Name y py) X.env)) (fun _ s' => SP X pins D .next s') (.ref L) C (.ok .next) s' := by
    intro L C s' m H' J q hn f
    obtain ⟨f0, f1, f2, f3, f4, f5⟩ := f
    show wpAny _ _ (assign (.Name y py) X.env (.ref L)) _ _ _
    refine wpAny_assign_Name (store_ok2 (v := V.ref L) J hN hy (.inl hyl) rfl (fun s2 I2 z => ?_) (.inr hyl))
    obtain ⟨a, sb, ha⟩ := z
    have apart : C ≠ a := by
      rcases ha with z | z
      · rw [z]
        exact f1
      · exact fun e => f4 y a z e.symm
    refine ⟨m, hn.sameBut sb apart, fun h3 sb3 => ?_⟩
    exact ⟨_, H', I2.turned (t' := s2.toks) (fun b o hb e => (sb3.2 b hb).trans e) f0 f1 f3 f4 f5, q⟩
  rw [exec_Assign_Name_used _ _ _ _ hsw]
  refine wpAny_bind (wpAny_standAt (wpAny_bind ?_))
  refine wpAny_bind (thn (fc_core (use := some (assign (.Name y py) X.env)) (pos' := firstIterPos [⟨tg, iter, ifs, 0⟩] pos) hc hu hN I hi ok G hs h0 stored) fun _ s' hq => ?_)
  exact wpAny_pure (wpAny_pure hq)
theorem sw_dc {env : Env} {l : Nat} (kd : env.scope.kind = .function) (lo : env.scope.names.lookup y = some .local) (ln : (py.line == pos.line) = true)
    (no : (scope.names.any fun (n, k) => n == y && (k == .local || k == .cell)) = false) : swapsWith (.DictComp kx vx [⟨tg, iter, ifs, 0⟩] scope pos) (some (.Name y py)) l env = pure true := by
  have k1 : env.kindOf y = some .local := lo
  have k2 : env.blockKind = .function := by
    unfold Env.blockKind
    rw [kd]
    rfl
  unfold swapsWith
  simp only [k2, k1, no, Expr.pos, ln]
  rfl
end
end YjD
set_option Elab.async false
set_option linter.all false
set_option maxRecDepth 100000
set_option maxHeartbeats 1000000
set_option pp.maxSteps 1500
/-! == of dicts of facts. -/
namespace YjD
open PySem PySem.Spec PyProof.Rows L2
section
variable {prog : Program} {w : World} {A : Around} {E : Value → Shared → Prop} {s : Shared} {T : Type} [DecidableEq T] {knd : HeapKind prog w T}
/-- all pairs of one are the other's: e tells of each key whether both values are equal -/
def allIn (xb : List (T × Addr × Value)) (e : T → Bool) (xa : List (T × Addr × Value)) : Bool := xa.all fun x => (atKey xb x.1).isSome && e x.1
theorem pairs_facts {nm : String} {a b : Addr} {xa xb : List (T × Addr × Value)} {e : T → Bool} {Q : Bool → Shared → Prop} (ha : (a == sysModules) = false) (hb : (b == sysModules) = false) (hu : knd.room A) (da : s.heap.DictOfH knd a xa) (db : s.heap.DictOfH knd b xb)
    (eq : ∀ x ∈ xa, ∀ p, atKey xb x.1 = some p → SeqAt.EqP prog w A s x.2.2 p.2 (e x.1)) (h : Q (xa.length == xb.length && allIn xb e xa) s) : wpAny (model prog w) A (Builtin.Dict.samePairs nm a b) Q E s := by
  obtain ⟨oa, es, ep, hoa, _, hda, hea, hia, hna⟩ := da
  obtain ⟨ob, es', ep', hob, _, hdb, heb, hib, hnb⟩ := db
  have la := size_of_entries hea
  have lb := size_of_entries heb
  rw [← la, ← lb] at h
  unfold Builtin.Dict.samePairs Builtin.Dict.showsAll
  rw [if_neg (by rw [ha]; exact Bool.false_ne_true), if_neg (by rw [hb]; exact Bool.false_ne_true)]
  refine wpAny_bind (wpAny_pure (wpAny_bind (wpAny_pure (wpAny_bind (wpAny_dictEntries hoa hda ?_)))))
  dsimp only
  refine wpAny_bind (wpAny_dictEntries hob hdb ?_)
  by_cases hsz : es.size = es'.size
  case neg =>
    rw [if_pos (by simpa using hsz)]
    rw [show (es.size == es'.size) = false by simpa using hsz, Bool.false_and] at h
    exact wpAny_bind (wpAny_rule (wpAny_pure h))
  rw [show (es.size == es'.size) = true by simpa using hsz, Bool.true_and] at h
  rw [if_neg (by rw [hsz]; simp)]
  refine wpAny_bind (wpAny_dictEpoch hoa hda (wpAny_bind ?_))
  rw [Std.Legacy.Range.forIn_eq_forIn_range']
  simp only [Std.Legacy.Range.size, Nat.sub_zero, Nat.add_sub_cancel, Nat.div_one]
  have cut : ∀ {x i : Nat} {rest : List Nat}, x :: rest = List.range' i (es.size - i) → i < es.size ∧ x = i ∧ rest = List.range' (i + 1) (es.size - (i + 1)) := by
    intro x i rest hr
    have lt : i < es.size := by
      rcases Nat.lt_or_ge i es.size with z | z
      · exact z
      · rw [Nat.sub_eq_zero_of_le z] at hr
        cases hr
    rw [show es.size - i = (es.size - (i + 1)) + 1 by omega, List.range'_succ] at hr
    injection hr with h1 h2
    exact ⟨lt, h1, h2⟩
  refine wpAny_forIn_list _ (fun rest q s' => s' = s ∧ q = (none, ()) ∧ ∃ i, rest = List.range' i (es.size - i) ∧ i ≤ es.size ∧ Q (allIn xb e (xa.drop i)) s) _ ?_ ?_ _ _ ⟨rfl, rfl, 0, by simp, Nat.zero_le _, h⟩
  · rintro x rest q s' ⟨rfl, rfl, i, hr, hi, hq⟩
    obtain ⟨lt, rfl, hrest⟩ := cut hr
    have lt' : x < xa.length := by omega
    have hx : xa[x]? = some xa[x] := List.getElem?_eq_getElem lt'
    have ent := entry_at hea x
    rw [Array.getElem?_eq_getElem lt, hx, Option.map_some] at ent
    have ent := Option.some.inj ent
    rw [List.drop_eq_getElem_cons lt'] at hq
    have memx : xa[x] ∈ xa := List.getElem_mem lt'
    refine wpAny_bind (wpAny_dictEntries hoa hda ?_)
    rw [Array.getElem?_eq_getElem lt]
    show wpAny _ _ (holding [es[x].key, es[x].val] _ >>= _) _ _ _
    rw [ent]
    generalize xa[x] = y at hq memx
    have step : ∀ p, atKey xb y.1 = some p → SeqAt.EqP prog w A s' y.2.2 p.2 (e y.1) := eq y memx
    refine wpAny_bind (wpAny_holding (wpAny_bind ?_))
    show wpAny _ _ (dictFind b (.ref y.2.1) (knd.hash y.1)) _ _ _
    refine wpAny_dictFind_heap hu (hia y memx) hob hdb heb hib hnb (fun hno => ?_) (fun j p hj => ?_)
    · refine wpAny_pure ?_
      show wpAny _ _ (if (!false) = true then _ else _) _ _ _
      rw [if_pos (by decide)]
      have z : allIn xb e (y :: xa.drop (x + 1)) = false := by
        show ((atKey xb y.1).isSome && e y.1 && _) = false
        rw [atKey_none_of_get hno]
        rfl
      rw [z] at hq
      exact wpAny_pure (wpAny_pure hq)
    · have hp := atKey_of_get hnb hj
      refine wpAny_bind (wpAny_dictEntries hob hdb ?_)
      have ent2 := entry_at heb j
      rw [hj, Option.map_some] at ent2
      rw [ent2]
      refine wpAny_holding (step p hp _ _ ?_)
      have z : allIn xb e (y :: xa.drop (x + 1)) = (e y.1 && allIn xb e (xa.drop (x + 1))) := by
        show ((atKey xb y.1).isSome && e y.1 && _) = _
        rw [hp]
        rfl
      rw [z] at hq
      cases ee : e y.1 with
      | false =>
        rw [ee, Bool.false_and] at hq
        show wpAny _ _ (if (!false) = true then _ else _) _ _ _
        rw [if_pos (by decide)]
        exact wpAny_pure (wpAny_pure hq)
      | true =>
        rw [ee, Bool.true_and] at hq
        show wpAny _ _ (if (!true) = true then _ else _) _ _ _
        rw [if_neg (by decide)]
        refine wpAny_bind (wpAny_dictEpoch hoa hda ?_)
        rw [if_neg (by simp)]
        exact wpAny_pure ⟨rfl, rfl, x + 1, hrest, lt, hq⟩
  · rintro q s' ⟨rfl, rfl, i, hr, hi, hq⟩
    have full : i = es.size := by
      rcases Nat.lt_or_ge i es.size with z | z
      · rw [show es.size - i = (es.size - (i + 1)) + 1 by omega, List.range'_succ] at hr
        cases hr
      · exact Nat.le_antisymm hi z
    refine wpAny_pure ?_
    rw [full, la, List.drop_length] at hq
    exact hq
/-- what == and != answer, whichever it is -/
theorem cmp_facts {a b : Addr} {xa xb : List (T × Addr × Value)} {e : T → Bool} {Q : Value → Shared → Prop} (ha : (a == sysModules) = false) (hb : (b == sysModules) = false) (hr : knd.room A.in1) (hu : A.units < cLine) (da : s.heap.DictOfH knd a xa) (db : s.heap.DictOfH knd b xb)
    (eq : ∀ x ∈ xa, ∀ p, atKey xb x.1 = some p → SeqAt.EqP prog w A.in1 s x.2.2 p.2 (e x.1)) :
    (Q (.bool (xa.length == xb.length && allIn xb e xa)) s → wpAny (model prog w) A (compareOp .Eq (.ref a) (.ref b)) Q E s) ∧
    (Q (.bool (!(xa.length == xb.length && allIn xb e xa))) s → wpAny (model prog w) A (compareOp .NotEq (.ref a) (.ref b)) Q E s) := by
  constructor
  · intro h
    refine wpAny_richCompare_same_room (op := .Eq) da.typeIs db.typeIs PySem.F.slot_dict_eq (wpAny_call_entry PySem.F.slot_dict_eq da.typeIs PySem.F.entry_dict_eq ?_ (PySem.F.args_dict_eq_2 _ _)) hu
    show wpAny _ _ (Builtin.Dict.dictSlotArgs "__eq__" ⟨[.ref a, .ref b], []⟩ >>= _) _ _ s
    unfold Builtin.Dict.dictSlotArgs
    refine wpAny_bind (wpAny_bind (wpAny_notOrdered_dict da.typeIs ?_))
    show wpAny _ _ (pure (Value.ref a, Value.ref b)) _ _ s
    refine wpAny_pure (wpAny_bind (wpAny_isInstance (T := "dict") db.typeIs PySem.F.sub_dict_dict ?_))
    simp only [Bool.not_true, Bool.false_eq_true, if_false]
    refine wpAny_bind (wpAny_pure (wpAny_bind (wpAny_pure (wpAny_bind (pairs_facts ha hb hr da db eq ?_)))))
    exact wpAny_pure ⟨_, rfl, (fun x => nomatch x), by simpa using h⟩
  · intro h
    refine wpAny_richCompare_same_room (op := .NotEq) da.typeIs db.typeIs PySem.F.slot_dict_ne (wpAny_call_entry PySem.F.slot_dict_ne da.typeIs PySem.F.entry_dict_ne ?_ (PySem.F.args_dict_ne_2 _ _)) hu
    show wpAny _ _ (Builtin.Dict.dictSlotArgs "__ne__" ⟨[.ref a, .ref b], []⟩ >>= _) _ _ s
    unfold Builtin.Dict.dictSlotArgs
    refine wpAny_bind (wpAny_bind (wpAny_notOrdered_dict da.typeIs ?_))
    show wpAny _ _ (pure (Value.ref a, Value.ref b)) _ _ s
    refine wpAny_pure (wpAny_bind (wpAny_isInstance (T := "dict") db.typeIs PySem.F.sub_dict_dict ?_))
    simp only [Bool.not_true, Bool.false_eq_true, if_false]
    refine wpAny_bind (wpAny_pure (wpAny_bind (wpAny_pure (wpAny_bind (pairs_facts ha hb hr da db eq ?_)))))
    exact wpAny_pure ⟨_, rfl, (fun x => nomatch x), by simpa using h⟩
end
theorem room128 {k : Nat} {A : Around} (r : Room k A) : A.units + 128 < cLine := by
  have := r.un
  omega
/-- whether two dicts of facts are equal, their values by data -/
def eqF (ka kb : List (Fct × V)) (da db : Fct → PyData) : Bool := ka.length == kb.length && ka.all fun p => (valV kb p.1).isSome && PyData.eqv (da p.1) (db p.1)
/-- the values of a dict of facts, as data -/
def DataF (K : PySem.W.Frag) (H : Hp) (ka : List (Fct × V)) (da : Fct → PyData) : Prop := ∀ p ∈ ka, Dp K H p.2 (da p.1) ∧ SeqAt.shaped (da p.1) = true
def rEqF (P : Program) (w : World) (K : PySem.W.Frag) (neg : Bool) : R2 := fun x y H Q => ∃ a b ka kb da db, x = .ref a ∧ y = .ref b ∧ FD P w H a ka ∧ FD P w H b kb ∧ DataF K H ka da ∧ DataF K H kb db ∧ Q (.bl (if neg then !eqF ka kb da db else eqF ka kb da db)) H
theorem valV_in {ka : List (Fct × V)} {f : Fct} {v : V} (h : valV ka f = some v) : (f, v) ∈ ka := by
  induction ka with
  | nil => cases h
  | cons p ps ih =>
    by_cases e : p.1 = f
    · rw [valV_pos e] at h
      have h := Option.some.inj h
      rw [← e, ← h]
      exact List.mem_cons_self ..
    · rw [valV_neg e] at h
      exact List.mem_cons_of_mem _ (ih h)
theorem FR.mem {H : Hp} {kvs : List (Fct × V)} {xs : List (NestedKey × Addr × Value)} (r : FR H kvs xs) : ∀ x ∈ xs, ∃ p ∈ kvs, keyF p.1 = x.1 ∧ RelV p.2 x.2.2 := by
  induction r with
  | nil =>
    intro x hx
    cases hx
  | cons a t ih =>
    intro x hx
    rcases List.mem_cons.mp hx with e | hx
    · rw [e]
      exact ⟨_, List.mem_cons_self .., a.1, a.2.2⟩
    · obtain ⟨p, hp, h⟩ := ih x hx
      exact ⟨p, List.mem_cons_of_mem _ hp, h⟩
theorem allIn_facts {H : Hp} {ka kb : List (Fct × V)} {xa xb : List (NestedKey × Addr × Value)} {e : NestedKey → Bool} (ra : FR H ka xa) (rb : FR H kb xb) : allIn xb e xa = ka.all fun p => (valV kb p.1).isSome && e (keyF p.1) := by
  induction ra with
  | nil => rfl
  | @cons p q ps qs a t ih =>
    show ((atKey xb q.1).isSome && e q.1 && allIn xb e qs) = ((valV kb p.1).isSome && e (keyF p.1) && ps.all _)
    have z := (rb.val p.1).isSome_eq
    rw [Option.isSome_map] at z
    rw [ih, ← a.1, z]
open Classical in
theorem cmp_F {X : Cx} {pins : List (Addr × Obj)} {σ : L2.St} {H : Hp} {s : Shared} (hu : X.A.units + 128 < cLine) (I : Inv X pins σ H s) {a b : Addr} {ka kb : List (Fct × V)} {da db : Fct → PyData} {Q : Value → Shared → Prop} (Fa : FD X.prog X.w H a ka) (Fb : FD X.prog X.w H b kb) (Da : DataF X.K H ka da) (Db : DataF X.K H kb db) :
    (Q (.bool (eqF ka kb da db)) s → wpAny (model X.prog X.w) X.A (compareOp .Eq (.ref a) (.ref b)) Q X.xe s) ∧ (Q (.bool (!eqF ka kb da db)) s → wpAny (model X.prog X.w) X.A (compareOp .NotEq (.ref a) (.ref b)) Q X.xe s) := by
  obtain ⟨xa, ra, A1⟩ := Fa.of I.hok
  obtain ⟨xb, rb, B1⟩ := Fb.of I.hok
  obtain ⟨e, he⟩ : ∃ e : NestedKey → Bool, ∀ f, e (keyF f) = PyData.eqv (da f) (db f) := by
    refine ⟨fun k => if h : ∃ f, keyF f = k then PyData.eqv (da h.choose) (db h.choose) else false, fun f => ?_⟩
    have h : ∃ g, keyF g = keyF f := ⟨f, rfl⟩
    dsimp only
    rw [dif_pos h, keyF_inj h.choose_spec]
  have e1 : (xa.length == xb.length && allIn xb e xa) = eqF ka kb da db := by
    unfold eqF
    rw [allIn_facts ra rb, Paired.length ra, Paired.length rb]
    congr 1
    refine congrArg _ (funext fun p => ?_)
    rw [he]
  rw [← e1]
  refine cmp_facts Fa.sys Fb.sys (by show X.A.units + 1 + 8 < cLine; omega) (by omega) A1 B1 fun x hx p hp => ?_
  obtain ⟨q, hq, k1, r1⟩ := ra.mem x hx
  have z := rb.val q.1
  rw [k1, hp] at z
  obtain ⟨v, hv, r2⟩ : ∃ v, valV kb q.1 = some v ∧ RelV v p.2 := by
    cases ev : valV kb q.1 with
    | none =>
      rw [ev] at z
      exact z.elim
    | some v =>
      rw [ev] at z
      exact ⟨v, rfl, z⟩
  obtain ⟨d1, s1⟩ := Da q hq
  obtain ⟨d2, s2⟩ := Db _ (valV_in hv)
  obtain ⟨as, w1⟩ := Dp.reads I _ q.2 _ d1 r1
  obtain ⟨bs, w2⟩ := Dp.reads I _ v _ d2 r2
  rw [← k1, he]
  exact (PySem.W.keq_at (A := X.A) w1 w2 s1 s2 (by show X.A.units + 1 + 64 < cLine; omega)).eqP
section
variable {X : Cx}
theorem op_eqF (hu : X.A.units + 128 < cLine) : OpR X (compareOp .Eq) (rEqF X.prog X.w X.K false) := by
  intro pins s σ H x y v u Q I rx ry h
  obtain ⟨a, b, ka, kb, da, db, rfl, rfl, Fa, Fb, Da, Db, q⟩ := h
  obtain rfl : v = Value.ref a := rx
  obtain rfl : u = Value.ref b := ry
  exact (cmp_F hu I Fa Fb Da Db).1 ⟨.bl _, H, I, rfl, q⟩
theorem op_neF (hu : X.A.units + 128 < cLine) : OpR X (compareOp .NotEq) (rEqF X.prog X.w X.K true) := by
  intro pins s σ H x y v u Q I rx ry h
  obtain ⟨a, b, ka, kb, da, db, rfl, rfl, Fa, Fb, Da, Db, q⟩ := h
  obtain rfl : v = Value.ref a := rx
  obtain rfl : u = Value.ref b := ry
  exact (cmp_F hu I Fa Fb Da Db).2 ⟨.bl _, H, I, rfl, q⟩
end
end YjD
set_option Elab.async false
set_option linter.all false
set_option maxRecDepth 100000
set_option maxHeartbeats 1000000
set_option pp.maxSteps 1500
/-! The same rules by names of the program, the world and the written part: for a comprehension's block. -/
namespace YjD
open PySem PySem.Spec PyProof.Rows L2
section
variable {X : Cx} {P : Program} {w : World} {K : PySem.W.Frag} {a e k tg : Expr} {ta te tk : TE} {pos apos cpos : Pos} {f : Str}
theorem pe_fldK (he : PE X e ta) (hb : attributeBase e f X.env (eval e X.env) = eval e X.env) (hK : X.K = K := by rfl) : PE X (.Attribute e f pos) (tFld K ta f) := by
  subst hK
  exact pe_fld he hb
theorem pe_fgetK (hu : X.A.units + 64 < cLine) (ho : PE X a ta) (hi : PE X k tk) (hs : NoSl k) (hP : X.prog = P := by rfl) (hw : X.w = w := by rfl) : PE X (.Subscript a k pos) (tFGet P w ta tk) := by
  subst hP hw
  exact pe_fget hu ho hi hs
theorem pe_forK (hu : X.A.units + 64 < cLine) (ho : PE X a ta) (hk : PE X k tk) (he : PE X e te) (m : M2 X a "get" apos k e cpos) (hP : X.prog = P := by rfl) (hw : X.w = w := by rfl) : PE X (.Call (.Attribute a "get" apos) [k, e] [] cpos) (tFOr P w ta tk te) := by
  subst hP hw
  exact pe_for hu ho hk he m
theorem op_inFK (hu : X.A.units + 64 < cLine) (hP : X.prog = P := by rfl) (hw : X.w = w := by rfl) : OpR X (compareOp .In) (rInF P w false) := by
  subst hP hw
  exact op_inF hu
theorem op_eqDK (hu : X.A.units + 64 < cLine) (hK : X.K = K := by rfl) : OpR X (compareOp .Eq) (rEqD K) := by
  subst hK
  exact op_eqD hu
theorem op_neDK (hu : X.A.units + 64 < cLine) (hK : X.K = K := by rfl) : OpR X (compareOp .NotEq) (rNeD K) := by
  subst hK
  exact op_neD hu
theorem op_inDK (hu : X.A.units + 65 < cLine) (hK : X.K = K := by rfl) : OpR X (compareOp .In) (rInD K) := by
  subst hK
  exact op_inD hu
theorem pi_factsK (ha : PE X e te) (hP : X.prog = P := by rfl) (hw : X.w = w := by rfl) : PI X tg e (iFacts P w te) := by
  subst hP hw
  exact pi_facts ha
theorem set_factK (hu : X.A.units + 64 < cLine) (hP : X.prog = P := by rfl) (hw : X.w = w := by rfl) : PSet X (tSetF P w) := by
  subst hP hw
  exact set_fact hu
theorem cr_sortFK (hc : X.calm = true) (hu : X.A.units + 64 < cLine) (hP : X.prog = P := by rfl) (hw : X.w = w := by rfl) : CallR X (.builtin "sorted") (rSortF P w) := by
  subst hP hw
  exact cr_sortF hc hu
theorem call_listFK (hc : X.calm = true) (hP : X.prog = P := by rfl) (hw : X.w = w := by rfl) : CallR X (.type "list") (rListF P w) := by
  subst hP hw
  exact call_listF hc
theorem op_eqFK (hu : X.A.units + 128 < cLine) (hP : X.prog = P := by rfl) (hw : X.w = w := by rfl) (hK : X.K = K := by rfl) : OpR X (compareOp .Eq) (rEqF P w K false) := by
  subst hP hw hK
  exact op_eqF hu
theorem op_neFK (hu : X.A.units + 128 < cLine) (hP : X.prog = P := by rfl) (hw : X.w = w := by rfl) (hK : X.K = K := by rfl) : OpR X (compareOp .NotEq) (rEqF P w K true) := by
  subst hP hw hK
  exact op_neF hu
theorem call_isiKK (hK : X.K = K := by rfl) : CallR X (.builtin "isinstance") (rIsi K) := by
  subst hK
  exact call_isi
end
/-- a room for all of these rules -/
theorem room65 {k : Nat} {A : Around} (r : Room k A) : A.units + 65 < cLine := by
  have := r.un
  omega
end YjD
set_option Elab.async false
set_option linter.all false
set_option maxRecDepth 100000
set_option maxHeartbeats 1000000
set_option pp.maxSteps 1500
/-! A class with its own __eq__. -/
namespace YjD
open PySem PySem.Spec PyProof.Rows L2
/-- what the top has left of a class at C whose __eq__ is the def at f, and that has no __ne__ of its own -/
structure OwnEq (K : PySem.W.Frag) (C f : Addr) : Prop where
  at_ : PySem.W.findIn K (.ref C) "__eq__" = some (some (.ref f))
  fn : PySem.W.isFn K (.ref f) = true
  nf : PySem.W.notFirst K C (.ref C) = true
  nd : PySem.W.notFirst K C (.type "dict") = true
  ne : PySem.W.findIn K (.ref C) "__ne__" = some (some (.builtin "object.__ne__"))
  ob : PySem.W.mroIn K C (.type "object") = some true
/-- the turns of a dict comprehension with keys that are texts or ints, over a walk, by what holds ahead of each -/
theorem dc_it {J : It} {n : Nat} {Gd : Hp → Prop} {Y : Nat → Hp → V → Hp → Prop} (wk : Walk J n Gd Y) {g : TG} {tt : TT} {tk tv : TE} {vs : List Nat} {σ : L2.St} {H1 : Hp} {D : Addr} {Qd : Hp → Prop} (Pv : Nat → Hp → Prop) (h0 : Pv 0 (upd H1 D (.dK []))) (hG : ∀ i H, i ≤ n → Pv i H → Gd H)
    (hs : ∀ i x H H', i < n → Pv i H → Y i H x H' → g x (wipe σ vs) H' fun σ2 H2 => wipe σ2 vs = wipe σ vs ∧ tt σ2 H2 fun b H3 =>
      if b = true then tk σ2 H3 fun y H4 => tv σ2 H4 fun z H5 => ∃ kvs k, y = kV k ∧ H5 D = some (.dK kvs) ∧ kvs.length < sizeLine ∧ Pv (i + 1) (upd H5 D (.dK (putK kvs k z))) else Pv (i + 1) H3) (hd : ∀ H, Pv n H → Qd H) :
    ∃ W : Nat → Nat → Hp → Prop, (∃ m, W 0 m (upd H1 D (.dK []))) ∧ ∀ i m H, W i m H →
      (J.stop i H ∧ Qd H) ∨ (J.go i H ∧ ∃ Nx : Hp → Prop, (∀ H', Nx H' → ∃ m', m' < m ∧ W (i + 1) m' H') ∧ ∀ x H', J.yld i H x H' → g x (wipe σ vs) H' fun σ2 H2 => wipe σ2 vs = wipe σ vs ∧ tt σ2 H2 fun b H3 =>
        if b = true then tk σ2 H3 fun y H4 => tv σ2 H4 fun z H5 => ∃ kvs k, y = kV k ∧ H5 D = some (.dK kvs) ∧ kvs.length < sizeLine ∧ Nx (upd H5 D (.dK (putK kvs k z))) else Nx H3) := by
  refine ⟨fun i m H => m = n - i ∧ i ≤ n ∧ Pv i H, ⟨n, rfl, Nat.zero_le _, h0⟩, ?_⟩
  rintro i m H ⟨rfl, hi, p⟩
  have gd := hG i H hi p
  by_cases lt : i < n
  · refine .inr ⟨wk.goes i H lt gd, Pv (i + 1), fun H' p' => ⟨n - (i + 1), by omega, rfl, lt, p'⟩, fun x H' y => ?_⟩
    exact hs i x H H' lt p (wk.yields i H x H' lt gd y)
  · have e : i = n := by omega
    subst e
    exact .inl ⟨wk.stops H gd, hd H p⟩
end YjD
set_option Elab.async false
set_option linter.all false
set_option maxRecDepth 100000
set_option maxHeartbeats 1000000
set_option pp.maxSteps 1500
/-! isinstance of a dict of facts; == and != of instances with an own __eq__; d.values(); a display of one fact. -/
namespace YjD
open PySem PySem.Spec PyProof.Rows L2
/-- isinstance(x, c), where x may be a dict of facts -/
def rIsiF (P : Program) (w : World) (K : PySem.W.Frag) : List V → Hp → VK → Prop := fun xs H Q => ∃ (x c : V) (t u : Value) (b : Bool), xs = [x, c] ∧ ClsV c u ∧ (TyX K H x t ∨ ∃ d kvs, x = .ref d ∧ FD P w H d kvs ∧ t = .type "dict") ∧ PySem.W.kitOne K t u = some b ∧ Q (.bl b) H
section
variable {X : Cx}
theorem call_isiF : CallR X (.builtin "isinstance") (rIsiF X.prog X.w X.K) := by
  intro pins s σ H xs us Q I r h
  obtain ⟨x, c, t, u, b, rfl, k, ty, e, q⟩ := h
  rcases ty with ty | ⟨d, kvs, rfl, F, rfl⟩
  · exact call_isi pins s σ H _ us Q I r ⟨x, c, t, u, b, rfl, k, ty, e, q⟩
  · obtain ⟨v, z, rfl, r1, r2⟩ := vals2 r
    obtain rfl : v = Value.ref d := r1
    obtain rfl := k.eq r2
    obtain ⟨_, _, D⟩ := F.of I.hok
    obtain ⟨o, _, _, h1, h2, _⟩ := D
    exact PySem.W.kia_one PySem.W.kitx_dict I.kIn ⟨o, h1, h2.1⟩ e (fun z => nomatch z) fun tk => ⟨.bl b, H, I.tok tk, rfl, q⟩
theorem call_isiFK {P : Program} {w : World} {K : PySem.W.Frag} (hP : X.prog = P := by rfl) (hw : X.w = w := by rfl) (hK : X.K = K := by rfl) : CallR X (.builtin "isinstance") (rIsiF P w K) := by
  subst hP hw hK
  exact call_isiF
/-! ### == and != by an own __eq__ -/
/-- the operand on the right: an instance of the same class, or a dict of facts -/
def RightOp (P : Program) (w : World) (C : Addr) (dct : Bool) (H : Hp) (y : V) : Prop := (∃ b dx fs, y = .ref b ∧ H b = some (.ins C dx fs)) ∨ (dct = true ∧ ∃ d kvs, y = .ref d ∧ FD P w H d kvs)
def rOwn (P : Program) (w : World) (C : Addr) (sp : Sp) (neg : Bool) : R2 := fun x y H Q => ∃ a dx fs, x = .ref a ∧ H a = some (.ins C dx fs) ∧ RightOp P w C (!neg) H y ∧ sp [x, y] H (fun v H' => ∃ r, v = .bl r ∧ Q (.bl (if neg then !r else r)) H') E0
theorem looks_cls {M : Model} {h : Heap} {a : Addr} {o : Obj} (e : h.get? a = some o) : PySem.W.Looks M h (typeOf (.ref a)) o.cls := (PySem.W.Looks.ld e).andThen .now
variable {k : Nat} {C f : Addr} {fd : FuncData} {ps : List Str} {sp : Sp}
/-- the call of the own __eq__, somewhere below -/
theorem own_call (F : FnOk X.prog X.w X.K X.mg X.base CX0 k f fd ps sp) (hb : Binds X.K fd ps []) {A : Around} (hr : Room k A) (hA : A.frames = X.A.frames) {pins : List (Addr × Obj)} {σ : L2.St} {H : Hp} {s : Shared} (I : Inv X pins σ H s) {x y : V} {u v : Value} (rx : RelV x u) (ry : RelV y v) {Q : VK} {R : Value → Shared → Prop}
    (h : sp [x, y] H Q E0) (hR : ∀ z H' w s', Inv X pins σ H' s' → RelV z w → Q z H' → R w s') : wpAny (model X.prog X.w) A (call (.ref f) [u, v]) R X.xe s := by
  have e0 : Env0 X.prog X.w X.K X.mg X.base A X.stack s H := by
    have e := I.env0
    exact ⟨by rw [hA]; exact e.frames, e.mod, e.bs, e.bsz, e.funs, e.frf, e.hok, e.bare⟩
  have hl := F.len _ _ _ _ h
  have bd := hb s [u, v] I.kIn (by simpa using hl)
  rw [List.append_nil] at bd
  refine wpAny_call (codeAny_mono (F.run A X.stack s H ⟨[u, v], []⟩ [u, v] [x, y] Q E0 hr e0 bd (.cons rx (.cons ry .nil)) h) fun r s' hq => ?_)
  cases r with
  | error e => exact pass0 pins σ H s e s' I hq
  | ok fl =>
    cases fl with
    | ret z =>
      obtain ⟨zz, H', I', rz, ez⟩ := I.after hq
      exact hR zz H' z s' I' rz ez
    | next => exact False.elim hq
    | brk => exact False.elim hq
    | cont => exact False.elim hq
theorem right_looks {dct : Bool} (O : OwnEq X.K C f) {pins : List (Addr × Obj)} {σ : L2.St} {H : Hp} {s : Shared} (I : Inv X pins σ H s) {y : V} {v : Value} (ry : RelV y v) (h : RightOp X.prog X.w C dct H y) :
    ∃ t, PySem.W.Looks (model X.prog X.w) s.heap (typeOf v) t ∧ PySem.W.notFirst X.K C t = true ∧ (dct = false → t = .ref C) := by
  rcases h with ⟨b, dx, fs, rfl, hb⟩ | ⟨e, d, kvs, rfl, F⟩
  · obtain rfl : v = Value.ref b := ry
    obtain ⟨mB, J, _⟩ := ins_get I.hok hb
    obtain ⟨od, J, _⟩ := J.look
    exact ⟨.ref C, J.type, O.nf, fun _ => rfl⟩
  · obtain rfl : v = Value.ref d := ry
    obtain ⟨_, _, D⟩ := F.of I.hok
    obtain ⟨o, _, _, h1, h2, _⟩ := D
    refine ⟨.type "dict", ?_, O.nd, fun z => ?_⟩
    · have z := looks_cls (M := model X.prog X.w) h1
      rw [h2.1] at z
      exact z
    · rw [e] at z
      cases z
theorem op_own (O : OwnEq X.K C f) (F : FnOk X.prog X.w X.K X.mg X.base CX0 k f fd ps sp) (hb : Binds X.K fd ps []) (hr : Room k X.A) : OpR X (compareOp .Eq) (rOwn X.prog X.w C sp false) := by
  intro pins s σ H x y v u Q I rx ry h
  obtain ⟨a, dx, fs, rfl, ha, hy, hsp⟩ := h
  obtain rfl : v = Value.ref a := rx
  obtain ⟨mA, J, _⟩ := ins_get I.hok ha
  obtain ⟨od, J, _⟩ := J.look
  obtain ⟨m, hF⟩ := I.fr
  obtain ⟨t, L, n, _⟩ := right_looks O I ry hy
  show wpAny (model X.prog X.w) X.A (richCompare .Eq (.ref a) u) (EP X pins σ Q) X.xe s
  refine PySem.W.cmp_K (op := .Eq) (tb := t) hr.units0 hF I.ok.mod.kin J L n O.at_ O.fn ?_
  refine own_call (x := .ref a) (u := .ref a) F hb hr rfl I rfl ry hsp fun z H' w s' I' rz hz => ?_
  obtain ⟨r, rfl, q⟩ := hz
  obtain rfl : w = Value.bool r := rz
  exact ⟨.bl r, H', I', rfl, q⟩
theorem op_nown (O : OwnEq X.K C f) (F : FnOk X.prog X.w X.K X.mg X.base CX0 k f fd ps sp) (hb : Binds X.K fd ps []) (hr : Room (k + 1) X.A) : OpR X (compareOp .NotEq) (rOwn X.prog X.w C sp true) := by
  intro pins s σ H x y v u Q I rx ry h
  obtain ⟨a, dx, fs, rfl, ha, hy, hsp⟩ := h
  obtain rfl : v = Value.ref a := rx
  obtain ⟨mA, J, _⟩ := ins_get I.hok ha
  obtain ⟨od, J, _⟩ := J.look
  have KI := I.kIn
  obtain ⟨t, L, n, ht⟩ := right_looks O I ry hy
  obtain rfl := ht rfl
  show wpAny (model X.prog X.w) X.A (richCompare .NotEq (.ref a) u) (EP X pins σ Q) X.xe s
  have inner : wpAny (model X.prog X.w) X.A.in1 (Builtin.«object.__ne__» ⟨[.ref a, u], []⟩) (fun fin s' => ∃ r, fin = .done (.ret (.bool (!r))) ∧ EP X pins σ Q (.bool (!r)) s') X.xe s := by
    unfold Builtin.«object.__ne__»
    refine wpAny_bind (m := slotArgs "__ne__" 1 ⟨[.ref a, u], []⟩) (wpAny_pure ?_)
    refine wpAny_bind (wpAny_cRoomFor (hr.in1).units0 ?_)
    refine wpAny_bind (PySem.W.ifBound_K KI J O.at_ O.fn (own_call (x := .ref a) (u := .ref a) F hb hr.in1 rfl I rfl ry hsp fun z H' w s' I' rz hz => ?_))
    obtain ⟨r, rfl, q⟩ := hz
    obtain rfl : w = Value.bool r := rz
    refine wpAny_bind (wpAny_truthy_bool ?_)
    exact wpAny_pure ⟨r, rfl, .bl (!r), H', I', rfl, q⟩
  have isObj : PySem.W.Looks (model X.prog X.w) s.heap (isInstance (.ref a) (.type "object")) true := J.type.andThen (PySem.W.looks_mroIn KI O.ob)
  have called : wpAny (model X.prog X.w) X.A (call (.builtin "object.__ne__") [.ref a, u]) (fun v s' => ∃ r, v = .bool r ∧ EP X pins σ Q v s') X.xe s := by
    refine wpAny_call (codeAny_call_builtin PySem.F.cmp_object.ne.plain PySem.F.cmpEntry_ne (PySem.W.check_slot PySem.F.cmpKind_ne PySem.F.cmpSplit_ne isObj (PySem.F.cmpArgs_ne _ _) ?_))
    refine wpAny_mono inner (fun fin s' z => ?_) fun _ _ e => e
    obtain ⟨r, rfl, q⟩ := z
    exact ⟨_, rfl, q⟩
  have bound : wpAny (model X.prog X.w) X.A (callSpecialIfBound? (.ref a) "__ne__" [u]) (fun r s' => ∃ b, r = some (.bool b) ∧ EP X pins σ Q (.bool b) s') X.xe s := by
    simp only [callSpecialIfBound?, bindSpecialIfBound?]
    refine wpAny_holding (wpAny_bind (wpAny_bind (wpAny_bind (J.type.here ((PySem.W.looks_findIn KI O.ne).here ?_)))))
    simp only [PySem.F.cmp_object.ne.bind]
    refine wpAny_bind (wpAny_askSetting (wpAny_ite ?_))
    have fin : wpAny (model X.prog X.w) X.A (call (.builtin "object.__ne__") ([.ref a] ++ [u]) >>= fun v => pure (some v)) (fun r s' => ∃ b, r = some (.bool b) ∧ EP X pins σ Q (.bool b) s') X.xe s :=
      wpAny_bind (wpAny_mono called (fun v s' z => by obtain ⟨r, rfl, q⟩ := z; exact wpAny_pure ⟨r, rfl, q⟩) fun _ _ e => e)
    split
    · exact wpAny_bind (wpAny_pure (wpAny_pure fin))
    · exact wpAny_tryCatch (wpAny_bind (wpAny_pure (wpAny_pure fin)))
  have one : wpAny (model X.prog X.w) X.A (tryCompare (.ref a) "__ne__" u) (fun r s' => ∃ v, r = some v ∧ EP X pins σ Q v s') X.xe s := by
    unfold tryCompare
    refine wpAny_bind (wpAny_mono bound (fun r s' z => ?_) fun _ _ e => e)
    obtain ⟨b, rfl, q⟩ := z
    exact wpAny_pure ⟨_, rfl, q⟩
  unfold richCompare
  simp only [oneThing_ref]
  refine wpAny_holding (wpAny_bind (wpAny_cRoomFor hr.units0 ?_))
  refine wpAny_bind (J.type.here (wpAny_bind (L.here ?_)))
  rw [show (Value.ref C != Value.ref C) = false by simp]
  simp only [Bool.false_eq_true, if_false]
  refine wpAny_bind (wpAny_pure ?_)
  simp only [Bool.false_eq_true, if_false]
  refine wpAny_bind (wpAny_mono one (fun r s' z => ?_) fun _ _ e => e)
  obtain ⟨v, rfl, q⟩ := z
  exact wpAny_pure q
/-! ### d.values() -/
def viewV (d : Addr) : Obj := { cls := .type "dict_values", data := .fields #[.ref d] }
def tVals (P : Program) (w : World) (td : TE) : TE := fun σ H Q => td σ H fun x H1 => ∃ d kvs, x = .ref d ∧ FD P w H1 d kvs ∧ ∀ v, H1 v = none → Q (.ref v) (upd H1 v (obO v (viewV d)))
theorem pe_valuesF {e : Expr} {apos cpos : Pos} {td : TE} (he : PE X e td) (hbase : attributeBase e "values" X.env (eval e X.env) = eval e X.env := by rfl) (hline : (apos.endLine == cpos.line) = true := by rfl) :
    PE X (.Call (.Attribute e "values" apos) [] [] cpos) (tVals X.prog X.w td) := by
  refine ⟨fun pins s σ H Q I h => ?_⟩
  refine wpAny_Call_method0_late hbase hline (thn (he.run pins s σ H _ I h) fun v s1 z => ?_)
  obtain ⟨x, H1, I1, rx, d, kvs, rfl, ⟨o, F⟩, q⟩ := z
  obtain rfl : v = Value.ref d := rx
  obtain ⟨hd, _⟩ := F.of I1.hok
  obtain ⟨es, ep, xs, e1, _, _⟩ := F.ent
  have raw : s1.heap.DictRaw d es ep := ⟨o, hd, F.exact', e1⟩
  refine ⟨"dict", "dict.values", PySem.F.plainAttrs_dict, PySem.F.slot_dict_values, PySem.F.type_dict_values, raw.typeIs, fun b z => ?_, Calls.callWith_builtin rfl (PySem.evalArgs_none ?_)⟩
  · cases z
    exact ⟨o, hd, F.exact'.2.1⟩
  refine call_meetsIn PySem.F.slot_dict_values raw.typeIs PySem.F.entry_dict_values (PySem.F.args_dict_values_1 _) (PySem.meets_dict_values_raw d F.sys) ⟨⟨es, ep, raw⟩, ?_⟩
  exact ⟨.ref s1.heap.objs.size, upd H1 s1.heap.objs.size (obO s1.heap.objs.size (viewV d)), I1.laid (t' := s1.toks) (fun b u e => Heap.get?_push_of_some _ e) (Nat.le_refl _) (ob_new (Heap.get?_push_size _ rfl)), rfl, q _ (I1.hok.fresh (Nat.le_refl _))⟩
theorem vals_of {P : Program} {w : World} {H : Hp} {d : Addr} {o : Obj} {kvs : List (Fct × V)} {es : Array DictEntry} {ep : Nat} {acc : Array Value} (F : FDo P w H d o kvs) (hod : o.data = .dict es ep)
    (hacc : PySem.ItemsOf (fun i v => ∃ hi : i < es.size, v = es[i].val) acc es.size) : Vals (kvs.map (·.2)) acc.toList := by
  obtain ⟨hs, hat⟩ := F.at hod
  obtain ⟨h1, h2⟩ := hacc
  have g : ∀ (vs : List Value) (xs : List V), vs.length = xs.length → (∀ (i : Nat) (v : Value) (x : V), vs[i]? = some v → xs[i]? = some x → RelV x v) → Vals xs vs := by
    intro vs
    induction vs with
    | nil =>
      intro xs e _
      cases xs with
      | nil => exact .nil
      | cons x xs => cases e
    | cons v vs ih =>
      intro xs e k
      cases xs with
      | nil => cases e
      | cons x xs => exact .cons (k 0 v x rfl rfl) (ih xs (Nat.succ.inj e) fun i => k (i + 1))
  refine g acc.toList (kvs.map (·.2)) ?_ fun i v x ev ex => ?_
  · rw [Array.length_toList, List.length_map, h1, hs]
  · rw [Array.getElem?_toList] at ev
    obtain ⟨hi, rfl⟩ := h2 i v ev
    obtain ⟨ka, f', v', e1, _, _, e4⟩ := hat i hi
    rw [List.getElem?_map, e1] at ex
    obtain rfl := Option.some.inj ex
    exact e4
/-- list(d.values()) -/
def rListV (P : Program) (w : World) : List V → Hp → VK → Prop := fun vs H Q => ∃ v d kvs, vs = [V.ref v] ∧ H v = some (obO v (viewV d)) ∧ FD P w H d kvs ∧ ∀ p, H p = none → Q (.ref p) (upd H p (.lst (kvs.map (·.2))))
theorem call_listV (hc : X.calm = true) : CallR X (.type "list") (rListV X.prog X.w) := by
  intro pins s σ H vs us Q I r h
  obtain ⟨v, d, kvs, rfl, hv, ⟨o, F⟩, q⟩ := h
  obtain ⟨u, rfl, ru⟩ := vals1 r
  obtain rfl : u = Value.ref v := ru
  obtain ⟨hd, _⟩ := F.of I.hok
  obtain ⟨hview, _, _⟩ : ObjOk X.prog X.w H s.heap v (obO v (viewV d)) := I.hok v _ hv
  obtain ⟨es, ep, xs, e1, e2, _⟩ := F.ent
  have hs := (F.at e1).1
  refine PySem.W.kdl_call (PySem.KdlSrc.rawValues (r := v) (d := d)) (I.ok.hd hc) ⟨⟨viewV d, hview, rfl, rfl⟩, o, hd, F.exact', e1⟩ (by have := F.len; omega) fun h' tk acc c hk hn hacc => ?_
  have k1 := vals_of F e1 hacc
  refine ⟨.ref s.heap.objs.size, upd H s.heap.objs.size (.lst (kvs.map (·.2))), I.laid (t' := tk) hk (Nat.le_refl _) ?_, rfl, q _ (I.hok.fresh (Nat.le_refl _))⟩
  refine ⟨?_, acc.toList, c, k1, ?_⟩
  · rw [List.length_map]
    exact F.len
  · rw [Array.toArray_toList]
    exact hn
/-! ### {fact: value} -/
def tDisp1 (P : Program) (w : World) (tk tv : TE) : TE := fun σ H Q => ∀ d o, H d = none → FD P w (upd H d o) d [] → tk σ (upd H d o) fun y H1 => tv σ H1 fun z H2 => ∃ b f, y = .ref b ∧ FD P w H2 d [] ∧ KeyAt H2 b f ∧ ∀ o', FD P w (upd H2 d o') d [(f, z)] → Q (.ref d) (upd H2 d o')
end
/-! ### dict comprehensions, their parts one by one -/
section
variable {X : Cx} {kx vx tg iter : Expr} {ifs : List Expr} {scope : Scope} {own : List (Str × Nat)} {pos spos py : Pos} {wi : TI} {g : TG} {tt : TT} {tk tv : TE} {i : Nat} {y : Str}
theorem pe_fc4 (hc : X.calm = true) (hu : X.A.units + 64 < cLine) (hN : X.N.Nodup) (hi : PI X tg iter wi) (ok : BlkOk X.N X.env.scope scope own)
    (pg : ∀ (s : Shared) (H : Hp) (C : Addr) (cl : List (Str × Addr)) (fp : List Addr), PG (X.blk s H scope (compEnvC scope cl C X.env) fp) tg g) (pt : ∀ (s : Shared) (H : Hp) (C : Addr) (cl : List (Str × Addr)) (fp : List Addr), PTs (X.blk s H scope (compEnvC scope cl C X.env) fp) ifs tt)
    (pk : ∀ (s : Shared) (H : Hp) (C : Addr) (cl : List (Str × Addr)) (fp : List Addr), PE (X.blk s H scope (compEnvC scope cl C X.env) fp) kx tk) (pv : ∀ (s : Shared) (H : Hp) (C : Addr) (cl : List (Str × Addr)) (fp : List Addr), PE (X.blk s H scope (compEnvC scope cl C X.env) fp) vx tv)
    (hs : ∀ x, foldedSetIterable iter X.env x = pure x := by intro _; rfl) : PE X (.DictComp kx vx [⟨tg, iter, ifs, 0⟩] scope pos) (tFc X.prog X.w wi g tt tk tv (own.map (·.2))) := pe_fc hc hu hN hi ok ⟨pg, pt, pk, pv⟩ hs
theorem ps_setFc4 (hc : X.calm = true) (hu : X.A.units + 64 < cLine) (hN : X.N.Nodup) (hy : X.N[i]? = some y) (hyl : X.env.scope.names.lookup y = some .local)
    (hsw : swapsWith (.DictComp kx vx [⟨tg, iter, ifs, 0⟩] scope pos) (some (.Name y py)) spos.line X.env = pure true) (hi : PI X tg iter wi) (ok : BlkOk X.N X.env.scope scope own)
    (pg : ∀ (s : Shared) (H : Hp) (C : Addr) (cl : List (Str × Addr)) (fp : List Addr), PG (X.blk s H scope (compEnvC scope cl C X.env) fp) tg g) (pt : ∀ (s : Shared) (H : Hp) (C : Addr) (cl : List (Str × Addr)) (fp : List Addr), PTs (X.blk s H scope (compEnvC scope cl C X.env) fp) ifs tt)
    (pk : ∀ (s : Shared) (H : Hp) (C : Addr) (cl : List (Str × Addr)) (fp : List Addr), PE (X.blk s H scope (compEnvC scope cl C X.env) fp) kx tk) (pv : ∀ (s : Shared) (H : Hp) (C : Addr) (cl : List (Str × Addr)) (fp : List Addr), PE (X.blk s H scope (compEnvC scope cl C X.env) fp) vx tv)
    (hs : ∀ x, foldedSetIterable iter X.env x = pure x := by intro _; rfl) : PS X (.Assign [.Name y py] (.DictComp kx vx [⟨tg, iter, ifs, 0⟩] scope pos) spos) (tAsg (tFc X.prog X.w wi g tt tk tv (own.map (·.2))) (gName i)) := ps_setFc hc hu hN hy hyl hsw hi ok ⟨pg, pt, pk, pv⟩ hs
end
theorem pt_truthK {X : Cx} {K : PySem.W.Frag} {a : Expr} {ta : TE} (ha : PE X a ta) (he : ∀ whole, isTrue a X.env whole = (do let v ← whole; standAt a.pos; holding [v] (truthy v))) (hK : X.K = K := by rfl) :
    PT X a (fun σ H Q => ta σ H fun x H' => ∃ k, TruV K x H' k ∧ Q k H') := by
  subst hK
  exact pt_truth ha he
end YjD
set_option Elab.async false
set_option linter.all false
set_option maxRecDepth 100000
set_option maxHeartbeats 1000000
set_option pp.maxSteps 1500
/-! {fact: value}; isinstance with an own class. -/
namespace YjD
open PySem PySem.Spec PyProof.Rows L2
/-- what the top has left of the class at C, asked by isinstance -/
structure IsCls (K : PySem.W.Frag) (C : Addr) : Prop where
  ha : PySem.W.findIn K (.ref C) "__class__" = some (some (.builtin "object.__class__"))
  hn : PySem.W.specialIn K (.builtin "object.__class__") "__get__" = some (some (.builtin "getset_descriptor.__get__"))
  ht : PySem.W.takesIn K (.builtin "object.__class__") = some true
  hm : PySem.W.mroIn K C (.type "object") = some true
  me : PySem.W.kitOne K (.ref C) (.ref C) = some true
  dict : PySem.W.kitOne K (.type "dict") (.ref C) = some false
theorem IsCls.ty {K : PySem.W.Frag} {C : Addr} (z : IsCls K C) (cl : Cls K C) {H : Hp} {a dx : Addr} {fs : List (Str × V)} (e : H a = some (.ins C dx fs)) : TyX K H (.ref a) (.ref C) := .base (.ins e cl z.ha z.hn z.ht z.hm)
section
variable {X : Cx} {k v : Expr} {tk tv : TE} {pos : Pos}
theorem pe_fdisp1 (hu : X.A.units + 64 < cLine) (hk : PE X k tk) (hv : PE X v tv) : PE X (.Dict [some k] [v] pos) (tDisp1 X.prog X.w tk tv) := by
  refine ⟨fun pins s σ H Q I h => ?_⟩
  have hn := I.hok.fresh (Nat.le_refl s.heap.objs.size)
  have I1 := I.laid (a := s.heap.objs.size) (o := obO s.heap.objs.size newO) (h' := s.heap.push { cls := .type "dict", data := .dict #[] }) (t' := s.toks) (fun _ _ q => Heap.get?_push_of_some _ q) (Nat.le_refl _) (ob_new (Heap.get?_push_size _ rfl))
  have shape : (evalEachOpt [some k] X.env).zip ((evalEach [v] X.env).map fun v => do let x ← v; standAt pos; pure x) = [(eval k X.env, (do let x ← eval v X.env; standAt pos; pure x : Sem Value))].map fun p => (some p.1, p.2) := rfl
  rw [arm_eval_Dict, shape, dictDisplay_pairs _ (by simp) (by show 1 < 17; decide)]
  refine wpAny_bind (wpAny_standAt (wpAny_bind (wpAny_subDictH (knd := nestedKind X.prog X.w) (Q := fun d s' => wpAny (model X.prog X.w) X.A (pure (Value.ref d)) (EP X pins σ Q) X.xe s') (by show X.A.units + 8 < cLine; omega) (by show 1 ≤ 15; decide) ?_)))
  refine evalPairs_cons (thn (hk.run pins _ σ _ _ I1 (h _ _ hn (fd_empty I.big))) fun kv s1 z => ?_)
  obtain ⟨y, H1, I2, ry, q1⟩ := z
  refine wpAny_bind (thn (hv.run pins s1 σ H1 _ I2 q1) fun vv s2 z => ?_)
  obtain ⟨z, H2, I3, rz, b, f, rfl, F, K, q⟩ := z
  obtain rfl : kv = Value.ref b := ry
  refine wpAny_bind (wpAny_standAt (wpAny_pure (evalPairs_nil ?_)))
  obtain ⟨xs, rr, DD⟩ := F.of I3.hok
  cases rr
  refine ⟨[(keyF f, b, vv)], ⟨rfl, rfl, fact_is I3.hok K, trivial⟩, DD, fun h' tk D' hs => wpAny_pure ?_⟩
  obtain ⟨o', I', F'⟩ := FD.stored (t' := tk) I3 F K rz (by rw [sizeLine_eq]; show 0 < _; omega) .nil D' hs
  exact ⟨.ref _, _, I', rfl, q o' F'⟩
end
end YjD
set_option Elab.async false
set_option linter.all false
set_option maxRecDepth 100000
set_option maxHeartbeats 4000000
set_option pp.maxSteps 1500
/-! An own error below an own error below Exception, with one field that its __init__ stores. -/
namespace PySem
namespace YjX_BadSpans
open PySem.W PySem.Calls PyProof.Rows PySem.HandSPX
abbrev exTail : List Value := [.type "Exception", .type "BaseException", .type "object"]
def nArgs (p1 p2 : Pos) : Arguments := { posonlyargs := [], args := [{ arg := "self", annotation := none, pos := p1 }, { arg := "number", annotation := none, pos := p2 }], vararg := none, kwonlyargs := [], kw_defaults := [], kwarg := none, defaults := [] }
def nBody (q1 q2 q3 q4 : Pos) : List Stmt := [.Assign [.Attribute (.Name "self" q1) "number" q2] (.Name "number" q3) q4]
def nScope (mo : List (Str × Const)) : Scope := { kind := .function, names := [(PySem.Str.ofString "self", .local), (PySem.Str.ofString "number", .local)], isGenerator := false, isCoroutine := false, more := mo }
/-- what the top has left of such a class at C, its __init__ at fI -/
structure OneTxt (K : Frag) (mg : Str → Option Value) (C fI : Addr) : Prop where
  cla : mg "BadSpans" = some (.ref C)
  ini : excInitIn K C exTail "Exception.__new__" = true
  ovr : excOver K C exTail = true
  tak : takerIn K C "number" = some none
  dct : ∃ cd, clsIn K C = some cd ∧ cd.hasDict = true
  sto : findIn K (.ref C) "__setattr__" = some (some (.builtin "object.__setattr__"))
  gat : findIn K (.ref C) "__getattribute__" = some (some (.builtin "BaseException.__getattribute__"))
  ggt : findIn K (.ref C) "__getattr__" = some none
  non : findIn K (.ref C) "number" = some none
  iCl : findIn K (.ref C) "__init__" = some (some (.ref fI))
  tyI : typeIn K (.ref fI) = some (.type "function")
  kep : keepIn K (.ref C) = true
  exB : subIn K (.ref C) (.type "BaseException") = some true
  tyC : typeIn K (.ref C) = some (.type "type")
  hdC : hasDictIn K C = true
  exm : exmOne K (.ref C) (.ref C) = some true
  fun' : ∃ (oc : Value) (od : Option Addr) (doc pm : Value) (an : Option Addr) (cdv ct : Value) (osl : Array (Option Value)) (p1 p2 q1 q2 q3 q4 : Pos) (mo : List (Str × Const)) (kw : Value),
    K.lookup fI = some ⟨oc, od, .func (fnOf "__init__" "BadSpans.__init__" (nArgs p1 p2) (nBody q1 q2 q3 q4) (nScope mo) .none kw doc pm an cdv ct), osl⟩ ∧ codeIn K cdv "BadSpans.__init__" = true
section
open Builtin Builtin.ObjectAttr
variable {prog : Program} {w : World} {A : Around} {E : Value → Shared → Prop} {R : Result → Shared → Prop} {hp : Heap} {g : Array GenState} {dr : Drawn} {t : Nat} {os : OsState} {K : Frag} {mg : Str → Option Value} {C fI : Addr}
/-- the first field of an exception that has no dict yet -/
theorem one_store (T : OneTxt K mg C fI) {x t0 : Addr} {tk : Tok} {v : Value} (X : K.In hp) (hx : hp.get? x = some (excO C t0))
    (hq : ∀ h' tk' dx, (∀ b o, b ≠ x → hp.get? b = some o → h'.get? b = some o) → hp.objs.size ≤ dx → dx ≠ x → h'.get? x = some { cls := .ref C, dict := some dx, data := .fields #[.ref t0, .none, .none, .none, .bool false, .none] } →
      h'.Ns1 dx (fun y => if y = "number" then some v else none) → R (.ok (.ret .none)) ⟨h', g, dr, tk', os⟩) :
    codeAny (model prog w) A (.call (.builtin "object.__setattr__") ⟨[.ref x, .str "number" tk, v], []⟩) R ⟨hp, g, dr, t, os⟩ := by
  have I : InstAt hp x (excO C t0) C none := ⟨hx, rfl, rfl, trivial⟩
  obtain ⟨cd, hcd, hdd⟩ := T.dct
  have hcl : Looks (model prog w) hp (classData C) cd := looks_clsIn X hcd
  have far : x ≠ hp.objs.size := Nat.ne_of_lt (Heap.lt_size hx)
  refine osa_openX (s := ⟨hp, g, dr, t, os⟩) F.store_Exception X I T.ovr T.tak fun b => ?_
  show wpAny _ _ (storeInOwnDict (.ref x) (.ref C) (.str "number" tk) "number" v b) _ _ _
  unfold storeInOwnDict ownDictForStores
  obtain ⟨c1, c2, c3, c4, c5, c6, c7, c8, c9, c10, c11⟩ := cd
  dsimp only at hdd
  subst hdd
  repeat (first | with_reducible refine store_in_new ?_ ?_ | with_reducible refine wpAny_loadPart_at hx ?_ | with_reducible refine hcl.at ?_ | wp_step)
  · exact ⟨_, #[], _, (Heap.get?_update_ne _ _ _ _ far.symm).trans (Heap.get?_push_at rfl rfl), rfl, fun e he => absurd he (by simp), fun _ => rfl⟩
  · intro h' tk' hn' hs
    have e1 : (hp.push { cls := .type "dict", data := .dict #[] }).get? x = some (excO C t0) := Heap.get?_push_of_some _ hx
    refine hq h' tk' hp.objs.size (fun b o hb ho => ?_) (Nat.le_refl _) far.symm ?_ hn'
    · refine (hs.2 b (Nat.ne_of_lt (Heap.lt_size ho))).trans ?_
      exact (Heap.get?_update_ne _ _ _ _ hb).trans (Heap.get?_push_of_some _ ho)
    · exact (hs.2 x far).trans (Heap.get?_update_self _ e1 rfl)
end
/-- a name of the def, read -/
theorem nread {M : Model} {s : Shared} {A : Around} {E : Value → Shared → Prop} {name : Str} {scope : Scope} {L a : Addr} {cd : Value} {m : Str → Option Value} {x : Str} {pos : Pos} {v : Value} {Q : Value → Shared → Prop} (hn : s.heap.Ns L m) (hv : m x = some v) (h : Q v s)
    (hk : scope.kind = .function := by rfl) (hl : (envOfC name scope L a cd).kindOf x = some .local := by rfl) (hd : (x == ("__debug__" : Str)) = false := by decide) :
    wpAny M A (eval (.Name x pos) (envOfC name scope L a cd)) Q E s := by
  exact wpAny_Name (wpAny_loadName_local hk hl hn hv h) hd
section
variable {prog : Program} {w : World} {A : Around} {E : Value → Shared → Prop} {R : Result → Shared → Prop} {s : Shared} {K : Frag} {mg : Str → Option Value} {C fI : Addr}
/-- what __init__ leaves of a fresh exception at x -/
structure Inited (h h' : Heap) (x C dx t1 : Addr) (v : Value) : Prop where
  old : ∀ b o, b ≠ x → h.get? b = some o → h'.get? b = some o
  its : h'.get? x = some { cls := .ref C, dict := some dx, data := .fields #[.ref t1, .none, .none, .none, .bool false, .none] }
  far : h.objs.size ≤ dx
  two : dx ≠ x
  fld : h'.Ns1 dx (fun y => if y = "number" then some v else none)
theorem one_init (T : OneTxt K mg C fI) {x t0 : Addr} {v : Value} (X : K.In s.heap) (hlim : s.heap.NoLimit) (hx : s.heap.get? x = some (excO C t0)) (hroom : A.depth < recursionLimit)
    (hq : ∀ h' tk dx, Inited s.heap h' x C dx t0 v → R (.ok (.ret .none)) { s with heap := h', toks := tk }) :
    codeAny (model prog w) A (.call (.ref fI) ⟨[.ref x, v], []⟩) R s := by
  obtain ⟨oc, od, doc, pm, an, cdv, ct, osl, p1, p2, q1, q2, q3, q4, mo, kw, ho, hcd⟩ := T.fun'
  refine Att.call_fn (binds := [("self", .ref x), ("number", v)]) X hlim ho hcd hroom (BindsTo.of_eq (by first | rfl | with_unfolding_all rfl)) (by first | rfl | decide | with_unfolding_all rfl) (fun s1 IC => ?_) rfl rfl rfl
  obtain ⟨h1, tk1, rfl⟩ := IC.toInCall.same
  have keep : ∀ b o, s.heap.get? b = some o → h1.get? b = some o := IC.toInCall.keep
  have names := IC.toInCall.ns
  have hx1 := keep _ _ hx
  show wpAny _ _ (execs _ _) _ _ _
  refine wpAny_execs_cons (plainObj_wpAny_Assign_Attribute ?_)
  refine nread (v := v) names (by first | rfl | with_unfolding_all rfl | kernel_rfl) (nread (v := .ref x) names (by first | rfl | with_unfolding_all rfl | kernel_rfl) ?_)
  refine set_plain (X.keeps keep) (ox := excO C t0) (od := none) ⟨hx1, rfl, rfl, trivial⟩ T.sto ?_
  refine one_store T (X.keeps keep) hx1 (fun h3 tk3 dx k3 far ne hx3 hn3 => ?_)
  show wpAny _ _ (execs _ _) _ _ _
  have z : s.heap.objs.size < h1.objs.size := names.lt
  exact wpAny_execs_nil (hq h3 tk3 dx ⟨fun b o hb e => k3 b o hb (keep b o e), hx3, Nat.le_of_lt (Nat.lt_of_lt_of_le z far), ne, hn3⟩)
/-- one that was made -/
structure Made (h h' : Heap) (e C d : Addr) (v : Value) : Prop where
  old : ∀ b o, h.get? b = some o → h'.get? b = some o
  new : h.objs.size ≤ e
  its : ∃ oe vs, h'.get? e = some oe ∧ oe.cls = .ref C ∧ oe.dict = some d ∧ oe.data = .fields vs ∧ vs[1]? = some .none ∧ vs[2]? = some .none
  far : h.objs.size ≤ d
  two : d ≠ e
  fld : h'.Ns1 d (fun y => if y = "number" then some v else none)
theorem one_made (T : OneTxt K mg C fI) {v : Value} (X : K.In s.heap) (hlim : s.heap.NoLimit) (hroom : A.depth + 1 < recursionLimit)
    (hq : ∀ h' tk e d, Made s.heap h' e C d v → R (.ok (.ret (.ref e))) { s with heap := h', toks := tk }) :
    codeAny (model prog w) A (.call (.ref C) ⟨[v], []⟩) R s := by
  obtain ⟨nm', N', qn, bs, bm, hdct, sn, sub, ab, col, dd, k0, k1, k2, k3, k5, hC, hT⟩ := excInit_of X T.ini
  obtain ⟨hp, g, dr, tk, os⟩ := s
  have keep : ∀ b o, hp.get? b = some o → ((hp.push (kdv_tup [v])).push (excO C hp.objs.size)).get? b = some o := fun b o e => by
    exact Heap.get?_push_of_some _ (Heap.get?_push_of_some _ e)
  have here : ((hp.push (kdv_tup [v])).push (excO C hp.objs.size)).get? (hp.objs.size + 1) = some (excO C hp.objs.size) := by heap_get
  have one : [v].length ≤ sizeLine := by
    show 1 ≤ sizeLine
    rw [sizeLine_eq]
    decide
  refine call_own F.excBase_Exception hT hC (looks_findIn X T.iCl) (fun self => bind_fn X self T.tyI) one ?_
  refine one_init (s := ⟨(hp.push (kdv_tup [v])).push (excO C hp.objs.size), g, dr, tk, os⟩) T (X.keeps keep) (hlim.keeps keep) here ?_ fun h' tk' dx Z => ?_
  · show A.depth + 1 < recursionLimit
    exact hroom
  · have z : hp.objs.size + 1 + 1 ≤ dx := by
      have q := Z.far
      first
        | exact q
        | (simpa only [Heap.size_push] using q)
    refine ⟨rfl, hq h' tk' (hp.objs.size + 1) dx ⟨fun b o e => Z.old b o (Nat.ne_of_lt (Nat.lt_succ_of_lt (Heap.lt_size e))) (keep b o e), Nat.le_succ _, ⟨_, _, Z.its, rfl, rfl, rfl, rfl, rfl⟩, ?_, Z.two, Z.fld⟩⟩
    show hp.objs.size ≤ dx
    omega
end
end YjX_BadSpans
end PySem
namespace Yj
open PySem PySem.Spec PyProof.Rows L2
theorem relO_BadSpans {v : V} {v' : Value} (r : RelV v v') (f : Str) : RelO (List.lookup f [(("number" : Str), v)]) (if f = "number" then some v' else none) := by
  by_cases hw : f = "number"
  · subst hw
    have q : List.lookup ("number" : Str) [(("number" : Str), v)] = some v := by simp [List.lookup]
    rw [if_pos rfl, q]
    exact r
  · have qw : (f == ("number" : Str)) = false := by simpa using hw
    have q2 : List.lookup f [(("number" : Str), v)] = none := by simp [List.lookup, qw]
    rw [if_neg hw, q2]
    trivial
section
variable {X : Cx} {C fI : Addr}
/-- BadSpans(e), made where nothing is handled -/
def tMk_BadSpans (C : Addr) (ta : TA) : L2.St → Hp → XK → Prop := fun σ H Q => ta σ H fun vs H1 => ∃ v, vs = [v] ∧ ∀ d, H1 d = none → Q (.ref C) (some d) (upd H1 d (.xd [(("number" : Str), v)]))
theorem pmk_BadSpans {a : Expr} {ta : TA} {p pos : Pos} {k : Nat} (T : PySem.YjX_BadSpans.OneTxt X.K X.mg C fI) (hr : Room k X.A) (ha : PA X [a] ta) (hg : Gl X "BadSpans" := by rfl) (hdb : (("BadSpans" : Str) == ("__debug__" : Str)) = false := by decide)
    (he : starEach (a :: []) X.env = (false, eval a X.env) :: starEach [] X.env := by rfl) (hpl : (backTo pos (starEach [] X.env)).any (·.1) = false := by rfl) :
    L2N.PMk X (.Call (.Name "BadSpans" p) [a] [] pos) (tMk_BadSpans C ta) := by
  intro pins s σ H Q I h
  refine wpAny_Call_Name_kw (ld_glob I hg T.cla ?_ hdb)
  refine PySem.W.callWith_K (h₀ := X.base) I.ok.mod.kin T.kep (thn (ha.run pos pins s σ H _ I h) fun us s1 hh => ?_) he hpl
  obtain ⟨vs, H1, I1, r1, v, ev, q1⟩ := hh
  subst ev
  obtain ⟨v', rfl, rv⟩ := vals1 r1
  refine ⟨I1.kIn, ?_⟩
  show wpAny _ _ (call (.ref C) [v']) _ _ _
  have lim := I1.nolimit
  obtain ⟨hp, g, dr, tk, os⟩ := s1
  refine wpAny_call (PySem.YjX_BadSpans.one_made T I1.kIn lim (by have := hr.dp; omega) fun h' tk' e d M => ?_)
  show L2N.MkP X pins σ Q (.ref e) ⟨h', g, dr, tk', os⟩
  obtain ⟨oe, fv, hoe, hc, hd, hdat, h1, h2⟩ := M.its
  obtain ⟨G', g1, g2⟩ := restrict h' fun b => decide (b ≠ e)
  have gk : ∀ b, b ≠ e → G'.get? b = h'.get? b := fun b hb => g1 b (decide_eq_true hb)
  have ge : G'.get? e = none := g2 e (by simp)
  have old : ∀ b o, hp.get? b = some o → G'.get? b = some o := fun b o q => by
    rw [gk b (Nat.ne_of_lt (Nat.lt_of_lt_of_le (Heap.lt_size q) M.new))]
    exact M.old b o q
  have ob : ObjOk X.prog X.w (upd H1 d (.xd [(("number" : Str), v)])) G' d (.xd [(("number" : Str), v)]) :=
    ⟨_, M.fld.at (fun o q => (gk d M.two).trans q), fun f => relO_BadSpans rv f⟩
  have J : Inv X pins σ (upd H1 d (.xd [(("number" : Str), v)])) ⟨G', g, dr, tk', os⟩ := I1.laid (t' := tk') old M.far ob
  refine ⟨e, oe, fv, ⟨G', g, dr, tk', os⟩, _, .ref C, some d, rfl, J, fun b o q => ?_, ge, hoe, ⟨hc, hd, fun vs e' => ?_⟩, hdat, h1, ?_, rfl, I1.bare, raises_own T.exB T.tyC, q1 d (I1.hok.fresh M.far)⟩
  · have hb : b ≠ e := fun z => by
      have q' : G'.get? b = some o := q
      rw [z, ge] at q'
      cases q'
    exact (gk b hb).symm.trans q
  · rw [hdat] at e'
    cases e'
    exact h2
  · rw [upd_ne (Ne.symm M.two)]
    exact I1.hok.fresh M.new
/-- raise BadSpans(e) -/
def tRaise_BadSpans (C : Addr) (W : WX) (ta : TA) : TS := fun _ σ H => tMk_BadSpans C ta σ H fun cls d H' => W cls d σ H'
theorem ps_raise_BadSpans {a : Expr} {ta : TA} {W : WX} {p pos pos2 : Pos} {k : Nat} (hc : X.calm = true) (T : PySem.YjX_BadSpans.OneTxt X.K X.mg C fI) (hr : Room k X.A) (tk : L2N.Takes X W) (ha : PA X [a] ta) (hg : Gl X "BadSpans" := by rfl) (hdb : (("BadSpans" : Str) == ("__debug__" : Str)) = false := by decide)
    (he : starEach (a :: []) X.env = (false, eval a X.env) :: starEach [] X.env := by rfl) (hpl : (backTo pos (starEach [] X.env)).any (·.1) = false := by rfl) :
    PS X (.Raise (some (.Call (.Name "BadSpans" p) [a] [] pos)) none pos2) (tRaise_BadSpans C W ta) := by
  exact L2N.ps_raise hc tk (pmk_BadSpans T hr ha hg hdb he hpl)
/-- bad.number, bad the exception that the suite holds -/
def tBy_BadSpans (C : Addr) (a : Addr) (cls : Value) (d : Option Addr) (te : TE) : TE := fun σ H Q => te σ H fun x H1 => x = .ref a ∧ cls = .ref C ∧ ∃ (dd : Addr) (v : V), d = some dd ∧ H1 dd = some (.xd [(("number" : Str), v)]) ∧ Q v H1
theorem pe_by_BadSpans {a : Addr} {oe : Obj} {cls : Value} {d : Option Addr} {pn : List (Addr × Obj)} {e : Expr} {te : TE} {pos : Pos} (T : PySem.YjX_BadSpans.OneTxt X.K X.mg C fI) (hz : L2N.Zn cls d oe) (hf : ∃ vs, oe.data = .fields vs) (he : PE (X.suite a ((a, oe) :: pn)) e te)
    (hb : attributeBase e "number" X.env (eval e X.env) = eval e X.env := by rfl) :
    PE (X.suite a ((a, oe) :: pn)) (.Attribute e "number" pos) (tBy_BadSpans C a cls d te) := by
  refine ⟨fun pins s σ H Q I h => ?_⟩
  refine attr_of hb (thn (he.run pins s σ H _ I h) fun u s1 hh => ?_)
  obtain ⟨x, H1, I1, rx, rfl, rfl, dd, v, rfl, ea, q⟩ := hh
  obtain rfl : u = Value.ref a := rx
  obtain ⟨ha, _⟩ := I1.pin (a, oe) (List.mem_append_left _ List.mem_cons_self)
  obtain ⟨vs, hd⟩ := hf
  obtain ⟨mA, hns, hr⟩ := (show ObjOk X.prog X.w H1 s1.heap dd (.xd [(("number" : Str), v)]) from I1.hok dd _ ea)
  obtain ⟨od, ho, hl⟩ := lookIn_ns hns
  have l : List.lookup ("number" : Str) [(("number" : Str), v)] = some v := by simp [List.lookup]
  obtain ⟨u, hu, ru⟩ := RelO.some_of (v := v) (o := mA "number") (by rw [← l]; exact hr "number")
  have J : PySem.W.InstAt s1.heap a oe C (some od) := ⟨ha, hz.1, by unfold PySem.W.notCls; rw [hd] <;> rfl, by rw [hz.2.1]; exact ho⟩
  refine HandSPX.exc_get I1.kIn J T.gat T.ggt T.exB (PySem.W.findObj_own T.hdC T.non rfl (by rw [hl, hu])) (handed_of ru) ?_
  exact ⟨v, H1, I1.tok _, ru, q⟩
end
end Yj
set_option Elab.async false
set_option linter.all false
set_option maxRecDepth 100000
namespace Yj
open PySem PySem.Spec PyProof.Rows L2
/-! ### the text -/
def topS (i : Nat) : Stmt := PySem.Challenge.pw_twicedated_k50_whole_spans.main.body.getD i (.Pass ⟨0, 0, 0, 0⟩)
abbrev s_is_integer : Stmt := topS 8
abbrev N_is_integer : List Str := ["thing"]
theorem sc_is_integer : FnScope N_is_integer ["thing"] (defScope s_is_integer) := ⟨rfl, rfl, rfl, by decide +kernel, rfl, by decide +kernel, by decide +kernel⟩
abbrev s_is_name : Stmt := topS 9
abbrev N_is_name : List Str := ["thing", "sign"]
theorem sc_is_name : FnScope N_is_name ["thing"] (defScope s_is_name) := ⟨rfl, rfl, rfl, by decide +kernel, rfl, by decide +kernel, by decide +kernel⟩
abbrev s_is_day : Stmt := topS 10
abbrev N_is_day : List Str := ["thing"]
theorem sc_is_day : FnScope N_is_day ["thing"] (defScope s_is_day) := ⟨rfl, rfl, rfl, by decide +kernel, rfl, by decide +kernel, by decide +kernel⟩
abbrev s_is_span : Stmt := topS 12
abbrev N_is_span : List Str := ["thing", "first", "last"]
theorem sc_is_span : FnScope N_is_span ["thing"] (defScope s_is_span) := ⟨rfl, rfl, rfl, by decide +kernel, rfl, by decide +kernel, by decide +kernel⟩
abbrev s_normal : Stmt := topS 13
abbrev N_normal : List Str := ["spans", "number", "span"]
theorem sc_normal : FnScope N_normal ["spans"] (defScope s_normal) := ⟨rfl, rfl, rfl, by decide +kernel, rfl, by decide +kernel, by decide +kernel⟩
abbrev s__melted : Stmt := topS 14
abbrev N__melted : List Str := ["spans", "row", "first", "last"]
theorem sc__melted : FnScope N__melted ["spans"] (defScope s__melted) := ⟨rfl, rfl, rfl, by decide +kernel, rfl, by decide +kernel, by decide +kernel⟩
abbrev s_union : Stmt := topS 15
abbrev N_union : List Str := ["one", "other"]
theorem sc_union : FnScope N_union ["one", "other"] (defScope s_union) := ⟨rfl, rfl, rfl, by decide +kernel, rfl, by decide +kernel, by decide +kernel⟩
abbrev s_meet : Stmt := topS 16
abbrev N_meet : List Str := ["one", "other", "row", "here", "there", "first", "last"]
theorem sc_meet : FnScope N_meet ["one", "other"] (defScope s_meet) := ⟨rfl, rfl, rfl, by decide +kernel, rfl, by decide +kernel, by decide +kernel⟩
abbrev s_others : Stmt := topS 17
abbrev N_others : List Str := ["one", "row", "free", "first", "last"]
theorem sc_others : FnScope N_others ["one"] (defScope s_others) := ⟨rfl, rfl, rfl, by decide +kernel, rfl, by decide +kernel, by decide +kernel⟩
abbrev s_less : Stmt := topS 18
abbrev N_less : List Str := ["one", "other"]
theorem sc_less : FnScope N_less ["one", "other"] (defScope s_less) := ⟨rfl, rfl, rfl, by decide +kernel, rfl, by decide +kernel, by decide +kernel⟩
abbrev s_unlike : Stmt := topS 19
abbrev N_unlike : List Str := ["one", "other"]
theorem sc_unlike : FnScope N_unlike ["one", "other"] (defScope s_unlike) := ⟨rfl, rfl, rfl, by decide +kernel, rfl, by decide +kernel, by decide +kernel⟩
abbrev s__ended_ahead : Stmt := topS 20
abbrev N__ended_ahead : List Str := ["one", "day", "low", "high", "middle"]
theorem sc__ended_ahead : FnScope N__ended_ahead ["one", "day"] (defScope s__ended_ahead) := ⟨rfl, rfl, rfl, by decide +kernel, rfl, by decide +kernel, by decide +kernel⟩
abbrev s_has : Stmt := topS 21
abbrev N_has : List Str := ["one", "day", "place"]
theorem sc_has : FnScope N_has ["one", "day"] (defScope s_has) := ⟨rfl, rfl, rfl, by decide +kernel, rfl, by decide +kernel, by decide +kernel⟩
abbrev s_how_many : Stmt := topS 22
abbrev N_how_many : List Str := ["one", "first", "last"]
theorem sc_how_many : FnScope N_how_many ["one"] (defScope s_how_many) := ⟨rfl, rfl, rfl, by decide +kernel, rfl, by decide +kernel, by decide +kernel⟩
abbrev s_is_part : Stmt := topS 23
abbrev N_is_part : List Str := ["one", "other"]
theorem sc_is_part : FnScope N_is_part ["one", "other"] (defScope s_is_part) := ⟨rfl, rfl, rfl, by decide +kernel, rfl, by decide +kernel, by decide +kernel⟩
abbrev s_breaks : Stmt := topS 24
abbrev N_breaks : List Str := ["one", "found", "first", "last"]
theorem sc_breaks : FnScope N_breaks ["one"] (defScope s_breaks) := ⟨rfl, rfl, rfl, by decide +kernel, rfl, by decide +kernel, by decide +kernel⟩
abbrev s__law_number : Stmt := topS 26
abbrev N__law_number : List Str := ["script", "index", "cell", "blend"]
theorem sc__law_number : FnScope N__law_number ["script", "index"] (defScope s__law_number) := ⟨rfl, rfl, rfl, by decide +kernel, rfl, by decide +kernel, by decide +kernel⟩
abbrev s__law_take : Stmt := topS 27
abbrev N__law_take : List Str := ["draw", "many"]
theorem sc__law_take : FnScope N__law_take ["draw", "many"] (defScope s__law_take) := ⟨rfl, rfl, rfl, by decide +kernel, rfl, by decide +kernel, by decide +kernel⟩
abbrev s__law_pick : Stmt := topS 28
abbrev N__law_pick : List Str := ["draw", "items"]
theorem sc__law_pick : FnScope N__law_pick ["draw", "items"] (defScope s__law_pick) := ⟨rfl, rfl, rfl, by decide +kernel, rfl, by decide +kernel, by decide +kernel⟩
abbrev s__law_day : Stmt := topS 30
abbrev N__law_day : List Str := ["draw"]
theorem sc__law_day : FnScope N__law_day ["draw"] (defScope s__law_day) := ⟨rfl, rfl, rfl, by decide +kernel, rfl, by decide +kernel, by decide +kernel⟩
abbrev s__law_days : Stmt := topS 34
abbrev N__law_days : List Str := []
theorem sc__law_days : FnScope N__law_days [] (defScope s__law_days) := ⟨rfl, rfl, rfl, by decide +kernel, rfl, by decide +kernel, by decide +kernel⟩
abbrev s__law_rows : Stmt := topS 36
abbrev N__law_rows : List Str := ["draw", "found", "turn", "first", "last"]
theorem sc__law_rows : FnScope N__law_rows ["draw"] (defScope s__law_rows) := ⟨rfl, rfl, rfl, by decide +kernel, rfl, by decide +kernel, by decide +kernel⟩
abbrev s__law_is_form : Stmt := topS 37
abbrev N__law_is_form : List Str := ["row", "one", "other"]
theorem sc__law_is_form : FnScope N__law_is_form ["row"] (defScope s__law_is_form) := ⟨rfl, rfl, rfl, by decide +kernel, rfl, by decide +kernel, by decide +kernel⟩
abbrev s_law : Stmt := topS 38
abbrev N_law : List Str := ["script", "draw", "first", "second", "one", "other", "made", "day", "mine", "late", "due", "marks", "wrong", "bad", "names", "a", "b", "row", "name"]
theorem sc_law : FnScope N_law ["script"] (defScope s_law) := ⟨rfl, rfl, rfl, by decide +kernel, rfl, by decide +kernel, by decide +kernel⟩
structure Txt (K : PySem.W.Frag) (mg : Str → Option Value) (ad : Nat → Addr) (fds : Nat → FuncData) (cs : Nat → Value) : Prop where
  g_is_integer : mg "is_integer" = some (.ref (ad 8))
  F_is_integer : Fun K "is_integer" "is_integer" s_is_integer (ad 8) (fds 8)
  g_is_name : mg "is_name" = some (.ref (ad 9))
  F_is_name : Fun K "is_name" "is_name" s_is_name (ad 9) (fds 9)
  g_is_day : mg "is_day" = some (.ref (ad 10))
  F_is_day : Fun K "is_day" "is_day" s_is_day (ad 10) (fds 10)
  g_is_span : mg "is_span" = some (.ref (ad 12))
  F_is_span : Fun K "is_span" "is_span" s_is_span (ad 12) (fds 12)
  g_normal : mg "normal" = some (.ref (ad 13))
  F_normal : Fun K "normal" "normal" s_normal (ad 13) (fds 13)
  g__melted : mg "_melted" = some (.ref (ad 14))
  F__melted : Fun K "_melted" "_melted" s__melted (ad 14) (fds 14)
  g_union : mg "union" = some (.ref (ad 15))
  F_union : Fun K "union" "union" s_union (ad 15) (fds 15)
  g_meet : mg "meet" = some (.ref (ad 16))
  F_meet : Fun K "meet" "meet" s_meet (ad 16) (fds 16)
  g_others : mg "others" = some (.ref (ad 17))
  F_others : Fun K "others" "others" s_others (ad 17) (fds 17)
  g_less : mg "less" = some (.ref (ad 18))
  F_less : Fun K "less" "less" s_less (ad 18) (fds 18)
  g_unlike : mg "unlike" = some (.ref (ad 19))
  F_unlike : Fun K "unlike" "unlike" s_unlike (ad 19) (fds 19)
  g__ended_ahead : mg "_ended_ahead" = some (.ref (ad 20))
  F__ended_ahead : Fun K "_ended_ahead" "_ended_ahead" s__ended_ahead (ad 20) (fds 20)
  g_has : mg "has" = some (.ref (ad 21))
  F_has : Fun K "has" "has" s_has (ad 21) (fds 21)
  g_how_many : mg "how_many" = some (.ref (ad 22))
  F_how_many : Fun K "how_many" "how_many" s_how_many (ad 22) (fds 22)
  g_is_part : mg "is_part" = some (.ref (ad 23))
  F_is_part : Fun K "is_part" "is_part" s_is_part (ad 23) (fds 23)
  g_breaks : mg "breaks" = some (.ref (ad 24))
  F_breaks : Fun K "breaks" "breaks" s_breaks (ad 24) (fds 24)
  g__law_number : mg "_law_number" = some (.ref (ad 26))
  F__law_number : Fun K "_law_number" "_law_number" s__law_number (ad 26) (fds 26)
  g__law_take : mg "_law_take" = some (.ref (ad 27))
  F__law_take : Fun K "_law_take" "_law_take" s__law_take (ad 27) (fds 27)
  g__law_pick : mg "_law_pick" = some (.ref (ad 28))
  F__law_pick : Fun K "_law_pick" "_law_pick" s__law_pick (ad 28) (fds 28)
  g__law_day : mg "_law_day" = some (.ref (ad 30))
  F__law_day : Fun K "_law_day" "_law_day" s__law_day (ad 30) (fds 30)
  g__law_days : mg "_law_days" = some (.ref (ad 34))
  F__law_days : Fun K "_law_days" "_law_days" s__law_days (ad 34) (fds 34)
  g__law_rows : mg "_law_rows" = some (.ref (ad 36))
  F__law_rows : Fun K "_law_rows" "_law_rows" s__law_rows (ad 36) (fds 36)
  g__law_is_form : mg "_law_is_form" = some (.ref (ad 37))
  F__law_is_form : Fun K "_law_is_form" "_law_is_form" s__law_is_form (ad 37) (fds 37)
  g_law : mg "law" = some (.ref (ad 38))
  F_law : Fun K "law" "law" s_law (ad 38) (fds 38)
  x_BadSpans : PySem.YjX_BadSpans.OneTxt K mg (ad 3999) (ad 3000)
  z_isinstance : mg "isinstance" = none
  z_len : mg "len" = none
  z_all : mg "all" = none
  z_any : mg "any" = none
  z_sum : mg "sum" = none
  z_sorted : mg "sorted" = none
  z_max : mg "max" = none
  z_min : mg "min" = none
  z_tuple : mg "tuple" = none
  z_list : mg "list" = none
  z_int : mg "int" = none
  z_bool : mg "bool" = none
  z_str : mg "str" = none
  z_enumerate : mg "enumerate" = none
  z_range : mg "range" = none
  z_zip : mg "zip" = none
  z_abs : mg "abs" = none
  c_LETTERS : mg "LETTERS" = some (cs 4)
  r_LETTERS : RelV (.str "abcdefghijklmnopqrstuvwxyz") (cs 4)
  c_FIGURES : mg "FIGURES" = some (cs 5)
  r_FIGURES : RelV (.str "0123456789") (cs 5)
  c_LONGEST_NAME : mg "LONGEST_NAME" = some (cs 6)
  r_LONGEST_NAME : RelV (.int 8) (cs 6)
  c_LAST_DAY : mg "LAST_DAY" = some (cs 7)
  r_LAST_DAY : RelV (.int 999999) (cs 7)
section
variable {P : Program} {w : World} {K : PySem.W.Frag} {mg : Str → Option Value} {base : Heap} {ad : Nat → Addr} {fds : Nat → FuncData} {cs : Nat → Value}
theorem bi_is_integer (T : Txt K mg ad fds cs) : Binds K (fds 8) ["thing"] [] := T.F_is_integer.binds (ps := ["thing"]) fun _ _ _ _ _ _ us hl => match us, hl with | [_], _ => rfl
theorem bi_is_name (T : Txt K mg ad fds cs) : Binds K (fds 9) ["thing"] [] := T.F_is_name.binds (ps := ["thing"]) fun _ _ _ _ _ _ us hl => match us, hl with | [_], _ => rfl
theorem bi_is_day (T : Txt K mg ad fds cs) : Binds K (fds 10) ["thing"] [] := T.F_is_day.binds (ps := ["thing"]) fun _ _ _ _ _ _ us hl => match us, hl with | [_], _ => rfl
theorem bi_is_span (T : Txt K mg ad fds cs) : Binds K (fds 12) ["thing"] [] := T.F_is_span.binds (ps := ["thing"]) fun _ _ _ _ _ _ us hl => match us, hl with | [_], _ => rfl
theorem bi_normal (T : Txt K mg ad fds cs) : Binds K (fds 13) ["spans"] [] := T.F_normal.binds (ps := ["spans"]) fun _ _ _ _ _ _ us hl => match us, hl with | [_], _ => rfl
theorem bi__melted (T : Txt K mg ad fds cs) : Binds K (fds 14) ["spans"] [] := T.F__melted.binds (ps := ["spans"]) fun _ _ _ _ _ _ us hl => match us, hl with | [_], _ => rfl
theorem bi_union (T : Txt K mg ad fds cs) : Binds K (fds 15) ["one", "other"] [] := T.F_union.binds (ps := ["one", "other"]) fun _ _ _ _ _ _ us hl => match us, hl with | [_, _], _ => rfl
theorem bi_meet (T : Txt K mg ad fds cs) : Binds K (fds 16) ["one", "other"] [] := T.F_meet.binds (ps := ["one", "other"]) fun _ _ _ _ _ _ us hl => match us, hl with | [_, _], _ => rfl
theorem bi_others (T : Txt K mg ad fds cs) : Binds K (fds 17) ["one"] [] := T.F_others.binds (ps := ["one"]) fun _ _ _ _ _ _ us hl => match us, hl with | [_], _ => rfl
theorem bi_less (T : Txt K mg ad fds cs) : Binds K (fds 18) ["one", "other"] [] := T.F_less.binds (ps := ["one", "other"]) fun _ _ _ _ _ _ us hl => match us, hl with | [_, _], _ => rfl
theorem bi_unlike (T : Txt K mg ad fds cs) : Binds K (fds 19) ["one", "other"] [] := T.F_unlike.binds (ps := ["one", "other"]) fun _ _ _ _ _ _ us hl => match us, hl with | [_, _], _ => rfl
theorem bi__ended_ahead (T : Txt K mg ad fds cs) : Binds K (fds 20) ["one", "day"] [] := T.F__ended_ahead.binds (ps := ["one", "day"]) fun _ _ _ _ _ _ us hl => match us, hl with | [_, _], _ => rfl
theorem bi_has (T : Txt K mg ad fds cs) : Binds K (fds 21) ["one", "day"] [] := T.F_has.binds (ps := ["one", "day"]) fun _ _ _ _ _ _ us hl => match us, hl with | [_, _], _ => rfl
theorem bi_how_many (T : Txt K mg ad fds cs) : Binds K (fds 22) ["one"] [] := T.F_how_many.binds (ps := ["one"]) fun _ _ _ _ _ _ us hl => match us, hl with | [_], _ => rfl
theorem bi_is_part (T : Txt K mg ad fds cs) : Binds K (fds 23) ["one", "other"] [] := T.F_is_part.binds (ps := ["one", "other"]) fun _ _ _ _ _ _ us hl => match us, hl with | [_, _], _ => rfl
theorem bi_breaks (T : Txt K mg ad fds cs) : Binds K (fds 24) ["one"] [] := T.F_breaks.binds (ps := ["one"]) fun _ _ _ _ _ _ us hl => match us, hl with | [_], _ => rfl
theorem bi__law_number (T : Txt K mg ad fds cs) : Binds K (fds 26) ["script", "index"] [] := T.F__law_number.binds (ps := ["script", "index"]) fun _ _ _ _ _ _ us hl => match us, hl with | [_, _], _ => rfl
theorem bi__law_take (T : Txt K mg ad fds cs) : Binds K (fds 27) ["draw", "many"] [] := T.F__law_take.binds (ps := ["draw", "many"]) fun _ _ _ _ _ _ us hl => match us, hl with | [_, _], _ => rfl
theorem bi__law_pick (T : Txt K mg ad fds cs) : Binds K (fds 28) ["draw", "items"] [] := T.F__law_pick.binds (ps := ["draw", "items"]) fun _ _ _ _ _ _ us hl => match us, hl with | [_, _], _ => rfl
theorem bi__law_day (T : Txt K mg ad fds cs) : Binds K (fds 30) ["draw"] [] := T.F__law_day.binds (ps := ["draw"]) fun _ _ _ _ _ _ us hl => match us, hl with | [_], _ => rfl
theorem bi__law_days (T : Txt K mg ad fds cs) : Binds K (fds 34) [] [] := T.F__law_days.binds (ps := []) fun _ _ _ _ _ _ us hl => match us, hl with | [], _ => rfl
theorem bi__law_rows (T : Txt K mg ad fds cs) : Binds K (fds 36) ["draw"] [] := T.F__law_rows.binds (ps := ["draw"]) fun _ _ _ _ _ _ us hl => match us, hl with | [_], _ => rfl
theorem bi__law_is_form (T : Txt K mg ad fds cs) : Binds K (fds 37) ["row"] [] := T.F__law_is_form.binds (ps := ["row"]) fun _ _ _ _ _ _ us hl => match us, hl with | [_], _ => rfl
theorem bi_law (T : Txt K mg ad fds cs) : Binds K (fds 38) ["script"] [] := T.F_law.binds (ps := ["script"]) fun _ _ _ _ _ _ us hl => match us, hl with | [_], _ => rfl
theorem passN {X : Cx} : Passes (L2N.CX X.prog X.w) X E0 := fun _ _ _ _ _ _ _ h => by
  obtain ⟨_, _, _, _, _, _, _, _, _, _, _, _, z⟩ := h
  exact z.elim
end
end Yj
set_option Elab.async false
set_option linter.all false
set_option maxRecDepth 100000
set_option maxHeartbeats 4000000
set_option pp.maxSteps 1500
namespace Yj
open PySem PySem.Spec PyProof.Rows L2 RZ
/-! ### things -/
/-- a thing of anybody's, as it stands in the heap -/
inductive Pl (H : Hp) : V → Prop
  | non : Pl H .non
  | bl (b : Bool) : Pl H (.bl b)
  | int (i : Int) : Pl H (.int i)
  | str (x : Str) : Pl H (.str x)
  | lst {a : Addr} {xs : List V} (h : H a = some (.lst xs)) : Pl H (.ref a)
  | tup {a : Addr} {xs : List V} (h : H a = some (.tup xs)) : Pl H (.ref a)
def isI : V → Bool
  | .int _ => true
  | _ => false
end Yj
set_option Elab.async false
set_option linter.all false
set_option maxRecDepth 100000
set_option maxHeartbeats 4000000
set_option pp.maxSteps 1500
namespace Yj
open PySem PySem.Spec PyProof.Rows L2 RZ
section
variable {P : Program} {w : World} {K : PySem.W.Frag} {mg : Str → Option Value} {base : Heap} {ad : Nat → Addr} {fds : Nat → FuncData} {cs : Nat → Value}
def spInteger : Sp := fun vs H Q _ => ∃ x, vs = [x] ∧ Pl H x ∧ Q (.bl (isI x)) H
theorem ok_is_integer (T : Txt K mg ad fds cs) : FnOk P w K mg base CX0 1 (ad 8) (fds 8) ["thing"] spInteger := by
  refine T.F_is_integer.ok sc_is_integer (fun vs H Q E h => ?_) (fun cdv A outer s H vs Q E hr h => ?_)
  · obtain ⟨x, rfl, _⟩ := h
    rfl
  · obtain ⟨x, rfl, hx, q⟩ := h
    refine ⟨_, (pss_one (ps_ret (pe_and (pe_callB call_isi (by rfl) T.z_isinstance (by decide +kernel) (pa_cons (pv 0) (pa_cons (pe_bltn (v := .ty "int") (u := .type "int") (by rfl) T.z_int (by decide +kernel) rfl) pa_nil))) (pe_one (pe_not (pe_callB call_isi (by rfl) T.z_isinstance (by decide +kernel) (pa_cons (pv 0) (pa_cons (pe_bltn (v := .ty "bool") (u := .type "bool") (by rfl) T.z_bool (by decide +kernel) rfl) pa_nil)))))))), ?_⟩
    cases hx with
    | non => exact ⟨_, rfl, _, _, _, _, false, rfl, ClsV.ty _, TyX.base .non, kit_ty (by decide +kernel), _, rfl, iteF q⟩
    | bl b => exact ⟨_, rfl, _, _, _, _, true, rfl, ClsV.ty _, TyX.base (.bl b), kit_ty (by decide +kernel), _, rfl, iteT ⟨_, rfl, _, _, _, _, true, rfl, ClsV.ty _, TyX.base (.bl b), kit_ty (by decide +kernel), _, rfl, q⟩⟩
    | int i => exact ⟨_, rfl, _, _, _, _, true, rfl, ClsV.ty _, TyX.base (.int i), kit_ty (by decide +kernel), _, rfl, iteT ⟨_, rfl, _, _, _, _, false, rfl, ClsV.ty _, TyX.base (.int i), kit_ty (by decide +kernel), _, rfl, q⟩⟩
    | str x => exact ⟨_, rfl, _, _, _, _, false, rfl, ClsV.ty _, TyX.base (.str x), kit_ty (by decide +kernel), _, rfl, iteF q⟩
    | lst h => exact ⟨_, rfl, _, _, _, _, false, rfl, ClsV.ty _, TyX.base (.lst h), kit_ty (by decide +kernel), _, rfl, iteF q⟩
    | tup h => exact ⟨_, rfl, _, _, _, _, false, rfl, ClsV.ty _, TyX.base (.tup h), kit_ty (by decide +kernel), _, rfl, iteF q⟩
end
end Yj
set_option Elab.async false
set_option linter.all false
set_option maxRecDepth 100000
set_option maxHeartbeats 4000000
set_option pp.maxSteps 1500
namespace Yj
open PySem PySem.Spec PyProof.Rows L2 RZ
section
variable {P : Program} {w : World} {K : PySem.W.Frag} {mg : Str → Option Value} {base : Heap} {ad : Nat → Addr} {fds : Nat → FuncData} {cs : Nat → Value}
/-- a day, of anything -/
def isD : V → Bool
  | .int i => decide (0 ≤ i ∧ i ≤ 999999)
  | _ => false
def spDay : Sp := fun vs H Q _ => ∃ x, vs = [x] ∧ Pl H x ∧ Q (.bl (isD x)) H
theorem ok_is_day (T : Txt K mg ad fds cs) : FnOk P w K mg base CX0 2 (ad 10) (fds 10) ["thing"] spDay := by
  refine T.F_is_day.ok sc_is_day (fun vs H Q E h => ?_) (fun cdv A outer s H vs Q E hr h => ?_)
  · obtain ⟨x, rfl, _⟩ := h
    rfl
  · obtain ⟨x, rfl, hx, q⟩ := h
    refine ⟨_, (pss_one (ps_ret (pe_and (pe_call (ok_is_integer T) (hr.mono (by decide)) rfl T.g_is_integer T.F_is_integer.kp (bi_is_integer T) .nil pass0 (pa_cons (pv 0) pa_nil)) (pe_one (pe_chain op_le op_le pe_int (pv 0) (pe_glob rfl T.c_LAST_DAY T.r_LAST_DAY)))))), ?_⟩
    have hno : isI x = false → isD x = false := by
      cases x <;> first | (intro _; rfl) | (intro z; cases z)
    cases e : isI x with
    | false =>
      rw [hno e] at q
      exact ⟨x, rfl, x, rfl, hx, _, rfl, by rw [e]; exact iteF q⟩
    | true =>
      obtain ⟨i, rfl⟩ : ∃ i, x = .int i := by
        cases x <;> first | exact ⟨_, rfl⟩ | cases e
      refine ⟨_, rfl, _, rfl, hx, _, rfl, iteT ?_⟩
      refine ⟨_, rfl, 0, i, rfl, rfl, _, rfl, ?_⟩
      by_cases h0 : 0 ≤ i
      · rw [decide_eq_true h0]
        refine iteT ⟨i, 999999, rfl, rfl, ?_⟩
        have e2 : isD (.int i) = decide (i ≤ 999999) := by
          unfold isD
          exact decide_eq_decide.mpr ⟨fun z => z.2, fun z => ⟨h0, z⟩⟩
        rw [e2] at q
        exact q
      · rw [decide_eq_false h0]
        have e2 : isD (.int i) = false := decide_eq_false fun z => h0 z.1
        rw [e2] at q
        exact iteF q
end
end Yj
set_option Elab.async false
set_option linter.all false
set_option maxRecDepth 100000
set_option maxHeartbeats 4000000
set_option pp.maxSteps 1500
namespace Yj
open PySem PySem.Spec PyProof.Rows L2 RZ
/-! ### rows of spans: the mathematics -/
abbrev Sps := List (Int × Int)
/-- a day is in one of the spans -/
def Mem : Sps → Int → Prop
  | [], _ => False
  | p :: x, d => (p.1 ≤ d ∧ d ≤ p.2) ∨ Mem x d
instance memDec : (l : Sps) → (d : Int) → Decidable (Mem l d)
  | [], _ => .isFalse id
  | p :: x, d => @instDecidableOr _ _ _ (memDec x d)
/-- the one form: from lo on, ascending, a day between each two -/
def Nf : Int → Sps → Prop
  | _, [] => True
  | lo, p :: x => lo ≤ p.1 ∧ p.1 ≤ p.2 ∧ Nf (p.2 + 2) x
/-- all spans are such -/
def Val : Sps → Prop
  | [] => True
  | p :: x => (0 ≤ p.1 ∧ p.1 ≤ p.2 ∧ p.2 ≤ 999999) ∧ Val x
theorem Nf.mono : ∀ {l : Sps} {lo lo' : Int}, Nf lo l → lo' ≤ lo → Nf lo' l
  | [], _, _, _, _ => True.intro
  | p :: x, _, _, h, e => ⟨Int.le_trans e h.1, h.2.1, h.2.2⟩
theorem Nf.low : ∀ {l : Sps} {lo d : Int}, Nf lo l → Mem l d → lo ≤ d
  | [], _, _, _, h => h.elim
  | p :: x, lo, d, ⟨h1, h2, h3⟩, h => by
    rcases h with h | h
    · omega
    · have := h3.low h
      omega
theorem Nf.val : ∀ {l : Sps} {lo : Int}, Nf lo l → ∀ p ∈ l, p.1 ≤ p.2
  | [], _, _, p, h => by cases h
  | q :: x, lo, ⟨h1, h2, h3⟩, p, h => by
    rcases List.mem_cons.mp h with e | h
    · rw [e]
      exact h2
    · exact h3.val p h
theorem Nf.uniq : ∀ {l m : Sps} {lo lo' : Int}, Nf lo l → Nf lo' m → (∀ d, Mem l d ↔ Mem m d) → l = m
  | [], [], _, _, _, _, _ => rfl
  | [], q :: y, _, _, _, hm, h => ((h q.1).mpr (.inl ⟨Int.le_refl _, hm.2.1⟩)).elim
  | p :: x, [], _, _, hl, _, h => ((h p.1).mp (.inl ⟨Int.le_refl _, hl.2.1⟩)).elim
  | (a, b) :: x, (c, d) :: y, _, _, ⟨l1, l2, l3⟩, ⟨m1, m2, m3⟩, h => by
    dsimp only at l1 l2 l3 m1 m2 m3
    have lx : ∀ e, Mem x e → b + 2 ≤ e := fun e z => l3.low z
    have ly : ∀ e, Mem y e → d + 2 ≤ e := fun e z => m3.low z
    have hh : ∀ e, ((a ≤ e ∧ e ≤ b) ∨ Mem x e) ↔ ((c ≤ e ∧ e ≤ d) ∨ Mem y e) := h
    have hac : a = c := by
      have h1 := (hh a).mp (.inl ⟨Int.le_refl _, l2⟩)
      have h2 := (hh c).mpr (.inl ⟨Int.le_refl _, m2⟩)
      rcases h1 with h1 | h1
      · rcases h2 with h2 | h2
        · omega
        · have := lx _ h2
          omega
      · have := ly _ h1
        rcases h2 with h2 | h2
        · omega
        · have := lx _ h2
          omega
    subst hac
    have hbd : b = d := by
      rcases Int.lt_trichotomy b d with z | z | z
      · have h1 := (hh (b + 1)).mpr (.inl ⟨by omega, by omega⟩)
        rcases h1 with h1 | h1
        · omega
        · have := lx _ h1
          omega
      · exact z
      · have h1 := (hh (d + 1)).mp (.inl ⟨by omega, by omega⟩)
        rcases h1 with h1 | h1
        · omega
        · have := ly _ h1
          omega
    subst hbd
    have : x = y := Nf.uniq l3 m3 fun e => by
      constructor
      · intro z
        have g := lx _ z
        rcases (hh e).mp (.inr z) with q | q
        · omega
        · exact q
      · intro z
        have g := ly _ z
        rcases (hh e).mpr (.inr z) with q | q
        · omega
        · exact q
    rw [this]
theorem Val.mem : ∀ {l : Sps} {d : Int}, Val l → Mem l d → 0 ≤ d ∧ d ≤ 999999
  | [], _, _, h => h.elim
  | p :: x, d, ⟨v, vx⟩, h => by
    rcases h with h | h
    · omega
    · exact vx.mem h
theorem Val.all : ∀ {l : Sps}, Val l → ∀ p ∈ l, 0 ≤ p.1 ∧ p.1 ≤ p.2 ∧ p.2 ≤ 999999
  | [], _, _, h => by cases h
  | q :: x, ⟨v, vx⟩, p, h => by
    rcases List.mem_cons.mp h with e | h
    · rw [e]
      exact v
    · exact vx.all p h
theorem val_of : ∀ {l : Sps}, (∀ p ∈ l, 0 ≤ p.1 ∧ p.1 ≤ p.2 ∧ p.2 ≤ 999999) → Val l
  | [], _ => True.intro
  | q :: x, h => ⟨h q (List.mem_cons_self ..), val_of fun p z => h p (List.mem_cons_of_mem _ z)⟩
theorem mem_iff : ∀ {l : Sps} {d : Int}, Mem l d ↔ ∃ p ∈ l, p.1 ≤ d ∧ d ≤ p.2
  | [], d => ⟨fun h => h.elim, fun ⟨_, h, _⟩ => by cases h⟩
  | q :: x, d => by
    constructor
    · intro h
      rcases h with h | h
      · exact ⟨q, List.mem_cons_self .., h⟩
      · obtain ⟨p, hp, h⟩ := mem_iff.mp h
        exact ⟨p, List.mem_cons_of_mem _ hp, h⟩
    · rintro ⟨p, hp, h⟩
      rcases List.mem_cons.mp hp with e | hp
      · rw [e] at h
        exact .inl h
      · exact .inr (mem_iff.mpr ⟨p, hp, h⟩)
theorem mem_append {l m : Sps} {d : Int} : Mem (l ++ m) d ↔ Mem l d ∨ Mem m d := by
  rw [mem_iff, mem_iff, mem_iff]
  constructor
  · rintro ⟨p, hp, h⟩
    rcases List.mem_append.mp hp with z | z
    · exact .inl ⟨p, z, h⟩
    · exact .inr ⟨p, z, h⟩
  · rintro (⟨p, hp, h⟩ | ⟨p, hp, h⟩)
    · exact ⟨p, List.mem_append_left _ hp, h⟩
    · exact ⟨p, List.mem_append_right _ hp, h⟩
/-- a row: in its one form, of days -/
def Row (l : Sps) : Prop := Nf 0 l ∧ Val l
theorem Row.uniq {l m : Sps} (a : Row l) (b : Row m) (h : ∀ d, 0 ≤ d → d ≤ 999999 → (Mem l d ↔ Mem m d)) : l = m := a.1.uniq b.1 fun d => by
  constructor
  · intro z
    obtain ⟨h1, h2⟩ := a.2.mem z
    exact (h d h1 h2).mp z
  · intro z
    obtain ⟨h1, h2⟩ := b.2.mem z
    exact (h d h1 h2).mpr z
/-! melting -/
def meltM : Int × Int → Sps → Sps
  | c, [] => [c]
  | c, p :: x => if p.1 ≤ c.2 + 1 then meltM (c.1, if p.2 > c.2 then p.2 else c.2) x else c :: meltM p x
def melt : Sps → Sps
  | [] => []
  | p :: x => meltM p x
/-- ascending by their first days, each above -/
def Asc : Int → Sps → Prop
  | _, [] => True
  | lo, p :: x => lo ≤ p.1 ∧ p.1 ≤ p.2 ∧ Asc p.1 x
theorem Asc.mono : ∀ {l : Sps} {lo lo' : Int}, Asc lo l → lo' ≤ lo → Asc lo' l
  | [], _, _, _, _ => True.intro
  | p :: x, _, _, h, e => ⟨Int.le_trans e h.1, h.2.1, h.2.2⟩
theorem meltM_nf : ∀ {x : Sps} {c : Int × Int} {lo : Int}, lo ≤ c.1 → c.1 ≤ c.2 → Asc c.1 x → Nf lo (meltM c x)
  | [], c, lo, h1, h2, _ => ⟨h1, h2, True.intro⟩
  | p :: x, c, lo, h1, h2, ⟨a1, a2, a3⟩ => by
    unfold meltM
    split
    · refine meltM_nf h1 ?_ (a3.mono a1)
      dsimp only
      split <;> omega
    · refine ⟨h1, h2, meltM_nf ?_ a2 a3⟩
      omega
theorem meltM_mem : ∀ {x : Sps} {c : Int × Int} {d : Int}, c.1 ≤ c.2 → Asc c.1 x → (Mem (meltM c x) d ↔ (c.1 ≤ d ∧ d ≤ c.2) ∨ Mem x d)
  | [], c, d, _, _ => Iff.rfl
  | p :: x, c, d, h2, ⟨a1, a2, a3⟩ => by
    unfold meltM
    split
    · rename_i h
      have hc : c.1 ≤ (if p.2 > c.2 then p.2 else c.2) := by split <;> omega
      have e := meltM_mem (x := x) (c := (c.1, if p.2 > c.2 then p.2 else c.2)) (d := d) hc (a3.mono a1)
      rw [e]
      show _ ↔ (c.1 ≤ d ∧ d ≤ c.2) ∨ ((p.1 ≤ d ∧ d ≤ p.2) ∨ Mem x d)
      by_cases m : Mem x d
      · simp only [m, or_true]
      · simp only [m, or_false]
        split <;> omega
    · show (c.1 ≤ d ∧ d ≤ c.2) ∨ Mem (meltM p x) d ↔ (c.1 ≤ d ∧ d ≤ c.2) ∨ ((p.1 ≤ d ∧ d ≤ p.2) ∨ Mem x d)
      rw [meltM_mem a2 a3]
theorem meltM_val : ∀ {x : Sps} {c : Int × Int}, (0 ≤ c.1 ∧ c.1 ≤ c.2 ∧ c.2 ≤ 999999) → Val x → Val (meltM c x)
  | [], c, h, _ => ⟨h, True.intro⟩
  | p :: x, c, h, ⟨v, vx⟩ => by
    unfold meltM
    split
    · refine meltM_val ?_ vx
      dsimp only
      split <;> omega
    · exact ⟨h, meltM_val v vx⟩
theorem meltM_len : ∀ {x : Sps} {c : Int × Int}, (meltM c x).length ≤ x.length + 1
  | [], c => Nat.le_refl _
  | p :: x, c => by
    unfold meltM
    split
    · exact Nat.le_trans meltM_len (Nat.le_succ _)
    · exact Nat.succ_le_succ meltM_len
theorem melt_row : ∀ {l : Sps}, Asc 0 l → Val l → Row (melt l) ∧ (∀ d, Mem (melt l) d ↔ Mem l d) ∧ (melt l).length ≤ l.length
  | [], _, _ => ⟨⟨True.intro, True.intro⟩, fun _ => Iff.rfl, Nat.le_refl _⟩
  | p :: x, ⟨a1, a2, a3⟩, ⟨v, vx⟩ => ⟨⟨meltM_nf a1 a2 a3, meltM_val v vx⟩, fun d => meltM_mem a2 a3, meltM_len⟩
/-! meeting -/
def meetM : Sps → Sps → Sps
  | [], _ => []
  | _ :: _, [] => []
  | a :: x, b :: y =>
    let f := if b.1 > a.1 then b.1 else a.1
    let g := if b.2 < a.2 then b.2 else a.2
    let r := if a.2 < b.2 then meetM x (b :: y) else meetM (a :: x) y
    if f ≤ g then (f, g) :: r else r
termination_by l m => l.length + m.length
theorem meetM_nil (m : Sps) : meetM [] m = [] := by unfold meetM; rfl
theorem meetM_nil2 (l : Sps) : meetM l [] = [] := by cases l <;> (unfold meetM; rfl)
theorem meetM_cons (a b : Int × Int) (x y : Sps) : meetM (a :: x) (b :: y) =
    if (if b.1 > a.1 then b.1 else a.1) ≤ (if b.2 < a.2 then b.2 else a.2) then ((if b.1 > a.1 then b.1 else a.1), (if b.2 < a.2 then b.2 else a.2)) :: (if a.2 < b.2 then meetM x (b :: y) else meetM (a :: x) y)
    else (if a.2 < b.2 then meetM x (b :: y) else meetM (a :: x) y) := by
  rw [meetM]
theorem meetM_nf : ∀ (n : Nat) {l m : Sps} {lo lo' : Int}, l.length + m.length ≤ n → Nf lo l → Nf lo' m → Nf lo (meetM l m) ∧ Nf lo' (meetM l m) ∧ (∀ d, Mem (meetM l m) d ↔ Mem l d ∧ Mem m d) ∧ (meetM l m).length ≤ l.length + m.length
  | _, [], m, _, _, _, _, _ => by
    rw [meetM_nil]
    exact ⟨True.intro, True.intro, fun d => ⟨fun h => h.elim, fun h => h.1.elim⟩, Nat.zero_le _⟩
  | _, _ :: _, [], _, _, _, _, _ => by
    rw [meetM_nil2]
    exact ⟨True.intro, True.intro, fun d => ⟨fun h => h.elim, fun h => h.2.elim⟩, Nat.zero_le _⟩
  | 0, _ :: _, _ :: _, _, _, hn, _, _ => by simp at hn
  | n + 1, (a, a') :: x, (b, b') :: y, lo, lo', hn, ⟨l1, l2, l3⟩, ⟨m1, m2, m3⟩ => by
    rw [meetM_cons]
    simp only [List.length_cons] at hn
    dsimp only at l1 l2 l3 m1 m2 m3 ⊢
    have lx : ∀ e, Mem x e → a' + 2 ≤ e := fun e z => l3.low z
    have ly : ∀ e, Mem y e → b' + 2 ≤ e := fun e z => m3.low z
    by_cases c : a' < b'
    · rw [if_pos c]
      obtain ⟨r1, r2, r3, r4⟩ := meetM_nf n (l := x) (m := (b, b') :: y) (by simp only [List.length_cons]; omega) l3 ⟨m1, m2, m3⟩
      have key : ∀ d, ((a ≤ d ∧ d ≤ a') ∨ Mem x d) ∧ ((b ≤ d ∧ d ≤ b') ∨ Mem y d) ↔ ((if b > a then b else a) ≤ d ∧ d ≤ (if b' < a' then b' else a')) ∨ (Mem x d ∧ ((b ≤ d ∧ d ≤ b') ∨ Mem y d)) := by
        intro d
        have q1 := lx d
        have q2 := ly d
        by_cases mx : Mem x d
        · simp only [mx, or_true, true_and]
          have := q1 mx
          split <;> split <;> by_cases my : Mem y d <;> simp only [my, or_true, or_false, or_iff_right_iff_imp] <;> omega
        · by_cases my : Mem y d
          · simp only [mx, my, or_true, or_false, and_true, false_and]
            have := q2 my
            split <;> split <;> omega
          · simp only [mx, my, or_false, false_and]
            split <;> split <;> omega
      by_cases f : (if b > a then b else a) ≤ (if b' < a' then b' else a')
      · rw [if_pos f]
        have e : (if b' < a' then b' else a') = a' := by rw [if_neg (by omega)]
        refine ⟨⟨?_, f, ?_⟩, ⟨?_, f, ?_⟩, fun d => ?_, ?_⟩
        · dsimp only
          split <;> omega
        · dsimp only
          rw [e]
          exact r1
        · dsimp only
          split <;> omega
        · dsimp only
          rw [e]
          exact r1
        · exact Iff.trans (or_congr Iff.rfl (r3 d)) (key d).symm
        · simp only [List.length_cons] at r4 ⊢
          omega
      · rw [if_neg f]
        refine ⟨r1.mono (by omega), r2, fun d => ?_, ?_⟩
        · rw [r3 d]
          refine Iff.trans ?_ (key d).symm
          show Mem x d ∧ ((b ≤ d ∧ d ≤ b') ∨ Mem y d) ↔ _
          constructor
          · exact .inr
          · rintro (z | z)
            · omega
            · exact z
        · simp only [List.length_cons] at r4 ⊢
          omega
    · rw [if_neg c]
      obtain ⟨r1, r2, r3, r4⟩ := meetM_nf n (l := (a, a') :: x) (m := y) (by simp only [List.length_cons]; omega) ⟨l1, l2, l3⟩ m3
      have key : ∀ d, ((a ≤ d ∧ d ≤ a') ∨ Mem x d) ∧ ((b ≤ d ∧ d ≤ b') ∨ Mem y d) ↔ ((if b > a then b else a) ≤ d ∧ d ≤ (if b' < a' then b' else a')) ∨ (((a ≤ d ∧ d ≤ a') ∨ Mem x d) ∧ Mem y d) := by
        intro d
        have q1 := lx d
        have q2 := ly d
        by_cases my : Mem y d
        · simp only [my, or_true, and_true]
          have := q2 my
          split <;> split <;> by_cases mx : Mem x d <;> simp only [mx, or_true, or_false, or_iff_right_iff_imp] <;> omega
        · by_cases mx : Mem x d
          · simp only [mx, my, or_true, or_false, true_and, and_false]
            have := q1 mx
            split <;> split <;> omega
          · simp only [mx, my, or_false, and_false]
            split <;> split <;> omega
      by_cases f : (if b > a then b else a) ≤ (if b' < a' then b' else a')
      · rw [if_pos f]
        have e : (if b' < a' then b' else a') = b' := by split <;> omega
        refine ⟨⟨?_, f, ?_⟩, ⟨?_, f, ?_⟩, fun d => ?_, ?_⟩
        · dsimp only
          split <;> omega
        · dsimp only
          rw [e]
          exact r2
        · dsimp only
          split <;> omega
        · dsimp only
          rw [e]
          exact r2
        · exact Iff.trans (or_congr Iff.rfl (r3 d)) (key d).symm
        · simp only [List.length_cons] at r4 ⊢
          omega
      · rw [if_neg f]
        refine ⟨r1, r2.mono (by omega), fun d => ?_, ?_⟩
        · rw [r3 d]
          refine Iff.trans ?_ (key d).symm
          show ((a ≤ d ∧ d ≤ a') ∨ Mem x d) ∧ Mem y d ↔ _
          constructor
          · exact .inr
          · rintro (z | z)
            · omega
            · exact z
        · simp only [List.length_cons] at r4 ⊢
          omega
theorem nf_val {l : Sps} (h : ∀ {d}, Mem l d → d ≤ 999999) : ∀ {m : Sps} {lo : Int}, 0 ≤ lo → Nf lo m → (∀ d, Mem m d → d ≤ 999999) → Val m
  | [], _, _, _, _ => True.intro
  | p :: x, lo, h0, ⟨h1, h2, h3⟩, k => ⟨⟨by omega, h2, k p.2 (.inl ⟨h2, Int.le_refl _⟩)⟩, nf_val @h (lo := p.2 + 2) (by omega) h3 fun d z => k d (.inr z)⟩
theorem row_of {l : Sps} (h : Nf 0 l) (k : ∀ d, Mem l d → d ≤ 999999) : Row l := ⟨h, nf_val (l := l) (fun {d} z => k d z) (Int.le_refl 0) h k⟩
theorem meet_row {l m : Sps} (hl : Row l) (hm : Row m) : Row (meetM l m) ∧ (∀ d, Mem (meetM l m) d ↔ Mem l d ∧ Mem m d) ∧ (meetM l m).length ≤ l.length + m.length := by
  obtain ⟨r1, r2, r3, r4⟩ := meetM_nf (l.length + m.length) (Nat.le_refl _) hl.1 hm.1
  exact ⟨row_of r1 fun d z => (hl.2.mem ((r3 d).mp z).1).2, r3, r4⟩
/-! others -/
def othersM : Int → Sps → Sps
  | f, [] => if f ≤ 999999 then [(f, 999999)] else []
  | f, p :: x => if f < p.1 then (f, p.1 - 1) :: othersM (p.2 + 1) x else othersM (p.2 + 1) x
theorem othersM_nf : ∀ {l : Sps} {f : Int}, Nf f l → Val l → Nf f (othersM f l) ∧ (∀ d, Mem (othersM f l) d ↔ f ≤ d ∧ d ≤ 999999 ∧ ¬ Mem l d) ∧ (othersM f l).length ≤ l.length + 1
  | [], f, _, _ => by
    unfold othersM
    by_cases c : f ≤ 999999
    · rw [if_pos c]
      refine ⟨⟨Int.le_refl _, c, True.intro⟩, fun d => ?_, Nat.le_refl _⟩
      simp [Mem]
    · rw [if_neg c]
      refine ⟨True.intro, fun d => ?_, Nat.zero_le _⟩
      simp [Mem]
      omega
  | (a, b) :: x, f, ⟨h1, h2, h3⟩, ⟨v, vx⟩ => by
    dsimp only at h1 h2 h3 v
    unfold othersM
    dsimp only
    obtain ⟨r1, r2, r3⟩ := othersM_nf (l := x) (f := b + 1) (h3.mono (by omega)) vx
    have lx : ∀ e, Mem x e → b + 2 ≤ e := fun e z => h3.low z
    by_cases c : f < a
    · rw [if_pos c]
      refine ⟨⟨Int.le_refl _, by dsimp only; omega, by dsimp only; exact r1.mono (by omega)⟩, fun d => ?_, by simp only [List.length_cons]; omega⟩
      show (f ≤ d ∧ d ≤ a - 1) ∨ Mem (othersM (b + 1) x) d ↔ f ≤ d ∧ d ≤ 999999 ∧ ¬ ((a ≤ d ∧ d ≤ b) ∨ Mem x d)
      rw [r2 d]
      have q := lx d
      by_cases mx : Mem x d
      · have := q mx
        simp only [mx, or_true, not_true_eq_false, and_false, or_false, iff_false]
        omega
      · simp only [mx, or_false, not_false_eq_true, and_true]
        omega
    · rw [if_neg c]
      refine ⟨r1.mono (by omega), fun d => ?_, by simp only [List.length_cons]; omega⟩
      rw [r2 d]
      show b + 1 ≤ d ∧ d ≤ 999999 ∧ ¬ Mem x d ↔ f ≤ d ∧ d ≤ 999999 ∧ ¬ ((a ≤ d ∧ d ≤ b) ∨ Mem x d)
      by_cases mx : Mem x d
      · simp only [mx, or_true, not_true_eq_false, and_false]
      · simp only [mx, or_false, not_false_eq_true, and_true]
        omega
theorem others_row {l : Sps} (h : Row l) : Row (othersM 0 l) ∧ (∀ d, Mem (othersM 0 l) d ↔ 0 ≤ d ∧ d ≤ 999999 ∧ ¬ Mem l d) ∧ (othersM 0 l).length ≤ l.length + 1 := by
  obtain ⟨r1, r2, r3⟩ := othersM_nf h.1 h.2
  exact ⟨row_of r1 fun d z => ((r2 d).mp z).2.1, r2, r3⟩
/-! how many -/
def card : Sps → Int
  | [] => 0
  | p :: x => p.2 - p.1 + 1 + card x
/-- how many of the days 0, 1 .. below n are so -/
def cnt (P : Int → Prop) [DecidablePred P] : Nat → Int
  | 0 => 0
  | n + 1 => (if P n then 1 else 0) + cnt P n
theorem cnt_congr {P Q : Int → Prop} [DecidablePred P] [DecidablePred Q] : ∀ n : Nat, (∀ d : Int, 0 ≤ d → d < n → (P d ↔ Q d)) → cnt P n = cnt Q n
  | 0, _ => rfl
  | n + 1, h => by
    unfold cnt
    rw [cnt_congr n fun d h0 h1 => h d h0 (by omega)]
    have e := h n (by omega) (by omega)
    by_cases p : P n
    · rw [if_pos p, if_pos (e.mp p)]
    · rw [if_neg p, if_neg fun z => p (e.mpr z)]
theorem cnt_or {P Q : Int → Prop} [DecidablePred P] [DecidablePred Q] : ∀ n : Nat, cnt (fun d => P d ∨ Q d) n + cnt (fun d => P d ∧ Q d) n = cnt P n + cnt Q n
  | 0 => rfl
  | n + 1 => by
    unfold cnt
    have := cnt_or (P := P) (Q := Q) n
    by_cases p : P n <;> by_cases q : Q n <;> simp only [p, q, or_true, or_false, and_true, and_false, if_true, if_false] <;> omega
theorem cnt_not {P : Int → Prop} [DecidablePred P] : ∀ n : Nat, cnt P n + cnt (fun d => ¬ P d) n = n
  | 0 => rfl
  | n + 1 => by
    unfold cnt
    have := cnt_not (P := P) n
    by_cases p : P n <;> simp only [p, not_true_eq_false, not_false_eq_true, if_true, if_false] <;> omega
theorem cnt_span (a b : Int) : ∀ n : Nat, 0 ≤ a → a ≤ b + 1 → cnt (fun d => a ≤ d ∧ d ≤ b) n = if (n : Int) ≤ a then 0 else if (n : Int) ≤ b then n - a else b + 1 - a
  | 0, h0, h1 => by
    unfold cnt
    rw [if_pos (by omega)]
  | n + 1, h0, h1 => by
    unfold cnt
    rw [cnt_span a b n h0 h1]
    split <;> split <;> split <;> (try split) <;> omega
theorem cnt_none {P : Int → Prop} [DecidablePred P] : ∀ n : Nat, (∀ d : Int, ¬ P d) → cnt P n = 0
  | 0, _ => rfl
  | n + 1, h => by
    unfold cnt
    rw [if_neg (h _), cnt_none n h]
    rfl
theorem card_cnt : ∀ {l : Sps} {lo : Int}, 0 ≤ lo → Nf lo l → Val l → card l = cnt (fun d => Mem l d) 1000000
  | [], _, _, _, _ => (cnt_none 1000000 fun _ => id).symm
  | (a, b) :: x, lo, h0, ⟨h1, h2, h3⟩, ⟨v, vx⟩ => by
    dsimp only at h1 h2 h3 v
    have e := cnt_or (P := fun d => a ≤ d ∧ d ≤ b) (Q := fun d => Mem x d) 1000000
    have e0 : cnt (fun d => (a ≤ d ∧ d ≤ b) ∧ Mem x d) 1000000 = 0 := cnt_none 1000000 fun d z => by
      have := h3.low z.2
      omega
    have e1 := cnt_span a b 1000000 (by omega) (by omega)
    rw [if_neg (by omega), if_neg (by omega)] at e1
    have e2 := card_cnt (lo := b + 2) (by omega) h3 vx
    have e3 : cnt (fun d => Mem ((a, b) :: x) d) 1000000 = cnt (fun d => (a ≤ d ∧ d ≤ b) ∨ Mem x d) 1000000 := cnt_congr _ fun d _ _ => Iff.rfl
    rw [e3]
    show b - a + 1 + card x = _
    omega
theorem Row.card {l : Sps} (h : Row l) : card l = cnt (fun d => Mem l d) 1000000 := card_cnt (Int.le_refl 0) h.1 h.2
theorem card_others {l m : Sps} (h : Row l) (hm : Row m) (k : ∀ d, Mem m d ↔ 0 ≤ d ∧ d ≤ 999999 ∧ ¬ Mem l d) : card l + card m = 1000000 := by
  rw [h.card, hm.card]
  have e := cnt_not (P := fun d => Mem l d) 1000000
  rw [cnt_congr (P := fun d => Mem m d) (Q := fun d => ¬ Mem l d) 1000000 fun d h0 h1 => ?_]
  · exact e
  · rw [k d]
    constructor
    · exact fun z => z.2.2
    · exact fun z => ⟨h0, by omega, z⟩
theorem card_union {l m u t : Sps} (hl : Row l) (hm : Row m) (hu : Row u) (ht : Row t) (k : ∀ d, Mem u d ↔ Mem l d ∨ Mem m d) (k2 : ∀ d, Mem t d ↔ Mem l d ∧ Mem m d) : card u = card l + card m - card t := by
  rw [hl.card, hm.card, hu.card, ht.card]
  have e := cnt_or (P := fun d => Mem l d) (Q := fun d => Mem m d) 1000000
  rw [cnt_congr (P := fun d => Mem u d) (Q := fun d => Mem l d ∨ Mem m d) 1000000 fun d _ _ => k d, cnt_congr (P := fun d => Mem t d) (Q := fun d => Mem l d ∧ Mem m d) 1000000 fun d _ _ => k2 d]
  omega
/-! breaks -/
def brk : Sps → List Int
  | [] => []
  | p :: x => p.1 :: (p.2 + 1) :: brk x
theorem brk_len : ∀ l : Sps, (brk l).length = 2 * l.length
  | [] => rfl
  | p :: x => by
    show (brk x).length + 1 + 1 = 2 * (x.length + 1)
    rw [brk_len x]
    omega
theorem brk_low : ∀ {l : Sps} {lo : Int}, Nf lo l → ∀ z ∈ brk l, lo ≤ z
  | [], _, _, z, h => by cases h
  | p :: x, lo, ⟨h1, h2, h3⟩, z, h => by
    rcases List.mem_cons.mp h with e | h
    · omega
    · rcases List.mem_cons.mp h with e | h
      · omega
      · have := brk_low h3 z h
        omega
theorem brk_asc : ∀ {l : Sps} {lo : Int}, Nf lo l → (brk l).Pairwise (· ≤ ·)
  | [], _, _ => .nil
  | p :: x, lo, ⟨h1, h2, h3⟩ => by
    have k := brk_low h3
    refine .cons (fun z h => ?_) (.cons (fun z h => ?_) (brk_asc h3))
    · rcases List.mem_cons.mp h with e | h
      · omega
      · have := k z h
        omega
    · have := k z h
      omega
theorem brk_mem : ∀ {l : Sps} {lo : Int}, Nf lo l → ∀ d, d ∈ brk l ↔ ¬ (Mem l d ↔ Mem l (d - 1))
  | [], _, _, d => by simp [brk, Mem]
  | (a, b) :: x, lo, ⟨h1, h2, h3⟩, d => by
    dsimp only at h1 h2 h3
    have ih := brk_mem h3 d
    have q1 : Mem x d → b + 2 ≤ d := fun z => h3.low z
    have q2 : Mem x (d - 1) → b + 2 ≤ d - 1 := fun z => h3.low z
    have q3 : d ∈ brk x → b + 2 ≤ d := fun z => brk_low h3 d z
    show d ∈ a :: (b + 1) :: brk x ↔ ¬ ((a ≤ d ∧ d ≤ b) ∨ Mem x d ↔ (a ≤ d - 1 ∧ d - 1 ≤ b) ∨ Mem x (d - 1))
    rw [List.mem_cons, List.mem_cons, ih]
    by_cases m1 : Mem x d <;> by_cases m2 : Mem x (d - 1) <;> simp only [m1, m2, or_true, or_false, true_iff, iff_true, false_iff, iff_false, not_true_eq_false, not_false_eq_true, true_implies, iff_self] at ih q1 q2 q3 ⊢ <;> omega
end Yj
set_option Elab.async false
set_option linter.all false
set_option maxRecDepth 100000
set_option maxHeartbeats 4000000
set_option pp.maxSteps 1500
namespace Yj
open PySem PySem.Spec PyProof.Rows L2 RZ
/-! ### rows in the heap -/
/-- a span: a new tuple of two ints -/
def Pr (H : Hp) (v : V) (p : Int × Int) : Prop := ∃ t, v = .ref t ∧ H t = some (.tup [.int p.1, .int p.2])
inductive Prs (H : Hp) : List V → Sps → Prop
  | nil : Prs H [] []
  | cons {v : V} {vs : List V} {p : Int × Int} {l : Sps} : Pr H v p → Prs H vs l → Prs H (v :: vs) (p :: l)
theorem Pr.mono {H H' : Hp} {v : V} {p : Int × Int} (s : Same H H') (h : Pr H v p) : Pr H' v p := by
  obtain ⟨t, e, h⟩ := h
  exact ⟨t, e, s _ _ h⟩
theorem Prs.mono {H H' : Hp} (s : Same H H') : ∀ {vs : List V} {l : Sps}, Prs H vs l → Prs H' vs l
  | _, _, .nil => .nil
  | _, _, .cons h t => .cons (h.mono s) (t.mono s)
theorem Prs.len {H : Hp} : ∀ {vs : List V} {l : Sps}, Prs H vs l → vs.length = l.length
  | _, _, .nil => rfl
  | _, _, .cons h t => congrArg (· + 1) t.len
theorem Prs.get {H : Hp} : ∀ {vs : List V} {l : Sps} {i : Nat} {v : V}, Prs H vs l → vs[i]? = some v → ∃ p, l[i]? = some p ∧ Pr H v p
  | _, _, _, _, .nil, h => by simp at h
  | _, _, 0, _, .cons h t, e => by
    have e' := Option.some.inj e
    rw [← e']
    exact ⟨_, rfl, h⟩
  | _, _, i + 1, _, .cons h t, e => t.get (i := i) e
theorem Prs.at {H : Hp} : ∀ {vs : List V} {l : Sps} {i : Nat} {p : Int × Int}, Prs H vs l → l[i]? = some p → ∃ v, vs[i]? = some v ∧ Pr H v p
  | _, _, _, _, .nil, h => by simp at h
  | _, _, 0, _, .cons h t, e => by
    have e' := Option.some.inj e
    rw [← e']
    exact ⟨_, rfl, h⟩
  | _, _, i + 1, _, .cons h t, e => t.at (i := i) e
theorem Prs.app {H : Hp} : ∀ {vs us : List V} {l m : Sps}, Prs H vs l → Prs H us m → Prs H (vs ++ us) (l ++ m)
  | _, _, _, _, .nil, h => h
  | _, _, _, _, .cons h t, k => .cons h (t.app k)
theorem Prs.snoc {H : Hp} {vs : List V} {l : Sps} {v : V} {p : Int × Int} (h : Prs H vs l) (k : Pr H v p) : Prs H (vs ++ [v]) (l ++ [p]) := h.app (.cons k .nil)
/-- the last one apart -/
theorem Prs.last {H : Hp} : ∀ {l : Sps} {vs : List V} {p : Int × Int}, Prs H vs (l ++ [p]) → ∃ us v, vs = us ++ [v] ∧ Prs H us l ∧ Pr H v p
  | [], _, p, .cons h .nil => ⟨[], _, rfl, .nil, h⟩
  | q :: l, _, p, .cons h t => by
    obtain ⟨us, v, e, k1, k2⟩ := Prs.last t
    exact ⟨_ :: us, v, by rw [e]; rfl, .cons h k1, k2⟩
theorem same_upd {H : Hp} {p : Addr} {o : HO} (h : H p = none) : Same H (upd H p o) := fun b x e => by
  rw [upd_ne (ne_of_none e h)]
  exact e
theorem same_at {H H' : Hp} {p : Addr} {o : HO} (s : Same H H') (h : H p = none) : Same H (upd H' p o) := fun b x e => by
  rw [upd_ne (ne_of_none e h)]
  exact s _ _ e
/-- spans stay when the list at r is changed -/
theorem Pr.off {H : Hp} {r : Addr} {xs : List V} {o : HO} {v : V} {p : Int × Int} (hr : H r = some (.lst xs)) (h : Pr H v p) : Pr (upd H r o) v p := by
  obtain ⟨t, e, h⟩ := h
  refine ⟨t, e, ?_⟩
  rw [upd_ne fun z => ?_]
  · exact h
  · rw [z, hr] at h
    cases h
theorem Prs.off {H : Hp} {r : Addr} {xs : List V} {o : HO} (hr : H r = some (.lst xs)) : ∀ {vs : List V} {l : Sps}, Prs H vs l → Prs (upd H r o) vs l
  | _, _, .nil => .nil
  | _, _, .cons h t => .cons (h.off hr) (t.off hr)
theorem ifT {c : Prop} [Decidable c] {A B : Prop} (hc : c) (h : A) : if decide c = true then A else B := by
  rw [decide_eq_true hc]
  exact iteT h
theorem ifF {c : Prop} [Decidable c] {A B : Prop} (hc : ¬ c) (h : B) : if decide c = true then A else B := by
  rw [decide_eq_false hc]
  exact iteF h
theorem ofNat_lt {n : Nat} (h : n ≤ 1000000) : n < sizeLine := by
  rw [sizeLine_eq]
  omega
theorem ofNat_le {n : Nat} (h : n ≤ 1000000) : n ≤ sizeLine := Nat.le_of_lt (ofNat_lt h)
/-- what a def that changes nothing hands back: a new tuple of spans -/
def BackT (H : Hp) (Q : VK) (l : Sps) : Prop := ∀ H' p us, Same H H' → H p = none → H' p = some (.tup us) → Prs H' us l → Q (.ref p) H'
def RowT (H : Hp) (a : Addr) (l : Sps) : Prop := ∃ us, H a = some (.tup us) ∧ Prs H us l
theorem RowT.mono {H H' : Hp} {a : Addr} {l : Sps} (s : Same H H') (h : RowT H a l) : RowT H' a l := by
  obtain ⟨us, h, k⟩ := h
  exact ⟨us, s _ _ h, k.mono s⟩
theorem drop_get {α : Type} {l : List α} {i : Nat} {p : α} (h : l[i]? = some p) : l.drop i = p :: l.drop (i + 1) := by
  obtain ⟨hi, e⟩ := List.getElem?_eq_some_iff.mp h
  rw [List.drop_eq_getElem_cons hi, e]
theorem drop_end {α : Type} (l : List α) : l.drop l.length = [] := List.drop_eq_nil_of_le (Nat.le_refl _)
end Yj
set_option Elab.async false
set_option linter.all false
set_option maxRecDepth 100000
set_option maxHeartbeats 4000000
set_option pp.maxSteps 1500
namespace Yj
open PySem PySem.Spec PyProof.Rows L2 RZ
section
variable {P : Program} {w : World} {K : PySem.W.Frag} {mg : Str → Option Value} {base : Heap} {ad : Nat → Addr} {fds : Nat → FuncData} {cs : Nat → Value}
/-! ### _melted -/
def spMelt : Sp := fun vs H Q _ => ∃ a us l, vs = [.ref a] ∧ H a = some (.lst us) ∧ Prs H us l ∧ l.length ≤ 1000000 ∧ BackT H Q (melt l)
/-- the row that is made, behind i spans: its last one may still grow -/
def MeltAt (l : Sps) (i : Nat) (m : Sps) : Prop := m.length ≤ i ∧ ((i = 0 ∧ m = []) ∨ ∃ m' c, m = m' ++ [c] ∧ melt l = m' ++ meltM c (l.drop i))
theorem MeltAt.next {l m : Sps} {i : Nat} {p : Int × Int} (h : MeltAt l i m) (hp : l[i]? = some p) :
    (m = [] ∧ MeltAt l (i + 1) [p]) ∨ ∃ m' c, m = m' ++ [c] ∧ (p.1 ≤ c.2 + 1 → MeltAt l (i + 1) (m' ++ [(c.1, if p.2 > c.2 then p.2 else c.2)])) ∧ (¬ p.1 ≤ c.2 + 1 → MeltAt l (i + 1) (m ++ [p])) := by
  obtain ⟨hl, h⟩ := h
  rcases h with ⟨rfl, rfl⟩ | ⟨m', c, rfl, e⟩
  · refine .inl ⟨rfl, Nat.le_refl _, .inr ⟨[], p, rfl, ?_⟩⟩
    have z := drop_get hp
    rw [List.drop_zero] at z
    rw [z]
    rfl
  · rw [drop_get hp] at e
    rw [List.length_append] at hl
    refine .inr ⟨m', c, rfl, fun q => ⟨?_, .inr ⟨m', _, rfl, ?_⟩⟩, fun q => ⟨?_, .inr ⟨m' ++ [c], p, rfl, ?_⟩⟩⟩
    · simp only [List.length_append, List.length_cons, List.length_nil] at hl ⊢
      omega
    · rw [e]
      show m' ++ (if p.1 ≤ c.2 + 1 then _ else _) = _
      rw [if_pos q]
    · simp only [List.length_append, List.length_cons, List.length_nil] at hl ⊢
      omega
    · rw [e, List.append_assoc]
      show m' ++ (if p.1 ≤ c.2 + 1 then _ else _) = _
      rw [if_neg q]
      rfl
theorem MeltAt.done {l m : Sps} (h : MeltAt l l.length m) : m = melt l := by
  obtain ⟨_, h⟩ := h
  rcases h with ⟨h0, rfl⟩ | ⟨m', c, rfl, e⟩
  · have : l = [] := List.eq_nil_of_length_eq_zero h0
    rw [this]
    rfl
  · rw [e, drop_end]
    rfl
theorem ok__melted (T : Txt K mg ad fds cs) : FnOk P w K mg base CX0 1 (ad 14) (fds 14) ["spans"] spMelt := by
  refine T.F__melted.ok sc__melted (fun vs H Q E h => ?_) (fun cdv A outer s H vs Q E hr h => ?_)
  · obtain ⟨a, us, l, rfl, _⟩ := h
    rfl
  · obtain ⟨a, us, l, rfl, ha, hp, hlen, q⟩ := h
    refine ⟨_, (pss_cons (ps_set (i := 1) sc__melted.nd rfl (by first | exact .inl rfl | exact .inr rfl) (pe_lst pa_nil))
      (pss_cons (ps_for PassesOwn.never rfl (pi_list (pv 0)) (pg_tup rfl (pgs_cons (pg_name (i := 2) sc__melted.nd rfl (by first | exact .inl rfl | exact .inr rfl)) (pgs_cons (pg_name (i := 3) sc__melted.nd rfl (by first | exact .inl rfl | exact .inr rfl)) pgs_nil)))
      (pss_one (ps_if (PW.pt (pw_and (pt_truth (pv 1) (by intro _; rfl)) (pw_and1 (pt_cmpR op_le (pv 2) (pe_op op_add (pe_ix ix_seq (pe_ix ix_seq (pv 1) (pe_un un_neg pe_int) (fun _ _ => rfl)) pe_int (fun _ _ => rfl)) pe_int) (nomark _))))) (pss_one (ps_asg (pe_tup (pa_cons (pe_ix ix_seq (pe_ix ix_seq (pv 1) (pe_un un_neg pe_int) (fun _ _ => rfl)) pe_int (fun _ _ => rfl)) (pa_cons (pe_callB (call_max2 rfl) (by rfl) T.z_max (by decide +kernel) (pa_cons (pe_ix ix_seq (pe_ix ix_seq (pv 1) (pe_un un_neg pe_int) (fun _ _ => rfl)) pe_int (fun _ _ => rfl)) (pa_cons (pv 3) pa_nil))) pa_nil))) (pg_sub (pv 1) (pe_un un_neg pe_int) set_list))) (pss_one (ps_expr (pe_bm PySem.F.plainAttrs_list PySem.F.slot_list_append PySem.F.type_list_append mt_append (pv 1) (pa_cons (pe_tup (pa_cons (pv 2) (pa_cons (pv 3) pa_nil))) pa_nil)))))))
      (pss_one (ps_ret (pe_callTy call_tuple_of (by rfl) T.z_tuple (by decide +kernel) (pa_cons (pv 1) pa_nil)))))), ?_⟩
    refine ⟨Nat.zero_le _, fun r nr => ?_⟩
    have nra : r ≠ a := (ne_of_none ha nr).symm
    have s1 : Same H (upd H r (.lst [])) := same_upd nr
    refine ⟨_, rfl, a, rfl, ⟨_, SqL.of (s1 _ _ ha)⟩, for_list (xs := us) (fun i σ H1 => ∃ y2 y3 ws m, σ = [some (.ref a), some (.ref r), y2, y3] ∧ Same H H1 ∧ H1 r = some (.lst ws) ∧ Prs H1 ws m ∧ MeltAt l i m)
      ⟨none, none, [], [], rfl, s1, upd_same, .nil, Nat.le_refl _, .inl ⟨rfl, rfl⟩⟩ (fun i σ H1 _ ⟨_, _, _, _, _, s2, _⟩ => SqL.of (s2 _ _ ha)) ?_ ?_⟩
    · rintro i x σ H1 hx ⟨y2, y3, ws, m, rfl, s2, hr1, hm, hat⟩
      obtain ⟨p, hp1, t, rfl, ht⟩ := hp.get hx
      have hi : i < us.length := (List.getElem?_eq_some_iff.mp hx).1
      have hml : ws.length < sizeLine := ofNat_lt (by
        have h1 := hm.len
        have h2 := hat.1
        have h3 := hp.len
        omega)
      have ht1 := s2 _ _ ht
      refine ⟨t, _, rfl, SqT.of ht1, rfl, _, _, rfl, _, _, rfl, rfl, ?_⟩
      refine ⟨_, rfl, _, .inl ⟨_, SqL.of hr1, rfl⟩, ?_⟩
      rcases hat.next hp1 with ⟨rfl, n1⟩ | ⟨m', c, rfl, n1, n2⟩
      · -- the first one
        cases hm
        refine iteF ?_
        refine ⟨.ref r, rfl, .inl ⟨rfl, _, SqL.of hr1⟩, _, rfl, _, rfl, (by show 2 ≤ sizeLine; decide), fun u nu => ?_⟩
        have nur : r ≠ u := ne_of_none hr1 nu
        refine ⟨r, _, _, rfl, rfl, (upd_ne nur).trans hr1, hml, ?_⟩
        have s3 : Same H1 (upd H1 u (.tup [.int p.1, .int p.2])) := same_upd nu
        refine ⟨_, _, _, [p], rfl, same_at (s2.trans s3) nr, upd_same, .cons ⟨u, rfl, ?_⟩ .nil, n1⟩
        rw [upd_ne nur.symm]
        exact upd_same
      · obtain ⟨vs', v, rfl, k1, tv, rfl, k2⟩ := hm.last
        have e1 : (!(vs' ++ [V.ref tv]).isEmpty) = true := by
          cases vs' <;> rfl
        rw [e1]
        refine iteT ?_
        refine ⟨_, rfl, _, rfl, 1, rfl, .inl ⟨r, _, -1, _, rfl, rfl, SqL.of hr1, atI_last _ _, .inr (.inl ⟨tv, _, 1, _, rfl, rfl, SqT.of k2, atI_nat (j := 1) rfl, _, _, rfl, rfl, _, _, rfl, rfl, _, rfl, ?_⟩)⟩⟩
        by_cases hc : p.1 ≤ c.2 + 1
        · refine ifT hc ?_
          refine ⟨_, rfl, 1, rfl, .inl ⟨r, _, -1, _, rfl, rfl, SqL.of hr1, atI_last _ _, .inr (.inl ⟨tv, _, 0, _, rfl, rfl, SqT.of k2, atI_nat (j := 0) rfl, ?_⟩)⟩⟩
          refine ⟨_, rfl, 1, rfl, .inl ⟨r, _, -1, _, rfl, rfl, SqL.of hr1, atI_last _ _, .inr (.inl ⟨tv, _, 1, _, rfl, rfl, SqT.of k2, atI_nat (j := 1) rfl, ?_⟩)⟩⟩
          refine ⟨_, rfl, _, _, rfl, (by show 2 ≤ sizeLine; decide), fun u nu => ?_⟩
          have nur : r ≠ u := ne_of_none hr1 nu
          have s3 := same_upd (o := .tup [.int c.1, .int (if p.2 > c.2 then p.2 else c.2)]) nu
          refine ⟨_, rfl, 1, rfl, r, _, -1, vs'.length, rfl, rfl, (upd_ne nur).trans hr1, ?_, ?_⟩
          · unfold ixN
            rw [List.length_append, if_neg (by decide), if_pos (by simp only [List.length_cons, List.length_nil]; omega)]
            simp only [List.length_cons, List.length_nil, Option.some.injEq]
            omega
          · refine ⟨_, _, _, _, rfl, same_at (s2.trans s3) nr, upd_same, ?_, n1 hc⟩
            rw [List.set_append_right _ _ (Nat.le_refl _), Nat.sub_self]
            refine (Prs.off ((upd_ne nur).trans hr1) (k1.mono s3)).snoc ⟨u, rfl, ?_⟩
            rw [upd_ne nur.symm]
            exact upd_same
        · refine ifF hc ?_
          refine ⟨.ref r, rfl, .inl ⟨rfl, _, SqL.of hr1⟩, _, rfl, _, rfl, (by show 2 ≤ sizeLine; decide), fun u nu => ?_⟩
          have nur : r ≠ u := ne_of_none hr1 nu
          have s3 := same_upd (o := .tup [.int p.1, .int p.2]) nu
          refine ⟨r, _, _, rfl, rfl, (upd_ne nur).trans hr1, hml, ?_⟩
          refine ⟨_, _, _, _, rfl, same_at (s2.trans s3) nr, upd_same, ?_, n2 hc⟩
          refine (Prs.off ((upd_ne nur).trans hr1) (hm.mono s3)).snoc ⟨u, rfl, ?_⟩
          rw [upd_ne nur.symm]
          exact upd_same
    · rintro σ H1 ⟨y2, y3, ws, m, rfl, s2, hr1, hm, hat⟩
      rw [hp.len] at hat
      have hm' : m = melt l := hat.done
      subst hm'
      refine ⟨_, rfl, r, _, rfl, .inl ⟨SqL.of hr1, fun t nt => ?_⟩⟩
      have s3 := same_upd (o := .tup ws) nt
      exact q _ t ws (s2.trans s3) (s2.free nt) upd_same (hm.mono s3)
end
end Yj
set_option Elab.async false
set_option linter.all false
set_option maxRecDepth 100000
set_option maxHeartbeats 4000000
set_option pp.maxSteps 1500
namespace Yj
open PySem PySem.Spec PyProof.Rows L2 RZ
/-! ### sorted rows -/
/-- the two ints of a span -/
def twoOf (H : Hp) : V → Int × Int
  | .ref t => match H t with
    | some (.tup [.int i, .int j]) => (i, j)
    | _ => (0, 0)
  | _ => (0, 0)
theorem Pr.two {H : Hp} {v : V} {p : Int × Int} (h : Pr H v p) : twoOf H v = p := by
  obtain ⟨t, rfl, h⟩ := h
  show (match H t with | some (.tup [.int i, .int j]) => (i, j) | _ => (0, 0)) = p
  rw [h]
theorem Prs.two {H : Hp} : ∀ {vs : List V} {l : Sps}, Prs H vs l → vs.map (twoOf H) = l
  | _, _, .nil => rfl
  | _, _, .cons h t => by rw [List.map_cons, h.two, t.two]
theorem Prs.each {H : Hp} : ∀ {vs : List V} {l : Sps}, Prs H vs l → ∀ v ∈ vs, Pr H v (twoOf H v)
  | _, _, .nil, v, hv => by cases hv
  | _, _, .cons h t, v, hv => by
    rcases List.mem_cons.mp hv with e | hv
    · rw [e, h.two]
      exact h
    · exact t.each v hv
theorem prs_of {H : Hp} : ∀ {vs : List V}, (∀ v ∈ vs, Pr H v (twoOf H v)) → Prs H vs (vs.map (twoOf H))
  | [], _ => .nil
  | v :: vs, h => .cons (h v (List.mem_cons_self ..)) (prs_of fun u hu => h u (List.mem_cons_of_mem _ hu))
theorem asc_of : ∀ {l : Sps} {lo : Int}, Val l → (∀ p ∈ l, lo ≤ p.1) → l.Pairwise (fun x y => SrtO.lexB y x = false) → Asc lo l
  | [], _, _, _, _ => True.intro
  | p :: x, lo, ⟨v, vx⟩, h, hs => by
    obtain ⟨h1, h2⟩ := List.pairwise_cons.mp hs
    refine ⟨h p (List.mem_cons_self ..), v.2.1, asc_of vx (fun q hq => ?_) h2⟩
    have := SrtO.lexB_no.mp (h1 q hq)
    omega
/-- what sorted makes of a list of spans -/
theorem sorted_prs {H : Hp} {xs ys : List V} {l : Sps} (h : Prs H xs l) (hv : Val l) (h1 : SrtO.Srtd (ltP (twoOf H)) ys) (h2 : SrtO.Stb (ltP (twoOf H)) ys xs) :
    ∃ l', Prs H ys l' ∧ l'.Perm l ∧ Asc 0 l' ∧ Val l' := by
  have hp : (ys.map (twoOf H)).Perm l := by
    rw [← h.two]
    exact h2.perm.map _
  have hv' : Val (ys.map (twoOf H)) := val_of fun p hp' => hv.all p (hp.mem_iff.mp hp')
  refine ⟨ys.map (twoOf H), prs_of fun v hv => h.each v (h2.perm.mem_iff.mp hv), hp, ?_, hv'⟩
  refine asc_of hv' (fun p hp' => (hv'.all p hp').1) ?_
  rw [List.pairwise_map]
  exact h1
theorem mem_perm {l m : Sps} (h : l.Perm m) (d : Int) : Mem l d ↔ Mem m d := by
  rw [mem_iff, mem_iff]
  exact ⟨fun ⟨p, hp, z⟩ => ⟨p, h.mem_iff.mp hp, z⟩, fun ⟨p, hp, z⟩ => ⟨p, h.mem_iff.mpr hp, z⟩⟩
theorem val_app {l m : Sps} (hl : Val l) (hm : Val m) : Val (l ++ m) := val_of fun p hp => by
  rcases List.mem_append.mp hp with z | z
  · exact hl.all p z
  · exact hm.all p z
end Yj
set_option Elab.async false
set_option linter.all false
set_option maxRecDepth 100000
set_option maxHeartbeats 4000000
set_option pp.maxSteps 1500
namespace Yj
open PySem PySem.Spec PyProof.Rows L2 RZ
section
variable {P : Program} {w : World} {K : PySem.W.Frag} {mg : Str → Option Value} {base : Heap} {ad : Nat → Addr} {fds : Nat → FuncData} {cs : Nat → Value}
/-! ### union -/
/-- two rows, and what is wanted of the row made of them -/
def spTwo (n : Nat) (F : Sps → Sps → Sps → Prop) : Sp := fun vs H Q _ => ∃ a b l m, vs = [.ref a, .ref b] ∧ RowT H a l ∧ RowT H b m ∧ Row l ∧ Row m ∧ l.length ≤ n ∧ m.length ≤ n ∧
  ∀ r, F l m r → BackT H Q r
def FUnion (l m r : Sps) : Prop := Row r ∧ (∀ d, Mem r d ↔ Mem l d ∨ Mem m d) ∧ r.length ≤ l.length + m.length
def FMeet (l m r : Sps) : Prop := Row r ∧ (∀ d, Mem r d ↔ Mem l d ∧ Mem m d) ∧ r.length ≤ l.length + m.length
def FLess (l m r : Sps) : Prop := Row r ∧ (∀ d, Mem r d ↔ Mem l d ∧ ¬ Mem m d) ∧ r.length ≤ l.length + m.length + 1
def FUnlike (l m r : Sps) : Prop := Row r ∧ (∀ d, Mem r d ↔ (Mem l d ∧ ¬ Mem m d) ∨ (Mem m d ∧ ¬ Mem l d)) ∧ r.length ≤ 2 * (l.length + m.length + 1)
theorem two_len {n : Nat} {F : Sps → Sps → Sps → Prop} {vs : List V} {H : Hp} {Q : VK} {E : XK} (h : spTwo n F vs H Q E) : vs.length = 2 := by
  obtain ⟨a, b, l, m, rfl, _⟩ := h
  rfl
theorem ok_union (T : Txt K mg ad fds cs) : FnOk P w K mg base CX0 2 (ad 15) (fds 15) ["one", "other"] (spTwo 300000 FUnion) := by
  refine T.F_union.ok sc_union (fun vs H Q E h => two_len h) (fun cdv A outer s H vs Q E hr h => ?_)
  obtain ⟨a, b, l, m, rfl, ⟨us, ha, hl⟩, ⟨ws, hb, hm⟩, rl, rm, z1, z2, q⟩ := h
  refine ⟨_, (pss_one (ps_ret (pe_call (ok__melted T) (hr.mono (by decide)) rfl T.g__melted T.F__melted.kp (bi__melted T) .nil pass0 (pa_cons (pe_callB cr_sortedPO (by rfl) T.z_sorted (by decide +kernel) (pa_cons (pe_lst (StX.pa_star (pv 0) (StX.pa_star (pv 1) pa_nil))) pa_nil)) pa_nil)))), ?_⟩
  have hz := hl.len
  have hz2 := hm.len
  refine ⟨_, rfl, a, us, rfl, .inl (SqT.of ha), _, rfl, b, ws, rfl, .inl (SqT.of hb), ?_⟩
  refine ⟨ofNat_le (by rw [List.length_append, List.append_nil]; omega), fun c nc => ?_⟩
  have s1 := same_upd (o := .lst (us ++ (ws ++ []))) nc
  have hp : Prs (upd H c (.lst (us ++ (ws ++ [])))) (us ++ (ws ++ [])) (l ++ m) := by
    rw [List.append_nil]
    exact (hl.mono (by rw [List.append_nil] at s1; exact s1)).app (hm.mono (by rw [List.append_nil] at s1; exact s1))
  refine ⟨c, _, twoOf _, rfl, SqL.of upd_same, fun x hx => hp.each x hx, fun ys t hs ht nt => ?_⟩
  obtain ⟨l', h1, h2, h3, h4⟩ := sorted_prs hp (val_app rl.2 rm.2) hs ht
  have s2 := same_upd (o := .lst ys) nt
  obtain ⟨m1, m2, m3⟩ := melt_row h3 h4
  have hlen := h2.length_eq
  rw [List.length_append] at hlen
  refine ⟨t, ys, l', rfl, upd_same, h1.mono s2, by omega, fun H' p vs' s3 np hp' hr' => ?_⟩
  refine q _ ⟨m1, fun d => ?_, by omega⟩ H' p vs' ((s1.trans s2).trans s3) ((s1.trans s2).free np) hp' hr'
  rw [m2 d, mem_perm h2 d, mem_append]
end
end Yj
set_option Elab.async false
set_option linter.all false
set_option maxRecDepth 100000
set_option maxHeartbeats 4000000
set_option pp.maxSteps 1500
namespace Yj
open PySem PySem.Spec PyProof.Rows L2 RZ
section
variable {P : Program} {w : World} {K : PySem.W.Frag} {mg : Str → Option Value} {base : Heap} {ad : Nat → Addr} {fds : Nat → FuncData} {cs : Nat → Value}
/-! ### meet -/
theorem ok_meet (T : Txt K mg ad fds cs) : FnOk P w K mg base CX0 1 (ad 16) (fds 16) ["one", "other"] (spTwo 300000 FMeet) := by
  refine T.F_meet.ok sc_meet (fun vs H Q E h => two_len h) (fun cdv A outer s H vs Q E hr h => ?_)
  obtain ⟨a, b, l, m, rfl, ⟨us, ha, hl⟩, ⟨ws, hb, hm⟩, rl, rm, z1, z2, q⟩ := h
  refine ⟨_, (pss_cons (ps_set (i := 2) sc_meet.nd rfl (by first | exact .inl rfl | exact .inr rfl) (pe_lst pa_nil))
      (pss_cons (ps_asg2 pe_int (pg_name (i := 3) sc_meet.nd rfl (by first | exact .inl rfl | exact .inr rfl)) (pg_name (i := 4) sc_meet.nd rfl (by first | exact .inl rfl | exact .inr rfl)))
      (pss_cons (ps_while PassesOwn.never (PW.pt (pw_and (pt_cmpR op_lt (pv 3) (pe_callB call_len_seq (by rfl) T.z_len (by decide +kernel) (pa_cons (pv 0) pa_nil)) (nomark _)) (pw_and1 (pt_cmpR op_lt (pv 4) (pe_callB call_len_seq (by rfl) T.z_len (by decide +kernel) (pa_cons (pv 1) pa_nil)) (nomark _)))))
      (pss_cons (ps_set (i := 5) sc_meet.nd rfl (by first | exact .inl rfl | exact .inr rfl) (pe_callB (call_max2 rfl) (by rfl) T.z_max (by decide +kernel) (pa_cons (pe_ix ix_seq (pe_ix ix_seq (pv 0) (pv 3) (fun _ _ => rfl)) pe_int (fun _ _ => rfl)) (pa_cons (pe_ix ix_seq (pe_ix ix_seq (pv 1) (pv 4) (fun _ _ => rfl)) pe_int (fun _ _ => rfl)) pa_nil))))
      (pss_cons (ps_set (i := 6) sc_meet.nd rfl (by first | exact .inl rfl | exact .inr rfl) (pe_callB (call_min2 rfl) (by rfl) T.z_min (by decide +kernel) (pa_cons (pe_ix ix_seq (pe_ix ix_seq (pv 0) (pv 3) (fun _ _ => rfl)) pe_int (fun _ _ => rfl)) (pa_cons (pe_ix ix_seq (pe_ix ix_seq (pv 1) (pv 4) (fun _ _ => rfl)) pe_int (fun _ _ => rfl)) pa_nil))))
      (pss_cons (ps_if (pt_cmpR op_le (pv 5) (pv 6) (nomark _)) (pss_one (ps_expr (pe_bm PySem.F.plainAttrs_list PySem.F.slot_list_append PySem.F.type_list_append mt_append (pv 2) (pa_cons (pe_tup (pa_cons (pv 5) (pa_cons (pv 6) pa_nil))) pa_nil)))) pss_nil)
      (pss_one (ps_if (pt_cmpR op_lt (pe_ix ix_seq (pe_ix ix_seq (pv 0) (pv 3) (fun _ _ => rfl)) pe_int (fun _ _ => rfl)) (pe_ix ix_seq (pe_ix ix_seq (pv 1) (pv 4) (fun _ _ => rfl)) pe_int (fun _ _ => rfl)) (nomark _)) (pss_one (ps_aug (i := 3) sc_meet.nd rfl (by first | exact .inl rfl | exact .inr rfl) pe_int ip_add)) (pss_one (ps_aug (i := 4) sc_meet.nd rfl (by first | exact .inl rfl | exact .inr rfl) pe_int ip_add))))))))
      (pss_one (ps_ret (pe_callTy call_tuple_of (by rfl) T.z_tuple (by decide +kernel) (pa_cons (pv 2) pa_nil))))))), ?_⟩
  refine ⟨Nat.zero_le _, fun r nr => ?_⟩
  have s1 : Same H (upd H r (.lst [])) := same_upd nr
  have el := hl.len
  have em := hm.len
  refine ⟨fun n σ H1 => ∃ (i j : Nat) (y5 y6 : Option V) (xs : List V) (t : Sps), σ = [some (.ref a), some (.ref b), some (.ref r), some (.int i), some (.int j), y5, y6] ∧ Same H H1 ∧ H1 r = some (.lst xs) ∧ Prs H1 xs t ∧
    i ≤ l.length ∧ j ≤ m.length ∧ t ++ meetM (l.drop i) (m.drop j) = meetM l m ∧ t.length ≤ i + j ∧ n = (l.length - i) + (m.length - j),
    ⟨_, 0, 0, none, none, [], [], rfl, s1, upd_same, .nil, Nat.zero_le _, Nat.zero_le _, rfl, Nat.zero_le _, rfl⟩, ?_⟩
  rintro n σ H1 ⟨i, j, y5, y6, xs, t, rfl, s2, hr1, ht, hi, hj, e, et, rfl⟩
  have fin : l.drop i = [] ∨ m.drop j = [] → Prs H1 xs (meetM l m) := fun z => by
    have : t = meetM l m := by
      rw [← e]
      rcases z with z | z
      · rw [z, meetM_nil, List.append_nil]
      · rw [z, meetM_nil2, List.append_nil]
    rw [← this]
    exact ht
  have out : Prs H1 xs (meetM l m) → BackT H Q (meetM l m) → ∀ p, H1 p = none → Q (.ref p) (upd H1 p (.tup xs)) := fun k z p np => z _ p xs (s2.trans (same_upd np)) (s2.free np) upd_same (k.mono (same_upd np))
  obtain ⟨m1, m2, m3⟩ := meet_row rl rm
  have q' : BackT H Q (meetM l m) := q _ ⟨m1, m2, m3⟩
  refine ⟨_, rfl, _, rfl, a, us, rfl, .inr (SqT.of (s2 _ _ ha)), _, _, rfl, rfl, _, rfl, ?_⟩
  by_cases c1 : i < us.length
  · refine ifT (by omega) ?_
    refine ⟨_, rfl, _, rfl, b, ws, rfl, .inr (SqT.of (s2 _ _ hb)), _, _, rfl, rfl, _, rfl, ?_⟩
    by_cases c2 : j < ws.length
    · refine ifT (by omega) ?_
      refine ⟨fun σ' H' => ∃ m' : Nat, m' < (l.length - i) + (m.length - j) ∧ ∃ (i j : Nat) (y5 y6 : Option V) (xs : List V) (t : Sps), σ' = [some (.ref a), some (.ref b), some (.ref r), some (.int i), some (.int j), y5, y6] ∧ Same H H' ∧ H' r = some (.lst xs) ∧ Prs H' xs t ∧
        i ≤ l.length ∧ j ≤ m.length ∧ t ++ meetM (l.drop i) (m.drop j) = meetM l m ∧ t.length ≤ i + j ∧ m' = (l.length - i) + (m.length - j), fun σ' H' z => z, ?_⟩
      obtain ⟨p, hp1, ta, eta, hta⟩ := hl.get (List.getElem?_eq_getElem c1)
      obtain ⟨p', hp2, tb, etb, htb⟩ := hm.get (List.getElem?_eq_getElem c2)
      have ha1 := SqT.of (K := K) (s2 _ _ ha)
      have hb1 := SqT.of (K := K) (s2 _ _ hb)
      have ga : atI us (i : Int) = some (.ref ta) := atI_nat (by rw [← eta]; exact List.getElem?_eq_getElem c1)
      have gb : atI ws (j : Int) = some (.ref tb) := atI_nat (by rw [← etb]; exact List.getElem?_eq_getElem c2)
      have ta1 := SqT.of (K := K) (s2 _ _ hta)
      have tb1 := SqT.of (K := K) (s2 _ _ htb)
      -- first
      refine ⟨_, rfl, _, rfl, .inr (.inl ⟨a, us, _, _, rfl, rfl, ha1, ga, .inr (.inl ⟨ta, _, 0, _, rfl, rfl, ta1, atI_nat (j := 0) rfl, ?_⟩)⟩)⟩
      refine ⟨_, rfl, _, rfl, .inr (.inl ⟨b, ws, _, _, rfl, rfl, hb1, gb, .inr (.inl ⟨tb, _, 0, _, rfl, rfl, tb1, atI_nat (j := 0) rfl, _, _, rfl, ?_⟩)⟩)⟩
      -- last
      refine ⟨_, rfl, _, rfl, .inr (.inl ⟨a, us, _, _, rfl, rfl, ha1, ga, .inr (.inl ⟨ta, _, 1, _, rfl, rfl, ta1, atI_nat (j := 1) rfl, ?_⟩)⟩)⟩
      refine ⟨_, rfl, _, rfl, .inr (.inl ⟨b, ws, _, _, rfl, rfl, hb1, gb, .inr (.inl ⟨tb, _, 1, _, rfl, rfl, tb1, atI_nat (j := 1) rfl, _, _, rfl, ?_⟩)⟩)⟩
      have dl := drop_get hp1
      have dm := drop_get hp2
      have c1' : i + 1 ≤ l.length := by omega
      have c2' : j + 1 ≤ m.length := by omega
      rw [dl, dm, meetM_cons] at e
      refine ⟨_, rfl, _, rfl, _, _, rfl, rfl, _, rfl, ?_⟩
      by_cases c : (if p'.1 > p.1 then p'.1 else p.1) ≤ (if p'.2 < p.2 then p'.2 else p.2)
      case' pos =>
        refine ifT c ?_
        refine ⟨.ref r, rfl, .inl ⟨rfl, _, SqL.of hr1⟩, _, rfl, _, rfl, (by show 2 ≤ sizeLine; decide), fun u nu => ?_⟩
        have nur : r ≠ u := ne_of_none hr1 nu
        have s3 := same_upd (o := .tup [.int (if p'.1 > p.1 then p'.1 else p.1), .int (if p'.2 < p.2 then p'.2 else p.2)]) nu
        refine ⟨r, _, _, rfl, rfl, (upd_ne nur).trans hr1, ofNat_lt (by have := ht.len; omega), ?_⟩
        rw [if_pos c] at e
        have k2 := (Prs.off (o := .lst (xs ++ [.ref u])) ((upd_ne nur).trans hr1) (ht.mono s3)).snoc (p := ((if p'.1 > p.1 then p'.1 else p.1), (if p'.2 < p.2 then p'.2 else p.2))) ⟨u, rfl, by
          rw [upd_ne nur.symm]
          exact upd_same⟩
        have s4 := same_at (o := .lst (xs ++ [.ref u])) (s2.trans s3) nr
        have h2 : upd (upd H1 u (.tup [.int (if p'.1 > p.1 then p'.1 else p.1), .int (if p'.2 < p.2 then p'.2 else p.2)])) r (.lst (xs ++ [.ref u])) r = some (.lst (xs ++ [.ref u])) := upd_same
        have kl : (t ++ [((if p'.1 > p.1 then p'.1 else p.1), (if p'.2 < p.2 then p'.2 else p.2))]).length ≤ i + j + 1 := by
          simp only [List.length_append, List.length_cons, List.length_nil]
          omega
        have e2 : (t ++ [((if p'.1 > p.1 then p'.1 else p.1), (if p'.2 < p.2 then p'.2 else p.2))]) ++ (if p.2 < p'.2 then meetM (l.drop (i + 1)) (p' :: m.drop (j + 1)) else meetM (p :: l.drop (i + 1)) (m.drop (j + 1))) = meetM l m := by
          rw [List.append_assoc]
          exact e
        generalize xs ++ [V.ref u] = xs2 at k2 s4 h2 ⊢
        generalize t ++ [((if p'.1 > p.1 then p'.1 else p.1), (if p'.2 < p.2 then p'.2 else p.2))] = t2 at k2 kl e2
        generalize upd (upd H1 u (.tup [.int (if p'.1 > p.1 then p'.1 else p.1), .int (if p'.2 < p.2 then p'.2 else p.2)])) r (.lst xs2) = H2 at k2 s4 h2 ⊢
      case' neg =>
        refine ifF c ?_
        rw [if_neg c] at e
        have k2 := ht
        have s4 := s2
        have h2 := hr1
        have kl : t.length ≤ i + j + 1 := by omega
        have e2 := e
        generalize xs = xs2 at k2 h2
        generalize t = t2 at k2 kl e2
      all_goals
        refine ⟨_, rfl, _, rfl, .inr (.inl ⟨a, us, _, _, rfl, rfl, SqT.of (s4 _ _ ha), ga, .inr (.inl ⟨ta, _, 1, _, rfl, rfl, SqT.of (s4 _ _ hta), atI_nat (j := 1) rfl, ?_⟩)⟩)⟩
        refine ⟨_, rfl, _, rfl, .inr (.inl ⟨b, ws, _, _, rfl, rfl, SqT.of (s4 _ _ hb), gb, .inr (.inl ⟨tb, _, 1, _, rfl, rfl, SqT.of (s4 _ _ htb), atI_nat (j := 1) rfl, _, _, rfl, rfl, _, rfl, ?_⟩)⟩)⟩
        by_cases c3 : p.2 < p'.2
        · refine ifT c3 ?_
          rw [if_pos c3, ← dm] at e2
          exact ⟨_, rfl, _, _, rfl, rfl, _, by omega, i + 1, j, _, _, xs2, t2, rfl, s4, h2, k2, c1', hj, e2, by omega, rfl⟩
        · refine ifF c3 ?_
          rw [if_neg c3, ← dl] at e2
          exact ⟨_, rfl, _, _, rfl, rfl, _, by omega, i, j + 1, _, _, xs2, t2, rfl, s4, h2, k2, hi, c2', e2, by omega, rfl⟩
    · refine ifF (by omega) ?_
      exact ⟨_, rfl, r, xs, rfl, .inl ⟨SqL.of hr1, out (fin (.inr (List.drop_eq_nil_of_le (by omega)))) q'⟩⟩
  · refine ifF (by omega) ?_
    exact ⟨_, rfl, r, xs, rfl, .inl ⟨SqL.of hr1, out (fin (.inl (List.drop_eq_nil_of_le (by omega)))) q'⟩⟩
end
end Yj
set_option Elab.async false
set_option linter.all false
set_option maxRecDepth 100000
set_option maxHeartbeats 4000000
set_option pp.maxSteps 1500
namespace Yj
open PySem PySem.Spec PyProof.Rows L2 RZ
/-! ### rules that name the written part, for a comprehension's block -/
theorem pg_tupK {X : Cx} {K : PySem.W.Frag} {pos : Pos} {es : List Expr} {k : Nat} {t : TGs} {n : Nat} (hc : X.calm = true) (h : PGs X es t) (hK : X.K = K := by rfl)
    (hn : (assignEach es X.env).length = n := by rfl) (hst : (assignEach es X.env).findIdx? (·.1) = none := by rfl) : PG X (.Tuple es k pos) (gTup K n t) := by
  subst hK
  exact pg_tup hc h hn hst
theorem ix_seqK {X : Cx} {K : PySem.W.Frag} (hK : X.K = K := by rfl) : IxR X (rIx K) := by
  subst hK
  exact ix_seq
theorem call_lenK {X : Cx} {K : PySem.W.Frag} (hK : X.K = K := by rfl) : CallR X (.builtin "len") (fun xs H Q => ∃ p ys, xs = [V.ref p] ∧ (SqL K H p ys ∨ SqT K H p ys) ∧ Q (.int ys.length) H) := by
  subst hK
  exact call_len_seq
/-! ### rows as data -/
def datP (p : Int × Int) : PyData := .tuple [.int p.1, .int p.2]
def dat (l : Sps) : PyData := .tuple (l.map datP)
theorem datA_lay : ∀ l : Sps, PyData.canLayAll0 (l.map datP) = true
  | [] => rfl
  | p :: x => by
    show (PyData.canLay0 (datP p) && PyData.canLayAll0 (x.map datP)) = true
    rw [datA_lay x]
    rfl
theorem datA_depth : ∀ l : Sps, PyData.depthAll (l.map datP) ≤ 1
  | [] => Nat.zero_le _
  | p :: x => by
    show max (PyData.depth (datP p)) (PyData.depthAll (x.map datP)) ≤ 1
    have h1 := datA_depth x
    have h2 : PyData.depth (datP p) = 1 := rfl
    omega
theorem shaped_of {ds : List PyData} {n : Nat} (h1 : PyData.canLayAll0 ds = true) (h2 : PyData.depthAll ds ≤ n) (h3 : n ≤ 63) : SeqAt.shaped (.tuple ds) = true ∧ SeqAt.shaped (.list ds) = true := by
  have e : PyData.depthAll ds + 1 ≤ 64 := by omega
  refine ⟨?_, ?_⟩
  · show (PyData.canLayAll0 ds && decide (PyData.depthAll ds + 1 ≤ 64)) = true
    rw [h1, decide_eq_true e]
    rfl
  · show (PyData.canLayAll0 ds && decide (PyData.depthAll ds + 1 ≤ 64)) = true
    rw [h1, decide_eq_true e]
    rfl
theorem dat_shaped (l : Sps) : SeqAt.shaped (dat l) = true := (shaped_of (datA_lay l) (datA_depth l) (by decide)).1
theorem datP_eqv (p q : Int × Int) : PyData.eqv (datP p) (datP q) = decide (p = q) := by
  show (p.1 == q.1 && (p.2 == q.2 && true)) = decide (p = q)
  obtain ⟨a, b⟩ := p
  obtain ⟨c, d⟩ := q
  rw [Bool.eq_iff_iff]
  simp
theorem datA_eqv : ∀ l m : Sps, PyData.eqvAll (l.map datP) (m.map datP) = decide (l = m)
  | [], [] => rfl
  | [], _ :: _ => rfl
  | _ :: _, [] => rfl
  | p :: x, q :: y => by
    show (PyData.eqv (datP p) (datP q) && PyData.eqvAll (x.map datP) (y.map datP)) = _
    rw [datP_eqv, datA_eqv x y, Bool.eq_iff_iff]
    simp
theorem dat_eqv (l m : Sps) : PyData.eqv (dat l) (dat m) = decide (l = m) := datA_eqv l m
theorem Prs.dat {K : PySem.W.Frag} {H : Hp} : ∀ {vs : List V} {l : Sps}, Prs H vs l → DpAll K H vs (l.map datP)
  | _, _, .nil => .nil
  | _, _, .cons ⟨t, e, h⟩ k => .cons (by rw [e]; exact .tup (SqT.of h) (.cons (.int _) (.cons (.int _) .nil))) k.dat
theorem RowT.dat {K : PySem.W.Frag} {H : Hp} {a : Addr} {l : Sps} (h : RowT H a l) : Dp K H (.ref a) (dat l) := by
  obtain ⟨us, h, k⟩ := h
  exact .tup (SqT.of h) k.dat
/-! ### places in a row -/
theorem Nf.lt : ∀ {l : Sps} {lo : Int} {i k : Nat} {p q : Int × Int}, Nf lo l → i < k → l[i]? = some p → l[k]? = some q → p.2 + 2 ≤ q.1
  | [], _, _, _, _, _, _, _, h, _ => by simp at h
  | a :: x, lo, 0, k + 1, p, q, ⟨_, _, h3⟩, _, hp, hq => by
    have e := Option.some.inj hp
    rw [← e]
    have hq' : x[k]? = some q := hq
    have hm : q ∈ x := List.mem_of_getElem? hq'
    have : Mem x q.1 := by
      rw [mem_iff]
      exact ⟨q, hm, Int.le_refl _, by
        have := h3.val q hm
        exact this⟩
    exact h3.low this
  | a :: x, lo, i + 1, k + 1, p, q, ⟨_, _, h3⟩, h, hp, hq => Nf.lt h3 (Nat.lt_of_succ_lt_succ h) (show x[i]? = some p from hp) (show x[k]? = some q from hq)
theorem mem_at {l : Sps} {d : Int} : Mem l d ↔ ∃ (k : Nat) (p : Int × Int), l[k]? = some p ∧ p.1 ≤ d ∧ d ≤ p.2 := by
  rw [mem_iff]
  constructor
  · rintro ⟨p, hp, h⟩
    obtain ⟨k, hk⟩ := List.mem_iff_getElem?.mp hp
    exact ⟨k, p, hk, h⟩
  · rintro ⟨k, p, hk, h⟩
    exact ⟨p, List.mem_of_getElem? hk, h⟩
end Yj
set_option Elab.async false
set_option linter.all false
set_option maxRecDepth 100000
set_option maxHeartbeats 4000000
set_option pp.maxSteps 1500
namespace Yj
open PySem PySem.Spec PyProof.Rows L2 RZ
section
variable {P : Program} {w : World} {K : PySem.W.Frag} {mg : Str → Option Value} {base : Heap} {ad : Nat → Addr} {fds : Nat → FuncData} {cs : Nat → Value}
/-! ### others -/
def spOthers : Sp := fun vs H Q _ => ∃ a l, vs = [.ref a] ∧ RowT H a l ∧ Row l ∧ l.length ≤ 900000 ∧
  ∀ r, Row r → (∀ d, Mem r d ↔ 0 ≤ d ∧ d ≤ 999999 ∧ ¬ Mem l d) → r.length ≤ l.length + 1 → BackT H Q r
theorem ok_others (T : Txt K mg ad fds cs) : FnOk P w K mg base CX0 1 (ad 17) (fds 17) ["one"] spOthers := by
  refine T.F_others.ok sc_others (fun vs H Q E h => ?_) (fun cdv A outer s H vs Q E hr h => ?_)
  · obtain ⟨a, l, rfl, _⟩ := h
    rfl
  obtain ⟨a, l, rfl, ⟨us, ha, hl⟩, rl, z1, q⟩ := h
  refine ⟨_, (pss_cons (ps_set (i := 1) sc_others.nd rfl (by first | exact .inl rfl | exact .inr rfl) (pe_lst pa_nil))
      (pss_cons (ps_set (i := 2) sc_others.nd rfl (by first | exact .inl rfl | exact .inr rfl) pe_int)
      (pss_cons (ps_for PassesOwn.never rfl (pi_tup (pv 0)) (pg_tup rfl (pgs_cons (pg_name (i := 3) sc_others.nd rfl (by first | exact .inl rfl | exact .inr rfl)) (pgs_cons (pg_name (i := 4) sc_others.nd rfl (by first | exact .inl rfl | exact .inr rfl)) pgs_nil)))
      (pss_cons (ps_if (pt_cmpR op_lt (pv 2) (pv 3) (nomark _)) (pss_one (ps_expr (pe_bm PySem.F.plainAttrs_list PySem.F.slot_list_append PySem.F.type_list_append mt_append (pv 1) (pa_cons (pe_tup (pa_cons (pv 2) (pa_cons (pe_op op_sub (pv 3) pe_int) pa_nil))) pa_nil)))) pss_nil)
      (pss_one (ps_set (i := 2) sc_others.nd rfl (by first | exact .inl rfl | exact .inr rfl) (pe_op op_add (pv 4) pe_int)))))
      (pss_cons (ps_if (pt_cmpR op_le (pv 2) (pe_glob rfl T.c_LAST_DAY T.r_LAST_DAY) (nomark _)) (pss_one (ps_expr (pe_bm PySem.F.plainAttrs_list PySem.F.slot_list_append PySem.F.type_list_append mt_append (pv 1) (pa_cons (pe_tup (pa_cons (pv 2) (pa_cons (pe_glob rfl T.c_LAST_DAY T.r_LAST_DAY) pa_nil))) pa_nil)))) pss_nil)
      (pss_one (ps_ret (pe_callTy call_tuple_of (by rfl) T.z_tuple (by decide +kernel) (pa_cons (pv 1) pa_nil)))))))), ?_⟩
  refine ⟨Nat.zero_le _, fun r nr => ?_⟩
  have s1 : Same H (upd H r (.lst [])) := same_upd nr
  have el := hl.len
  obtain ⟨m1, m2, m3⟩ := others_row rl
  refine ⟨_, rfl, a, rfl, ⟨_, SqT.of (s1 _ _ ha)⟩, for_tup (xs := us) (fun i σ H1 => ∃ (f : Int) (y3 y4 : Option V) (ws : List V) (t : Sps), σ = [some (.ref a), some (.ref r), some (.int f), y3, y4] ∧ Same H H1 ∧ H1 r = some (.lst ws) ∧ Prs H1 ws t ∧
      t ++ othersM f (l.drop i) = othersM 0 l ∧ t.length ≤ i)
    ⟨0, none, none, [], [], rfl, s1, upd_same, .nil, rfl, Nat.le_refl _⟩ (fun i σ H1 _ ⟨_, _, _, _, _, _, s2, _⟩ => SqT.of (s2 _ _ ha)) ?_ ?_⟩
  · rintro i x σ H1 hx ⟨f, y3, y4, ws, t, rfl, s2, hr1, ht, e, et⟩
    obtain ⟨p, hp1, tp, rfl, hp⟩ := hl.get hx
    have hi : i < us.length := (List.getElem?_eq_some_iff.mp hx).1
    rw [drop_get hp1] at e
    refine ⟨tp, _, rfl, SqT.of (s2 _ _ hp), rfl, _, _, rfl, _, _, rfl, rfl, ?_⟩
    refine ⟨_, rfl, _, rfl, _, _, rfl, rfl, _, rfl, ?_⟩
    by_cases c : f < p.1
    · refine ifT c ?_
      refine ⟨.ref r, rfl, .inl ⟨rfl, _, SqL.of hr1⟩, _, rfl, _, rfl, _, _, rfl, rfl, (by show 2 ≤ sizeLine; decide), fun u nu => ?_⟩
      have nur : r ≠ u := ne_of_none hr1 nu
      have s3 := same_upd (o := .tup [.int f, .int (p.1 - 1)]) nu
      refine ⟨r, _, _, rfl, rfl, (upd_ne nur).trans hr1, ofNat_lt (by have := ht.len; omega), ?_⟩
      refine ⟨_, rfl, _, _, rfl, rfl, ?_⟩
      refine ⟨p.2 + 1, _, _, _, t ++ [(f, p.1 - 1)], rfl, same_at (s2.trans s3) nr, upd_same, ?_, ?_, ?_⟩
      · refine (Prs.off ((upd_ne nur).trans hr1) (ht.mono s3)).snoc ⟨u, rfl, ?_⟩
        rw [upd_ne nur.symm]
        exact upd_same
      · rw [List.append_assoc, ← e]
        show _ = t ++ (if f < p.1 then _ else _)
        rw [if_pos c]
        rfl
      · simp only [List.length_append, List.length_cons, List.length_nil]
        omega
    · refine ifF c ?_
      refine ⟨_, rfl, _, _, rfl, rfl, ?_⟩
      refine ⟨p.2 + 1, _, _, ws, t, rfl, s2, hr1, ht, ?_, by omega⟩
      rw [← e]
      show _ = t ++ (if f < p.1 then _ else _)
      rw [if_neg c]
  · rintro σ H1 ⟨f, y3, y4, ws, t, rfl, s2, hr1, ht, e, et⟩
    rw [el, drop_end] at e
    have q' : BackT H Q (othersM 0 l) := q _ m1 m2 m3
    refine ⟨_, rfl, _, _, rfl, rfl, _, rfl, ?_⟩
    by_cases c : f ≤ 999999
    · refine ifT c ?_
      refine ⟨.ref r, rfl, .inl ⟨rfl, _, SqL.of hr1⟩, _, rfl, (by show 2 ≤ sizeLine; decide), fun u nu => ?_⟩
      have nur : r ≠ u := ne_of_none hr1 nu
      have s3 := same_upd (o := .tup [.int f, .int 999999]) nu
      refine ⟨r, _, _, rfl, rfl, (upd_ne nur).trans hr1, ofNat_lt (by have := ht.len; omega), ?_⟩
      refine ⟨_, rfl, r, _, rfl, .inl ⟨SqL.of upd_same, fun v nv => ?_⟩⟩
      have e2 : t ++ [(f, 999999)] = othersM 0 l := by
        rw [← e]
        show _ = t ++ (if f ≤ 999999 then _ else _)
        rw [if_pos c]
      have k2 : Prs (upd (upd H1 u (.tup [.int f, .int 999999])) r (.lst (ws ++ [.ref u]))) (ws ++ [.ref u]) (othersM 0 l) := by
        rw [← e2]
        refine (Prs.off ((upd_ne nur).trans hr1) (ht.mono s3)).snoc ⟨u, rfl, ?_⟩
        rw [upd_ne nur.symm]
        exact upd_same
      have s4 := same_at (o := .lst (ws ++ [.ref u])) (s2.trans s3) nr
      exact q' _ v _ (s4.trans (same_upd nv)) (s4.free nv) upd_same (k2.mono (same_upd nv))
    · refine ifF c ?_
      have e2 : t = othersM 0 l := by
        rw [← e]
        show _ = t ++ (if f ≤ 999999 then _ else _)
        rw [if_neg c, List.append_nil]
      subst e2
      exact ⟨_, rfl, r, _, rfl, .inl ⟨SqL.of hr1, fun v nv => q' _ v _ (s2.trans (same_upd nv)) (s2.free nv) upd_same (ht.mono (same_upd nv))⟩⟩
end
end Yj
set_option Elab.async false
set_option linter.all false
set_option maxRecDepth 100000
set_option maxHeartbeats 4000000
set_option pp.maxSteps 1500
namespace Yj
open PySem PySem.Spec PyProof.Rows L2 RZ
section
variable {P : Program} {w : World} {K : PySem.W.Frag} {mg : Str → Option Value} {base : Heap} {ad : Nat → Addr} {fds : Nat → FuncData} {cs : Nat → Value}
/-! ### less, unlike, is_part -/
theorem ok_less (T : Txt K mg ad fds cs) : FnOk P w K mg base CX0 2 (ad 18) (fds 18) ["one", "other"] (spTwo 100000 FLess) := by
  refine T.F_less.ok sc_less (fun vs H Q E h => two_len h) (fun cdv A outer s H vs Q E hr h => ?_)
  obtain ⟨a, b, l, m, rfl, ha, hb, rl, rm, z1, z2, q⟩ := h
  refine ⟨_, (pss_one (ps_ret (pe_call (ok_meet T) (hr.mono (by decide)) rfl T.g_meet T.F_meet.kp (bi_meet T) .nil pass0 (pa_cons (pv 0) (pa_cons (pe_call (ok_others T) (hr.mono (by decide)) rfl T.g_others T.F_others.kp (bi_others T) .nil pass0 (pa_cons (pv 1) pa_nil)) pa_nil))))), ?_⟩
  refine ⟨_, rfl, _, rfl, b, m, rfl, hb, rm, by omega, fun r hr' kr er H1 p us s1 np hp hus => ?_⟩
  refine ⟨a, p, l, r, rfl, ha.mono s1, ⟨us, hp, hus⟩, rl, hr', by omega, by omega, fun t ⟨t1, t2, t3⟩ H2 p2 us2 s2 np2 hp2 hus2 => ?_⟩
  refine q t ⟨t1, fun d => ?_, by omega⟩ H2 p2 us2 (s1.trans s2) (s1.free np2) hp2 hus2
  rw [t2 d, kr d]
  constructor
  · rintro ⟨h1, h2⟩
    exact ⟨h1, h2.2.2⟩
  · rintro ⟨h1, h2⟩
    have := rl.2.mem h1
    exact ⟨h1, this.1, this.2, h2⟩
end
end Yj
set_option Elab.async false
set_option linter.all false
set_option maxRecDepth 100000
set_option maxHeartbeats 4000000
set_option pp.maxSteps 1500
namespace Yj
open PySem PySem.Spec PyProof.Rows L2 RZ
section
variable {P : Program} {w : World} {K : PySem.W.Frag} {mg : Str → Option Value} {base : Heap} {ad : Nat → Addr} {fds : Nat → FuncData} {cs : Nat → Value}
theorem ok_unlike (T : Txt K mg ad fds cs) : FnOk P w K mg base CX0 3 (ad 19) (fds 19) ["one", "other"] (spTwo 100000 FUnlike) := by
  refine T.F_unlike.ok sc_unlike (fun vs H Q E h => two_len h) (fun cdv A outer s H vs Q E hr h => ?_)
  obtain ⟨a, b, l, m, rfl, ha, hb, rl, rm, z1, z2, q⟩ := h
  refine ⟨_, (pss_one (ps_ret (pe_call (ok_union T) (hr.mono (by decide)) rfl T.g_union T.F_union.kp (bi_union T) .nil pass0 (pa_cons (pe_call (ok_less T) (hr.mono (by decide)) rfl T.g_less T.F_less.kp (bi_less T) .nil pass0 (pa_cons (pv 0) (pa_cons (pv 1) pa_nil))) (pa_cons (pe_call (ok_less T) (hr.mono (by decide)) rfl T.g_less T.F_less.kp (bi_less T) .nil pass0 (pa_cons (pv 1) (pa_cons (pv 0) pa_nil))) pa_nil))))), ?_⟩
  refine ⟨_, rfl, _, rfl, a, b, l, m, rfl, ha, hb, rl, rm, z1, z2, fun r ⟨r1, r2, r3⟩ H1 p us s1 np hp hus => ?_⟩
  refine ⟨_, rfl, _, rfl, b, a, m, l, rfl, hb.mono s1, ha.mono s1, rm, rl, z2, z1, fun t ⟨t1, t2, t3⟩ H2 p2 us2 s2 np2 hp2 hus2 => ?_⟩
  refine ⟨p, p2, r, t, rfl, RowT.mono s2 ⟨us, hp, hus⟩, ⟨us2, hp2, hus2⟩, r1, t1, by omega, by omega, fun u ⟨u1, u2, u3⟩ H3 p3 us3 s3 np3 hp3 hus3 => ?_⟩
  refine q u ⟨u1, fun d => ?_, by omega⟩ H3 p3 us3 ((s1.trans s2).trans s3) ((s1.trans s2).free np3) hp3 hus3
  rw [u2 d, r2 d, t2 d]
end
end Yj
set_option Elab.async false
set_option linter.all false
set_option maxRecDepth 100000
set_option maxHeartbeats 4000000
set_option pp.maxSteps 1500
namespace Yj
open PySem PySem.Spec PyProof.Rows L2 RZ
section
variable {P : Program} {w : World} {K : PySem.W.Frag} {mg : Str → Option Value} {base : Heap} {ad : Nat → Addr} {fds : Nat → FuncData} {cs : Nat → Value}
def spIsPart : Sp := fun vs H Q _ => ∃ a b l m, vs = [.ref a, .ref b] ∧ RowT H a l ∧ RowT H b m ∧ Row l ∧ Row m ∧ l.length ≤ 100000 ∧ m.length ≤ 100000 ∧
  ∀ (k : Bool) H', Same H H' → (k = true ↔ ∀ d, Mem l d → Mem m d) → Q (.bl k) H'
theorem ok_is_part (T : Txt K mg ad fds cs) : FnOk P w K mg base CX0 3 (ad 23) (fds 23) ["one", "other"] spIsPart := by
  refine T.F_is_part.ok sc_is_part (fun vs H Q E h => ?_) (fun cdv A outer s H vs Q E hr h => ?_)
  · obtain ⟨a, b, l, m, rfl, _⟩ := h
    rfl
  obtain ⟨a, b, l, m, rfl, ha, hb, rl, rm, z1, z2, q⟩ := h
  refine ⟨_, (pss_one (ps_ret (pe_cmpR (op_eqD hr.units) (pe_call (ok_less T) (hr.mono (by decide)) rfl T.g_less T.F_less.kp (bi_less T) .nil pass0 (pa_cons (pv 0) (pa_cons (pv 1) pa_nil))) (pe_tup pa_nil) (nomark _)))), ?_⟩
  refine ⟨_, rfl, _, rfl, a, b, l, m, rfl, ha, hb, rl, rm, z1, z2, fun r ⟨r1, r2, r3⟩ H1 p us s1 np hp hus => ?_⟩
  refine ⟨Nat.zero_le _, fun u nu => ?_⟩
  have s2 := same_upd (o := .tup []) nu
  refine ⟨dat r, dat [], (RowT.mono s2 ⟨us, hp, hus⟩).dat, .tup (SqT.of upd_same) .nil, dat_shaped r, dat_shaped [], ?_⟩
  refine q _ _ (s1.trans s2) ?_
  rw [dat_eqv, decide_eq_true_eq]
  constructor
  · intro e d hd
    refine Classical.byContradiction fun hn => ?_
    have : Mem r d := (r2 d).mpr ⟨hd, hn⟩
    rw [e] at this
    exact this
  · intro h
    refine r1.1.uniq (lo' := 0) (m := []) True.intro fun d => ⟨fun z => ?_, fun z => z.elim⟩
    have := (r2 d).mp z
    exact this.2 (h d this.1)
end
end Yj
set_option Elab.async false
set_option linter.all false
set_option maxRecDepth 100000
set_option maxHeartbeats 4000000
set_option pp.maxSteps 1500
namespace Yj
open PySem PySem.Spec PyProof.Rows L2 RZ
section
variable {P : Program} {w : World} {K : PySem.W.Frag} {mg : Str → Option Value} {base : Heap} {ad : Nat → Addr} {fds : Nat → FuncData} {cs : Nat → Value}
/-! ### has -/
def spHas : Sp := fun vs H Q _ => ∃ a l d lo, vs = [.ref a, .int d] ∧ RowT H a l ∧ Nf lo l ∧ l.length ≤ 1000000 ∧ Q (.bl (decide (Mem l d))) H
def spEnded : Sp := fun vs H Q _ => ∃ a l d lo, vs = [.ref a, .int d] ∧ RowT H a l ∧ Nf lo l ∧ l.length ≤ 1000000 ∧
    ∀ i : Nat, i ≤ l.length → (∀ k p, k < i → l[k]? = some p → p.2 < d) → (∀ k p, i ≤ k → l[k]? = some p → d ≤ p.2) → Q (.int (i : Int)) H
theorem has_end {l : Sps} {d : Int} {lo : Int} {n : Nat} (h : Nf lo l) (h1 : ∀ k p, k < n → l[k]? = some p → p.2 < d) (h2 : ∀ k p, n ≤ k → l[k]? = some p → d ≤ p.2) :
    Mem l d ↔ ∃ p, l[n]? = some p ∧ p.1 ≤ d := by
  rw [mem_at]
  constructor
  · rintro ⟨k, p, hk, k1, k2⟩
    rcases Nat.lt_trichotomy k n with z | z | z
    · have := h1 k p z hk
      omega
    · rw [← z]
      exact ⟨p, hk, k1⟩
    · have hl : k < l.length := (List.getElem?_eq_some_iff.mp hk).1
      have hn : l[n]? = some l[n] := List.getElem?_eq_getElem (by omega)
      have e := h.lt z hn hk
      have := h2 n _ (Nat.le_refl _) hn
      omega
  · rintro ⟨p, hp, k1⟩
    exact ⟨n, p, hp, k1, h2 n p (Nat.le_refl _) hp⟩
theorem ok__ended_ahead (T : Txt K mg ad fds cs) : FnOk P w K mg base CX0 1 (ad 20) (fds 20) ["one", "day"] spEnded := by
  refine T.F__ended_ahead.ok sc__ended_ahead (fun vs H Q E h => ?_) (fun cdv A outer s H vs Q E hr h => ?_)
  · obtain ⟨a, l, d, lo, rfl, _⟩ := h
    rfl
  obtain ⟨a, l, d, lo, rfl, ⟨us, ha, hl⟩, rl, z1, q⟩ := h
  refine ⟨_, (pss_cons (ps_set (i := 2) sc__ended_ahead.nd rfl (by first | exact .inl rfl | exact .inr rfl) pe_int)
      (pss_cons (ps_set (i := 3) sc__ended_ahead.nd rfl (by first | exact .inl rfl | exact .inr rfl) (pe_callB call_len_seq (by rfl) T.z_len (by decide +kernel) (pa_cons (pv 0) pa_nil)))
      (pss_cons (ps_while PassesOwn.never (pt_cmpR op_lt (pv 2) (pv 3) (nomark _))
      (pss_cons (ps_set (i := 4) sc__ended_ahead.nd rfl (by first | exact .inl rfl | exact .inr rfl) (pe_op op_fdiv (pe_op op_add (pv 2) (pv 3)) pe_int))
      (pss_one (ps_if (pt_cmpR op_lt (pe_ix ix_seq (pe_ix ix_seq (pv 0) (pv 4) (fun _ _ => rfl)) pe_int (fun _ _ => rfl)) (pv 1) (nomark _)) (pss_one (ps_set (i := 2) sc__ended_ahead.nd rfl (by first | exact .inl rfl | exact .inr rfl) (pe_op op_add (pv 4) pe_int))) (pss_one (ps_set (i := 3) sc__ended_ahead.nd rfl (by first | exact .inl rfl | exact .inr rfl) (pv 4)))))))
      (pss_one (ps_ret (pv 2)))))), ?_⟩
  have el := hl.len
  refine ⟨_, rfl, a, us, rfl, .inr (SqT.of ha), ?_⟩
  refine ⟨fun n σ H1 => ∃ (i j : Nat) (y4 : Option V), σ = [some (.ref a), some (.int d), some (.int i), some (.int j), y4] ∧ H1 = H ∧ i ≤ j ∧ j ≤ l.length ∧
      (∀ k p, k < i → l[k]? = some p → p.2 < d) ∧ (∀ k p, j ≤ k → l[k]? = some p → d ≤ p.2) ∧ n = j - i,
    ⟨_, 0, us.length, none, rfl, rfl, Nat.zero_le _, by omega, fun k p z => by omega, fun k p z hk => ?_, rfl⟩, ?_⟩
  · have : k < l.length := (List.getElem?_eq_some_iff.mp hk).1
    omega
  rintro n σ H1 ⟨i, j, y4, rfl, rfl, hij, hj, h1, h2, rfl⟩
  refine ⟨_, rfl, _, rfl, _, _, rfl, rfl, _, rfl, ?_⟩
  by_cases c : i < j
  · refine ifT (by omega) ?_
    refine ⟨fun σ' H' => ∃ m' : Nat, m' < j - i ∧ ∃ (i j : Nat) (y4 : Option V), σ' = [some (.ref a), some (.int d), some (.int i), some (.int j), y4] ∧ H' = H1 ∧ i ≤ j ∧ j ≤ l.length ∧
      (∀ k p, k < i → l[k]? = some p → p.2 < d) ∧ (∀ k p, j ≤ k → l[k]? = some p → d ≤ p.2) ∧ m' = j - i, fun σ' H' z => z, ?_⟩
    refine ⟨_, rfl, _, rfl, _, _, rfl, rfl, _, _, rfl, rfl, ⟨by decide, by decide⟩, ?_⟩
    obtain ⟨k, hk⟩ : ∃ k : Nat, k = (i + j) / 2 := ⟨_, rfl⟩
    have ek : ((i : Int) + (j : Int)) / 2 = (k : Int) := by omega
    have hk1 : i ≤ k := by omega
    have hk2 : k < j := by omega
    have hk3 : k < us.length := by omega
    obtain ⟨p, hp1, tp, etp, hp⟩ := hl.get (List.getElem?_eq_getElem hk3)
    have ga : atI us (((i : Int) + (j : Int)) / 2) = some (.ref tp) := by
      rw [ek]
      exact atI_nat (by rw [← etp]; exact List.getElem?_eq_getElem hk3)
    refine ⟨_, rfl, _, rfl, .inr (.inl ⟨a, us, _, _, rfl, rfl, SqT.of ha, ga, .inr (.inl ⟨tp, _, 1, _, rfl, rfl, SqT.of hp, atI_nat (j := 1) rfl, ?_⟩)⟩)⟩
    refine ⟨_, rfl, _, _, rfl, rfl, _, rfl, ?_⟩
    by_cases c2 : p.2 < d
    · refine ifT c2 ?_
      refine ⟨_, rfl, _, _, rfl, rfl, ?_⟩
      refine ⟨_, (by omega : j - (k + 1) < j - i), k + 1, j, some (.int (((i : Int) + (j : Int)) / 2)), ?_, rfl, by omega, hj, fun m r hm hr' => ?_, h2, rfl⟩
      · show [some (V.ref a), some (V.int d), some (V.int (((i : Int) + (j : Int)) / 2 + 1)), some (V.int j), some (V.int (((i : Int) + (j : Int)) / 2))] = _
        rw [ek]
        rfl
      · rcases Nat.lt_or_ge m k with z | z
        · have hl' : m < l.length := (List.getElem?_eq_some_iff.mp hr').1
          have := rl.lt z hr' hp1
          have := rl.val p (List.mem_of_getElem? hp1)
          omega
        · have : m = k := by omega
          subst this
          rw [hp1] at hr'
          cases hr'
          exact c2
    · refine ifF c2 ?_
      refine ⟨_, rfl, ?_⟩
      refine ⟨_, (by omega : k - i < j - i), i, k, some (.int (((i : Int) + (j : Int)) / 2)), ?_, rfl, hk1, by omega, h1, fun m r hm hr' => ?_, rfl⟩
      · show [some (V.ref a), some (V.int d), some (V.int i), some (V.int (((i : Int) + (j : Int)) / 2)), some (V.int (((i : Int) + (j : Int)) / 2))] = _
        rw [ek]
      · rcases Nat.lt_or_ge k m with z | z
        · have := rl.lt z hp1 hr'
          have := rl.val r (List.mem_of_getElem? hr')
          omega
        · have : m = k := by omega
          subst this
          rw [hp1] at hr'
          cases hr'
          omega
  · refine ifF (by omega) ?_
    have eij : i = j := by omega
    subst eij
    exact ⟨_, rfl, q i (by omega) h1 h2⟩
theorem ok_has (T : Txt K mg ad fds cs) : FnOk P w K mg base CX0 2 (ad 21) (fds 21) ["one", "day"] spHas := by
  refine T.F_has.ok sc_has (fun vs H Q E h => ?_) (fun cdv A outer s H vs Q E hr h => ?_)
  · obtain ⟨a, l, d, lo, rfl, _⟩ := h
    rfl
  obtain ⟨a, l, d, lo, rfl, ⟨us, ha, hl⟩, rl, z1, q⟩ := h
  refine ⟨_, (pss_cons (ps_set (i := 2) sc_has.nd rfl (by first | exact .inl rfl | exact .inr rfl) (pe_call (ok__ended_ahead T) (hr.mono (by decide)) rfl T.g__ended_ahead T.F__ended_ahead.kp (bi__ended_ahead T) .nil pass0 (pa_cons (pv 0) (pa_cons (pv 1) pa_nil))))
      (pss_one (ps_ret (pe_and (pe_cmpR op_lt (pv 2) (pe_callB call_len_seq (by rfl) T.z_len (by decide +kernel) (pa_cons (pv 0) pa_nil)) (nomark _)) (pe_one (pe_cmpR op_le (pe_ix ix_seq (pe_ix ix_seq (pv 0) (pv 2) (fun _ _ => rfl)) pe_int (fun _ _ => rfl)) (pv 1) (nomark _))))))), ?_⟩
  have el := hl.len
  refine ⟨_, rfl, _, rfl, ?_⟩
  refine ⟨a, l, d, lo, rfl, ⟨us, ha, hl⟩, rl, z1, fun i hi h1 h2 => ?_⟩
  have fin := has_end rl h1 h2
  refine ⟨_, rfl, _, rfl, a, us, rfl, .inr (SqT.of ha), _, _, rfl, rfl, _, rfl, ?_⟩
  by_cases c2 : i < us.length
  · refine ifT (by omega) ?_
    obtain ⟨p, hp1, tp, etp, hp⟩ := hl.get (List.getElem?_eq_getElem c2)
    have ga : atI us (i : Int) = some (.ref tp) := atI_nat (by rw [← etp]; exact List.getElem?_eq_getElem c2)
    refine ⟨_, rfl, _, rfl, .inr (.inl ⟨a, us, _, _, rfl, rfl, SqT.of ha, ga, .inr (.inl ⟨tp, _, 0, _, rfl, rfl, SqT.of hp, atI_nat (j := 0) rfl, ?_⟩)⟩)⟩
    refine ⟨_, rfl, _, _, rfl, rfl, ?_⟩
    have e : decide (Mem l d) = decide (p.1 ≤ d) := decide_eq_decide.mpr (fin.trans ⟨fun ⟨r, h3, h4⟩ => by
      rw [hp1] at h3
      cases h3
      exact h4, fun h4 => ⟨p, hp1, h4⟩⟩)
    rw [e] at q
    exact q
  · refine ifF (by omega) ?_
    have e : decide (Mem l d) = false := decide_eq_false fun z => by
      obtain ⟨p, h3, _⟩ := fin.mp z
      have := (List.getElem?_eq_some_iff.mp h3).1
      omega
    rw [e] at q
    exact q
end
end Yj
set_option Elab.async false
set_option linter.all false
set_option maxRecDepth 100000
set_option maxHeartbeats 4000000
set_option pp.maxSteps 1500
namespace Yj
open PySem PySem.Spec PyProof.Rows L2 RZ
section
variable {P : Program} {w : World} {K : PySem.W.Frag} {mg : Str → Option Value} {base : Heap} {ad : Nat → Addr} {fds : Nat → FuncData} {cs : Nat → Value}
/-! ### how_many -/
def spHow : Sp := fun vs H Q _ => ∃ a l, vs = [.ref a] ∧ RowT H a l ∧ l.length ≤ 1000000 ∧ ∀ H', Same H H' → Q (.int (card l)) H'
theorem card_sum : ∀ l : Sps, (l.map fun p => p.2 - p.1 + 1).sum = card l
  | [] => rfl
  | p :: x => by
    rw [List.map_cons, List.sum_cons, card_sum x]
    rfl
theorem ok_how_many (T : Txt K mg ad fds cs) : FnOk P w K mg base CX0 1 (ad 22) (fds 22) ["one"] spHow := by
  refine T.F_how_many.ok sc_how_many (fun vs H Q E h => ?_) (fun cdv A outer s H vs Q E hr h => ?_)
  · obtain ⟨a, l, rfl, _⟩ := h
    rfl
  obtain ⟨a, l, rfl, ⟨us, ha, hl⟩, z1, q⟩ := h
  refine ⟨_, (pss_one (ps_ret (pe_callB (cr_sum rfl) (by rfl) T.z_sum (by decide +kernel) (pa_cons (pe_lc (own := [("first", 1), ("last", 2)]) rfl sc_how_many.nd (pi_tup (pv 0)) (blkOk_by (N := N_how_many) (sc := defScope s_how_many) (own := [("first", 1), ("last", 2)]) (by decide +kernel)) (fun _ _ _ _ _ => by exact (pg_tupK (K := K) (n := 2) rfl (pgs_cons (pg_name (i := 1) sc_how_many.nd rfl (.inl rfl)) (pgs_cons (pg_name (i := 2) sc_how_many.nd rfl (.inl rfl)) pgs_nil)))) (fun _ _ _ _ _ => by exact pts_nil) (fun _ _ _ _ _ => by exact (pe_op op_add (pe_op op_sub (pv 2) (pv 1)) pe_int))) pa_nil)))), ?_⟩
  have el := hl.len
  refine ⟨_, rfl, a, rfl, ⟨_, SqT.of ha⟩, fun D nD => ?_⟩
  have s1 := same_upd (o := .lst []) nD
  refine lc_tup (xs := us) (fun i H1 => Same H H1 ∧ H1 D = some (.lst (((l.take i).map fun p => p.2 - p.1 + 1).map V.int))) ⟨s1, by rw [upd_same]; rfl⟩ (fun i H1 _ h => SqT.of (h.1 _ _ ha)) ?_ ?_
  · rintro i x H1 hx ⟨s2, hD⟩
    obtain ⟨p, hp1, tp, rfl, hp⟩ := hl.get hx
    have hi : i < us.length := (List.getElem?_eq_some_iff.mp hx).1
    refine ⟨tp, _, rfl, SqT.of (s2 _ _ hp), rfl, _, _, rfl, _, _, rfl, rfl, rfl, ?_⟩
    refine ⟨_, rfl, _, rfl, _, _, rfl, rfl, _, _, rfl, rfl, ?_⟩
    refine ⟨_, hD, ofNat_lt ?_, same_at s2 nD, ?_⟩
    · rw [List.length_map, List.length_map, List.length_take]
      omega
    · rw [upd_same, List.take_add_one, hp1, List.map_append, List.map_append]
      rfl
  · rintro H1 ⟨s2, hD⟩
    rw [el, List.take_length] at hD
    refine ⟨D, _, rfl, SqL.of hD, ?_⟩
    rw [card_sum]
    exact q _ s2
end
end Yj
set_option Elab.async false
set_option linter.all false
set_option maxRecDepth 100000
set_option maxHeartbeats 4000000
set_option pp.maxSteps 1500
namespace Yj
open PySem PySem.Spec PyProof.Rows L2 RZ
section
variable {P : Program} {w : World} {K : PySem.W.Frag} {mg : Str → Option Value} {base : Heap} {ad : Nat → Addr} {fds : Nat → FuncData} {cs : Nat → Value}
/-! ### breaks -/
def spBrk : Sp := fun vs H Q _ => ∃ a l, vs = [.ref a] ∧ RowT H a l ∧ l.length ≤ 400000 ∧ ∀ H' r, Same H H' → H r = none → H' r = some (.lst ((brk l).map V.int)) → Q (.ref r) H'
theorem brk_take : ∀ (l : Sps) (i : Nat) (p : Int × Int), l[i]? = some p → brk (l.take (i + 1)) = (brk (l.take i) ++ [p.1]) ++ [p.2 + 1]
  | [], _, _, h => by simp at h
  | q :: x, 0, p, h => by
    have e : q = p := Option.some.inj h
    rw [e]
    rfl
  | q :: x, i + 1, p, h => by
    show q.1 :: (q.2 + 1) :: brk (x.take (i + 1)) = _
    rw [brk_take x i p h]
    rfl
theorem ok_breaks (T : Txt K mg ad fds cs) : FnOk P w K mg base CX0 1 (ad 24) (fds 24) ["one"] spBrk := by
  refine T.F_breaks.ok sc_breaks (fun vs H Q E h => ?_) (fun cdv A outer s H vs Q E hr h => ?_)
  · obtain ⟨a, l, rfl, _⟩ := h
    rfl
  obtain ⟨a, l, rfl, ⟨us, ha, hl⟩, z1, q⟩ := h
  refine ⟨_, (pss_cons (ps_set (i := 1) sc_breaks.nd rfl (by first | exact .inl rfl | exact .inr rfl) (pe_lst pa_nil))
      (pss_cons (ps_for PassesOwn.never rfl (pi_tup (pv 0)) (pg_tup rfl (pgs_cons (pg_name (i := 2) sc_breaks.nd rfl (by first | exact .inl rfl | exact .inr rfl)) (pgs_cons (pg_name (i := 3) sc_breaks.nd rfl (by first | exact .inl rfl | exact .inr rfl)) pgs_nil)))
      (pss_cons (ps_expr (pe_bm PySem.F.plainAttrs_list PySem.F.slot_list_append PySem.F.type_list_append mt_append (pv 1) (pa_cons (pv 2) pa_nil)))
      (pss_one (ps_expr (pe_bm PySem.F.plainAttrs_list PySem.F.slot_list_append PySem.F.type_list_append mt_append (pv 1) (pa_cons (pe_op op_add (pv 3) pe_int) pa_nil))))))
      (pss_one (ps_ret (pv 1))))), ?_⟩
  refine ⟨Nat.zero_le _, fun r nr => ?_⟩
  have s1 : Same H (upd H r (.lst [])) := same_upd nr
  have el := hl.len
  refine ⟨_, rfl, a, rfl, ⟨_, SqT.of (s1 _ _ ha)⟩, for_tup (xs := us) (fun i σ H1 => ∃ (y2 y3 : Option V), σ = [some (.ref a), some (.ref r), y2, y3] ∧ Same H H1 ∧ H1 r = some (.lst ((brk (l.take i)).map V.int)))
    ⟨none, none, rfl, s1, upd_same⟩ (fun i σ H1 _ ⟨_, _, _, s2, _⟩ => SqT.of (s2 _ _ ha)) ?_ ?_⟩
  · rintro i x σ H1 hx ⟨y2, y3, rfl, s2, hr1⟩
    obtain ⟨p, hp1, tp, rfl, hp⟩ := hl.get hx
    have hi : i < us.length := (List.getElem?_eq_some_iff.mp hx).1
    have hz : ((brk (l.take i)).map V.int).length ≤ 2 * i := by
      rw [List.length_map, brk_len, List.length_take]
      omega
    refine ⟨tp, _, rfl, SqT.of (s2 _ _ hp), rfl, _, _, rfl, _, _, rfl, rfl, ?_⟩
    refine ⟨.ref r, rfl, .inl ⟨rfl, _, SqL.of hr1⟩, _, rfl, r, _, _, rfl, rfl, hr1, ofNat_lt (by omega), ?_⟩
    have s3 : Same H (upd H1 r (.lst ((brk (l.take i)).map V.int ++ [.int p.1]))) := same_at s2 nr
    refine ⟨.ref r, rfl, .inl ⟨rfl, _, SqL.of upd_same⟩, _, rfl, _, _, rfl, rfl, r, _, _, rfl, rfl, upd_same, ofNat_lt ?_, ?_⟩
    · rw [List.length_append]
      simp only [List.length_cons, List.length_nil]
      omega
    · refine ⟨_, _, rfl, same_at s3 nr, ?_⟩
      rw [upd_same, brk_take l i p hp1, List.map_append, List.map_append]
      rfl
  · rintro σ H1 ⟨y2, y3, rfl, s2, hr1⟩
    rw [el, List.take_length] at hr1
    exact ⟨_, rfl, q _ r s2 nr hr1⟩
end
end Yj
set_option Elab.async false
set_option linter.all false
set_option maxRecDepth 100000
set_option maxHeartbeats 4000000
set_option pp.maxSteps 1500
namespace Yj
open PySem PySem.Spec PyProof.Rows L2 RZ
/-! ### is_span -/
/-- a span, of anything; the items of a tuple stand in the heap -/
def SpanV (H : Hp) (x : V) (k : Bool) : Prop :=
  (Pl H x ∧ k = false ∧ ∀ a, x = .ref a → ∃ xs, H a = some (.lst xs)) ∨
  ∃ a xs, x = .ref a ∧ H a = some (.tup xs) ∧ ((xs.length ≠ 2 ∧ k = false) ∨ ∃ u v, xs = [u, v] ∧ Pl H u ∧ Pl H v ∧ k = (isD u && isD v && (match u, v with | .int i, .int j => decide (i ≤ j) | _, _ => false)))
end Yj
set_option Elab.async false
set_option linter.all false
set_option maxRecDepth 100000
set_option maxHeartbeats 4000000
set_option pp.maxSteps 1500
namespace Yj
open PySem PySem.Spec PyProof.Rows L2 RZ
section
variable {P : Program} {w : World} {K : PySem.W.Frag} {mg : Str → Option Value} {base : Heap} {ad : Nat → Addr} {fds : Nat → FuncData} {cs : Nat → Value}
def spSpan : Sp := fun vs H Q _ => ∃ x k, vs = [x] ∧ SpanV H x k ∧ Q (.bl k) H
theorem ok_is_span (T : Txt K mg ad fds cs) : FnOk P w K mg base CX0 3 (ad 12) (fds 12) ["thing"] spSpan := by
  refine T.F_is_span.ok sc_is_span (fun vs H Q E h => ?_) (fun cdv A outer s H vs Q E hr h => ?_)
  · obtain ⟨x, k, rfl, _⟩ := h
    rfl
  obtain ⟨x, k, rfl, hx, q⟩ := h
  refine ⟨_, (pss_cons (ps_if (PW.pt (pw_or (pt_not (pt_val (pe_callB call_isi (by rfl) T.z_isinstance (by decide +kernel) (pa_cons (pv 0) (pa_cons (pe_bltn (v := .ty "tuple") (u := .type "tuple") (by rfl) T.z_tuple (by decide +kernel) rfl) pa_nil))))) (pw_or1 (pt_cmpR op_ne (pe_callB call_len_seq (by rfl) T.z_len (by decide +kernel) (pa_cons (pv 0) pa_nil)) pe_int (nomark _))))) (pss_one (ps_ret pe_bl)) pss_nil)
      (pss_cons (ps_asg (pv 0) (pg_tup rfl (pgs_cons (pg_name (i := 1) sc_is_span.nd rfl (by first | exact .inl rfl | exact .inr rfl)) (pgs_cons (pg_name (i := 2) sc_is_span.nd rfl (by first | exact .inl rfl | exact .inr rfl)) pgs_nil))))
      (pss_one (ps_ret (pe_and (pe_call (ok_is_day T) (hr.mono (by decide)) rfl T.g_is_day T.F_is_day.kp (bi_is_day T) .nil pass0 (pa_cons (pv 1) pa_nil)) (pe_and (pe_call (ok_is_day T) (hr.mono (by decide)) rfl T.g_is_day T.F_is_day.kp (bi_is_day T) .nil pass0 (pa_cons (pv 2) pa_nil)) (pe_one (pe_cmpR op_le (pv 1) (pv 2) (nomark _))))))))), ?_⟩
  rcases hx with ⟨hx, rfl, hl⟩ | ⟨a, xs, rfl, ha, hx⟩
  · cases hx with
    | non => exact ⟨_, rfl, _, _, _, _, false, rfl, ClsV.ty _, TyX.base .non, kit_ty (by decide +kernel), _, rfl, iteT (iteT q)⟩
    | bl b => exact ⟨_, rfl, _, _, _, _, false, rfl, ClsV.ty _, TyX.base (.bl b), kit_ty (by decide +kernel), _, rfl, iteT (iteT q)⟩
    | int i => exact ⟨_, rfl, _, _, _, _, false, rfl, ClsV.ty _, TyX.base (.int i), kit_ty (by decide +kernel), _, rfl, iteT (iteT q)⟩
    | str x => exact ⟨_, rfl, _, _, _, _, false, rfl, ClsV.ty _, TyX.base (.str x), kit_ty (by decide +kernel), _, rfl, iteT (iteT q)⟩
    | lst h => exact ⟨_, rfl, _, _, _, _, false, rfl, ClsV.ty _, TyX.base (.lst h), kit_ty (by decide +kernel), _, rfl, iteT (iteT q)⟩
    | @tup a xs h =>
      obtain ⟨ys, e⟩ := hl a rfl
      rw [h] at e
      cases e
  · refine ⟨_, rfl, _, _, _, _, true, rfl, ClsV.ty _, TyX.base (.tup ha), kit_ty (by decide +kernel), _, rfl, iteF ?_⟩
    refine ⟨_, rfl, a, xs, rfl, .inr (SqT.of ha), rfl, _, rfl, ?_⟩
    rcases hx with ⟨hn, rfl⟩ | ⟨u, v, rfl, hu, hv, rfl⟩
    · have e : decide (V.int (xs.length : Nat) = V.int 2) = false := decide_eq_false fun z => hn (by
        have := V.int.inj z
        omega)
      rw [e]
      exact iteT q
    · refine iteF ?_
      refine ⟨_, rfl, a, _, rfl, SqT.of ha, rfl, _, _, rfl, _, _, rfl, rfl, ?_⟩
      refine ⟨_, rfl, u, rfl, hu, _, rfl, ?_⟩
      cases eu : isD u with
      | false =>
        rw [eu] at q
        exact iteF q
      | true =>
        refine iteT ⟨_, rfl, v, rfl, hv, _, rfl, ?_⟩
        cases ev : isD v with
        | false =>
          rw [eu, ev] at q
          exact iteF q
        | true =>
          rw [eu, ev] at q
          obtain ⟨i, rfl⟩ : ∃ i, u = .int i := by
            cases u <;> first | exact ⟨_, rfl⟩ | cases eu
          obtain ⟨j, rfl⟩ : ∃ j, v = .int j := by
            cases v <;> first | exact ⟨_, rfl⟩ | cases ev
          exact iteT ⟨_, rfl, _, rfl, _, _, rfl, rfl, q⟩
end
end Yj
set_option Elab.async false
set_option linter.all false
set_option maxRecDepth 100000
set_option maxHeartbeats 4000000
set_option pp.maxSteps 1500
/-! Over tuples: enumerate, sorted; an item of a list as the left side of an augmented store. -/
namespace PySem
open Sem (wp)
open AutoSeq1 (wpAny_loadPart')
theorem meets_enumT (l : Addr) (o : Obj) (items : Array Value) (n : Nat) (hc : o.cls = .type "tuple") (hd : o.data = .seq items n) :
    Meets (Builtin.«enumerate.__new__» ⟨[.type "enumerate", .ref l], []⟩) (fun _ R s => s.heap.get? l = some o ∧
      R (.ok (.ret (.ref (s.heap.push { cls := .type "tuple_iterator", data := .fields #[.ref l, .int 0 0] }).objs.size)))
        { s with heap := (s.heap.push { cls := .type "tuple_iterator", data := .fields #[.ref l, .int 0 0] }).push { cls := .type "enumerate", data := .fields #[.none, .bool false, .ref s.heap.objs.size, rawInt 0, .none, .none] } }) :=
  .of_wp fun prog w A R s h => by
    obtain ⟨hp, g, d, tk, os⟩ := s
    obtain ⟨hl, h⟩ := h
    have sub := sub_enumerate
    have hL : Heap.IsTuple (Shared.heap ⟨hp, g, d, tk, os⟩) l items := ⟨o, hl, hc, n, hd⟩
    wp_walk using wpAny_loadPart' hl
    refine wpAny_stack_any fun st => wpAny_pure ?_
    split
    · rename_i c _ _ _ _ _
      cases (c == Value.type "enumerate") <;> (wp_walk using wpAny_loadPart' hl, wpAny_pyIter_tuple hL; exact ⟨_, rfl, h⟩)
    · (wp_walk using wpAny_loadPart' hl, wpAny_pyIter_tuple hL); exact ⟨_, rfl, h⟩
theorem call_enumT {prog : Program} {w : World} {A : Around} {E : Value → Shared → Prop} {s : Shared} {l : Addr} {items : Array Value} {Q : Value → Shared → Prop} (hL : s.heap.IsTuple l items)
    (h : ∀ h', IsEnum h' (s.heap.objs.size + 1) s.heap.objs.size 0 .none → h'.IsTupleIter s.heap.objs.size l 0 → h'.objs.size = s.heap.objs.size + 2 →
      (∀ b o, s.heap.get? b = some o → h'.get? b = some o) → Q (.ref (s.heap.objs.size + 1)) { s with heap := h' }) :
    wpAny (model prog w) A (call (.type "enumerate") [.ref l]) Q E s := by
  obtain ⟨o, hl, hc, n, hd⟩ := hL
  refine callType_new F.called_enumerate (by decide) (F.typeCall_enumerate_1 _) (F.newCall_enumerate_1 _) (fun obj => F.args_object_init_2 obj _) F.entry_enumerate_new (meets_enumT l o items n hc hd) ⟨hl, ?_⟩
  have hz : (s.heap.push { cls := .type "tuple_iterator", data := .fields #[.ref l, .int 0 0] }).objs.size = s.heap.objs.size + 1 := Heap.size_push ..
  show _ ∧ _
  rw [hz]
  have he : IsEnum ((s.heap.push { cls := .type "tuple_iterator", data := .fields #[.ref l, .int 0 0] }).push
      { cls := .type "enumerate", data := .fields #[.none, .bool false, .ref s.heap.objs.size, rawInt 0, .none, .none] }) (s.heap.objs.size + 1) s.heap.objs.size 0 .none := by
    have q := Heap.get?_push_size (s.heap.push { cls := .type "tuple_iterator", data := .fields #[.ref l, .int 0 0] })
      (o := { cls := .type "enumerate", data := .fields #[.none, .bool false, .ref s.heap.objs.size, rawInt 0, .none, .none] }) rfl
    rw [hz] at q
    exact q
  refine ⟨⟨_, he, rfl⟩, h _ he ⟨_, Heap.get?_push_of_some _ (Heap.get?_push_size _ rfl), rfl, rfl⟩ (by rw [Heap.size_push, hz]) fun b o x => ?_⟩
  exact Heap.get?_push_of_some _ (Heap.get?_push_of_some _ x)
end PySem
namespace SrtO
open PySem PyProof.Rows Srt
section
variable {prog : Program} {w : World} {A : Around} {E : Value → Shared → Prop} {s : Shared}
/-- all of a tuple collected into a new list -/
theorem collect_tup {l : Addr} {o : Obj} {n : Nat} {vs : List Value} {Q : List Value → Shared → Prop} (ho : s.heap.get? l = some o) (hc : o.cls = .type "tuple") (hd : o.data = .seq vs.toArray n) (hz : vs.length ≤ sizeLine)
    (h : Q vs { s with heap := (s.heap.push (seqObj "list" #[] 0)).update s.heap.objs.size (Obj.mapSeq (· ++ vs.toArray)) }) : wpAny (model prog w) A (collect (.ref l)) Q E s := by
  have hS : (s.heap.push (seqObj "list" #[] 0)).get? s.heap.objs.size = some (seqObj "list" #[] 0) := Heap.get?_push_size _ rfl
  have hS2 := Heap.get?_update_self (Obj.mapSeq (· ++ vs.toArray)) hS rfl
  have ho2 : (s.heap.push (seqObj "list" #[] 0)).get? l = some o := Heap.get?_push_of_some _ ho
  have here : ∀ (r : Result) (s' : Shared), (r = Except.ok (Flow.ret (.ref s.heap.objs.size)) ∧ s' = { s with heap := (s.heap.push (seqObj "list" #[] 0)).update s.heap.objs.size (Obj.mapSeq (· ++ vs.toArray)) }) →
      r = Except.ok (.ret (.ref s.heap.objs.size)) ∧ wpAny (model prog w) A (do
        let o ← load s.heap.objs.size
        match o.data with
        | .seq xs _ => pure xs.toList
        | _ => unsupported "internal:collect") Q E s' := by
    rintro r s' ⟨rfl, rfl⟩
    refine ⟨rfl, wpAny_bind (wpAny_load hS2 ?_)⟩
    show wpAny _ _ (pure ((#[] : Array Value) ++ vs.toArray).toList) Q E _
    have e : ((#[] : Array Value) ++ vs.toArray).toList = vs := by simp
    rw [e]
    exact wpAny_pure h
  unfold collect
  refine wpAny_bind (wpAny_runValue (codeAny_builtin F.entry_proto_collect ?_))
  rw [Around.under_plainId F.plain_proto_collect _]
  show wpAny _ A.in1 (newList [] >>= fun k => again (.builtin "list.__iadd__" ⟨[k, .ref l], []⟩)) _ _ s
  refine wpAny_bind (wpAny_newObj_type (wpAny_pure ⟨plainId_quiet F.plain_list_iadd _, codeAny_builtin F.entry_list_iadd ?_⟩))
  rw [Around.under_plainId F.plain_list_iadd _]
  refine wpAny_mono (wpAny_extend_seq (A := A) (s := { s with heap := s.heap.push (seqObj "list" #[] 0) })
    (R := fun r s' => r = .ok (.ret (.ref s.heap.objs.size)) ∧ s' = { s with heap := (s.heap.push (seqObj "list" #[] 0)).update s.heap.objs.size (Obj.mapSeq (· ++ vs.toArray)) })
    s.heap.objs.size l (.ref s.heap.objs.size) 0 (.inr rfl) hS ho2 hc hd ⟨rfl, rfl⟩ (by rw [List.size_toArray]; exact hz)) (fun fin s' hf => ?_) (fun e s' hf => nomatch hf.1)
  cases fin with
  | done f =>
    obtain ⟨e, z⟩ := here _ _ hf
    cases e
    exact z
  | again c' =>
    refine ⟨hf.1, codeAny_mono hf.2 fun r s2 hr => ?_⟩
    obtain ⟨e, z⟩ := here _ _ hr
    subst e
    exact z
/-- sorted(t), t a tuple of pairs of ints -/
theorem sorted_tupO {l : Addr} {o : Obj} {n : Nat} {vs : List Value} {k : Value → Int × Int} {Q : Value → Shared → Prop} (ho : s.heap.get? l = some o) (hc : o.cls = .type "tuple") (hd : o.data = .seq vs.toArray n) (hz : vs.length ≤ sizeLine) (hp : ∀ v ∈ vs, IsPair s.heap v (k v).1 (k v).2)
    (h : ∀ (h' : Heap) (d : Addr) (out : List Value), Srtd (fun v u => lexB (k v) (k u)) out → Stb (fun v u => lexB (k v) (k u)) out vs → (∀ b o, s.heap.get? b = some o → h'.get? b = some o) → s.heap.objs.size ≤ d → (∃ n, h'.get? d = some (seqObj "list" out.toArray n)) → Q (.ref d) { s with heap := h' }) :
    wpAny (model prog w) A (call (.builtin "sorted") [.ref l]) Q E s := by
  refine Calls.call_function_entry kind_sorted plain_sorted entry_sorted (args_sorted1 _) ?_
  unfold Builtin.«sorted»
  refine wpAny_bind (m := checkCount "sorted" 1 1 _) (wpAny_pure ?_)
  refine wpAny_bind (collect_tup ho hc hd hz (wpAny_bind (wpAny_newList ?_ hz)))
  have hsz : ((s.heap.push (seqObj "list" #[] 0)).update s.heap.objs.size (Obj.mapSeq (· ++ vs.toArray))).objs.size = s.heap.objs.size + 1 := by
    rw [Heap.size_update]
    exact size_push' _ _
  have old : ∀ b o, s.heap.get? b = some o → b ≠ s.heap.objs.size + 1 ∧ (((s.heap.push (seqObj "list" #[] 0)).update s.heap.objs.size (Obj.mapSeq (· ++ vs.toArray))).push (seqObj "list" vs.toArray 0)).get? b = some o := fun b o q => by
    have hlt : b < s.heap.objs.size := Heap.lt_size q
    refine ⟨Nat.ne_of_lt (Nat.lt_succ_of_lt hlt), Heap.get?_push_of_some _ ((Heap.get?_update_ne _ _ _ _ (Nat.ne_of_lt hlt)).trans (Heap.get?_push_of_some _ q))⟩
  have hoL : (((s.heap.push (seqObj "list" #[] 0)).update s.heap.objs.size (Obj.mapSeq (· ++ vs.toArray))).push (seqObj "list" vs.toArray 0)).get? (s.heap.objs.size + 1) = some (seqObj "list" vs.toArray 0) := by
    rw [← hsz]
    exact Heap.get?_push_size _ rfl
  have hS : 2 ≤ vs.length → SortableO prog w A.in1.in1 { s with heap := ((s.heap.push (seqObj "list" #[] 0)).update s.heap.objs.size (Obj.mapSeq (· ++ vs.toArray))).push (seqObj "list" vs.toArray 0) } (s.heap.objs.size + 1) vs fun v u => lexB (k v) (k u) := fun h2 => by
    refine pairs_sortableO (s := { s with heap := ((s.heap.push (seqObj "list" #[] 0)).update s.heap.objs.size (Obj.mapSeq (· ++ vs.toArray))).push (seqObj "list" vs.toArray 0) }) (by omega) (fun v hm => (hp v hm).keeps fun b o e _ => (old b o e).2) fun o e c => ?_
    have e' := e.symm.trans hoL
    cases e'
    exact absurd (Value.type.inj c) (by decide)
  show wpAny _ _ _ _ _ { s with heap := ((s.heap.push (seqObj "list" #[] 0)).update s.heap.objs.size (Obj.mapSeq (· ++ vs.toArray))).push (seqObj "list" vs.toArray 0) }
  rw [hsz]
  refine wpAny_bind (wpAny_holding (wpAny_call_entry slot_list_sort ⟨_, hoL, rfl⟩ entry_list_sort (list_sort_ord (swo_lex k) hoL hz hS fun out hs hb => ⟨_, rfl, ?_⟩) (args_list_sort _)))
  have fin := h (sortedAll s.heap vs out.toArray) (s.heap.objs.size + 1) out hs hb (fun b o e => sortedAll_old e) (Nat.le_succ _) (sortedAll_at s.heap vs out.toArray)
  exact wpAny_pure ⟨_, rfl, fin⟩
end
end SrtO
namespace Yj
open PySem PySem.Spec PyProof.Rows L2
/-- a row's spans in either a list or a tuple -/
def RowA (H : Hp) (a : Addr) (us : List V) : Prop := H a = some (.lst us) ∨ H a = some (.tup us)
def rSortedPA : List V → Hp → VK → Prop := fun vs H Q => ∃ (a : Addr) (xs : List V) (k : V → Int × Int), vs = [V.ref a] ∧ RowA H a xs ∧ (∀ x ∈ xs, ∃ t, x = V.ref t ∧ H t = some (.tup [.int (k x).1, .int (k x).2])) ∧
  ∀ ys p, SrtO.Srtd (ltP k) ys → SrtO.Stb (ltP k) ys xs → H p = none → Q (.ref p) (upd H p (.lst ys))
section
variable {X : Cx}
theorem cr_sortedPA : CallR X (.builtin "sorted") rSortedPA := by
  intro pins s σ H vs us Q I r h
  obtain ⟨a, xs, k, rfl, hs, hx, q⟩ := h
  rcases hs with hs | hs
  · exact cr_sortedPO pins s σ H _ us Q I r ⟨a, xs, k, rfl, SqL.of hs, hx, q⟩
  obtain ⟨its, rv, ⟨o, ho, hc, n, hd⟩, hz⟩ := I.tuple (SqT.of (K := X.K) hs)
  obtain ⟨u, rfl, ru⟩ := vals1 r
  obtain rfl : u = Value.ref a := ru
  obtain ⟨e1, e2⟩ := refs_back rv fun x m => (hx x m).imp fun t h => h.1
  have hlen := rv.length
  refine SrtO.sorted_tupO (k := fun u => k (backV u)) ho hc hd (by omega) (fun v hv => ?_) fun h' d out h1 h2 kp hfar hn => ?_
  · obtain ⟨t, rfl⟩ := e2 v hv
    have hm : V.ref t ∈ xs := by
      rw [e1]
      exact List.mem_map.mpr ⟨_, hv, rfl⟩
    obtain ⟨t', e, ht⟩ := hx _ hm
    cases e
    obtain ⟨_, its2, r2, o2, ho2, hc2, n2, hd2⟩ := I.hok _ _ ht
    obtain ⟨u1, u2, rfl, ⟨t1, rfl⟩, ⟨t2, rfl⟩⟩ := vals2 r2
    exact ⟨t, o2, t1, t2, n2, rfl, ho2, hc2, hd2⟩
  · have h3 : ∀ u ∈ out, ∃ a, u = Value.ref a := fun u hu => e2 u (h2.perm.mem_iff.mp hu)
    obtain ⟨n', hn⟩ := hn
    have hb : SrtO.Stb (ltP k) (out.map backV) xs := by
      have z := SrtO.Stb.map (ltP_swo k) backV h2
      rw [e1]
      exact z
    have hz2 : (out.map backV).length ≤ sizeLine := by
      have z := hb.perm.length_eq
      omega
    exact ⟨.ref d, upd H d (.lst (out.map backV)), I.laid (t' := s.toks) kp hfar ⟨hz2, out, n', vals_back h3, hn⟩, rfl, q _ d (SrtO.srtd_map h1) hb (I.hok.fresh hfar)⟩
/-- a list's item at a place from the left, by values -/
theorem pget_list : PGet X (fun o i H Q => ∃ p xs, ∃ k : Nat, ∃ v, o = .ref p ∧ i = .int k ∧ SqL X.K H p xs ∧ xs[k]? = some v ∧ Q v H) := by
  intro pins s σ H o i ov iv Q I ro ri h
  obtain ⟨p, xs, k, v, rfl, rfl, hs, hv, q⟩ := h
  obtain rfl : ov = Value.ref p := ro
  obtain ⟨t, rfl⟩ := ri
  obtain ⟨its, r, pl, hz⟩ := I.list hs
  obtain ⟨u, hu, ru⟩ := r.get hv
  have hk : k < xs.length := (List.getElem?_eq_some_iff.mp hv).1
  have hn := line63
  exact wpAny_getItem_list pl.isList (by omega) (by omega) (by simpa using hu) ⟨v, H, I, ru, q⟩
end
end Yj
set_option Elab.async false
set_option linter.all false
set_option maxRecDepth 100000
set_option maxHeartbeats 4000000
set_option pp.maxSteps 1500
namespace Yj
open PySem PySem.Spec PyProof.Rows L2
/-! ### enumerate over a tuple -/
/-- the tuple at a, each item in a new pair with its place -/
def IteT (K : PySem.W.Frag) (a : Addr) : It :=
  ⟨fun i H => ∃ (xs : List V) (x : V), SqT K H a xs ∧ xs[i]? = some x, fun i H v H' => ∃ T x, v = .ref T ∧ H T = none ∧ H' = upd H T (.tup [.int (i : Nat), x]) ∧ ∀ xs, SqT K H a xs → xs[i]? = some x, fun i H => ∃ xs : List V, SqT K H a xs ∧ xs.length = i⟩
theorem kinds_ne {h : Heap} {a b : Addr} {o u : Obj} (ha : h.get? a = some o) (hb : h.get? b = some u) (hc : o.cls ≠ u.cls) : a ≠ b := fun z => by
  subst z
  rw [ha] at hb
  cases hb
  exact hc rfl
theorem turn_enumT {P : Program} {w : World} {K : PySem.W.Frag} {elts : List Expr} {kk : Nat} {tpos : Pos} (a e it : Addr) :
    Turn P w K (.Tuple elts kk tpos) (IteT K a) [e, it] e (fun i h => (∃ old, IsEnum h e it ((i : Nat) : Int) old) ∧ h.IsTupleIter it a i ∧ e ≠ it) where
  mem := by simp
  obj := fun i h st b hb => by
    obtain ⟨⟨old, he⟩, ⟨o, ho, hc, hd⟩, _⟩ := st
    rcases (by simpa using hb : b = e ∨ b = it) with z | z
    · rw [z]
      exact ⟨_, he, fun v q => nomatch q⟩
    · rw [z]
      exact ⟨o, ho, fun v q => by rw [hd] at q; cases q⟩
  keep := fun i h h' st k => by
    obtain ⟨⟨old, he⟩, hi, hne⟩ := st
    exact ⟨⟨old, k e (by simp) _ he⟩, hi.at fun o q => k it (by simp) o q, hne⟩
  item := by
    intro X hP hw hK hc i pins s σ H E I hf st hg
    subst hP hw hK
    obtain ⟨⟨old, he⟩, hit, hne⟩ := st
    obtain ⟨xs, x, hq, hx⟩ := hg
    obtain ⟨its, rv, p, hz⟩ := I.tuple hq
    obtain ⟨u, hu, ru⟩ := rv.get hx
    have hel : e < s.heap.objs.size := Heap.lt_size he
    have hil : it < s.heap.objs.size := by
      obtain ⟨_, q, _⟩ := hit
      exact Heap.lt_size q
    obtain ⟨ot, hot, hct, hdt⟩ := id p
    obtain ⟨oi, hoi, hci, hdi⟩ := id hit
    have nai : a ≠ it := kinds_ne hot hoi (by rw [hct, hci]; intro z; exact absurd (Value.type.inj z) (by decide))
    have nae : a ≠ e := kinds_ne hot he (by rw [hct]; intro z; exact absurd (Value.type.inj z) (by decide))
    have hh : X.A.in1.handled = none := I.ok.hd hc
    refine wpAny_pyNext_enum_itemD (Draws.tuple hh it a nai its.toArray) he ⟨hit, p⟩ (i := i) ?_ hne (by simp [hne, Ne.symm nae]) fun y h' tk hy ho hit' hT hsz hk => ?_
    · have := (List.getElem?_eq_some_iff.mp hu).1
      simpa using this
    have ey : y = u := by
      have : its.toArray[i]? = some y := hy
      rw [List.getElem?_toArray, hu] at this
      exact (Option.some.inj this).symm
    subst ey
    refine ⟨_, rfl, wpAny_letOwnedTupleGo_enum (s := { s with heap := h', toks := tk + 1 }) ho fun h'' he' sb => ?_⟩
    have hT2 : h''.get? s.heap.objs.size = some { cls := .type "tuple", data := .seq #[.int i tk, y] } := (sb.2 _ (Nat.ne_of_gt hel)).trans hT
    have new : ObjOk X.prog X.w (upd H s.heap.objs.size (.tup [.int (i : Nat), x])) h'' s.heap.objs.size (.tup [.int (i : Nat), x]) :=
      ⟨by show 2 ≤ sizeLine; decide, [.int i tk, y], .cons ⟨_, rfl⟩ (.cons ru .nil), ⟨_, hT2, rfl, _, rfl⟩⟩
    have I1 : Inv X pins σ (upd H s.heap.objs.size (.tup [.int (i : Nat), x])) { s with heap := h'', toks := tk + 1 } :=
      I.turnedNew (ch := [e, it]) (fun b ob hb q => (sb.2 b (fun z => hb (by simp [z]))).trans (hk b ob (fun z => hb (by simp [z])) (fun z => hb (by simp [z])) q)) hf (Nat.le_refl _) new
    refine ⟨.ref s.heap.objs.size, _, I1, rfl, ⟨_, x, rfl, I.hok.fresh (Nat.le_refl _), rfl, fun ys hy => by rw [I.tuple_inj hy hq]; exact hx⟩, ⟨⟨y, ?_⟩, hit'.1.at fun o q => (sb.2 it (Ne.symm hne)).trans q, hne⟩, fun b hb => ?_⟩
    · have e1 : ((i + 1 : Nat) : Int) = (i : Int) + 1 := by omega
      rw [e1]
      exact he'
    · have hb' : b < s.heap.objs.size := by
        rcases (by simpa using hb : b = e ∨ b = it) with z | z
        · rw [z]
          exact hel
        · rw [z]
          exact hil
      rw [upd_ne (Nat.ne_of_lt hb')]
      exact (hf b hb).1
  done := by
    intro X hP hw hK hc i pins s σ H E I hf st hg
    subst hP hw hK
    obtain ⟨⟨old, he⟩, hit, hne⟩ := st
    obtain ⟨xs, hq, hx⟩ := hg
    obtain ⟨its, rv, p, hz⟩ := I.tuple hq
    obtain ⟨f0, f1, f2, f3, f4, f5⟩ := hf it (by simp)
    obtain ⟨ot, hot, hct, hdt⟩ := id p
    obtain ⟨oi, hoi, hci, hdi⟩ := id hit
    have nai : a ≠ it := kinds_ne hot hoi (by rw [hct, hci]; intro z; exact absurd (Value.type.inj z) (by decide))
    have hh : X.A.in1.handled = none := I.ok.hd hc
    have hl := rv.length
    have ei : its.toArray.size = i := by
      rw [List.size_toArray]
      omega
    refine wpAny_pyNext_enum_endD (Draws.tuple hh it a nai its.toArray) he ?_ fun h' eb => ⟨rfl, I.turned (t' := s.toks) (fun b o hb q => eb b o hb q) f0 f1 f3 f4 f5⟩
    rw [ei]
    exact ⟨hit, p⟩
  self := fun A i s Q E st h => by
    obtain ⟨⟨_, he⟩, _⟩ := st
    exact wpAny_pyIter_enum he h
/-- a list or a tuple walked with places -/
def iEnumA (K : PySem.W.Frag) (ta : TA) : TI := fun σ H R => ta σ H fun vs H1 => ∃ a xs, vs = [.ref a] ∧ ((SqL K H1 a xs ∧ R (Ite K a) H1) ∨ (SqT K H1 a xs ∧ R (IteT K a) H1))
theorem pi_enumA {X : Cx} {e : Expr} {ta : TA} {p pos tpos : Pos} {elts : List Expr} {kk : Nat} (hg : Gl X "enumerate") (hm : X.mg "enumerate" = none) (ha : PA X [e] ta) (hs : starEach [e] X.env = [(false, eval e X.env)] := by rfl) :
    PI X (.Tuple elts kk tpos) (.Call (.Name "enumerate" p) [e] [] pos) (iEnumA X.K ta) := by
  refine ⟨fun pins s σ H R I h => ?_⟩
  refine Call_ (ld_blt I hg hm boot_enumerate (PyProof.Rows.callWith_type1 (thn (ha.run pos pins s σ H _ I h) fun us s1 ⟨vs, H1, I1, r1, q1⟩ => ?_) hs rfl))
  obtain ⟨a, xs, rfl, q⟩ := q1
  obtain ⟨u, rfl, ru⟩ := vals1 r1
  obtain rfl : u = Value.ref a := ru
  have fp : ∀ b ∈ [s1.heap.objs.size + 1, s1.heap.objs.size], FpOk X pins H1 b := fun b hb => by
    have hle : s1.heap.objs.size ≤ b := by
      rcases (by simpa using hb : b = s1.heap.objs.size + 1 ∨ b = s1.heap.objs.size) with z | z <;> omega
    exact I1.fpOk hle (I1.hok.fresh hle)
  rcases q with ⟨hq, q⟩ | ⟨hq, q⟩
  · obtain ⟨its, rv, p', hz⟩ := I1.list hq
    refine call_enumerate_list p'.isList fun h' he hit hsz hk => wpAny_pyIter_enum he ?_
    exact ⟨s1.heap.objs.size + 1, _, _, _, H1, rfl, I1.kept (t' := s1.toks) hk, turn_enum a (s1.heap.objs.size + 1) s1.heap.objs.size, ⟨⟨.none, he⟩, hit, Nat.succ_ne_self _⟩, fp, q⟩
  · obtain ⟨its, rv, p', hz⟩ := I1.tuple hq
    refine call_enumT p' fun h' he hit hsz hk => wpAny_pyIter_enum he ?_
    exact ⟨s1.heap.objs.size + 1, _, _, _, H1, rfl, I1.kept (t' := s1.toks) hk, turn_enumT a (s1.heap.objs.size + 1) s1.heap.objs.size, ⟨⟨.none, he⟩, hit, Nat.succ_ne_self _⟩, fp, q⟩
/-- the loop over them, by an invariant -/
theorem for_enumA {K : PySem.W.Frag} {xs : List V} {g : TG} {tb : TS} {D : Ends} {σ : L2.St} {H : Hp} {a : Addr} (hA : RowA H a xs) (Pv : Nat → L2.St → Hp → Prop) (h0 : Pv 0 σ H) (hl : ∀ i σ H', i ≤ xs.length → Pv i σ H' → Same H H')
    (hs : ∀ i x T σ H, xs[i]? = some x → Pv i σ H → H T = none → g (.ref T) σ (upd H T (.tup [.int (i : Nat), x])) fun σ2 H2 => tb { D with nx := Pv (i + 1), ct := Pv (i + 1), bk := D.nx } σ2 H2) (hd : ∀ σ H, Pv xs.length σ H → D.nx σ H) :
    ∃ a' xs, ([.ref a] : List V) = [.ref a'] ∧ ((SqL K H a' xs ∧ ∃ W : Nat → Nat → L2.St → Hp → Prop, (∃ m, W 0 m σ H) ∧ ∀ i m σ H, W i m σ H →
        ((Ite K a').stop i H ∧ D.nx σ H) ∨ ((Ite K a').go i H ∧ ∃ N : L2.St → Hp → Prop, (∀ σ' H', N σ' H' → ∃ m', m' < m ∧ W (i + 1) m' σ' H') ∧ ∀ x H', (Ite K a').yld i H x H' → g x σ H' fun σ2 H2 => tb { D with nx := N, ct := N, bk := D.nx } σ2 H2)) ∨
      (SqT K H a' xs ∧ ∃ W : Nat → Nat → L2.St → Hp → Prop, (∃ m, W 0 m σ H) ∧ ∀ i m σ H, W i m σ H →
        ((IteT K a').stop i H ∧ D.nx σ H) ∨ ((IteT K a').go i H ∧ ∃ N : L2.St → Hp → Prop, (∀ σ' H', N σ' H' → ∃ m', m' < m ∧ W (i + 1) m' σ' H') ∧ ∀ x H', (IteT K a').yld i H x H' → g x σ H' fun σ2 H2 => tb { D with nx := N, ct := N, bk := D.nx } σ2 H2))) := by
  refine ⟨a, xs, rfl, ?_⟩
  rcases hA with hA | hA
  · refine .inl ⟨SqL.of hA, fun i m σ H' => m = xs.length - i ∧ i ≤ xs.length ∧ Pv i σ H', ⟨xs.length, by simp, Nat.zero_le _, h0⟩, ?_⟩
    rintro i m σ H' ⟨rfl, hi, p⟩
    have st := hl i σ H' hi p
    have hS := SqL.of (K := K) (st _ _ hA)
    by_cases hlt : i < xs.length
    · refine .inr ⟨⟨xs, xs[i], hS, List.getElem?_eq_getElem hlt⟩, Pv (i + 1), fun σ' H2 p' => ⟨xs.length - (i + 1), by omega, rfl, hlt, p'⟩, fun x H2 y => ?_⟩
      obtain ⟨T, z, rfl, nT, rfl, hz⟩ := y
      exact hs i z T σ H' (hz xs hS) p nT
    · have e : i = xs.length := by omega
      subst e
      exact .inl ⟨⟨xs, hS, Nat.le_refl _⟩, hd σ H' p⟩
  · refine .inr ⟨SqT.of hA, fun i m σ H' => m = xs.length - i ∧ i ≤ xs.length ∧ Pv i σ H', ⟨xs.length, by simp, Nat.zero_le _, h0⟩, ?_⟩
    rintro i m σ H' ⟨rfl, hi, p⟩
    have st := hl i σ H' hi p
    have hS := SqT.of (K := K) (st _ _ hA)
    by_cases hlt : i < xs.length
    · refine .inr ⟨⟨xs, xs[i], hS, List.getElem?_eq_getElem hlt⟩, Pv (i + 1), fun σ' H2 p' => ⟨xs.length - (i + 1), by omega, rfl, hlt, p'⟩, fun x H2 y => ?_⟩
      obtain ⟨T, z, rfl, nT, rfl, hz⟩ := y
      exact hs i z T σ H' (hz xs hS) p nT
    · have e : i = xs.length := by omega
      subst e
      exact .inl ⟨⟨xs, hS, rfl⟩, hd σ H' p⟩
end Yj
set_option Elab.async false
set_option linter.all false
set_option maxRecDepth 100000
set_option maxHeartbeats 4000000
set_option pp.maxSteps 1500
namespace Yj
open PySem PySem.Spec PyProof.Rows L2 RZ
/-! ### a def that may raise, where nothing is handled -/
theorem Fun.okN {P : Program} {w : World} {K : PySem.W.Frag} {mg : Str → Option Value} {base : Heap} {x qual : Str} {st : Stmt} {f : Addr} {fd : FuncData} {N ps : List Str} {k : Nat} {sp : Sp} (F : Fun K x qual st f fd) (S : FnScope N ps (defScope st)) (len : ∀ vs H Q E, sp vs H Q E → vs.length = ps.length)
    (hbody : ∀ (cdv : Value) (A : Around) (outer : List Env) (s : Shared) (H : Hp) (vs : List V) (Q : VK) (E : XK), Room k (A.deeper (envOfC qual (defScope st) s.heap.objs.size f cdv)) → sp vs H Q E →
      ∃ t, PSs (cxOf (L2N.CX P w) P w K mg base N qual (defScope st) f cdv A outer s H E) (defBody st) t ∧ t { nx := fun _ H' => Q .non H', rt := Q } (start N vs) H) : FnOk P w K mg base (L2N.CX P w) (k + 1) f fd ps sp := by
  obtain ⟨oc, od, kV, doc, pm, an, cdv, ct, osl, rfl, lk, hcd⟩ := F.ex
  exact fn_of lk hcd S len fun A outer s H vs Q E hr hsp => by
    exact hbody cdv A outer s H vs Q E hr hsp
theorem Pl.mono {H H' : Hp} {x : V} (s : Same H H') (h : Pl H x) : Pl H' x := by
  cases h with
  | non => exact .non
  | bl b => exact .bl b
  | int i => exact .int i
  | str x => exact .str x
  | lst h => exact .lst (s _ _ h)
  | tup h => exact .tup (s _ _ h)
theorem SpanV.mono {H H' : Hp} {x : V} {k : Bool} (s : Same H H') (h : SpanV H x k) : SpanV H' x k := by
  rcases h with ⟨h1, h2, h3⟩ | ⟨a, xs, h1, h2, h3⟩
  · refine .inl ⟨h1.mono s, h2, fun a e => ?_⟩
    obtain ⟨xs, h⟩ := h3 a e
    exact ⟨xs, s _ _ h⟩
  · refine .inr ⟨a, xs, h1, s _ _ h2, ?_⟩
    rcases h3 with h3 | ⟨u, v, e1, e2, e3, e4⟩
    · exact .inl h3
    · exact .inr ⟨u, v, e1, e2.mono s, e3.mono s, e4⟩
theorem spanV_of {H : Hp} {v : V} {p : Int × Int} (h : Pr H v p) (k : 0 ≤ p.1 ∧ p.1 ≤ p.2 ∧ p.2 ≤ 999999) : SpanV H v true := by
  obtain ⟨t, rfl, h⟩ := h
  refine .inr ⟨t, _, rfl, h, .inr ⟨_, _, rfl, .int _, .int _, ?_⟩⟩
  have e1 : isD (.int p.1) = true := decide_eq_true ⟨k.1, by omega⟩
  have e2 : isD (.int p.2) = true := decide_eq_true ⟨by omega, k.2.2⟩
  have e3 : decide (p.1 ≤ p.2) = true := decide_eq_true k.2.1
  show true = (isD (.int p.1) && isD (.int p.2) && decide (p.1 ≤ p.2))
  rw [e1, e2, e3]
  rfl
theorem RowA.mono {H H' : Hp} {a : Addr} {us : List V} (s : Same H H') (h : RowA H a us) : RowA H' a us := by
  rcases h with h | h
  · exact .inl (s _ _ h)
  · exact .inr (s _ _ h)
end Yj
set_option Elab.async false
set_option linter.all false
set_option maxRecDepth 100000
set_option maxHeartbeats 4000000
set_option pp.maxSteps 1500
namespace Yj
open PySem PySem.Spec PyProof.Rows L2 RZ
def FNorm (l r : Sps) : Prop := Row r ∧ (∀ d, Mem r d ↔ Mem l d) ∧ r.length ≤ l.length
def spNormal (C : Addr) : Sp := fun vs H Q E => ∃ a us l, vs = [.ref a] ∧ RowA H a us ∧ us.length ≤ 1000000 ∧ Val l ∧
  ((Prs H us l ∧ ∀ r, FNorm l r → BackT H Q r) ∨
   (∃ pre x post, us = pre ++ x :: post ∧ Prs H pre l ∧ SpanV H x false ∧ ∀ d H', Same H H' → H d = none → H' d = some (.xd [(("number" : Str), .int (l.length : Nat))]) → E (.ref C) (some d) H'))
section
variable {P : Program} {w : World} {K : PySem.W.Frag} {mg : Str → Option Value} {base : Heap} {ad : Nat → Addr} {fds : Nat → FuncData} {cs : Nat → Value}
theorem ok_normal (T : Txt K mg ad fds cs) : FnOk P w K mg base (L2N.CX P w) 4 (ad 13) (fds 13) ["spans"] (spNormal (ad 3999)) := by
  refine Fun.okN T.F_normal sc_normal (fun vs H Q E h => ?_) (fun cdv A outer s H vs Q E hr h => ?_)
  · obtain ⟨a, us, l, rfl, _⟩ := h
    rfl
  obtain ⟨a, us, l, rfl, hA, hz, hv, h⟩ := h
  refine ⟨_, (pss_cons (ps_for PassesOwn.leaving rfl (pi_enumA (by rfl) T.z_enumerate (pa_cons (pv 0) pa_nil)) (pg_tup rfl (pgs_cons (pg_name (i := 1) sc_normal.nd rfl (by first | exact .inl rfl | exact .inr rfl)) (pgs_cons (pg_name (i := 2) sc_normal.nd rfl (by first | exact .inl rfl | exact .inr rfl)) pgs_nil)))
      (pss_one (ps_if (pt_not (pt_val (pe_call (ok_is_span T) (hr.mono (by decide)) rfl T.g_is_span T.F_is_span.kp (bi_is_span T) .nil pass0 (pa_cons (pv 2) pa_nil)))) (pss_one (ps_raise_BadSpans rfl T.x_BadSpans (hr.mono (Nat.zero_le _)) (L2N.takes_of rfl rfl rfl rfl) (by exact (pa_cons (pv 1) pa_nil)))) pss_nil)))
      (pss_one (ps_ret (pe_call (ok__melted T) (hr.mono (by decide)) rfl T.g__melted T.F__melted.kp (bi__melted T) .nil pass0 (pa_cons (pe_callB cr_sortedPA (by rfl) T.z_sorted (by decide +kernel) (pa_cons (pv 0) pa_nil)) pa_nil))))), ?_⟩
  rcases h with ⟨hp, q⟩ | ⟨pre, x, post, rfl, hp, hx, q⟩
  · refine ⟨_, rfl, for_enumA (K := K) hA (fun i σ H1 => ∃ (y1 y2 : Option V), σ = [some (.ref a), y1, y2] ∧ Same H H1) ⟨none, none, rfl, Same.refl _⟩ (fun i σ H1 _ ⟨_, _, _, s⟩ => s) ?_ ?_⟩
    · rintro i x T' σ H1 hi ⟨y1, y2, rfl, s1⟩ nT
      have s2 := s1.trans (same_upd (o := .tup [.int (i : Nat), x]) nT)
      obtain ⟨p, hp1, hpr⟩ := hp.get hi
      refine ⟨T', _, rfl, SqT.of upd_same, rfl, _, _, rfl, _, _, rfl, rfl, ?_⟩
      refine ⟨_, rfl, x, true, rfl, spanV_of (hpr.mono s2) (hv.all p (List.mem_of_getElem? hp1)), _, rfl, iteF ?_⟩
      exact ⟨_, _, rfl, s2⟩
    · rintro σ H1 ⟨y1, y2, rfl, s1⟩
      refine ⟨_, rfl, a, us, twoOf H1, rfl, hA.mono s1, fun x hx => (hp.mono s1).each x hx, fun ys t hs ht nt => ?_⟩
      obtain ⟨l', h1, h2, h3, h4⟩ := sorted_prs (hp.mono s1) hv hs ht
      have s2 := same_upd (o := .lst ys) nt
      obtain ⟨m1, m2, m3⟩ := melt_row h3 h4
      have hlen := h2.length_eq
      have hl := hp.len
      refine ⟨t, ys, l', rfl, upd_same, h1.mono s2, by omega, fun H' p vs' s3 np hp' hr' => ?_⟩
      exact q _ ⟨m1, fun d => by rw [m2 d, mem_perm h2 d], by omega⟩ H' p vs' ((s1.trans s2).trans s3) ((s1.trans s2).free np) hp' hr'
  · have hl := hp.len
    refine ⟨_, rfl, for_enumA (K := K) hA (fun i σ H1 => ∃ (y1 y2 : Option V), σ = [some (.ref a), y1, y2] ∧ Same H H1 ∧ i ≤ pre.length) ⟨none, none, rfl, Same.refl _, Nat.zero_le _⟩ (fun i σ H1 _ ⟨_, _, _, s, _⟩ => s) ?_ ?_⟩
    · rintro i y T' σ H1 hi ⟨y1, y2, rfl, s1, hip⟩ nT
      have s2 := s1.trans (same_upd (o := .tup [.int (i : Nat), y]) nT)
      refine ⟨T', _, rfl, SqT.of upd_same, rfl, _, _, rfl, _, _, rfl, rfl, ?_⟩
      by_cases c : i < pre.length
      · rw [List.getElem?_append_left c] at hi
        obtain ⟨p, hp1, hpr⟩ := hp.get hi
        refine ⟨_, rfl, y, true, rfl, spanV_of (hpr.mono s2) (hv.all p (List.mem_of_getElem? hp1)), _, rfl, iteF ?_⟩
        exact ⟨_, _, rfl, s2, c⟩
      · have ei : i = pre.length := by omega
        subst ei
        rw [List.getElem?_append_right (Nat.le_refl _), Nat.sub_self] at hi
        have ex : x = y := Option.some.inj hi
        subst ex
        refine ⟨_, rfl, x, false, rfl, hx.mono s2, _, rfl, iteT ?_⟩
        refine ⟨_, rfl, _, rfl, fun d nd => ?_⟩
        refine q d _ (s2.trans (same_upd nd)) (s2.free nd) ?_
        rw [hl]
        exact upd_same
    · rintro σ H1 ⟨y1, y2, rfl, s1, hip⟩
      rw [List.length_append] at hip
      simp only [List.length_cons] at hip
      omega
end
end Yj
set_option Elab.async false
set_option linter.all false
set_option maxRecDepth 100000
set_option maxHeartbeats 4000000
set_option pp.maxSteps 1500
namespace Yj
open PySem PySem.Spec PyProof.Rows L2 RZ
/-! ### is_name -/
def lowS : Str := "abcdefghijklmnopqrstuvwxyz"
def figS : Str := "0123456789"
def nmc (c : Nat) : Bool := decide (c ∈ lowS.cps.toList) || decide (c ∈ figS.cps.toList)
def isN : V → Bool
  | .str z => decide (1 ≤ (z.length : Int) ∧ (z.length : Int) ≤ 8) && (match z.cps.toList with | c :: _ => decide (c ∈ lowS.cps.toList) | [] => false) && z.cps.toList.all nmc
  | _ => false
def spName : Sp := fun vs H Q _ => ∃ x, vs = [x] ∧ Pl H x ∧ (∀ z, x = .str z → z.length ≤ 1000000) ∧ ∀ H', Same H H' → Q (.bl (isN x)) H'
section
variable {P : Program} {w : World} {K : PySem.W.Frag} {mg : Str → Option Value} {base : Heap} {ad : Nat → Addr} {fds : Nat → FuncData} {cs : Nat → Value}
theorem ok_is_name (T : Txt K mg ad fds cs) : FnOk P w K mg base CX0 1 (ad 9) (fds 9) ["thing"] spName := by
  refine T.F_is_name.ok sc_is_name (fun vs H Q E h => ?_) (fun cdv A outer s H vs Q E hr h => ?_)
  · obtain ⟨x, rfl, _⟩ := h
    rfl
  obtain ⟨x, rfl, hx, hz, q0⟩ := h
  have q := q0 H (Same.refl H)
  refine ⟨_, (pss_cons (ps_if (PW.pt (pw_or (pt_not (pt_val (pe_callB call_isi (by rfl) T.z_isinstance (by decide +kernel) (pa_cons (pv 0) (pa_cons (pe_bltn (v := .ty "str") (u := .type "str") (by rfl) T.z_str (by decide +kernel) rfl) pa_nil))))) (pw_or1 (pt_not (pt_chain op_le op_le pe_int (pe_callB call_len_str (by rfl) T.z_len (by decide +kernel) (pa_cons (pv 0) pa_nil)) (pe_glob rfl T.c_LONGEST_NAME T.r_LONGEST_NAME)))))) (pss_one (ps_ret pe_bl)) pss_nil)
      (pss_cons (ps_if (pt_cmpR op_notIn_sign (pe_ix ix_seq (pv 0) pe_int (fun _ _ => rfl)) (pe_glob rfl T.c_LETTERS T.r_LETTERS) (by rfl)) (pss_one (ps_ret pe_bl)) pss_nil)
      (pss_one (ps_ret (pe_callB (cr_all rfl) (by rfl) T.z_all (by decide +kernel) (pa_cons (pe_lc (own := [("sign", 1)]) rfl sc_is_name.nd (pi_str (pv 0)) (blkOk_by (N := N_is_name) (sc := defScope s_is_name) (own := [("sign", 1)]) (by decide +kernel)) (fun _ _ _ _ _ => by exact (pg_name (i := 1) sc_is_name.nd rfl (.inl rfl))) (fun _ _ _ _ _ => by exact pts_nil) (fun _ _ _ _ _ => by exact (pe_or (pe_cmpR op_in_sign (pv 1) (pe_glob rfl T.c_LETTERS T.r_LETTERS) (by rfl)) (pe_one (pe_cmpR op_in_sign (pv 1) (pe_glob rfl T.c_FIGURES T.r_FIGURES) (by rfl)))))) pa_nil)))))), ?_⟩
  cases hx with
  | non => exact ⟨_, rfl, _, _, _, _, false, rfl, ClsV.ty _, TyX.base .non, kit_ty (by decide +kernel), _, rfl, iteT (iteT q)⟩
  | bl b => exact ⟨_, rfl, _, _, _, _, false, rfl, ClsV.ty _, TyX.base (.bl b), kit_ty (by decide +kernel), _, rfl, iteT (iteT q)⟩
  | int i => exact ⟨_, rfl, _, _, _, _, false, rfl, ClsV.ty _, TyX.base (.int i), kit_ty (by decide +kernel), _, rfl, iteT (iteT q)⟩
  | lst h => exact ⟨_, rfl, _, _, _, _, false, rfl, ClsV.ty _, TyX.base (.lst h), kit_ty (by decide +kernel), _, rfl, iteT (iteT q)⟩
  | tup h => exact ⟨_, rfl, _, _, _, _, false, rfl, ClsV.ty _, TyX.base (.tup h), kit_ty (by decide +kernel), _, rfl, iteT (iteT q)⟩
  | str z =>
    have hlen : z.length ≤ sizeLine := ofNat_le (hz z rfl)
    refine ⟨_, rfl, _, _, _, _, true, rfl, ClsV.ty _, TyX.base (.str z), kit_ty (by decide +kernel), _, rfl, iteF ?_⟩
    refine ⟨_, rfl, z, rfl, hlen, 1, (z.length : Int), rfl, rfl, _, rfl, ?_⟩
    by_cases c1 : 1 ≤ (z.length : Int)
    · refine ifT c1 ⟨_, 8, rfl, rfl, _, rfl, ?_⟩
      by_cases c2 : (z.length : Int) ≤ 8
      · have e1 : decide (1 ≤ (z.length : Int) ∧ (z.length : Int) ≤ 8) = true := decide_eq_true ⟨c1, c2⟩
        rw [decide_eq_true c2]
        refine iteF ?_
        obtain ⟨c, r, ez⟩ : ∃ c r, z.cps.toList = c :: r := by
          cases e : z.cps.toList with
          | nil =>
            have : z.length = 0 := by
              show z.cps.size = 0
              rw [← Array.length_toList, e]
              rfl
            omega
          | cons c r => exact ⟨c, r, rfl⟩
        refine ⟨_, rfl, .inr (.inr ⟨z, 0, c, rfl, rfl, hlen, by rw [ez]; exact atI_nat (j := 0) rfl, c, lowS, rfl, rfl, _, rfl, ?_⟩)⟩
        by_cases c3 : c ∈ lowS.cps.toList
        · rw [decide_eq_true c3]
          refine iteF ?_
          refine ⟨_, rfl, z, rfl, fun D nD => ?_⟩
          have s1 := same_upd (o := .lst []) nD
          refine L2.lc_it walk_str (fun i H1 => Same H H1 ∧ H1 D = some (.lst (((z.cps.toList.take i).map nmc).map V.bl))) ⟨s1, by rw [upd_same]; rfl⟩ (fun _ _ _ _ => True.intro) ?_ ?_
          · rintro i x H1 H2 hi ⟨s2, hD⟩ ⟨rfl, d, hd, rfl⟩
            have hd' : z.cps.toList[i]? = some d := by simpa using hd
            have hacc : (((z.cps.toList.take i).map nmc).map V.bl).length < sizeLine := ofNat_lt (by
              rw [List.length_map, List.length_map, List.length_take]
              have : z.cps.toList.length = z.length := by simp; rfl
              have := hz z rfl
              omega)
            have fin : ∀ b : Bool, b = nmc d → ∃ acc, H2 D = some (.lst acc) ∧ acc.length < sizeLine ∧ Same H (upd H2 D (.lst (acc ++ [.bl b]))) ∧ upd H2 D (.lst (acc ++ [.bl b])) D = some (.lst (((z.cps.toList.take (i + 1)).map nmc).map V.bl)) := fun b eb => by
              refine ⟨_, hD, hacc, same_at s2 nD, ?_⟩
              rw [upd_same, List.take_add_one, hd', List.map_append, List.map_append, eb]
              rfl
            refine ⟨rfl, ?_⟩
            refine ⟨_, rfl, d, lowS, rfl, rfl, _, rfl, ?_⟩
            by_cases c4 : d ∈ lowS.cps.toList
            · rw [decide_eq_true c4]
              refine iteT (fin true ?_)
              unfold nmc
              rw [decide_eq_true c4]
              rfl
            · rw [decide_eq_false c4]
              refine iteF ⟨_, rfl, d, figS, rfl, rfl, ?_⟩
              refine fin _ ?_
              unfold nmc
              rw [decide_eq_false c4]
              rfl
          · rintro H1 ⟨s2, hD⟩
            have e2 : z.cps.toList.take z.cps.size = z.cps.toList := List.take_of_length_le (by simp)
            rw [e2] at hD
            refine ⟨D, _, rfl, SqL.of hD, ?_⟩
            have q2 := q0 H1 s2
            have e3 : isN (.str z) = (z.cps.toList.map nmc).all id := by
              unfold isN
              dsimp only
              rw [e1]
              have e4 : (match z.cps.toList with | c :: _ => decide (c ∈ lowS.cps.toList) | [] => false) = true := by
                rw [ez]
                exact decide_eq_true c3
              rw [e4, List.all_map]
              rfl
            rw [e3] at q2
            exact q2
        · rw [decide_eq_false c3]
          refine iteT ?_
          have e3 : isN (.str z) = false := by
            unfold isN
            dsimp only
            have e4 : (match z.cps.toList with | c :: _ => decide (c ∈ lowS.cps.toList) | [] => false) = false := by
              rw [ez]
              exact decide_eq_false c3
            rw [e4, Bool.and_false, Bool.false_and]
          rw [e3] at q
          exact q
      · rw [decide_eq_false c2]
        have e3 : isN (.str z) = false := by
          unfold isN
          dsimp only
          rw [decide_eq_false (show ¬ (1 ≤ (z.length : Int) ∧ (z.length : Int) ≤ 8) from fun h => c2 h.2)]
          rfl
        rw [e3] at q
        exact iteT q
    · refine ifF c1 ?_
      have e3 : isN (.str z) = false := by
        unfold isN
        dsimp only
        rw [decide_eq_false (show ¬ (1 ≤ (z.length : Int) ∧ (z.length : Int) ≤ 8) from fun h => c1 h.1)]
        rfl
      rw [e3] at q
      exact ⟨_, rfl, iteT q⟩
end
end Yj
set_option Elab.async false
set_option linter.all false
set_option maxRecDepth 100000
set_option maxHeartbeats 4000000
set_option pp.maxSteps 1500
namespace Yj
open PySem PySem.Spec PyProof.Rows L2 RZ
/-! ### the law's draws -/
theorem ints_lay : ∀ ns : List Int, PyData.canLayAll0 (ns.map PyData.int) = true ∧ PyData.depthAll (ns.map PyData.int) = 0
  | [] => ⟨rfl, rfl⟩
  | n :: r => by
    obtain ⟨h1, h2⟩ := ints_lay r
    refine ⟨?_, ?_⟩
    · show (true && PyData.canLayAll0 (r.map PyData.int)) = true
      rw [h1]
      rfl
    · show max 0 (PyData.depthAll (r.map PyData.int)) = 0
      rw [h2]
      rfl
theorem ints_shaped (ns : List Int) : SeqAt.shaped (.list (ns.map PyData.int)) = true := (shaped_of (n := 0) (ints_lay ns).1 (Nat.le_of_eq (ints_lay ns).2) (by decide)).2
theorem ints_dp {K : PySem.W.Frag} {H : Hp} : ∀ ns : List Int, DpAll K H (ns.map V.int) (ns.map PyData.int)
  | [] => .nil
  | n :: r => .cons (.int n) (ints_dp r)
/-- all but what is at d is as it was -/
def Keep (d : Addr) (H H' : Hp) : Prop := ∀ b o, b ≠ d → H b = some o → H' b = some o
theorem Keep.trans {d : Addr} {H H1 H2 : Hp} (a : Keep d H H1) (b : Keep d H1 H2) : Keep d H H2 := fun c o n h => b c o n (a c o n h)
theorem keepOf {d : Addr} {H H' : Hp} (s : Same H H') : Keep d H H' := fun b o _ h => s b o h
theorem Keep.refl (d : Addr) (H : Hp) : Keep d H H := fun _ _ _ h => h
/-- the draw at d over the script at a -/
def Draw (K : PySem.W.Frag) (H : Hp) (d a : Addr) (ns : List Int) : Prop := (∃ c, H d = some (.lst [.ref a, .int c])) ∧ SqL K H a (ns.map V.int) ∧ ns.length ≤ 63
theorem Draw.script {K : PySem.W.Frag} {H H' : Hp} {d a : Addr} {ns : List Int} (h : Draw K H d a ns) (k : Keep d H H') : SqL K H' a (ns.map V.int) := by
  obtain ⟨⟨c, hd⟩, hs, _⟩ := h
  rcases hs with (h | ⟨o, h⟩) | h
  · by_cases e : a = d
    · rw [e, hd] at h
      exfalso
      have z := HO.lst.inj (Option.some.inj h)
      cases ns with
      | nil => cases z
      | cons n r => exact nomatch (List.cons.inj z).1
    · exact .inl (.inl (k _ _ e h))
  · by_cases e : a = d
    · rw [e, hd] at h
      cases h
    · exact .inl (.inr ⟨o, k _ _ e h⟩)
  · exact .inr h
theorem Draw.keep {K : PySem.W.Frag} {H H' : Hp} {d a : Addr} {ns : List Int} {c : Int} (h : Draw K H d a ns) (k : Keep d H H') (e : H' d = some (.lst [.ref a, .int c])) : Draw K H' d a ns := ⟨⟨c, e⟩, h.script k, h.2.2⟩
theorem Draw.same {K : PySem.W.Frag} {H H' : Hp} {d a : Addr} {ns : List Int} (h : Draw K H d a ns) (s : Same H H') : Draw K H' d a ns := by
  obtain ⟨c, e⟩ := h.1
  exact h.keep (keepOf s) (s _ _ e)
theorem Pr.keep {H H' : Hp} {d : Addr} {v : V} {p : Int × Int} {ys : List V} (hd : H d = some (.lst ys)) (k : Keep d H H') (h : Pr H v p) : Pr H' v p := by
  obtain ⟨t, e, h⟩ := h
  refine ⟨t, e, k _ _ (fun z => ?_) h⟩
  rw [z, hd] at h
  cases h
theorem Prs.keep {H H' : Hp} {d : Addr} {ys : List V} (hd : H d = some (.lst ys)) (k : Keep d H H') : ∀ {vs : List V} {l : Sps}, Prs H vs l → Prs H' vs l
  | _, _, .nil => .nil
  | _, _, .cons h t => .cons (h.keep hd k) (t.keep hd k)
/-- behind a draw -/
def Drawn' (K : PySem.W.Frag) (H H' : Hp) (d a : Addr) (ns : List Int) : Prop := Draw K H' d a ns ∧ Keep d H H'
theorem fmod_at {ns : List Int} (c : Int) (h : ns ≠ []) : ∃ n : Int, ∃ k : Nat, c.fmod ((ns.map V.int).length : Nat) = (k : Int) ∧ ns[k]? = some n := by
  have h0 : 0 < ns.length := List.length_pos_iff.mpr h
  have e0 : c.fmod ((ns.length : Nat) : Int) = c % ((ns.length : Nat) : Int) := Int.fmod_eq_emod_of_nonneg _ (by omega)
  have h1 : 0 ≤ c % ((ns.length : Nat) : Int) := Int.emod_nonneg _ (by omega)
  have h2 : c % ((ns.length : Nat) : Int) < (ns.length : Nat) := Int.emod_lt_of_pos _ (by omega)
  refine ⟨ns[(c % ((ns.length : Nat) : Int)).toNat]'(by omega), (c % ((ns.length : Nat) : Int)).toNat, ?_, List.getElem?_eq_getElem _⟩
  rw [List.length_map, e0]
  omega
theorem nzA : (2147483647 : Int) ≠ 0 := by decide
theorem nzB : (2147483629 : Int) ≠ 0 := by decide
theorem nzC : (2147483587 : Int) ≠ 0 := by decide
theorem nzE : (10 : Int) ^ (18 : Int).toNat ≠ 0 := by decide
end Yj
set_option Elab.async false
set_option linter.all false
set_option maxRecDepth 100000
set_option maxHeartbeats 4000000
set_option pp.maxSteps 1500
namespace Yj
open PySem PySem.Spec PyProof.Rows L2 RZ
section
variable {P : Program} {w : World} {K : PySem.W.Frag} {mg : Str → Option Value} {base : Heap} {ad : Nat → Addr} {fds : Nat → FuncData} {cs : Nat → Value}
def spNumber (K : PySem.W.Frag) : Sp := fun vs H Q _ => ∃ (a : Addr) (ns : List Int) (c : Int), vs = [.ref a, .int c] ∧ SqL K H a (ns.map V.int) ∧ ns.length ≤ 63 ∧ ∀ n H', Same H H' → Q (.int n) H'
theorem ok__law_number (T : Txt K mg ad fds cs) : FnOk P w K mg base CX0 1 (ad 26) (fds 26) ["script", "index"] (spNumber K) := by
  refine T.F__law_number.ok sc__law_number (fun vs H Q E h => ?_) (fun cdv A outer s H vs Q E hr h => ?_)
  · obtain ⟨a, ns, c, rfl, _⟩ := h
    rfl
  obtain ⟨a, ns, c, rfl, hS, hz, q⟩ := h
  refine ⟨_, (pss_cons (ps_if (pt_cmpR (op_eqD hr.units) (pv 0) (pe_lst pa_nil) (nomark _)) (pss_one (ps_ret (pe_callTy call_int1 (by rfl) T.z_int (by decide +kernel) (pa_cons (pe_op op_modN (pe_op op_add (pe_op op_mul (pv 1) pe_int) pe_int) pe_int) pa_nil)))) pss_nil)
      (pss_cons (ps_set (i := 2) sc__law_number.nd rfl (by first | exact .inl rfl | exact .inr rfl) (pe_ix ix_seq (pv 0) (pe_op op_modN (pv 1) (pe_callB call_len_seq (by rfl) T.z_len (by decide +kernel) (pa_cons (pv 0) pa_nil))) (fun _ _ => rfl)))
      (pss_cons (ps_if (pt_cmpR op_ge (pe_callB call_abs (by rfl) T.z_abs (by decide +kernel) (pa_cons (pv 2) pa_nil)) (pe_op op_pow pe_int pe_int) (nomark _)) (pss_one (ps_set (i := 2) sc__law_number.nd rfl (by first | exact .inl rfl | exact .inr rfl) (pe_op op_modN (pv 2) (pe_op op_pow pe_int pe_int)))) pss_nil)
      (pss_cons (ps_set (i := 3) sc__law_number.nd rfl (by first | exact .inl rfl | exact .inr rfl) (pe_op op_modN (pe_op op_add (pe_op op_mul (pe_op op_add (pv 2) (pe_op op_mul pe_int (pv 1))) pe_int) (pe_op op_mul pe_int (pe_callB call_len_seq (by rfl) T.z_len (by decide +kernel) (pa_cons (pv 0) pa_nil)))) pe_int))
      (pss_one (ps_ret (pe_callTy call_int1 (by rfl) T.z_int (by decide +kernel) (pa_cons (pe_op op_modN (pe_op op_add (pe_op op_mul (pe_op op_modN (pe_op op_mul (pv 3) pe_int) pe_int) pe_int) (pv 1)) pe_int) pa_nil)))))))), ?_⟩
  refine ⟨_, rfl, Nat.zero_le _, fun u nu => ?_⟩
  have s1 := same_upd (o := .lst []) nu
  have hS1 := s1.seq hS
  refine ⟨.list (ns.map PyData.int), .list [], .lst hS1 (ints_dp ns), .lst (SqL.of upd_same) .nil, ints_shaped ns, ints_shaped [], _, rfl, ?_⟩
  by_cases e : ns = []
  · subst e
    refine iteT ?_
    exact ⟨_, rfl, _, _, rfl, rfl, .inr ⟨by decide, by decide⟩, _, _, rfl, rfl, _, _, rfl, rfl, nzA, .inl ⟨_, rfl, q _ _ s1⟩⟩
  · have e1 : PyData.eqv (.list (ns.map PyData.int)) (.list []) = false := by
      cases ns with
      | nil => exact absurd rfl e
      | cons n r => rfl
    rw [e1]
    refine iteF ?_
    obtain ⟨n, k, ek, hn⟩ := fmod_at c e
    have h0 : 0 < ns.length := List.length_pos_iff.mpr e
    refine ⟨_, rfl, _, rfl, _, rfl, a, _, rfl, .inl hS1, _, _, rfl, rfl, ?_, .inl ⟨a, _, _, .int n, rfl, rfl, hS1, ?_, ?_⟩⟩
    · rw [List.length_map]
      omega
    · show atI (ns.map V.int) (c.fmod ((ns.map V.int).length : Nat)) = _
      rw [ek]
      refine atI_nat ?_
      rw [List.getElem?_map, hn]
      rfl
    · -- what follows the test, whatever the cell is then
      refine ⟨_, rfl, n, rfl, 10, 60, rfl, rfl, ⟨by decide, by decide, by decide⟩, _, _, rfl, rfl, _, rfl, ?_⟩
      by_cases hc : (if n < 0 then -n else n) ≥ (10 : Int) ^ (60 : Int).toNat
      case' pos =>
        refine ifT hc ?_
        refine ⟨_, rfl, 10, 18, rfl, rfl, ⟨by decide, by decide, by decide⟩, _, _, rfl, rfl, nzE, ?_⟩
        generalize n.fmod ((10 : Int) ^ (18 : Int).toNat) = n
      case' neg => refine ifF hc ?_
      all_goals
        refine ⟨_, rfl, _, rfl, _, _, rfl, rfl, .inl ⟨by decide, by decide⟩, _, _, rfl, rfl, _, _, rfl, rfl, .inr ⟨by decide, by decide⟩, _, rfl, a, _, rfl, .inl hS1, _, _, rfl, rfl, .inl ⟨by decide, by decide⟩, _, _, rfl, rfl, _, _, rfl, rfl, nzA, ?_⟩
        exact ⟨_, rfl, _, _, rfl, rfl, .inr ⟨by decide, by decide⟩, _, _, rfl, rfl, nzB, _, _, rfl, rfl, .inr ⟨by decide, by decide⟩, _, rfl, _, _, rfl, rfl, _, _, rfl, rfl, nzC, .inl ⟨_, rfl, q _ _ s1⟩⟩
end
end Yj
set_option Elab.async false
set_option linter.all false
set_option maxRecDepth 100000
set_option maxHeartbeats 4000000
set_option pp.maxSteps 1500
namespace Yj
open PySem PySem.Spec PyProof.Rows L2 RZ
section
variable {P : Program} {w : World} {K : PySem.W.Frag} {mg : Str → Option Value} {base : Heap} {ad : Nat → Addr} {fds : Nat → FuncData} {cs : Nat → Value}
/-! ### _law_take, _law_pick, _law_day -/
def spTake (K : PySem.W.Frag) : Sp := fun vs H Q _ => ∃ (d a : Addr) (ns : List Int) (m : Int), vs = [.ref d, .int m] ∧ Draw K H d a ns ∧ 0 < m ∧ ∀ r H', 0 ≤ r → r < m → Drawn' K H H' d a ns → Q (.int r) H'
theorem ok__law_take (T : Txt K mg ad fds cs) : FnOk P w K mg base CX0 2 (ad 27) (fds 27) ["draw", "many"] (spTake K) := by
  refine T.F__law_take.ok sc__law_take (fun vs H Q E h => ?_) (fun cdv A outer s H vs Q E hr h => ?_)
  · obtain ⟨d, a, ns, m, rfl, _⟩ := h
    rfl
  obtain ⟨d, a, ns, m, rfl, hD, hm, q⟩ := h
  refine ⟨_, (pss_cons (ps_augS (pv 0) pe_int pget_list pe_int ip_add set_list)
      (pss_one (ps_ret (pe_op op_modN (pe_callTy call_int1 (by rfl) T.z_int (by decide +kernel) (pa_cons (pe_call (ok__law_number T) (hr.mono (by decide)) rfl T.g__law_number T.F__law_number.kp (bi__law_number T) .nil pass0 (pa_cons (pe_ix ix_seq (pv 0) pe_int (fun _ _ => rfl)) (pa_cons (pe_callTy call_int1 (by rfl) T.z_int (by decide +kernel) (pa_cons (pe_ix ix_seq (pv 0) pe_int (fun _ _ => rfl)) pa_nil)) pa_nil))) pa_nil)) (pv 1))))), ?_⟩
  obtain ⟨c, hd⟩ := hD.1
  have k1 : Keep d H (upd H d (.lst [.ref a, .int (c + 1)])) := fun b o n e => (upd_ne n).trans e
  have hD1 : Draw K (upd H d (.lst [.ref a, .int (c + 1)])) d a ns := hD.keep k1 upd_same
  refine ⟨_, rfl, d, _, 1, .int c, rfl, rfl, SqL.of hd, rfl, c, 1, rfl, rfl, d, _, 1, 1, rfl, rfl, hd, rfl, ?_⟩
  show _
  refine ⟨_, rfl, .inl ⟨d, _, 0, .ref a, rfl, rfl, SqL.of upd_same, atI_nat (j := 0) rfl, ?_⟩⟩
  refine ⟨_, rfl, .inl ⟨d, _, 1, .int (c + 1), rfl, rfl, SqL.of upd_same, atI_nat (j := 1) rfl, .inl ⟨_, rfl, ?_⟩⟩⟩
  refine ⟨a, ns, c + 1, rfl, hD1.2.1, hD1.2.2, fun n H' s1 => .inl ⟨_, rfl, _, rfl, _, _, rfl, rfl, (by omega : m ≠ 0), ?_⟩⟩
  have e0 : n.fmod m = n % m := Int.fmod_eq_emod_of_nonneg _ (by omega)
  refine q _ H' ?_ ?_ ⟨hD1.same s1, k1.trans (keepOf s1)⟩
  · show 0 ≤ n.fmod m
    rw [e0]
    exact Int.emod_nonneg _ (by omega)
  · show n.fmod m < m
    rw [e0]
    exact Int.emod_lt_of_pos _ hm
end
end Yj
set_option Elab.async false
set_option linter.all false
set_option maxRecDepth 100000
set_option maxHeartbeats 4000000
set_option pp.maxSteps 1500
namespace Yj
open PySem PySem.Spec PyProof.Rows L2 RZ
section
variable {P : Program} {w : World} {K : PySem.W.Frag} {mg : Str → Option Value} {base : Heap} {ad : Nat → Addr} {fds : Nat → FuncData} {cs : Nat → Value}
def spPick (K : PySem.W.Frag) : Sp := fun vs H Q _ => ∃ (d a b : Addr) (ns : List Int) (xs : List V), vs = [.ref d, .ref b] ∧ Draw K H d a ns ∧ b ≠ d ∧ H b = some (.lst xs) ∧ xs ≠ [] ∧ ∀ x H', x ∈ xs → Drawn' K H H' d a ns → Q x H'
theorem ok__law_pick (T : Txt K mg ad fds cs) : FnOk P w K mg base CX0 3 (ad 28) (fds 28) ["draw", "items"] (spPick K) := by
  refine T.F__law_pick.ok sc__law_pick (fun vs H Q E h => ?_) (fun cdv A outer s H vs Q E hr h => ?_)
  · obtain ⟨d, a, b, ns, xs, rfl, _⟩ := h
    rfl
  obtain ⟨d, a, b, ns, xs, rfl, hD, hbd, hb, hx, q⟩ := h
  refine ⟨_, (pss_one (ps_ret (pe_ix ix_seq (pv 1) (pe_call (ok__law_take T) (hr.mono (by decide)) rfl T.g__law_take T.F__law_take.kp (bi__law_take T) .nil pass0 (pa_cons (pv 0) (pa_cons (pe_callB call_len_seq (by rfl) T.z_len (by decide +kernel) (pa_cons (pv 1) pa_nil)) pa_nil))) (fun _ _ => rfl)))), ?_⟩
  have h0 : 0 < xs.length := List.length_pos_iff.mpr hx
  refine ⟨_, rfl, _, rfl, _, rfl, b, xs, rfl, .inl (SqL.of hb), ?_⟩
  refine ⟨d, a, ns, _, rfl, hD, by omega, fun r H' r0 r1 z => ?_⟩
  obtain ⟨k, hk⟩ : ∃ k : Nat, r = (k : Int) := ⟨r.toNat, by omega⟩
  subst hk
  have hkl : k < xs.length := by omega
  exact .inl ⟨b, xs, _, _, rfl, rfl, SqL.of (z.2 _ _ hbd hb), atI_nat (List.getElem?_eq_getElem hkl), q _ _ (List.getElem_mem _) z⟩
end
end Yj
set_option Elab.async false
set_option linter.all false
set_option maxRecDepth 100000
set_option maxHeartbeats 4000000
set_option pp.maxSteps 1500
namespace Yj
open PySem PySem.Spec PyProof.Rows L2 RZ
section
variable {P : Program} {w : World} {K : PySem.W.Frag} {mg : Str → Option Value} {base : Heap} {ad : Nat → Addr} {fds : Nat → FuncData} {cs : Nat → Value}
def spDayOf (K : PySem.W.Frag) : Sp := fun vs H Q _ => ∃ (d a : Addr) (ns : List Int), vs = [.ref d] ∧ Draw K H d a ns ∧ ∀ r H', 0 ≤ r → r ≤ 999999 → Drawn' K H H' d a ns → Q (.int r) H'
theorem ok__law_day (T : Txt K mg ad fds cs) : FnOk P w K mg base CX0 3 (ad 30) (fds 30) ["draw"] (spDayOf K) := by
  refine T.F__law_day.ok sc__law_day (fun vs H Q E h => ?_) (fun cdv A outer s H vs Q E hr h => ?_)
  · obtain ⟨d, a, ns, rfl, _⟩ := h
    rfl
  obtain ⟨d, a, ns, rfl, hD, q⟩ := h
  refine ⟨_, (pss_one (ps_ret (pe_ifExp (pt_cmpR op_eq (pe_call (ok__law_take T) (hr.mono (by decide)) rfl T.g__law_take T.F__law_take.kp (bi__law_take T) .nil pass0 (pa_cons (pv 0) (pa_cons pe_int pa_nil))) pe_int (nomark _)) (pe_op op_sub pe_int (pe_call (ok__law_take T) (hr.mono (by decide)) rfl T.g__law_take T.F__law_take.kp (bi__law_take T) .nil pass0 (pa_cons (pv 0) (pa_cons pe_int pa_nil)))) (pe_call (ok__law_take T) (hr.mono (by decide)) rfl T.g__law_take T.F__law_take.kp (bi__law_take T) .nil pass0 (pa_cons (pv 0) (pa_cons pe_int pa_nil)))))), ?_⟩
  refine ⟨_, rfl, d, a, ns, 9, rfl, hD, by decide, fun r H1 r0 r1 z1 => ⟨rfl, _, rfl, ?_⟩⟩
  by_cases c : V.int r = V.int 0
  · refine ifT c ?_
    refine ⟨_, rfl, d, a, ns, 6, rfl, z1.1, by decide, fun r' H2 r0' r1' z2 => ⟨_, _, rfl, rfl, ?_⟩⟩
    exact q _ H2 (by omega) (by omega) ⟨z2.1, z1.2.trans z2.2⟩
  · refine ifF c ?_
    exact ⟨_, rfl, d, a, ns, 9, rfl, z1.1, by decide, fun r' H2 r0' r1' z2 => q _ H2 r0' (by omega) ⟨z2.1, z1.2.trans z2.2⟩⟩
end
end Yj
set_option Elab.async false
set_option linter.all false
set_option maxRecDepth 100000
set_option maxHeartbeats 4000000
set_option pp.maxSteps 1500
namespace Yj
open PySem PySem.Spec PyProof.Rows L2 RZ
theorem keep_at {d r : Addr} {H H' : Hp} {o : HO} (k : Keep d H H') (h : H r = none) : Keep d H (upd H' r o) := fun b x n e => by
  rw [upd_ne (ne_of_none e h)]
  exact k b x n e
theorem cut_one (xs : List V) : cutV xs (some 1) none = xs.drop 1 := by
  unfold cutV
  rw [show HT.sIx xs.length 0 (some 1) = min 1 xs.length from HT.sIx_nat xs.length 0 1, HT.sIx_none]
  cases xs with
  | nil => rfl
  | cons x r =>
    have e : min 1 (x :: r).length = 1 := by
      rw [List.length_cons]
      omega
    rw [e]
    show (r.take ((x :: r).length - 1)) = r
    rw [List.length_cons, Nat.add_sub_cancel, List.take_length]
theorem walk_zipT {K : PySem.W.Frag} {a b : Addr} {xs ys : List V} {n : Nat} (hn : n = min xs.length ys.length) : Walk (ItzT K a b) n (fun H => SqT K H a xs ∧ SqT K H b ys) (YPair (fun i => xs[i]?) (fun i => ys[i]?)) := by
  refine ⟨fun i H hi q => ⟨xs, ys, xs[i]'(by omega), ys[i]'(by omega), q.1, q.2, by simp [show i < xs.length by omega], by simp [show i < ys.length by omega]⟩, fun H q => ⟨xs, ys, q.1, q.2, by omega⟩, ?_⟩
  rintro i H x H' hi q ⟨T, u, v, rfl, nT, rfl, h1, h2⟩
  exact ⟨T, u, v, rfl, nT, rfl, h1 _ q.1, h2 _ q.2⟩
end Yj
set_option Elab.async false
set_option linter.all false
set_option maxRecDepth 100000
set_option maxHeartbeats 4000000
set_option pp.maxSteps 1500
namespace Yj
open PySem PySem.Spec PyProof.Rows L2 RZ
section
variable {P : Program} {w : World} {K : PySem.W.Frag} {mg : Str → Option Value} {base : Heap} {ad : Nat → Addr} {fds : Nat → FuncData} {cs : Nat → Value}
/-! ### _law_days -/
def daysL : List Int := (List.range 11).map (fun i : Nat => (i : Int)) ++ (List.range 9).map (fun i : Nat => 999991 + (i : Int))
def spDays : Sp := fun vs H Q _ => vs = [] ∧ ∀ r H', Same H H' → H r = none → H' r = some (.lst (daysL.map V.int)) → Q (.ref r) H'
theorem ok__law_days (T : Txt K mg ad fds cs) : FnOk P w K mg base CX0 1 (ad 34) (fds 34) [] spDays := by
  refine T.F__law_days.ok sc__law_days (fun vs H Q E h => ?_) (fun cdv A outer s H vs Q E hr h => ?_)
  · obtain ⟨rfl, _⟩ := h
    rfl
  obtain ⟨rfl, q⟩ := h
  refine ⟨_, (pss_one (ps_ret (pe_op op_cat (pe_listRg rfl (by rfl) T.z_list (prg_1 (by rfl) T.z_range pe_int)) (pe_listRg rfl (by rfl) T.z_list (prg_2 (by rfl) T.z_range pe_int pe_int))))), ?_⟩
  refine ⟨11, rfl, RgOk.of_le (by decide) (by decide) (by decide) (by decide), fun r1 n1 => ?_⟩
  have s1 := same_upd (o := .lst (rgV 0 11)) n1
  refine ⟨999991, 1000000, rfl, rfl, RgOk.of_le (by decide) (by decide) (by decide) (by decide), fun r2 n2 => ?_⟩
  have s2 := same_upd (o := .lst (rgV 999991 1000000)) n2
  refine ⟨r1, r2, _, _, rfl, rfl, s2 _ _ upd_same, upd_same, ofNat_le (by rw [rgV_length, rgV_length]; decide), fun p np => ?_⟩
  have s3 := same_upd (o := .lst (rgV 0 11 ++ rgV 999991 1000000)) np
  refine q p _ ((s1.trans s2).trans s3) ((s1.trans s2).free np) ?_
  rw [upd_same]
  rfl
end
end Yj
set_option Elab.async false
set_option linter.all false
set_option maxRecDepth 100000
set_option maxHeartbeats 4000000
set_option pp.maxSteps 1500
namespace Yj
open PySem PySem.Spec PyProof.Rows L2 RZ
section
variable {P : Program} {w : World} {K : PySem.W.Frag} {mg : Str → Option Value} {base : Heap} {ad : Nat → Addr} {fds : Nat → FuncData} {cs : Nat → Value}
/-! ### _law_rows -/
def spRows (K : PySem.W.Frag) : Sp := fun vs H Q _ => ∃ (d a : Addr) (ns : List Int), vs = [.ref d] ∧ Draw K H d a ns ∧ ∀ r us l H', Drawn' K H H' d a ns → H r = none → r ≠ d → H' r = some (.lst us) → Prs H' us l → Val l → l.length ≤ 5 → Q (.ref r) H'
theorem ok__law_rows (T : Txt K mg ad fds cs) : FnOk P w K mg base CX0 4 (ad 36) (fds 36) ["draw"] (spRows K) := by
  refine T.F__law_rows.ok sc__law_rows (fun vs H Q E h => ?_) (fun cdv A outer s H vs Q E hr h => ?_)
  · obtain ⟨d, a, ns, rfl, _⟩ := h
    rfl
  obtain ⟨d, a, ns, rfl, hD, q⟩ := h
  refine ⟨_, (pss_cons (ps_set (i := 1) sc__law_rows.nd rfl (by first | exact .inl rfl | exact .inr rfl) (pe_lst pa_nil))
      (pss_cons (ps_for PassesOwn.never rfl (pi_range1 (by rfl) T.z_range (pa_cons (pe_call (ok__law_take T) (hr.mono (by decide)) rfl T.g__law_take T.F__law_take.kp (bi__law_take T) .nil pass0 (pa_cons (pv 0) (pa_cons pe_int pa_nil))) pa_nil)) (pg_name (i := 2) sc__law_rows.nd rfl (by first | exact .inl rfl | exact .inr rfl))
      (pss_cons (ps_par (i := 3) (j := 4) (by rfl) sc__law_rows.nd rfl rfl (by decide) rfl rfl (pa_cons (pe_call (ok__law_day T) (hr.mono (by decide)) rfl T.g__law_day T.F__law_day.kp (bi__law_day T) .nil pass0 (pa_cons (pv 0) pa_nil)) (pa_cons (pe_call (ok__law_day T) (hr.mono (by decide)) rfl T.g__law_day T.F__law_day.kp (bi__law_day T) .nil pass0 (pa_cons (pv 0) pa_nil)) pa_nil)) (by rfl))
      (pss_one (ps_expr (pe_bm PySem.F.plainAttrs_list PySem.F.slot_list_append PySem.F.type_list_append mt_append (pv 1) (pa_cons (pe_tup (pa_cons (pe_callB (call_min2 rfl) (by rfl) T.z_min (by decide +kernel) (pa_cons (pv 3) (pa_cons (pv 4) pa_nil))) (pa_cons (pe_callB (call_max2 rfl) (by rfl) T.z_max (by decide +kernel) (pa_cons (pv 3) (pa_cons (pv 4) pa_nil))) pa_nil))) pa_nil))))))
      (pss_one (ps_ret (pv 1))))), ?_⟩
  obtain ⟨c, hd⟩ := hD.1
  refine ⟨Nat.zero_le _, fun r nr => ?_⟩
  have nrd : r ≠ d := (ne_of_none hd nr).symm
  have s1 := same_upd (o := .lst []) nr
  refine ⟨_, rfl, d, a, ns, 6, rfl, hD.same s1, by decide, fun m H1 m0 m1 z1 => ⟨m, rfl, by omega, by omega, ?_⟩⟩
  refine for_range (fun i σ H2 => ∃ (y2 y3 y4 : Option V) (us : List V) (l : Sps), σ = [some (.ref d), some (.ref r), y2, y3, y4] ∧ Drawn' K H H2 d a ns ∧ H2 r = some (.lst us) ∧ Prs H2 us l ∧ Val l ∧ l.length ≤ i)
    ⟨none, none, none, [], [], rfl, ⟨z1.1, (keepOf s1).trans z1.2⟩, z1.2 _ _ nrd upd_same, .nil, True.intro, Nat.le_refl _⟩ ?_ ?_
  · rintro i σ H2 hi ⟨y2, y3, y4, us, l, rfl, z2, hr2, hp, hv, hl⟩
    obtain ⟨c2, hd2⟩ := z2.1.1
    refine ⟨_, rfl, d, a, ns, rfl, z2.1, fun x H3 x0 x1 z3 => ?_⟩
    obtain ⟨c3, hd3⟩ := z3.1.1
    refine ⟨_, rfl, d, a, ns, rfl, z3.1, fun y H4 y0 y1 z4 => ⟨_, _, rfl, ?_⟩⟩
    have hr4 := z4.2 _ _ nrd (z3.2 _ _ nrd hr2)
    have hp4 := Prs.keep hd3 z4.2 (Prs.keep hd2 z3.2 hp)
    refine ⟨.ref r, rfl, .inl ⟨rfl, _, SqL.of hr4⟩, _, rfl, _, rfl, _, _, rfl, _, rfl, _, rfl, _, _, rfl, (by show 2 ≤ sizeLine; decide), fun u nu => ?_⟩
    have nur : r ≠ u := ne_of_none hr4 nu
    have s5 := same_upd (o := .tup [.int (if y < x then y else x), .int (if y > x then y else x)]) nu
    refine ⟨r, _, _, rfl, rfl, (upd_ne nur).trans hr4, ofNat_lt (by have := hp.len; omega), ?_⟩
    have k5 : Keep d H (upd (upd H4 u (.tup [.int (if y < x then y else x), .int (if y > x then y else x)])) r (.lst (us ++ [.ref u]))) := keep_at (((z2.2.trans z3.2).trans z4.2).trans (keepOf s5)) nr
    obtain ⟨c4, hd4⟩ := z4.1.1
    refine ⟨_, _, _, us ++ [.ref u], l ++ [((if y < x then y else x), (if y > x then y else x))], rfl, ⟨hD.keep (c := c4) k5 ?_, k5⟩, upd_same, ?_, ?_, ?_⟩
    · rw [upd_ne nrd.symm]
      exact s5 _ _ hd4
    · refine (Prs.off ((upd_ne nur).trans hr4) (hp4.mono s5)).snoc ⟨u, rfl, ?_⟩
      rw [upd_ne nur.symm]
      exact upd_same
    · refine val_app hv ⟨?_, True.intro⟩
      dsimp only
      split <;> split <;> omega
    · simp only [List.length_append, List.length_cons, List.length_nil]
      omega
  · rintro σ H2 ⟨y2, y3, y4, us, l, rfl, z2, hr2, hp, hv, hl⟩
    exact ⟨_, rfl, q r us l H2 z2 nr nrd hr2 hp hv (by omega)⟩
end
end Yj
set_option Elab.async false
set_option linter.all false
set_option maxRecDepth 100000
set_option maxHeartbeats 4000000
set_option pp.maxSteps 1500
namespace Yj
open PySem PySem.Spec PyProof.Rows L2 RZ
section
variable {P : Program} {w : World} {K : PySem.W.Frag} {mg : Str → Option Value} {base : Heap} {ad : Nat → Addr} {fds : Nat → FuncData} {cs : Nat → Value}
/-! ### _law_is_form -/
def spForm : Sp := fun vs H Q _ => ∃ a l, vs = [.ref a] ∧ RowT H a l ∧ Row l ∧ l.length ≤ 1000000 ∧ ∀ H', Same H H' → Q (.bl true) H'
theorem ok__law_is_form (T : Txt K mg ad fds cs) : FnOk P w K mg base CX0 1 (ad 37) (fds 37) ["row"] spForm := by
  refine T.F__law_is_form.ok sc__law_is_form (fun vs H Q E h => ?_) (fun cdv A outer s H vs Q E hr h => ?_)
  · obtain ⟨a, l, rfl, _⟩ := h
    rfl
  obtain ⟨a, l, rfl, ⟨us, ha, hl⟩, rl, hz, q⟩ := h
  refine ⟨_, (pss_one (ps_ret (pe_and (pe_callB call_isi (by rfl) T.z_isinstance (by decide +kernel) (pa_cons (pv 0) (pa_cons (pe_bltn (v := .ty "tuple") (u := .type "tuple") (by rfl) T.z_tuple (by decide +kernel) rfl) pa_nil))) (pe_one (pe_callB (cr_all rfl) (by rfl) T.z_all (by decide +kernel) (pa_cons (pe_lc (own := [("one", 1), ("other", 2)]) rfl sc__law_is_form.nd (pi_zipA (by rfl) T.z_zip (pa_cons (pv 0) (pa_cons (pe_slice sl_tupA (pv 0) (po_some pe_int) po_none) pa_nil))) (blkOk_by (N := N__law_is_form) (sc := defScope s__law_is_form) (own := [("one", 1), ("other", 2)]) (by decide +kernel)) (fun _ _ _ _ _ => by exact (pg_tupK (K := K) (n := 2) rfl (pgs_cons (pg_name (i := 1) sc__law_is_form.nd rfl (.inl rfl)) (pgs_cons (pg_name (i := 2) sc__law_is_form.nd rfl (.inl rfl)) pgs_nil)))) (fun _ _ _ _ _ => by exact pts_nil) (fun _ _ _ _ _ => by exact (pe_cmpR op_lt (pe_op op_add (pe_ix (ix_seqK (K := K)) (pv 1) pe_int (fun _ _ => rfl)) pe_int) (pe_ix (ix_seqK (K := K)) (pv 2) pe_int (fun _ _ => rfl)) (nomark _)))) pa_nil)))))), ?_⟩
  have el := hl.len
  refine ⟨_, rfl, _, _, _, _, true, rfl, ClsV.ty _, TyX.base (.tup ha), kit_ty (by decide +kernel), _, rfl, iteT ?_⟩
  refine ⟨.ref a, rfl, .ref a, rfl, 1, rfl, a, us, rfl, SqT.of ha, fun full => ?_, fun nfull b nb => ?_⟩
  case' refine_1 =>
    have hb : H a = some (.tup (us.drop 1)) := by
      have e : us = [] := by
        cases us with
        | nil => rfl
        | cons x r =>
          have h1 := full.1
          rw [show HT.sIx (x :: r).length 0 (some 1) = min 1 (x :: r).length from HT.sIx_nat _ 0 1, List.length_cons] at h1
          omega
      rw [ha, e]
      rfl
    have s1 : Same H H := Same.refl H
    obtain ⟨b, eb⟩ : ∃ b, b = a := ⟨a, rfl⟩
    subst eb
    refine ⟨b, b, us, us.drop 1, rfl, .inr ⟨SqT.of ha, SqT.of hb, fun D nD => ?_⟩⟩
  case' refine_2 =>
    have s1 := same_upd (o := .tup (cutV us (some 1) none)) nb
    have hb : upd H b (.tup (cutV us (some 1) none)) b = some (.tup (us.drop 1)) := by
      rw [upd_same, cut_one]
    refine ⟨a, b, us, us.drop 1, rfl, .inr ⟨SqT.of (s1 _ _ ha), SqT.of hb, fun D nD => ?_⟩⟩
  all_goals
    have nDH := s1.free nD
    have nbD : b ≠ D := ne_of_none hb nD
    refine L2.lc_it (walk_zipT (xs := us) (ys := us.drop 1) rfl) (fun i H2 => Same H H2 ∧ H2 b = some (.tup (us.drop 1)) ∧ H2 D = some (.lst ((List.replicate i true).map V.bl))) ⟨s1.trans (same_upd nD), (upd_ne nbD).trans hb, upd_same⟩
      (fun i H2 _ ⟨s2, h2, _⟩ => ⟨SqT.of (s2 _ _ ha), SqT.of h2⟩) ?_ ?_
    · rintro i x H2 H3 hi ⟨s2, h2, hD⟩ ⟨T', u, v, rfl, nT, rfl, hu, hv⟩
      obtain ⟨p, hp1, tp, rfl, hp⟩ := hl.get hu
      have hv : us[i + 1]? = some v := by
        have hv' : (us.drop 1)[i]? = some v := hv
        rw [List.getElem?_drop, Nat.add_comm] at hv'
        exact hv'
      obtain ⟨p', hp2, tp', rfl, hp'⟩ := hl.get hv
      have s3 := same_upd (o := .tup [.ref tp, .ref tp']) nT
      have nDT : D ≠ T' := ne_of_none hD nT
      have hlt := rl.1.lt (Nat.lt_succ_self i) hp1 hp2
      have hil : i < us.length := (List.getElem?_eq_some_iff.mp hu).1
      refine ⟨T', _, rfl, SqT.of upd_same, rfl, _, _, rfl, _, _, rfl, rfl, rfl, ?_⟩
      refine ⟨_, rfl, .inr (.inl ⟨tp, _, 1, _, rfl, rfl, SqT.of (s3 _ _ (s2 _ _ hp)), atI_nat (j := 1) rfl, _, _, rfl, rfl, ?_⟩)⟩
      refine ⟨_, rfl, .inr (.inl ⟨tp', _, 0, _, rfl, rfl, SqT.of (s3 _ _ (s2 _ _ hp')), atI_nat (j := 0) rfl, _, _, rfl, rfl, ?_⟩)⟩
      have e : decide (p.2 + 1 < p'.1) = true := decide_eq_true (by omega)
      refine ⟨_, (upd_ne nDT).trans hD, ofNat_lt (by rw [List.length_map, List.length_replicate]; omega), same_at (s2.trans s3) nDH, (upd_ne nbD).trans (s3 _ _ h2), ?_⟩
      rw [upd_same]
      show some (HO.lst (List.map V.bl (List.replicate i true) ++ [.bl (decide (p.2 + 1 < p'.1))])) = _
      rw [e, List.replicate_succ', List.map_append]
      rfl
    · rintro H2 ⟨s2, h2, hD⟩
      refine ⟨D, _, rfl, SqL.of hD, ?_⟩
      have e : (List.replicate (min us.length (us.drop 1).length) true).all id = true := by
        rw [List.all_eq_true]
        intro b hb
        exact (List.mem_replicate.mp hb).2
      rw [e]
      exact q H2 s2
end
end Yj
set_option Elab.async false
set_option linter.all false
set_option maxRecDepth 100000
set_option maxHeartbeats 4000000
set_option pp.maxSteps 1500
/-! Where an exception is handled (its context None): a tuple is unpacked; is_span called. -/
namespace Yj
open PySem PySem.Spec PyProof.Rows L2
section
variable {prog : Program} {w : World} {A : Around} {E : Value → Shared → Prop} {s : Shared}
theorem tup_end_hot {it t x1 : Addr} {i : Nat} {items : Array Value} {Q : Option Value → Shared → Prop} (hot : HotX.HotAt A x1 s.heap) (ne : x1 ≠ it) (hit : IsTupIter s.heap it t i) (ht : IsTup s.heap t items) (hx : items[i]? = none)
    (hQ : ∀ h', Heap.ExtBut it s.heap h' → Q none { s with heap := h' }) : wpAny (model prog w) A (pyNext (.ref it)) Q E s := by
  obtain ⟨hh, o1, vs1, h1, d1, c1⟩ := hot
  obtain ⟨o, ho, hc, hd⟩ := id hit
  obtain ⟨ot, hot', hct, nt, hdt⟩ := ht
  unfold pyNext
  refine wpAny_bind (wpAny_attempt (wpAny_callSpecial?_slot (name := Str.ofString "__next__") hit.typeIs slot_tupleiter_next (wpAny_call_entry slot_tupleiter_next hit.typeIs entry_tupleiter_next ?_ (args_tupleiter_next _))))
  show wpAny _ _ (field (.ref it) 0 >>= _) _ _ s; refine wpAny_bind (wpAny_field ho hd (x := .ref t) rfl ?_)
  show wpAny _ _ (if (Value.ref t == Value.none) = true then _ else _) _ _ s; rw [if_neg (show ¬ ((Value.ref t == Value.none) = true) from Bool.false_ne_true)]
  show wpAny _ _ (field (.ref it) 1 >>= _) _ _ s; refine wpAny_bind (wpAny_field ho hd (x := .int i 0) rfl ?_)
  show wpAny _ _ (seqItems? (.ref t) >>= _) _ _ s; refine wpAny_bind (wpAny_seqItems hot' hdt ?_)
  simp only [Int.toNat_natCast, hx]
  refine wpAny_bind (wpAny_rule (wpAny_bind (wpAny_setField ho hd (by simp) ?_)))
  show wpAny _ _ (newExc (.type "StopIteration") [] >>= _) _ _ _; refine wpAny_bind ?_
  simp only [newExc, newTuple]; refine wpAny_bind (wpAny_newObj_type ?_ (by size_fits))
  refine wpAny_bind (m := firstArgMember _ _) (wpAny_of_eq (a := Value.none) (by first | rfl | (simp only [firstArgMember]; rfl)) (wpAny_newObj_type ?_ (by size_fits)))
  have h2 := (Heap.get?_update_other s.heap (Obj.mapFields (·.setIfInBounds 0 Value.none)) ne.symm).trans h1
  have up := fun (b : Addr) (o : Obj) (e : s.heap.get? b = some o) (nb : b ≠ it) => (Heap.get?_update_other s.heap (Obj.mapFields (·.setIfInBounds 0 Value.none)) (Ne.symm nb)).trans e
  refine HotX.raiseNew_hot ⟨hh, o1, vs1, Heap.get?_push_of_some _ (Heap.get?_push_of_some _ h2), d1, c1⟩ (Nat.ne_of_lt (Heap.lt_size (Heap.get?_push_of_some _ h2))) (Heap.get?_push_size _ rfl) rfl (by first | (simp; done) | (simp; omega)) ?_
  refine wpAny_bind (wpAny_isInstance (T := "StopIteration") (b := true) ⟨_, Heap.get?_update_self _ (Heap.get?_push_size _ rfl) rfl, rfl⟩ isSubtype_stop (wpAny_pure (hQ _ fun b o nb e => ?_)))
  rw [Heap.get?_update_other _ _ (Nat.ne_of_gt (Heap.lt_size (Heap.get?_push_of_some _ (up b o e nb))))]
  exact Heap.get?_push_of_some _ (Heap.get?_push_of_some _ (up b o e nb))
theorem unpack_hot {x1 t : Addr} {items : Array Value} {targets : List (Bool × (Value → Sem Unit))} {Q : Unit → Shared → Prop} (hot : HotX.HotAt A x1 s.heap) (ht : IsTup s.heap t items)
    (hn : targets.length = items.size) (hstar : targets.findIdx? (·.1) = none)
    (h : ∀ h', Heap.ExtBut s.heap.objs.size s.heap h' → wpAny (model prog w) A (assignInOrder (targets.map (·.2)) items.toList) Q E { s with heap := h' }) :
    wpAny (model prog w) A (unpack (.ref t) targets) Q E s := by
  have far : t ≠ s.heap.objs.size := by
    obtain ⟨o, ho, _⟩ := id ht
    exact Nat.ne_of_lt (Heap.lt_size ho)
  obtain ⟨hh, o1, vs1, h1, d1, c1⟩ := id hot
  have far1 : x1 ≠ s.heap.objs.size := Nat.ne_of_lt (Heap.lt_size h1)
  unfold unpack
  rw [hn, hstar]
  refine wpAny_bind (wpAny_holding ?_)
  unfold unpackItems notIterableAtAll
  refine wpAny_bind (wpAny_bind (wpAny_specialOf ht.typeIs slot_tuple_iter.lookup (wpAny_pure ?_)))
  simp only [Bool.false_eq_true, if_false]
  refine wpAny_bind (wpAny_holding (iter_tuple ht (wpAny_bind (wpAny_holding (draw_tuple far items.size 0 _ _ ⟨_, Heap.get?_push_size _ rfl, rfl, rfl⟩ (ht.push _) (by omega) fun h2 hit2 hs2 => ?_)))))
  have all : List.take items.size (List.drop 0 items.toList) = items.toList := by rw [List.drop_zero, List.take_of_length_le (by simp)]
  have e1 : h2.get? x1 = some o1 := hs2.extBut x1 o1 far1 (Heap.get?_push_of_some _ h1)
  rw [all, if_neg (by simp)]
  refine wpAny_bind (wpAny_holding (tup_end_hot ⟨hh, o1, vs1, e1, d1, c1⟩ far1 hit2 ((ht.push _).extBut hs2.extBut far) (by simp) fun h3 he3 => ?_))
  simp only [Option.isSome_none, Bool.false_eq_true, if_false]
  exact wpAny_pure (h h3 fun b o hb e => he3 b o hb (hs2.extBut b o hb (Heap.get?_push_of_some _ e)))
end
theorem pg_tupH {X : Cx} {pos : Pos} {es : List Expr} {k : Nat} {t : TGs} {n : Nat} (hc : L2H.HotC X) (h : PGs X es t)
    (hn : (assignEach es X.env).length = n := by rfl) (hst : (assignEach es X.env).findIdx? (·.1) = none := by rfl) : PG X (.Tuple es k pos) (gTup X.K n t) := by
  refine ⟨fun pins s σ H v u Q I r hw => ?_⟩
  obtain ⟨a, xs, rfl, hq, hl, hw⟩ := hw
  obtain rfl : u = Value.ref a := r
  obtain ⟨its, rv, ht, hz⟩ := I.tuple hq
  obtain ⟨x1, hot⟩ := hc.at I
  rw [assign_Tuple]
  refine wpAny_bind (wpAny_standAt (unpack_hot hot ht (by simp [hn, ← hl, rv.length]) hst fun h' hx => ?_))
  have I1 : Inv X pins σ H { s with heap := h' } := I.kept (t' := s.toks) fun b o e => hx b o (Nat.ne_of_lt (Heap.lt_size e)) e
  exact h.run pins _ σ H xs _ Q I1 (by simpa using rv) hw
theorem passH {X : Cx} {σ : L2.St} {E : XK} : PassesAt CX0 X σ E := fun _ _ _ _ _ _ h => h.elim
/-- as Fun.ok, called where an exception is handled -/
theorem Fun.okH {P : Program} {w : World} {K : PySem.W.Frag} {mg : Str → Option Value} {base : Heap} {x qual : Str} {st : Stmt} {f : Addr} {fd : FuncData} {N ps : List Str} {k : Nat} {sp : Sp} (F : Fun K x qual st f fd) (S : FnScope N ps (defScope st)) (len : ∀ vs H Q E, sp vs H Q E → vs.length = ps.length)
    (hbody : ∀ (cdv : Value) (A : Around) (outer : List Env) (s : Shared) (H : Hp) (vs : List V) (Q : VK) (E : XK) (p : Addr × Obj), L2H.HotC (L2H.cxH CX0 P w K mg base N qual (defScope st) f cdv A outer s H E p) → L2H.RoomH k (A.deeper (envOfC qual (defScope st) s.heap.objs.size f cdv)) → sp vs H Q E →
      ∃ t, PSs (L2H.cxH CX0 P w K mg base N qual (defScope st) f cdv A outer s H E p) (defBody st) t ∧ t { nx := fun _ H' => Q .non H', rt := Q } (L2.start N vs) H) : L2H.FnH P w K mg base CX0 (k + 1) f fd ps sp := by
  obtain ⟨oc, od, kV, doc, pm, an, cdv, ct, osl, rfl, lk, hcd⟩ := F.ex
  exact L2H.fn_ofH lk hcd S len fun A outer s H vs Q E p hot hr hsp => hbody cdv A outer s H vs Q E p ⟨p, hot, List.mem_singleton.mpr rfl⟩ hr hsp
section
variable {P : Program} {w : World} {K : PySem.W.Frag} {mg : Str → Option Value} {base : Heap} {ad : Nat → Addr} {fds : Nat → FuncData} {cs : Nat → Value}
theorem okH_is_integer (T : Txt K mg ad fds cs) : L2H.FnH P w K mg base CX0 1 (ad 8) (fds 8) ["thing"] spInteger := by
  refine Fun.okH T.F_is_integer sc_is_integer (fun vs H Q E h => ?_) (fun cdv A outer s H vs Q E p hc hr h => ?_)
  · obtain ⟨x, rfl, _⟩ := h
    rfl
  · obtain ⟨x, rfl, hx, q⟩ := h
    refine ⟨_, (pss_one (ps_ret (pe_and (pe_callB call_isi (by rfl) T.z_isinstance (by decide +kernel) (pa_cons (pv 0) (pa_cons (pe_bltn (v := .ty "int") (u := .type "int") (by rfl) T.z_int (by decide +kernel) rfl) pa_nil))) (pe_one (pe_not (pe_callB call_isi (by rfl) T.z_isinstance (by decide +kernel) (pa_cons (pv 0) (pa_cons (pe_bltn (v := .ty "bool") (u := .type "bool") (by rfl) T.z_bool (by decide +kernel) rfl) pa_nil)))))))), ?_⟩
    cases hx with
    | non => exact ⟨_, rfl, _, _, _, _, false, rfl, ClsV.ty _, TyX.base .non, kit_ty (by decide +kernel), _, rfl, iteF q⟩
    | bl b => exact ⟨_, rfl, _, _, _, _, true, rfl, ClsV.ty _, TyX.base (.bl b), kit_ty (by decide +kernel), _, rfl, iteT ⟨_, rfl, _, _, _, _, true, rfl, ClsV.ty _, TyX.base (.bl b), kit_ty (by decide +kernel), _, rfl, q⟩⟩
    | int i => exact ⟨_, rfl, _, _, _, _, true, rfl, ClsV.ty _, TyX.base (.int i), kit_ty (by decide +kernel), _, rfl, iteT ⟨_, rfl, _, _, _, _, false, rfl, ClsV.ty _, TyX.base (.int i), kit_ty (by decide +kernel), _, rfl, q⟩⟩
    | str x => exact ⟨_, rfl, _, _, _, _, false, rfl, ClsV.ty _, TyX.base (.str x), kit_ty (by decide +kernel), _, rfl, iteF q⟩
    | lst h => exact ⟨_, rfl, _, _, _, _, false, rfl, ClsV.ty _, TyX.base (.lst h), kit_ty (by decide +kernel), _, rfl, iteF q⟩
    | tup h => exact ⟨_, rfl, _, _, _, _, false, rfl, ClsV.ty _, TyX.base (.tup h), kit_ty (by decide +kernel), _, rfl, iteF q⟩
theorem okH_is_day (T : Txt K mg ad fds cs) : L2H.FnH P w K mg base CX0 2 (ad 10) (fds 10) ["thing"] spDay := by
  refine Fun.okH T.F_is_day sc_is_day (fun vs H Q E h => ?_) (fun cdv A outer s H vs Q E p hc hr h => ?_)
  · obtain ⟨x, rfl, _⟩ := h
    rfl
  · obtain ⟨x, rfl, hx, q⟩ := h
    refine ⟨_, (pss_one (ps_ret (pe_and (L2H.pe_callH (E := fun _ => E0) (okH_is_integer T) (hr.mono (by decide)) hc rfl T.g_is_integer T.F_is_integer.kp (bi_is_integer T) (fun _ => passH) (pa_cons (pv 0) pa_nil)) (pe_one (pe_chain op_le op_le pe_int (pv 0) (pe_glob rfl T.c_LAST_DAY T.r_LAST_DAY)))))), ?_⟩
    have hno : isI x = false → isD x = false := by
      cases x <;> first | (intro _; rfl) | (intro z; cases z)
    cases e : isI x with
    | false =>
      rw [hno e] at q
      exact ⟨x, rfl, x, rfl, hx, _, rfl, by rw [e]; exact iteF q⟩
    | true =>
      obtain ⟨i, rfl⟩ : ∃ i, x = .int i := by
        cases x <;> first | exact ⟨_, rfl⟩ | cases e
      refine ⟨_, rfl, _, rfl, hx, _, rfl, iteT ?_⟩
      refine ⟨_, rfl, 0, i, rfl, rfl, _, rfl, ?_⟩
      by_cases h0 : 0 ≤ i
      · rw [decide_eq_true h0]
        refine iteT ⟨i, 999999, rfl, rfl, ?_⟩
        have e2 : isD (.int i) = decide (i ≤ 999999) := by
          unfold isD
          exact decide_eq_decide.mpr ⟨fun z => z.2, fun z => ⟨h0, z⟩⟩
        rw [e2] at q
        exact q
      · rw [decide_eq_false h0]
        have e2 : isD (.int i) = false := decide_eq_false fun z => h0 z.1
        rw [e2] at q
        exact iteF q
theorem okH_is_span (T : Txt K mg ad fds cs) : L2H.FnH P w K mg base CX0 3 (ad 12) (fds 12) ["thing"] spSpan := by
  refine Fun.okH T.F_is_span sc_is_span (fun vs H Q E h => ?_) (fun cdv A outer s H vs Q E p hc hr h => ?_)
  · obtain ⟨x, k, rfl, _⟩ := h
    rfl
  obtain ⟨x, k, rfl, hx, q⟩ := h
  refine ⟨_, (pss_cons (ps_if (PW.pt (pw_or (pt_not (pt_val (pe_callB call_isi (by rfl) T.z_isinstance (by decide +kernel) (pa_cons (pv 0) (pa_cons (pe_bltn (v := .ty "tuple") (u := .type "tuple") (by rfl) T.z_tuple (by decide +kernel) rfl) pa_nil))))) (pw_or1 (pt_cmpR op_ne (pe_callB call_len_seq (by rfl) T.z_len (by decide +kernel) (pa_cons (pv 0) pa_nil)) pe_int (nomark _))))) (pss_one (ps_ret pe_bl)) pss_nil)
      (pss_cons (ps_asg (pv 0) (pg_tupH hc (pgs_cons (pg_name (i := 1) sc_is_span.nd rfl (by first | exact .inl rfl | exact .inr rfl)) (pgs_cons (pg_name (i := 2) sc_is_span.nd rfl (by first | exact .inl rfl | exact .inr rfl)) pgs_nil))))
      (pss_one (ps_ret (pe_and (L2H.pe_callH (E := fun _ => E0) (okH_is_day T) (hr.mono (by decide)) hc rfl T.g_is_day T.F_is_day.kp (bi_is_day T) (fun _ => passH) (pa_cons (pv 1) pa_nil)) (pe_and (L2H.pe_callH (E := fun _ => E0) (okH_is_day T) (hr.mono (by decide)) hc rfl T.g_is_day T.F_is_day.kp (bi_is_day T) (fun _ => passH) (pa_cons (pv 2) pa_nil)) (pe_one (pe_cmpR op_le (pv 1) (pv 2) (nomark _))))))))), ?_⟩
  rcases hx with ⟨hx, rfl, hl⟩ | ⟨a, xs, rfl, ha, hx⟩
  · cases hx with
    | non => exact ⟨_, rfl, _, _, _, _, false, rfl, ClsV.ty _, TyX.base .non, kit_ty (by decide +kernel), _, rfl, iteT (iteT q)⟩
    | bl b => exact ⟨_, rfl, _, _, _, _, false, rfl, ClsV.ty _, TyX.base (.bl b), kit_ty (by decide +kernel), _, rfl, iteT (iteT q)⟩
    | int i => exact ⟨_, rfl, _, _, _, _, false, rfl, ClsV.ty _, TyX.base (.int i), kit_ty (by decide +kernel), _, rfl, iteT (iteT q)⟩
    | str x => exact ⟨_, rfl, _, _, _, _, false, rfl, ClsV.ty _, TyX.base (.str x), kit_ty (by decide +kernel), _, rfl, iteT (iteT q)⟩
    | lst h => exact ⟨_, rfl, _, _, _, _, false, rfl, ClsV.ty _, TyX.base (.lst h), kit_ty (by decide +kernel), _, rfl, iteT (iteT q)⟩
    | @tup a xs h =>
      obtain ⟨ys, e⟩ := hl a rfl
      rw [h] at e
      cases e
  · refine ⟨_, rfl, _, _, _, _, true, rfl, ClsV.ty _, TyX.base (.tup ha), kit_ty (by decide +kernel), _, rfl, iteF ?_⟩
    refine ⟨_, rfl, a, xs, rfl, .inr (SqT.of ha), rfl, _, rfl, ?_⟩
    rcases hx with ⟨hn, rfl⟩ | ⟨u, v, rfl, hu, hv, rfl⟩
    · have e : decide (V.int (xs.length : Nat) = V.int 2) = false := decide_eq_false fun z => hn (by
        have := V.int.inj z
        omega)
      rw [e]
      exact iteT q
    · refine iteF ?_
      refine ⟨_, rfl, a, _, rfl, SqT.of ha, rfl, _, _, rfl, _, _, rfl, rfl, ?_⟩
      refine ⟨_, rfl, u, rfl, hu, _, rfl, ?_⟩
      cases eu : isD u with
      | false =>
        rw [eu] at q
        exact iteF q
      | true =>
        refine iteT ⟨_, rfl, v, rfl, hv, _, rfl, ?_⟩
        cases ev : isD v with
        | false =>
          rw [eu, ev] at q
          exact iteF q
        | true =>
          rw [eu, ev] at q
          obtain ⟨i, rfl⟩ : ∃ i, u = .int i := by
            cases u <;> first | exact ⟨_, rfl⟩ | cases eu
          obtain ⟨j, rfl⟩ : ∃ j, v = .int j := by
            cases v <;> first | exact ⟨_, rfl⟩ | cases ev
          exact iteT ⟨_, rfl, _, rfl, _, _, rfl, rfl, q⟩
end
end Yj
set_option Elab.async false
set_option linter.all false
set_option maxRecDepth 100000
set_option maxHeartbeats 4000000
set_option pp.maxSteps 1500
namespace Yj
open PySem PySem.Spec PyProof.Rows L2 RZ
theorem takesN0 {X : Cx} : L2N.Takes X (fun _ _ _ _ => False) := fun _ _ x => by
  obtain ⟨_, _, _, _, _, _, _, _, _, _, _, _, _, _, _, _, z⟩ := x
  exact z.elim
theorem k_le {k : Nat} : 3 ≤ k + 3 := Nat.le_add_left _ _
theorem hotC_suite {X : Cx} {a : Addr} {oe : Obj} {cls : Value} {d : Option Addr} {pn : List (Addr × Obj)} (hz : L2N.Zn cls d oe) (hf : ∃ vs, oe.data = .fields vs) : L2H.HotC (X.suite a ((a, oe) :: pn)) := by
  obtain ⟨vs, hd⟩ := hf
  exact ⟨(a, oe), ⟨rfl, vs, hd, hz.2.2 vs hd⟩, List.mem_cons_self ..⟩
/-- what stands behind the draws: the drawn lists and their rows -/
structure Bs (K : PySem.W.Frag) (H : Hp) (d a r1 r2 p1 p2 : Addr) (ns : List Int) (us1 us2 : List V) (l1 l2 o1 o2 : Sps) : Prop where
  dr : Draw K H d a ns
  f1 : H r1 = some (.lst us1)
  q1 : Prs H us1 l1
  f2 : H r2 = some (.lst us2)
  q2 : Prs H us2 l2
  t1 : RowT H p1 o1
  t2 : RowT H p2 o2
theorem Bs.mono {K : PySem.W.Frag} {H H' : Hp} {d a r1 r2 p1 p2 : Addr} {ns : List Int} {us1 us2 : List V} {l1 l2 o1 o2 : Sps} (b : Bs K H d a r1 r2 p1 p2 ns us1 us2 l1 l2 o1 o2) (s : Same H H') : Bs K H' d a r1 r2 p1 p2 ns us1 us2 l1 l2 o1 o2 :=
  ⟨b.dr.same s, s _ _ b.f1, b.q1.mono s, s _ _ b.f2, b.q2.mono s, b.t1.mono s, b.t2.mono s⟩
/-- rows in a tuple -/
inductive Rws (H : Hp) : List V → List Sps → Prop
  | nil : Rws H [] []
  | cons {u : Addr} {vs : List V} {l : Sps} {ls : List Sps} : RowT H u l → Row l → l.length ≤ 1000 → Rws H vs ls → Rws H (.ref u :: vs) (l :: ls)
theorem Rws.mono {H H' : Hp} (s : Same H H') : ∀ {vs : List V} {ls : List Sps}, Rws H vs ls → Rws H' vs ls
  | _, _, .nil => .nil
  | _, _, .cons h r z t => .cons (h.mono s) r z (t.mono s)
theorem Rws.len {H : Hp} : ∀ {vs : List V} {ls : List Sps}, Rws H vs ls → vs.length = ls.length
  | _, _, .nil => rfl
  | _, _, .cons _ _ _ t => congrArg (· + 1) t.len
theorem Rws.get {H : Hp} : ∀ {vs : List V} {ls : List Sps} {i : Nat} {v : V}, Rws H vs ls → vs[i]? = some v → ∃ u l, v = .ref u ∧ ls[i]? = some l ∧ RowT H u l ∧ Row l ∧ l.length ≤ 1000
  | _, _, _, _, .nil, h => by simp at h
  | _, _, 0, _, .cons h r z t, e => by
    have e' := Option.some.inj e
    exact ⟨_, _, e'.symm, rfl, h, r, z⟩
  | _, _, i + 1, _, .cons h r z t, e => t.get (i := i) e
/-- no span: the things that the law draws from -/
def NoSpan (H : Hp) (x : V) : Prop := x = .non ∨ (∃ a xs, x = .ref a ∧ H a = some (.lst xs)) ∨ ∃ a, x = .ref a ∧ (H a = some (.tup [.int 3, .int 2]) ∨ H a = some (.tup [.int 0, .int 1000000]) ∨ H a = some (.tup [.int (-1), .int 4]) ∨ H a = some (.tup [.int 1]) ∨ H a = some (.tup [.bl true, .int 2]) ∨ H a = some (.tup [.str "a", .int 2]))
theorem NoSpan.span {H : Hp} {x : V} (h : NoSpan H x) : SpanV H x false := by
  rcases h with rfl | ⟨a, xs, rfl, h⟩ | ⟨a, rfl, h | h | h | h | h | h⟩
  · exact .inl ⟨.non, rfl, fun a e => nomatch e⟩
  · exact .inl ⟨.lst h, rfl, fun b e => ⟨xs, by cases e; exact h⟩⟩
  · exact .inr ⟨a, _, rfl, h, .inr ⟨_, _, rfl, .int _, .int _, by decide⟩⟩
  · exact .inr ⟨a, _, rfl, h, .inr ⟨_, _, rfl, .int _, .int _, by decide⟩⟩
  · exact .inr ⟨a, _, rfl, h, .inr ⟨_, _, rfl, .int _, .int _, by decide⟩⟩
  · exact .inr ⟨a, _, rfl, h, .inl ⟨by decide, rfl⟩⟩
  · exact .inr ⟨a, _, rfl, h, .inr ⟨_, _, rfl, .bl _, .int _, by decide⟩⟩
  · exact .inr ⟨a, _, rfl, h, .inr ⟨_, _, rfl, .str _, .int _, by decide⟩⟩
theorem NoSpan.keep {H H' : Hp} {d : Addr} {x : V} (hx : x ≠ .ref d) (e : Keep d H H') (h : NoSpan H x) : NoSpan H' x := by
  rcases h with rfl | ⟨a, xs, rfl, h⟩ | ⟨a, rfl, h⟩
  · exact .inl rfl
  · exact .inr (.inl ⟨a, xs, rfl, e _ _ (fun z => hx (congrArg V.ref z)) h⟩)
  · have k : ∀ {o : HO}, H a = some o → H' a = some o := fun {o} q => e _ _ (fun z => hx (congrArg V.ref z)) q
    exact .inr (.inr ⟨a, rfl, h.imp k (.imp k (.imp k (.imp k (.imp k k))))⟩)
theorem Prs.rev {H : Hp} : ∀ {vs : List V} {l : Sps}, Prs H vs l → Prs H vs.reverse l.reverse
  | _, _, .nil => .nil
  | _, _, .cons h t => by
    rw [List.reverse_cons, List.reverse_cons]
    exact t.rev.snoc h
theorem val_rev {l : Sps} (h : Val l) : Val l.reverse := val_of fun p hp => h.all p (List.mem_reverse.mp hp)
theorem mem_rev {l : Sps} {d : Int} : Mem (l.reverse ++ l) d ↔ Mem l d := by
  rw [mem_append, mem_iff, mem_iff]
  constructor
  · rintro (⟨p, hp, h⟩ | h)
    · exact ⟨p, List.mem_reverse.mp hp, h⟩
    · exact h
  · exact .inr
theorem seq_asg {te : TE} {g : TG} {u : TS} {D : Ends} {σ : L2.St} {H : Hp} (h : te σ H fun x H1 => g x σ H1 (u D)) : tSeq (tAsg te g) u D σ H := h
theorem ifNe {l m : Sps} (h : l = m) {A B : Prop} (hb : B) : if (!PyData.eqv (dat l) (dat m)) = true then A else B := by
  rw [dat_eqv, decide_eq_true h]
  exact iteF hb
theorem ifNeD {d e : PyData} (h : PyData.eqv d e = true) {A B : Prop} (hb : B) : if (!PyData.eqv d e) = true then A else B := by
  rw [h]
  exact iteF hb
theorem ifNeV {x y : V} (h : x = y) {A B : Prop} (hb : B) : if (!decide (x = y)) = true then A else B := by
  rw [decide_eq_true h]
  exact iteF hb
theorem ifB {b : Bool} (h : b = true) {A B : Prop} (ha : A) : if b = true then A else B := by
  rw [h]
  exact iteT ha
theorem ifN {b : Bool} (h : b = false) {A B : Prop} (hb : B) : if b = true then A else B := by
  rw [h]
  exact iteF hb
theorem bls_lay : ∀ bs : List Bool, PyData.canLayAll0 (bs.map PyData.bool) = true ∧ PyData.depthAll (bs.map PyData.bool) = 0
  | [] => ⟨rfl, rfl⟩
  | n :: r => by
    obtain ⟨h1, h2⟩ := bls_lay r
    refine ⟨?_, ?_⟩
    · show (true && PyData.canLayAll0 (r.map PyData.bool)) = true
      rw [h1]
      rfl
    · show max 0 (PyData.depthAll (r.map PyData.bool)) = 0
      rw [h2]
      rfl
theorem bls_shaped (bs : List Bool) : SeqAt.shaped (.tuple (bs.map PyData.bool)) = true := (shaped_of (n := 0) (bls_lay bs).1 (Nat.le_of_eq (bls_lay bs).2) (by decide)).1
theorem bls_dp {K : PySem.W.Frag} {H : Hp} : ∀ bs : List Bool, DpAll K H (bs.map V.bl) (bs.map PyData.bool)
  | [] => .nil
  | n :: r => .cons (.bl n) (bls_dp r)
theorem bls_eqv (bs : List Bool) : PyData.eqv (.tuple (bs.map PyData.bool)) (.tuple (bs.map PyData.bool)) = true := SeqAt.eqv_refl _ (by
  show PyData.canLayAll0 (bs.map PyData.bool) = true
  exact (bls_lay bs).1)
theorem ints_eqv (ns : List Int) : PyData.eqv (.list (ns.map PyData.int)) (.list (ns.map PyData.int)) = true := SeqAt.eqv_refl _ (by
  show PyData.canLayAll0 (ns.map PyData.int) = true
  exact (ints_lay ns).1)
theorem inV_ints (i : Int) : ∀ ns : List Int, inV (.int i) (ns.map V.int) = decide (i ∈ ns)
  | [] => rfl
  | n :: r => by
    show (n == i || inV (.int i) (r.map V.int)) = decide (i ∈ n :: r)
    rw [inV_ints i r, Bool.eq_iff_iff, Bool.or_eq_true, decide_eq_true_eq, decide_eq_true_eq, List.mem_cons, beq_iff_eq]
    exact or_congr ⟨Eq.symm, Eq.symm⟩ Iff.rfl
theorem flat_ints : ∀ ns : List Int, (ns.map V.int).all flatV = true
  | [] => rfl
  | n :: r => flat_ints r
section
variable {K : PySem.W.Frag} {H : Hp} {Q : VK}
theorem read_any {y0 y1 y2 y3 y4 y5 y6 y8 y9 y10 y11 y12 y13 y14 y15 y16 y17 y18 : Option V} {r : Addr} {us : List V} {l : Sps} {j : Nat} {dd : Int}
    (hj : [y0, y1, y2, y3, y4, y5, y6, some (.int dd), y8, y9, y10, y11, y12, y13, y14, y15, y16, y17, y18][j]? = some (some (.ref r))) (hr : H r = some (.lst us)) (hp : Prs H us l) (hz : l.length ≤ 1000000)
    (q : ∀ H', Same H H' → Q (.bl (decide (Mem l dd))) H') :
    tCB (rAny K) (tCons (tLc (iList K (tVar j)) (gTup K 2 (gCons (gName 15) (gCons (gName 16) gNil))) tYes (tChain (rI0 fun i j => V.bl (decide (i ≤ j))) (rI0 fun i j => V.bl (decide (i ≤ j))) (tVar 15) (tVar 7) (tVar 16)) [15, 16]) tNil)
      [y0, y1, y2, y3, y4, y5, y6, some (.int dd), y8, y9, y10, y11, y12, y13, y14, y15, y16, y17, y18] H Q := by
  refine ⟨_, hj, r, rfl, ⟨_, SqL.of hr⟩, fun D nD => ?_⟩
  have s1 := same_upd (o := .lst []) nD
  have el := hp.len
  refine lc_list (K := K) (xs := us) (fun i H1 => Same H H1 ∧ H1 D = some (.lst (((l.take i).map fun p => decide (p.1 ≤ dd ∧ dd ≤ p.2)).map V.bl))) ⟨s1, by rw [upd_same]; rfl⟩ (fun i H1 _ h => SqL.of (h.1 _ _ hr)) ?_ ?_
  · rintro i x H1 hx ⟨s2, hD⟩
    obtain ⟨p, hp1, tp, rfl, hpr⟩ := hp.get hx
    have hi : i < us.length := (List.getElem?_eq_some_iff.mp hx).1
    have fin : ∀ b : Bool, b = decide (p.1 ≤ dd ∧ dd ≤ p.2) → ∃ acc, H1 D = some (.lst acc) ∧ acc.length < sizeLine ∧ Same H (upd H1 D (.lst (acc ++ [.bl b]))) ∧ upd H1 D (.lst (acc ++ [.bl b])) D = some (.lst (((l.take (i + 1)).map fun p => decide (p.1 ≤ dd ∧ dd ≤ p.2)).map V.bl)) := fun b eb => by
      refine ⟨_, hD, ofNat_lt ?_, same_at s2 nD, ?_⟩
      · rw [List.length_map, List.length_map, List.length_take]
        omega
      · rw [upd_same, List.take_add_one, hp1, List.map_append, List.map_append, eb]
        rfl
    refine ⟨tp, _, rfl, SqT.of (s2 _ _ hpr), rfl, _, _, rfl, _, _, rfl, rfl, rfl, ?_⟩
    refine ⟨_, rfl, _, rfl, _, _, rfl, rfl, _, rfl, ?_⟩
    by_cases c : p.1 ≤ dd
    · refine ifT c ⟨_, rfl, _, _, rfl, rfl, fin _ ?_⟩
      exact decide_eq_decide.mpr ⟨fun z => ⟨c, z⟩, fun z => z.2⟩
    · exact ifF c (fin _ (decide_eq_false fun z => c z.1).symm)
  · rintro H1 ⟨s2, hD⟩
    rw [el, List.take_length] at hD
    refine ⟨D, _, rfl, SqL.of hD, ?_⟩
    have e : (l.map fun p => decide (p.1 ≤ dd ∧ dd ≤ p.2)).any id = decide (Mem l dd) := by
      rw [Bool.eq_iff_iff, decide_eq_true_eq, List.any_map, List.any_eq_true, mem_iff]
      constructor
      · rintro ⟨p, hp, h⟩
        exact ⟨p, hp, of_decide_eq_true h⟩
      · rintro ⟨p, hp, h⟩
        exact ⟨p, hp, decide_eq_true h⟩
    rw [e]
    exact q H1 s2
theorem read_due {σ : L2.St} {b c : Bool} (q : ∀ t, H t = none → Q (.ref t) (upd H t (.tup ([b || c, b && c, b && !c, !b, b != c].map V.bl)))) (h8 : σ[8]? = some (some (.bl b))) (h9 : σ[9]? = some (some (.bl c))) :
    tTup (tCons (tOrV (tVar 8) (tVar 9)) (tCons (tAndV (tVar 8) (tVar 9)) (tCons (tAndV (tVar 8) (tNotV (tVar 9))) (tCons (tNotV (tVar 8)) (tCons (tOp rNe (tVar 8) (tVar 9)) tNil))))) σ H Q := by
  cases b with
  | true =>
    refine ⟨_, h8, true, rfl, ?_⟩
    show _
    refine iteT ?_
    refine ⟨_, h8, true, rfl, iteT ⟨_, h9, ?_⟩⟩
    refine ⟨_, h8, true, rfl, iteT ⟨_, h9, c, rfl, ?_⟩⟩
    refine ⟨_, h8, true, rfl, ?_⟩
    refine ⟨_, h8, _, h9, rfl, (by show 5 ≤ sizeLine; decide), fun t nt => ?_⟩
    cases c <;> exact q t nt
  | false =>
    refine ⟨_, h8, false, rfl, iteF ⟨_, h9, ?_⟩⟩
    refine ⟨_, h8, false, rfl, iteF ?_⟩
    refine ⟨_, h8, false, rfl, iteF ?_⟩
    refine ⟨_, h8, false, rfl, ?_⟩
    refine ⟨_, h8, _, h9, rfl, (by show 5 ≤ sizeLine; decide), fun t nt => ?_⟩
    cases c <;> exact q t nt
end
end Yj
set_option Elab.async false
set_option linter.all false
set_option maxRecDepth 100000
set_option maxHeartbeats 4000000
set_option pp.maxSteps 1500
namespace Yj
open PySem PySem.Spec PyProof.Rows L2 RZ
section
variable {P : Program} {w : World} {K : PySem.W.Frag} {mg : Str → Option Value} {base : Heap} {ad : Nat → Addr} {fds : Nat → FuncData} {cs : Nat → Value}
def spLaw (K : PySem.W.Frag) : Sp := fun vs H Q _ => ∃ (a : Addr) (ns : List Int), vs = [.ref a] ∧ SqL K H a (ns.map V.int) ∧ ns.length ≤ 63 ∧ ∀ H', Q (.bl true) H'
def daysM : List Int := daysL ++ [500000]
def namesV : List V := [.str "a", .str "z9", .str "abcdefgh", .str "abcdefghi", .str "", .str "9a", .str "A", .str "a_b", .non, .int 7]
theorem namesV_in {H : Hp} : ∀ x ∈ namesV, Pl H x ∧ ∀ z, x = .str z → z.length ≤ 1000000 := by
  intro x hx
  have e : x = .str "a" ∨ x = .str "z9" ∨ x = .str "abcdefgh" ∨ x = .str "abcdefghi" ∨ x = .str "" ∨ x = .str "9a" ∨ x = .str "A" ∨ x = .str "a_b" ∨ x = .non ∨ x = .int 7 := by
    simpa only [namesV, List.mem_cons, List.not_mem_nil, or_false] using hx
  have k : ∀ y : Str, y.length ≤ 1000000 → ∀ z, V.str y = .str z → z.length ≤ 1000000 := fun y h z e => by
    cases e
    exact h
  rcases e with rfl | rfl | rfl | rfl | rfl | rfl | rfl | rfl | rfl | rfl
  iterate 8 exact ⟨.str _, k _ (by decide)⟩
  · exact ⟨.non, fun z e => nomatch e⟩
  · exact ⟨.int _, fun z e => nomatch e⟩
def wrongV : List V := [.int 0, .int 999999, .int 1000000, .int (-1), .bl true, .str "1"]
theorem wrongV_in {H : Hp} : ∀ x ∈ wrongV, Pl H x := by
  intro x hx
  have e : x = .int 0 ∨ x = .int 999999 ∨ x = .int 1000000 ∨ x = .int (-1) ∨ x = .bl true ∨ x = .str "1" := by
    simpa only [wrongV, List.mem_cons, List.not_mem_nil, or_false] using hx
  rcases e with rfl | rfl | rfl | rfl | rfl | rfl
  · exact .int _
  · exact .int _
  · exact .int _
  · exact .int _
  · exact .bl _
  · exact .str _
theorem namesV_fil : namesV.filter isN = [.str "a", .str "z9", .str "abcdefgh"] := by decide +kernel
theorem wrongV_fil : wrongV.filter isD = [.int 0, .int 999999] := by decide +kernel
theorem daysM_in : ∀ x ∈ daysM, 0 ≤ x ∧ x ≤ 999999 := by decide +kernel
theorem ok_law (T : Txt K mg ad fds cs) : FnOk P w K mg base (L2N.CX P w) 5 (ad 38) (fds 38) ["script"] (spLaw K) := by
  refine Fun.okN T.F_law sc_law (fun vs H Q E h => ?_) (fun cdv A outer s H vs Q E hr h => ?_)
  · obtain ⟨a, ns, rfl, _⟩ := h
    rfl
  obtain ⟨a, ns, rfl, hS, hz, q⟩ := h
  refine ⟨_, (pss_cons (ps_set (i := 1) sc_law.nd rfl (by first | exact .inl rfl | exact .inr rfl) (pe_lst (pa_cons (pv 0) (pa_cons pe_int pa_nil))))
      (pss_cons (ps_par (i := 2) (j := 3) (by rfl) sc_law.nd rfl rfl (by decide) rfl rfl (pa_cons (pe_call (ok__law_rows T) (hr.mono (by decide)) rfl T.g__law_rows T.F__law_rows.kp (bi__law_rows T) .nil pass0 (pa_cons (pv 1) pa_nil)) (pa_cons (pe_call (ok__law_rows T) (hr.mono (by decide)) rfl T.g__law_rows T.F__law_rows.kp (bi__law_rows T) .nil pass0 (pa_cons (pv 1) pa_nil)) pa_nil)) (by rfl))
      (pss_cons (ps_par (i := 4) (j := 5) (by rfl) sc_law.nd rfl rfl (by decide) rfl rfl (pa_cons (pe_call (ok_normal T) (hr.mono (by decide)) rfl T.g_normal T.F_normal.kp (bi_normal T) .nil passN (pa_cons (pv 2) pa_nil)) (pa_cons (pe_call (ok_normal T) (hr.mono (by decide)) rfl T.g_normal T.F_normal.kp (bi_normal T) .nil passN (pa_cons (pv 3) pa_nil)) pa_nil)) (by rfl))
      (pss_cons (ps_if (PW.pt (pw_or (pt_not (pt_val (pe_call (ok__law_is_form T) (hr.mono (by decide)) rfl T.g__law_is_form T.F__law_is_form.kp (bi__law_is_form T) .nil pass0 (pa_cons (pv 4) pa_nil)))) (pw_or (pt_cmpR (op_neD hr.units) (pe_call (ok_normal T) (hr.mono (by decide)) rfl T.g_normal T.F_normal.kp (bi_normal T) .nil passN (pa_cons (pe_op op_cat (pe_revL (pv 2)) (pv 2)) pa_nil)) (pv 4) (nomark _)) (pw_or1 (pt_cmpR (op_neD hr.units) (pe_call (ok_normal T) (hr.mono (by decide)) rfl T.g_normal T.F_normal.kp (bi_normal T) .nil passN (pa_cons (pv 4) pa_nil)) (pv 4) (nomark _)))))) (pss_one (ps_ret pe_bl)) pss_nil)
      (pss_cons (ps_set (i := 6) sc_law.nd rfl (by first | exact .inl rfl | exact .inr rfl) (pe_tup (pa_cons (pe_call (ok_union T) (hr.mono (by decide)) rfl T.g_union T.F_union.kp (bi_union T) .nil pass0 (pa_cons (pv 4) (pa_cons (pv 5) pa_nil))) (pa_cons (pe_call (ok_meet T) (hr.mono (by decide)) rfl T.g_meet T.F_meet.kp (bi_meet T) .nil pass0 (pa_cons (pv 4) (pa_cons (pv 5) pa_nil))) (pa_cons (pe_call (ok_less T) (hr.mono (by decide)) rfl T.g_less T.F_less.kp (bi_less T) .nil pass0 (pa_cons (pv 4) (pa_cons (pv 5) pa_nil))) (pa_cons (pe_call (ok_others T) (hr.mono (by decide)) rfl T.g_others T.F_others.kp (bi_others T) .nil pass0 (pa_cons (pv 4) pa_nil)) (pa_cons (pe_call (ok_unlike T) (hr.mono (by decide)) rfl T.g_unlike T.F_unlike.kp (bi_unlike T) .nil pass0 (pa_cons (pv 4) (pa_cons (pv 5) pa_nil))) pa_nil)))))))
      (pss_cons (ps_for PassesOwn.leaving rfl (pi_list (pe_op op_cat (pe_call0 (ok__law_days T) (hr.mono (by decide)) rfl T.g__law_days T.F__law_days.kp (bi__law_days T) .nil pass0) (pe_lst (pa_cons pe_int pa_nil)))) (pg_name (i := 7) sc_law.nd rfl (by first | exact .inl rfl | exact .inr rfl))
      (pss_cons (ps_par (i := 8) (j := 9) (by rfl) sc_law.nd rfl rfl (by decide) rfl rfl (pa_cons (pe_callB (cr_any rfl) (by rfl) T.z_any (by decide +kernel) (pa_cons (pe_lc (own := [("a", 15), ("b", 16)]) rfl sc_law.nd (pi_list (pv 2)) (blkOk_by (N := N_law) (sc := defScope s_law) (own := [("a", 15), ("b", 16)]) (by decide +kernel)) (fun _ _ _ _ _ => by exact (pg_tupK (K := K) (n := 2) rfl (pgs_cons (pg_name (i := 15) sc_law.nd rfl (.inl rfl)) (pgs_cons (pg_name (i := 16) sc_law.nd rfl (.inl rfl)) pgs_nil)))) (fun _ _ _ _ _ => by exact pts_nil) (fun _ _ _ _ _ => by exact (pe_chain op_le op_le (pv 15) (pv 7) (pv 16)))) pa_nil)) (pa_cons (pe_callB (cr_any rfl) (by rfl) T.z_any (by decide +kernel) (pa_cons (pe_lc (own := [("a", 15), ("b", 16)]) rfl sc_law.nd (pi_list (pv 3)) (blkOk_by (N := N_law) (sc := defScope s_law) (own := [("a", 15), ("b", 16)]) (by decide +kernel)) (fun _ _ _ _ _ => by exact (pg_tupK (K := K) (n := 2) rfl (pgs_cons (pg_name (i := 15) sc_law.nd rfl (.inl rfl)) (pgs_cons (pg_name (i := 16) sc_law.nd rfl (.inl rfl)) pgs_nil)))) (fun _ _ _ _ _ => by exact pts_nil) (fun _ _ _ _ _ => by exact (pe_chain op_le op_le (pv 15) (pv 7) (pv 16)))) pa_nil)) pa_nil)) (by rfl))
      (pss_cons (ps_set (i := 10) sc_law.nd rfl (by first | exact .inl rfl | exact .inr rfl) (pe_tup (pa_cons (pe_or (pv 8) (pe_one (pv 9))) (pa_cons (pe_and (pv 8) (pe_one (pv 9))) (pa_cons (pe_and (pv 8) (pe_one (pe_not (pv 9)))) (pa_cons (pe_not (pv 8)) (pa_cons (pe_cmpR op_ne (pv 8) (pv 9) (nomark _)) pa_nil)))))))
      (pss_one (ps_if (PW.pt (pw_or (pt_cmpR op_ne (pe_call (ok_has T) (hr.mono (by decide)) rfl T.g_has T.F_has.kp (bi_has T) .nil pass0 (pa_cons (pv 4) (pa_cons (pv 7) pa_nil))) (pv 8) (nomark _)) (pw_or1 (pt_cmpR (op_neD hr.units) (pe_callTy call_tuple_of (by rfl) T.z_tuple (by decide +kernel) (pa_cons (pe_lc (own := [("row", 17)]) rfl sc_law.nd (pi_tup (pv 6)) (blkOk_by (N := N_law) (sc := defScope s_law) (own := [("row", 17)]) (by decide +kernel)) (fun _ _ _ _ _ => by exact (pg_name (i := 17) sc_law.nd rfl (.inl rfl))) (fun _ _ _ _ _ => by exact pts_nil) (fun _ _ _ _ _ => by exact (pe_call (ok_has (P := P) (w := w) T) (hr.mono (by decide)) rfl T.g_has T.F_has.kp (bi_has T) .nil pass0 (pa_cons (pv 17) (pa_cons (pv 7) pa_nil))))) pa_nil)) (pv 10) (nomark _))))) (pss_one (ps_ret pe_bl)) pss_nil)))))
      (pss_cons (ps_if (PW.pt (pw_or (pt_not (pt_val (pe_callB (cr_all rfl) (by rfl) T.z_all (by decide +kernel) (pa_cons (pe_lc (own := [("row", 17)]) rfl sc_law.nd (pi_tup (pv 6)) (blkOk_by (N := N_law) (sc := defScope s_law) (own := [("row", 17)]) (by decide +kernel)) (fun _ _ _ _ _ => by exact (pg_name (i := 17) sc_law.nd rfl (.inl rfl))) (fun _ _ _ _ _ => by exact pts_nil) (fun _ _ _ _ _ => by exact (pe_call (ok__law_is_form (P := P) (w := w) T) (hr.mono (by decide)) rfl T.g__law_is_form T.F__law_is_form.kp (bi__law_is_form T) .nil pass0 (pa_cons (pv 17) pa_nil)))) pa_nil)))) (pw_or1 (pt_cmpR op_ne (pe_op op_add (pe_call (ok_how_many T) (hr.mono (by decide)) rfl T.g_how_many T.F_how_many.kp (bi_how_many T) .nil pass0 (pa_cons (pv 4) pa_nil)) (pe_call (ok_how_many T) (hr.mono (by decide)) rfl T.g_how_many T.F_how_many.kp (bi_how_many T) .nil pass0 (pa_cons (pe_call (ok_others T) (hr.mono (by decide)) rfl T.g_others T.F_others.kp (bi_others T) .nil pass0 (pa_cons (pv 4) pa_nil)) pa_nil))) pe_int (nomark _))))) (pss_one (ps_ret pe_bl)) pss_nil)
      (pss_cons (ps_if (pt_cmpR op_ne (pe_call (ok_how_many T) (hr.mono (by decide)) rfl T.g_how_many T.F_how_many.kp (bi_how_many T) .nil pass0 (pa_cons (pe_call (ok_union T) (hr.mono (by decide)) rfl T.g_union T.F_union.kp (bi_union T) .nil pass0 (pa_cons (pv 4) (pa_cons (pv 5) pa_nil))) pa_nil)) (pe_op op_sub (pe_op op_add (pe_call (ok_how_many T) (hr.mono (by decide)) rfl T.g_how_many T.F_how_many.kp (bi_how_many T) .nil pass0 (pa_cons (pv 4) pa_nil)) (pe_call (ok_how_many T) (hr.mono (by decide)) rfl T.g_how_many T.F_how_many.kp (bi_how_many T) .nil pass0 (pa_cons (pv 5) pa_nil))) (pe_call (ok_how_many T) (hr.mono (by decide)) rfl T.g_how_many T.F_how_many.kp (bi_how_many T) .nil pass0 (pa_cons (pe_call (ok_meet T) (hr.mono (by decide)) rfl T.g_meet T.F_meet.kp (bi_meet T) .nil pass0 (pa_cons (pv 4) (pa_cons (pv 5) pa_nil))) pa_nil))) (nomark _)) (pss_one (ps_ret pe_bl)) pss_nil)
      (pss_cons (ps_if (PW.pt (pw_or (pt_cmpR op_ne (pe_call (ok_is_part T) (hr.mono (by decide)) rfl T.g_is_part T.F_is_part.kp (bi_is_part T) .nil pass0 (pa_cons (pv 4) (pa_cons (pv 5) pa_nil))) (pe_cmpR (op_eqD hr.units) (pe_call (ok_meet T) (hr.mono (by decide)) rfl T.g_meet T.F_meet.kp (bi_meet T) .nil pass0 (pa_cons (pv 4) (pa_cons (pv 5) pa_nil))) (pv 4) (nomark _)) (nomark _)) (pw_or1 (pt_not (pt_val (pe_call (ok_is_part T) (hr.mono (by decide)) rfl T.g_is_part T.F_is_part.kp (bi_is_part T) .nil pass0 (pa_cons (pe_call (ok_meet T) (hr.mono (by decide)) rfl T.g_meet T.F_meet.kp (bi_meet T) .nil pass0 (pa_cons (pv 4) (pa_cons (pv 5) pa_nil))) (pa_cons (pv 5) pa_nil)))))))) (pss_one (ps_ret pe_bl)) pss_nil)
      (pss_cons (ps_set (i := 11) sc_law.nd rfl (by first | exact .inl rfl | exact .inr rfl) (pe_call (ok_breaks T) (hr.mono (by decide)) rfl T.g_breaks T.F_breaks.kp (bi_breaks T) .nil pass0 (pa_cons (pv 4) pa_nil)))
      (pss_cons (ps_if (PW.pt (pw_or (pt_cmpR (op_neD hr.units) (pv 11) (pe_callB cr_sortedI (by rfl) T.z_sorted (by decide +kernel) (pa_cons (pv 11) pa_nil)) (nomark _)) (pw_or1 (pt_cmpR op_ne (pe_callB call_len_seq (by rfl) T.z_len (by decide +kernel) (pa_cons (pv 11) pa_nil)) (pe_op op_mul pe_int (pe_callB call_len_seq (by rfl) T.z_len (by decide +kernel) (pa_cons (pv 4) pa_nil))) (nomark _))))) (pss_one (ps_ret pe_bl)) pss_nil)
      (pss_cons (ps_for PassesOwn.leaving rfl (pi_range1 (by rfl) T.z_range (pa_cons pe_int pa_nil)) (pg_name (i := 7) sc_law.nd rfl (by first | exact .inl rfl | exact .inr rfl))
      (pss_one (ps_if (pt_cmpR op_ne (pe_cmpR op_in_seq (pv 7) (pv 11) (by rfl)) (pe_cmpR op_ne (pe_call (ok_has T) (hr.mono (by decide)) rfl T.g_has T.F_has.kp (bi_has T) .nil pass0 (pa_cons (pv 4) (pa_cons (pv 7) pa_nil))) (pe_and (pe_cmpR op_gt (pv 7) pe_int (nomark _)) (pe_one (pe_call (ok_has T) (hr.mono (by decide)) rfl T.g_has T.F_has.kp (bi_has T) .nil pass0 (pa_cons (pv 4) (pa_cons (pe_op op_sub (pv 7) pe_int) pa_nil))))) (nomark _)) (nomark _)) (pss_one (ps_ret pe_bl)) pss_nil)))
      (pss_cons (ps_set (i := 12) sc_law.nd rfl (by first | exact .inl rfl | exact .inr rfl) (pe_call (ok__law_pick T) (hr.mono (by decide)) rfl T.g__law_pick T.F__law_pick.kp (bi__law_pick T) .nil pass0 (pa_cons (pv 1) (pa_cons (pe_lst (pa_cons (pe_tup (pa_cons pe_int (pa_cons pe_int pa_nil))) (pa_cons (pe_tup (pa_cons pe_int (pa_cons pe_int pa_nil))) (pa_cons (pe_tup (pa_cons (pe_un un_neg pe_int) (pa_cons pe_int pa_nil))) (pa_cons (pe_tup (pa_cons pe_int pa_nil)) (pa_cons (pe_lst (pa_cons pe_int (pa_cons pe_int pa_nil))) (pa_cons (pe_tup (pa_cons pe_bl (pa_cons pe_int pa_nil))) (pa_cons pe_non (pa_cons (pe_tup (pa_cons pe_str (pa_cons pe_int pa_nil))) pa_nil))))))))) pa_nil))))
      (pss_cons (L2N.ps_try_as (i := 13) (Wout := fun _ _ _ _ => False) rfl rfl sc_law.nd rfl rfl ⟨rfl, by decide, .inl T.x_BadSpans.cla⟩ takesN0
        (fun W pn xe tk _ => by exact (pss_cons (ps_expr (pe_callS (ok_normal (P := P) (w := w) T) (hr.mono (show 4 ≤ _ by decide)) rfl T.g_normal T.F_normal.kp (bi_normal T) (fun σ => L2N.passAt tk σ) (by exact (pa_cons (pe_op op_cat (pe_op op_cat (pv 2) (pe_lst (pa_cons (pv 12) pa_nil))) (pv 3)) pa_nil))))
      (pss_one (ps_ret pe_bl))))
        (fun a oe cls d pn hz hf => by exact (pss_one (ps_if (PW.pt (pw_or (pt_cmpR op_ne (pe_by_BadSpans T.x_BadSpans hz hf (pv 13)) (pe_callB (call_lenK (K := K)) (by rfl) T.z_len (by decide +kernel) (pa_cons (pv 2) pa_nil)) (nomark _)) (pw_or1 (pt_val (L2H.pe_callH (E := fun _ => E0) (okH_is_span T) ⟨(hr.mono (k_le)).dp, (hr.mono (k_le)).un⟩ (hotC_suite hz hf) rfl T.g_is_span T.F_is_span.kp (bi_is_span T) (fun _ => passH) (pa_cons (pv 12) pa_nil)))))) (pss_one (ps_ret pe_bl)) pss_nil))))
      (pss_cons (ps_setLc (i := 14) (own := [("name", 18)]) rfl sc_law.nd rfl rfl (sw_true rfl rfl rfl (by decide +kernel)) (pi_tup (pe_tup (pa_cons pe_str (pa_cons pe_str (pa_cons pe_str (pa_cons pe_str (pa_cons pe_str (pa_cons pe_str (pa_cons pe_str (pa_cons pe_str (pa_cons pe_non (pa_cons pe_int pa_nil)))))))))))) (blkOk_by (N := N_law) (sc := defScope s_law) (own := [("name", 18)]) (by decide +kernel)) (fun _ _ _ _ _ => by exact (pg_name (i := 18) sc_law.nd rfl (.inl rfl))) (fun _ _ _ _ _ => by exact (pts_one (pt_val (pe_call (ok_is_name (P := P) (w := w) T) (hr.mono (by decide)) rfl T.g_is_name T.F_is_name.kp (bi_is_name T) .nil pass0 (pa_cons (pv 18) pa_nil))))) (fun _ _ _ _ _ => by exact (pv 18)))
      (pss_one (ps_ret (pe_and (pe_cmpR (op_eqD hr.units) (pv 14) (pe_lst (pa_cons pe_str (pa_cons pe_str (pa_cons pe_str pa_nil)))) (nomark _)) (pe_one (pe_cmpR (op_eqD hr.units) (pe_lc (own := [("day", 7)]) rfl sc_law.nd (pi_tup (pe_tup (pa_cons pe_int (pa_cons pe_int (pa_cons pe_int (pa_cons (pe_un un_neg pe_int) (pa_cons pe_bl (pa_cons pe_str pa_nil)))))))) (blkOk_by (N := N_law) (sc := defScope s_law) (own := [("day", 7)]) (by decide +kernel)) (fun _ _ _ _ _ => by exact (pg_name (i := 7) sc_law.nd rfl (.inl rfl))) (fun _ _ _ _ _ => by exact (pts_one (pt_val (pe_call (ok_is_day (P := P) (w := w) T) (hr.mono (by decide)) rfl T.g_is_day T.F_is_day.kp (bi_is_day T) .nil pass0 (pa_cons (pv 7) pa_nil))))) (fun _ _ _ _ _ => by exact (pv 7))) (pe_lst (pa_cons pe_int (pa_cons pe_int pa_nil))) (nomark _))))))))))))))))))))), ?_⟩
  -- draw = [script, 0]
  refine ⟨_, rfl, (by show 2 ≤ sizeLine; decide), fun d nd => ?_⟩
  have s0 := same_upd (o := .lst [.ref a, .int 0]) nd
  have hD : Draw K (upd H d (.lst [.ref a, .int 0])) d a ns := ⟨⟨0, upd_same⟩, s0.seq hS, hz⟩
  generalize upd H d (.lst [.ref a, .int 0]) = H0 at hD
  -- first, second
  refine ⟨_, rfl, d, a, ns, rfl, hD, fun r1 us1 l1 H1 z1 n1 rd1 hr1 hp1 hv1 hl1 => ?_⟩
  refine ⟨_, rfl, d, a, ns, rfl, z1.1, fun r2 us2 l2 H2 z2 n2 rd2 hr2 hp2 hv2 hl2 => ⟨_, _, rfl, ?_⟩⟩
  obtain ⟨c1, hd1⟩ := z1.1.1
  have hr1' := z2.2 _ _ rd1 hr1
  have hp1' := Prs.keep hd1 z2.2 hp1
  -- one, other
  refine ⟨_, rfl, r1, us1, l1, rfl, .inl hr1', (by have := hp1.len; omega), hv1, .inl ⟨hp1', fun o1 fo1 H3 p1 ws1 s3 np1 hw1 hq1 => ?_⟩⟩
  refine ⟨_, rfl, r2, us2, l2, rfl, .inl (s3 _ _ hr2), (by have := hp2.len; omega), hv2, .inl ⟨hp2.mono s3, fun o2 fo2 H4 p2 ws2 s4 np2 hw2 hq2 => ⟨_, _, rfl, ?_⟩⟩⟩
  have B : Bs K H4 d a r1 r2 p1 p2 ns us1 us2 l1 l2 o1 o2 :=
    ⟨(z2.1.same s3).same s4, (s3.trans s4) _ _ hr1', hp1'.mono (s3.trans s4), (s3.trans s4) _ _ hr2, hp2.mono (s3.trans s4), RowT.mono s4 ⟨ws1, hw1, hq1⟩, ⟨ws2, hw2, hq2⟩⟩
  clear hD hr1 hp1 hr2 hp2 hr1' hp1' hw1 hq1 hw2 hq2 z1 z2 s3 s4
  obtain ⟨w1, k1, e1⟩ := fo1
  obtain ⟨w2, k2, e2⟩ := fo2
  have ul1 : us1.length = l1.length := B.q1.len
  have ul2 : us2.length = l2.length := B.q2.len
  -- if not _law_is_form(one) or normal(first[::-1] + first) != one or normal(one) != one
  refine ⟨_, rfl, p1, o1, rfl, B.t1, w1, (by omega), fun H5 s5 => ⟨_, rfl, iteF ?_⟩⟩
  have B := B.mono s5
  refine ⟨_, rfl, r1, us1, rfl, SqL.of B.f1, fun u nu => ?_⟩
  have s6 := same_upd (o := .lst us1.reverse) nu
  have B := B.mono s6
  refine ⟨_, rfl, u, r1, _, _, rfl, rfl, upd_same, B.f1, ofNat_le (by rw [List.length_reverse]; omega), fun v nv => ?_⟩
  have s7 := same_upd (o := .lst (us1.reverse ++ us1)) nv
  have B := B.mono s7
  refine ⟨v, _, l1.reverse ++ l1, rfl, .inl upd_same, (by rw [List.length_append, List.length_reverse]; omega), val_app (val_rev hv1) hv1, .inl ⟨B.q1.rev.app B.q1, fun o fo H6 p6 ws6 s8 np6 hp6 hq6 => ?_⟩⟩
  have B := B.mono s8
  refine ⟨_, rfl, dat o, dat o1, RowT.dat ⟨ws6, hp6, hq6⟩, B.t1.dat, dat_shaped _, dat_shaped _, _, rfl, ifNe (fo.1.uniq w1 fun e _ _ => by rw [fo.2.1 e, mem_rev, k1 e]) ?_⟩
  clear hp6 hq6 fo np6
  obtain ⟨wo, ho, hqo⟩ := B.t1
  refine ⟨_, rfl, p1, wo, o1, rfl, .inr ho, (by have := hqo.len; omega), w1.2, .inl ⟨hqo, fun o' fo H7 p7 ws7 s9 np7 hp7 hq7 => ?_⟩⟩
  have B := B.mono s9
  refine ⟨_, rfl, dat o', dat o1, RowT.dat ⟨ws7, hp7, hq7⟩, B.t1.dat, dat_shaped _, dat_shaped _, _, rfl, ifNe (fo.1.uniq w1 fun e _ _ => by rw [fo.2.1 e]) ?_⟩
  clear hp7 hq7 fo np7 ho hqo s5 s6 s7 s8 s9
  -- made
  refine ⟨_, rfl, _, rfl, p1, p2, o1, o2, rfl, B.t1, B.t2, w1, w2, (by omega), (by omega), fun m1 fm1 J1 u1 vs1 g1 nq1 hu1 hv1' => ?_⟩
  have B := B.mono g1
  refine ⟨_, rfl, _, rfl, p1, p2, o1, o2, rfl, B.t1, B.t2, w1, w2, (by omega), (by omega), fun m2 fm2 J2 u2 vs2 g2 nq2 hu2 hv2' => ?_⟩
  have B := B.mono g2
  refine ⟨_, rfl, _, rfl, p1, p2, o1, o2, rfl, B.t1, B.t2, w1, w2, (by omega), (by omega), fun m3 fm3 J3 u3 vs3 g3 nq3 hu3 hv3' => ?_⟩
  have B := B.mono g3
  refine ⟨_, rfl, p1, o1, rfl, B.t1, w1, (by omega), fun m4 fm4 km4 em4 J4 u4 vs4 g4 nq4 hu4 hv4' => ?_⟩
  have B := B.mono g4
  refine ⟨_, rfl, _, rfl, p1, p2, o1, o2, rfl, B.t1, B.t2, w1, w2, (by omega), (by omega), fun m5 fm5 J5 u5 vs5 g5 nq5 hu5 hv5' => ?_⟩
  have B := B.mono g5
  obtain ⟨fm1, km1, em1⟩ := fm1
  obtain ⟨fm2, km2, em2⟩ := fm2
  obtain ⟨fm3, km3, em3⟩ := fm3
  obtain ⟨fm5, km5, em5⟩ := fm5
  have M : Rws J5 [.ref u1, .ref u2, .ref u3, .ref u4, .ref u5] [m1, m2, m3, m4, m5] :=
    .cons (RowT.mono (((g2.trans g3).trans g4).trans g5) ⟨vs1, hu1, hv1'⟩) fm1 (by omega) (.cons (RowT.mono ((g3.trans g4).trans g5) ⟨vs2, hu2, hv2'⟩) fm2 (by omega) (.cons (RowT.mono (g4.trans g5) ⟨vs3, hu3, hv3'⟩) fm3 (by omega)
      (.cons (RowT.mono g5 ⟨vs4, hu4, hv4'⟩) fm4 (by omega) (.cons ⟨vs5, hu5, hv5'⟩ fm5 (by omega) .nil))))
  clear hu1 hv1' hu2 hv2' hu3 hv3' hu4 hv4' hu5 hv5' g1 g2 g3 g4 g5
  refine ⟨(by show 5 ≤ sizeLine; decide), fun m nm => ?_⟩
  have sm := same_upd (o := .tup [.ref u1, .ref u2, .ref u3, .ref u4, .ref u5]) nm
  have B := B.mono sm
  have M := M.mono sm
  have hm : upd J5 m (.tup [.ref u1, .ref u2, .ref u3, .ref u4, .ref u5]) m = some (.tup [.ref u1, .ref u2, .ref u3, .ref u4, .ref u5]) := upd_same
  generalize upd J5 m (.tup [.ref u1, .ref u2, .ref u3, .ref u4, .ref u5]) = J6 at B M hm
  -- for day in _law_days() + [500000]
  refine ⟨rfl, fun dr J7 s7 nd7 hd7 => ⟨(by show 1 ≤ sizeLine; decide), fun e1' ne1 => ?_⟩⟩
  have s8 := same_upd (o := .lst [.int 500000]) ne1
  refine ⟨dr, e1', _, _, rfl, rfl, s8 _ _ hd7, upd_same, ofNat_le (by rw [List.length_map]; decide), fun g ng => ?_⟩
  have s9 := same_upd (o := .lst (daysL.map V.int ++ [.int 500000])) ng
  have B := B.mono ((s7.trans s8).trans s9)
  have M := M.mono ((s7.trans s8).trans s9)
  have hm := ((s7.trans s8).trans s9) _ _ hm
  have hg : upd (upd J7 e1' (.lst [.int 500000])) g (.lst (daysL.map V.int ++ [.int 500000])) g = some (.lst (daysM.map V.int)) := upd_same
  generalize upd (upd J7 e1' (.lst [.int 500000])) g (.lst (daysL.map V.int ++ [.int 500000])) = J8 at B M hm hg
  clear s7 s8 s9
  refine ⟨g, rfl, ⟨_, SqL.of hg⟩, for_list (xs := daysM.map V.int) (fun i σ H9 => ∃ (y7 y8 y9 y10 : Option V), σ = [some (.ref a), some (.ref d), some (.ref r1), some (.ref r2), some (.ref p1), some (.ref p2), some (.ref m), y7, y8, y9, y10, none, none, none, none, none, none, none, none] ∧ Same J8 H9)
    ⟨none, none, none, none, rfl, Same.refl _⟩ (fun i σ H9 _ ⟨_, _, _, _, _, s⟩ => SqL.of (s _ _ hg)) ?_ ?_⟩
  · rintro i x σ H9 hx ⟨y7, y8, y9, y10, rfl, s⟩
    obtain ⟨dd, hdd, rfl⟩ : ∃ dd, dd ∈ daysM ∧ x = V.int dd := by
      rw [List.getElem?_map] at hx
      cases e : daysM[i]? with
      | none =>
        rw [e] at hx
        cases hx
      | some dd =>
        rw [e] at hx
        exact ⟨dd, List.mem_of_getElem? e, (Option.some.inj hx).symm⟩
    obtain ⟨dd0, dd1⟩ := daysM_in dd hdd
    have B := B.mono s
    have M := M.mono s
    have hm := s _ _ hm
    refine read_any (l := l1) rfl B.f1 B.q1 (by omega) fun K1 t1 => ?_
    have B := B.mono t1
    refine read_any (l := l2) rfl B.f2 B.q2 (by omega) fun K2 t2 => ⟨_, _, rfl, ?_⟩
    have B := B.mono t2
    refine seq_asg (read_due (b := decide (Mem l1 dd)) (c := decide (Mem l2 dd)) (fun t nt => ?_) ?h8 ?h9)
    case h8 => rfl
    case h9 => rfl
    have t3 := same_upd (o := .tup ([decide (Mem l1 dd) || decide (Mem l2 dd), decide (Mem l1 dd) && decide (Mem l2 dd), decide (Mem l1 dd) && !decide (Mem l2 dd), !decide (Mem l1 dd), decide (Mem l1 dd) != decide (Mem l2 dd)].map V.bl)) nt
    have B := B.mono t3
    have M := M.mono ((t1.trans t2).trans t3)
    have hm := ((t1.trans t2).trans t3) _ _ hm
    refine ⟨_, rfl, _, rfl, p1, o1, dd, 0, rfl, B.t1, w1.1, (by omega), _, rfl, rfl, _, rfl, ifNeV (congrArg V.bl (decide_eq_decide.mpr (k1 dd))) ?_⟩
    have ebs : ([m1, m2, m3, m4, m5].map fun r => decide (Mem r dd)) = [decide (Mem l1 dd) || decide (Mem l2 dd), decide (Mem l1 dd) && decide (Mem l2 dd), decide (Mem l1 dd) && !decide (Mem l2 dd), !decide (Mem l1 dd), decide (Mem l1 dd) != decide (Mem l2 dd)] := by
      by_cases h1 : Mem l1 dd <;> by_cases h2 : Mem l2 dd <;> simp only [List.map, km1, km2, km3, km4, km5, k1, k2, h1, h2, dd0, dd1, true_and, and_true, and_false, false_and, or_true, true_or, or_false, false_or, not_true_eq_false, not_false_eq_true, decide_true, decide_false, and_self, or_self] <;> rfl
    have ht : upd K2 t (.tup ([decide (Mem l1 dd) || decide (Mem l2 dd), decide (Mem l1 dd) && decide (Mem l2 dd), decide (Mem l1 dd) && !decide (Mem l2 dd), !decide (Mem l1 dd), decide (Mem l1 dd) != decide (Mem l2 dd)].map V.bl)) t = some (.tup ([decide (Mem l1 dd) || decide (Mem l2 dd), decide (Mem l1 dd) && decide (Mem l2 dd), decide (Mem l1 dd) && !decide (Mem l2 dd), !decide (Mem l1 dd), decide (Mem l1 dd) != decide (Mem l2 dd)].map V.bl)) := upd_same
    have t123 := (t1.trans t2).trans t3
    clear t1 t2 t3
    generalize upd K2 t (.tup ([decide (Mem l1 dd) || decide (Mem l2 dd), decide (Mem l1 dd) && decide (Mem l2 dd), decide (Mem l1 dd) && !decide (Mem l2 dd), !decide (Mem l1 dd), decide (Mem l1 dd) != decide (Mem l2 dd)].map V.bl)) = K3 at B M hm ht t123
    refine ⟨_, rfl, m, rfl, ⟨_, SqT.of hm⟩, fun D nD => ?_⟩
    refine lc_tup (xs := [.ref u1, .ref u2, .ref u3, .ref u4, .ref u5]) (fun i H1 => Same K3 H1 ∧ H1 D = some (.lst ((([m1, m2, m3, m4, m5].take i).map fun r => decide (Mem r dd)).map V.bl))) ⟨same_upd nD, by rw [upd_same]; rfl⟩ (fun i H1 _ h => SqT.of (h.1 _ _ hm)) ?_ ?_
    · rintro i x H1 hx ⟨s2, hD⟩
      obtain ⟨u, l, rfl, hl, ht', hr', hz'⟩ := M.get hx
      have hi : i < 5 := (List.getElem?_eq_some_iff.mp hx).1
      refine ⟨rfl, _, rfl, _, rfl, u, l, dd, 0, rfl, ht'.mono s2, hr'.1, (by omega), _, hD, ofNat_lt ?_, same_at s2 nD, ?_⟩
      · rw [List.length_map, List.length_map, List.length_take]
        omega
      · rw [upd_same, List.take_add_one, hl, List.map_append, List.map_append]
        rfl
    · rintro H1 ⟨s2, hD⟩
      rw [show List.take [V.ref u1, .ref u2, .ref u3, .ref u4, .ref u5].length [m1, m2, m3, m4, m5] = [m1, m2, m3, m4, m5] from rfl, ebs] at hD
      refine ⟨D, _, rfl, .inl ⟨SqL.of hD, fun t2 nt2 => ?_⟩⟩
      have s3 := same_upd (o := .tup ([decide (Mem l1 dd) || decide (Mem l2 dd), decide (Mem l1 dd) && decide (Mem l2 dd), decide (Mem l1 dd) && !decide (Mem l2 dd), !decide (Mem l1 dd), decide (Mem l1 dd) != decide (Mem l2 dd)].map V.bl)) nt2
      refine ⟨_, rfl, .tuple (_root_.List.map PyData.bool _), .tuple (_root_.List.map PyData.bool _), .tup (SqT.of upd_same) (bls_dp _), .tup (SqT.of ((s2.trans s3) _ _ ht)) (bls_dp _), bls_shaped _, bls_shaped _, _, rfl, ifNeD (bls_eqv _) ?_⟩
      exact ⟨_, _, _, _, rfl, (s.trans t123).trans (s2.trans s3)⟩
  rintro σ H9 ⟨y7, y8, y9, y10, rfl, s9⟩
  have B := B.mono s9
  have M := M.mono s9
  have hm := s9 _ _ hm
  clear s9
  -- if not all([_law_is_form(row) for row in made]) or how_many(one) + how_many(others(one)) != 1000000
  refine ⟨_, rfl, m, rfl, ⟨_, SqT.of hm⟩, fun D nD => ?_⟩
  refine lc_tup (xs := [.ref u1, .ref u2, .ref u3, .ref u4, .ref u5]) (fun i H1 => Same H9 H1 ∧ H1 D = some (.lst ((List.replicate i true).map V.bl))) ⟨same_upd nD, upd_same⟩ (fun i H1 _ h => SqT.of (h.1 _ _ hm)) ?_ ?_
  · rintro i x H1 hx ⟨s2, hD⟩
    obtain ⟨u, l, rfl, hl, ht', hr', hz'⟩ := M.get hx
    have hi : i < 5 := (List.getElem?_eq_some_iff.mp hx).1
    refine ⟨rfl, _, rfl, u, l, rfl, ht'.mono s2, hr', (by omega), fun H2 s3 => ⟨_, s3 _ _ hD, ofNat_lt ?_, same_at (s2.trans s3) nD, ?_⟩⟩
    · rw [List.length_map, List.length_replicate]
      omega
    · rw [upd_same, List.replicate_succ', List.map_append]
      rfl
  rintro K1 ⟨s2, hD⟩
  have B := B.mono s2
  refine ⟨D, _, rfl, SqL.of hD, _, rfl, iteF ?_⟩
  clear hD s2 nD M hm
  refine ⟨_, rfl, p1, o1, rfl, B.t1, (by omega), fun K2 t2 => ?_⟩
  have B := B.mono t2
  refine ⟨_, rfl, p1, o1, rfl, B.t1, w1, (by omega), fun ra fr kr er K3 pu vs t3 np h1 h2 => ?_⟩
  have B := B.mono t3
  refine ⟨pu, ra, rfl, ⟨vs, h1, h2⟩, (by omega), fun K4 t4 => ⟨_, _, rfl, rfl, rfl, _, rfl, ifNeV (congrArg V.int (card_others w1 fr kr)) ?_⟩⟩
  have B := B.mono t4
  clear h1 h2 t2 t3 t4
  -- how_many of the union
  refine ⟨_, rfl, _, rfl, p1, p2, o1, o2, rfl, B.t1, B.t2, w1, w2, (by omega), (by omega), fun x ⟨fx, kx, ex⟩ K5 pu vs t5 np h1 h2 => ?_⟩
  have B := B.mono t5
  refine ⟨pu, x, rfl, ⟨vs, h1, h2⟩, (by omega), fun K6 t6 => ?_⟩
  have B := B.mono t6
  refine ⟨_, rfl, p1, o1, rfl, B.t1, (by omega), fun K7 t7 => ?_⟩
  have B := B.mono t7
  refine ⟨_, rfl, p2, o2, rfl, B.t2, (by omega), fun K8 t8 => ⟨_, _, rfl, rfl, ?_⟩⟩
  have B := B.mono t8
  refine ⟨_, rfl, _, rfl, p1, p2, o1, o2, rfl, B.t1, B.t2, w1, w2, (by omega), (by omega), fun y ⟨fy, ky, ey⟩ K9 pu vs t9 np h1 h2 => ?_⟩
  have B := B.mono t9
  refine ⟨pu, y, rfl, ⟨vs, h1, h2⟩, (by omega), fun K10 t10 => ⟨_, _, rfl, rfl, rfl, _, rfl, ifNeV (congrArg V.int (card_union w1 w2 fx fy kx ky)) ?_⟩⟩
  have B := B.mono t10
  clear h1 h2 t5 t6 t7 t8 t9 t10
  -- is_part
  refine ⟨_, rfl, _, rfl, p1, p2, o1, o2, rfl, B.t1, B.t2, w1, w2, (by omega), (by omega), fun k K11 t1 hk => ?_⟩
  have B := B.mono t1
  refine ⟨_, rfl, _, rfl, p1, p2, o1, o2, rfl, B.t1, B.t2, w1, w2, (by omega), (by omega), fun y ⟨fy, ky, ey⟩ K12 pu vs t2 np h1 h2 => ?_⟩
  have B := B.mono t2
  have ek : V.bl k = V.bl (PyData.eqv (dat y) (dat o1)) := congrArg V.bl (by
    rw [dat_eqv, Bool.eq_iff_iff, hk, decide_eq_true_eq]
    constructor
    · intro h
      exact fy.uniq w1 fun e _ _ => by
        rw [ky e]
        exact ⟨fun z => z.1, fun z => ⟨z, h e z⟩⟩
    · intro h e he
      rw [← h] at he
      exact ((ky e).mp he).2)
  refine ⟨_, rfl, dat y, dat o1, RowT.dat ⟨vs, h1, h2⟩, B.t1.dat, dat_shaped _, dat_shaped _, rfl, _, rfl, ifNeV ek ?_⟩
  refine ⟨_, rfl, _, rfl, p1, p2, o1, o2, rfl, B.t1, B.t2, w1, w2, (by omega), (by omega), fun y' ⟨fy', ky', ey'⟩ K13 pu' vs' t3 np' h1' h2' => ?_⟩
  have B := B.mono t3
  refine ⟨_, rfl, pu', p2, y', o2, rfl, ⟨vs', h1', h2'⟩, B.t2, fy', w2, (by omega), (by omega), fun k' K14 t4 hk' => ⟨_, rfl, ifN (b := !k') (by rw [hk'.mpr fun e he => ((ky' e).mp he).2]; rfl) ?_⟩⟩
  have B := B.mono t4
  clear h1 h2 h1' h2' t1 t2 t3 t4
  -- marks
  refine ⟨_, rfl, p1, o1, rfl, B.t1, (by omega), fun K15 mk t5 nmk hmk => ?_⟩
  have B := B.mono t5
  refine ⟨_, rfl, _, rfl, mk, _, rfl, SqL.of hmk, fun ns' sp pm pw nsp => ?_⟩
  have ens : ns' = brk o1 := pm.eq_of_pairwise (fun x y _ _ h1 h2 => Int.le_antisymm h1 h2) pw (brk_asc w1.1)
  subst ens
  have t6 := same_upd (o := .lst ((brk o1).map V.int)) nsp
  have B := B.mono t6
  have hmk := t6 _ _ hmk
  refine ⟨.list ((brk o1).map PyData.int), .list ((brk o1).map PyData.int), .lst (SqL.of hmk) (ints_dp _), .lst (SqL.of upd_same) (ints_dp _), ints_shaped _, ints_shaped _, _, rfl, ifNeD (ints_eqv _) ?_⟩
  generalize upd K15 sp (.lst ((brk o1).map V.int)) = K16 at B hmk
  obtain ⟨wo, ho, hqo⟩ := B.t1
  refine ⟨_, rfl, mk, _, rfl, .inl (SqL.of hmk), _, rfl, p1, wo, rfl, .inr (SqT.of ho), _, _, rfl, rfl, .inl ⟨by decide, by decide⟩, rfl, _, rfl, ifNeV (congrArg V.int ?_) ?_⟩
  · rw [List.length_map, brk_len, hqo.len]
    omega
  clear ho hqo t5 t6
  -- for day in range(12)
  refine ⟨12, rfl, by decide, by decide, for_range (n := 12) (fun i σ H9 => ∃ (y7 : Option V), σ = [some (.ref a), some (.ref d), some (.ref r1), some (.ref r2), some (.ref p1), some (.ref p2), some (.ref m), y7, y8, y9, y10, some (.ref mk), none, none, none, none, none, none, none] ∧ Same K16 H9)
    ⟨_, rfl, Same.refl _⟩ ?_ ?_⟩
  · rintro i σ H9 hi ⟨y7, rfl, s⟩
    have B := B.mono s
    refine ⟨_, rfl, _, rfl, mk, _, rfl, .inl (SqL.of (s _ _ hmk)), rfl, flat_ints _, ?_⟩
    refine ⟨_, rfl, _, rfl, p1, o1, _, 0, rfl, B.t1, w1.1, (by omega), ?_⟩
    refine ⟨_, rfl, _, _, rfl, rfl, _, rfl, ?_⟩
    have key := brk_mem w1.1 (0 + (i : Int))
    by_cases c : 0 < (0 : Int) + (i : Int)
    · refine ifT c ⟨_, rfl, _, rfl, _, _, rfl, rfl, p1, o1, _, 0, rfl, B.t1, w1.1, (by omega), rfl, rfl, _, rfl, ifNeV (congrArg V.bl ?_) ?_⟩
      · rw [if_neg Bool.false_ne_true, inV_ints, Bool.eq_iff_iff, decide_eq_true_eq, key]
        generalize (0 : Int) + (i : Int) = e
        by_cases g1 : Mem o1 e <;> by_cases g2 : Mem o1 (e - 1) <;> simp [g1, g2]
      · exact ⟨_, rfl, s⟩
    · refine ifF c ⟨rfl, rfl, _, rfl, ifNeV (congrArg V.bl ?_) ?_⟩
      · rw [if_neg Bool.false_ne_true, inV_ints, Bool.eq_iff_iff, decide_eq_true_eq, key]
        generalize (0 : Int) + (i : Int) = e at c ⊢
        have g2 : ¬ Mem o1 (e - 1) := fun z => by
          have := (w1.2.mem z).1
          omega
        by_cases g1 : Mem o1 e <;> simp [g1, g2]
      · exact ⟨_, rfl, s⟩
  rintro σ G0 ⟨y7', rfl, s⟩
  have B := B.mono s
  clear s hmk
  -- wrong
  have h2 : 2 ≤ sizeLine := by decide
  have h1 : 1 ≤ sizeLine := by decide
  obtain ⟨cD, hDd⟩ := B.dr.1
  refine ⟨_, rfl, h2, fun a1 n1 => ⟨h2, fun a2 n2 => ⟨_, rfl, h2, fun a3 n3 => ⟨h1, fun a4 n4 => ⟨h2, fun a5 n5 => ⟨h2, fun a6 n6 => ⟨h2, fun a7 n7 => ⟨(by show 8 ≤ sizeLine; decide), fun li nli => ?_⟩⟩⟩⟩⟩⟩⟩⟩
  have v1 := same_upd (o := .tup [.int 3, .int 2]) n1
  have v2 := same_upd (o := .tup [.int 0, .int 1000000]) n2
  have v3 := same_upd (o := .tup [.int (-1), .int 4]) n3
  have v4 := same_upd (o := .tup [.int 1]) n4
  have v5 := same_upd (o := .lst [.int 1, .int 2]) n5
  have v6 := same_upd (o := .tup [.bl true, .int 2]) n6
  have v7 := same_upd (o := .tup [.str "a", .int 2]) n7
  have v8 := same_upd (o := .lst [.ref a1, .ref a2, .ref a3, .ref a4, .ref a5, .ref a6, .non, .ref a7]) nli
  have y8 := v8
  have y7 := v7.trans y8
  have y6 := v6.trans y7
  have y5 := v5.trans y6
  have y4 := v4.trans y5
  have y3 := v3.trans y4
  have y2 := v2.trans y3
  have y1 := v1.trans y2
  have b1 := y2 _ _ upd_same
  have b2 := y3 _ _ upd_same
  have b3 := y4 _ _ upd_same
  have b4 := y5 _ _ upd_same
  have b5 := y6 _ _ upd_same
  have b6 := y7 _ _ upd_same
  have b7 := y8 _ _ upd_same
  have x1 := ne_of_none hDd n1
  have x2 := ne_of_none (v1 _ _ hDd) n2
  have x3 := ne_of_none ((v1.trans v2) _ _ hDd) n3
  have x4 := ne_of_none (((v1.trans v2).trans v3) _ _ hDd) n4
  have x5 := ne_of_none ((((v1.trans v2).trans v3).trans v4) _ _ hDd) n5
  have x6 := ne_of_none (((((v1.trans v2).trans v3).trans v4).trans v5) _ _ hDd) n6
  have x7 := ne_of_none ((((((v1.trans v2).trans v3).trans v4).trans v5).trans v6) _ _ hDd) n7
  have x8 := ne_of_none (((((((v1.trans v2).trans v3).trans v4).trans v5).trans v6).trans v7) _ _ hDd) nli
  have B := B.mono y1
  have bl := upd_same (H := upd (upd (upd (upd (upd (upd (upd G0 a1 (.tup [.int 3, .int 2])) a2 (.tup [.int 0, .int 1000000])) a3 (.tup [.int (-1), .int 4])) a4 (.tup [.int 1])) a5 (.lst [.int 1, .int 2])) a6 (.tup [.bl true, .int 2])) a7 (.tup [.str "a", .int 2])) (a := li) (o := .lst [.ref a1, .ref a2, .ref a3, .ref a4, .ref a5, .ref a6, .non, .ref a7])
  clear v1 v2 v3 v4 v5 v6 v7 v8 y1 y2 y3 y4 y5 y6 y7 y8
  generalize upd (upd (upd (upd (upd (upd (upd (upd G0 a1 (.tup [.int 3, .int 2])) a2 (.tup [.int 0, .int 1000000])) a3 (.tup [.int (-1), .int 4])) a4 (.tup [.int 1])) a5 (.lst [.int 1, .int 2])) a6 (.tup [.bl true, .int 2])) a7 (.tup [.str "a", .int 2])) li (.lst [.ref a1, .ref a2, .ref a3, .ref a4, .ref a5, .ref a6, .non, .ref a7]) = G1 at B b1 b2 b3 b4 b5 b6 b7 bl
  refine ⟨d, a, li, ns, _, rfl, B.dr, Ne.symm x8, bl, (by intro z; cases z), fun x G2 hx z => ?_⟩
  have nx : ∀ {b : Addr}, d ≠ b → V.ref b ≠ V.ref d := fun h e => h (V.ref.inj e).symm
  have hw : NoSpan G2 x ∧ x ≠ .ref d := by
    have e : x = .ref a1 ∨ x = .ref a2 ∨ x = .ref a3 ∨ x = .ref a4 ∨ x = .ref a5 ∨ x = .ref a6 ∨ x = .non ∨ x = .ref a7 := by
      simpa only [List.mem_cons, List.not_mem_nil, or_false] using hx
    rcases e with rfl | rfl | rfl | rfl | rfl | rfl | rfl | rfl
    · exact ⟨NoSpan.keep (nx x1) z.2 (.inr (.inr ⟨_, rfl, .inl b1⟩)), nx x1⟩
    · exact ⟨NoSpan.keep (nx x2) z.2 (.inr (.inr ⟨_, rfl, .inr (.inl b2)⟩)), nx x2⟩
    · exact ⟨NoSpan.keep (nx x3) z.2 (.inr (.inr ⟨_, rfl, .inr (.inr (.inl b3))⟩)), nx x3⟩
    · exact ⟨NoSpan.keep (nx x4) z.2 (.inr (.inr ⟨_, rfl, .inr (.inr (.inr (.inl b4)))⟩)), nx x4⟩
    · exact ⟨NoSpan.keep (nx x5) z.2 (.inr (.inl ⟨_, _, rfl, b5⟩)), nx x5⟩
    · exact ⟨NoSpan.keep (nx x6) z.2 (.inr (.inr ⟨_, rfl, .inr (.inr (.inr (.inr (.inl b6))))⟩)), nx x6⟩
    · exact ⟨.inl rfl, fun z => nomatch z⟩
    · exact ⟨NoSpan.keep (nx x7) z.2 (.inr (.inr ⟨_, rfl, .inr (.inr (.inr (.inr (.inr b7))))⟩)), nx x7⟩
  clear b1 b2 b3 b4 b5 b6 b7 bl x1 x2 x3 x4 x5 x6 x7 x8 hx n1 n2 n3 n4 n5 n6 n7 nli
  obtain ⟨hw, hwd⟩ := hw
  obtain ⟨cD1, hDd1⟩ := B.dr.1
  have hf1 := z.2 _ _ rd1 B.f1
  have hf2 := z.2 _ _ rd2 B.f2
  have hq1 := Prs.keep hDd1 z.2 B.q1
  have hq2 := Prs.keep hDd1 z.2 B.q2
  -- try
  refine ⟨_, rfl, _, rfl, h1, fun e ne => ?_⟩
  have t1 := same_upd (o := .lst [x]) ne
  refine ⟨r1, e, _, _, rfl, rfl, t1 _ _ hf1, upd_same, ofNat_le (by simp only [List.length_cons, List.length_nil]; omega), fun f nf => ?_⟩
  have t2 := same_upd (o := .lst (us1 ++ [x])) nf
  refine ⟨_, rfl, f, r2, _, _, rfl, rfl, upd_same, (t1.trans t2) _ _ hf2, ofNat_le (by simp only [List.length_append, List.length_cons, List.length_nil]; omega), fun g' ng' => ?_⟩
  have t3 := same_upd (o := .lst (us1 ++ [x] ++ us2)) ng'
  have t := (t1.trans t2).trans t3
  refine ⟨g', _, l1, rfl, .inl upd_same, (by simp only [List.length_append, List.length_cons, List.length_nil]; omega), hv1, .inr ⟨us1, x, us2, (by rw [List.append_assoc]; rfl), hq1.mono t, (hw.span).mono t, fun dx G3 s3 nx3 hdx => ?_⟩⟩
  refine ⟨true, T.x_BadSpans.exm, fun _ a' na' => ?_, fun z => nomatch z⟩
  have t' := t.trans s3
  refine ⟨_, rfl, rfl, rfl, dx, _, rfl, hdx, _, rfl, r1, us1, rfl, .inl (SqL.of (t' _ _ hf1)), rfl, _, rfl, ifNeV (congrArg V.int (by rw [ul1])) ?_⟩
  refine ⟨_, rfl, x, false, rfl, (hw.span).mono t', _, rfl, iteF ?_⟩
  -- names
  refine ⟨(by show 10 ≤ sizeLine; decide), fun tn ntn => ⟨tn, rfl, ⟨_, SqT.of upd_same⟩, fun D nD => ?_⟩⟩
  refine lc_tup (xs := namesV) (fun i H1 => Same G3 H1 ∧ H1 tn = some (.tup namesV) ∧ H1 D = some (.lst ((namesV.take i).filter isN))) ⟨(same_upd ntn).trans (same_upd nD), same_upd nD _ _ upd_same, upd_same⟩ (fun i H1 _ h => SqT.of h.2.1) ?_ ?_
  · rintro i x H1 hx ⟨s2, ht, hD⟩
    have hin := namesV_in (H := H1) x (List.mem_of_getElem? hx)
    have hi : i < 10 := (List.getElem?_eq_some_iff.mp hx).1
    have hl : ((namesV.take i).filter isN).length < sizeLine := ofNat_lt (by
      have h1 := List.length_filter_le isN (namesV.take i)
      rw [List.length_take] at h1
      omega)
    refine ⟨rfl, _, rfl, x, rfl, hin.1, hin.2, fun H2 s4 => ⟨_, rfl, ?_⟩⟩
    cases e : isN x with
    | true =>
      refine iteT ⟨_, rfl, _, s4 _ _ hD, hl, same_at (s2.trans s4) (((same_upd ntn).free nD)), ?_, ?_⟩
      · rw [upd_ne (ne_of_none (upd_same (H := G3)) nD)]
        exact s4 _ _ ht
      · rw [upd_same, List.take_add_one, hx, List.filter_append]
        show _ = some (HO.lst (_ ++ List.filter isN [x]))
        rw [List.filter_cons_of_pos e]
        rfl
    | false =>
      refine iteF ⟨s2.trans s4, s4 _ _ ht, ?_⟩
      rw [s4 _ _ hD, List.take_add_one, hx, List.filter_append]
      show _ = some (HO.lst (_ ++ List.filter isN [x]))
      rw [List.filter_cons_of_neg (by rw [e]; exact Bool.false_ne_true), List.filter_nil, List.append_nil]
  rintro H1 ⟨s2, ht, hD⟩
  rw [List.take_length, namesV_fil] at hD
  refine ⟨_, rfl, (by show 3 ≤ sizeLine; decide), fun t4 nt4 => ?_⟩
  have s5 := same_upd (o := .lst [.str "a", .str "z9", .str "abcdefgh"]) nt4
  refine ⟨.list [.str "a", .str "z9", .str "abcdefgh"], .list [.str "a", .str "z9", .str "abcdefgh"], .lst (SqL.of (s5 _ _ hD)) (.cons (.str _) (.cons (.str _) (.cons (.str _) .nil))), .lst (SqL.of upd_same) (.cons (.str _) (.cons (.str _) (.cons (.str _) .nil))), by decide +kernel, by decide +kernel, _, rfl, ifB (by decide +kernel) ?_⟩
  refine ⟨_, rfl, (by show 6 ≤ sizeLine; decide), fun tw ntw => ⟨tw, rfl, ⟨_, SqT.of upd_same⟩, fun D2 nD2 => ?_⟩⟩
  generalize upd H1 t4 (.lst [.str "a", .str "z9", .str "abcdefgh"]) = G5 at ntw nD2
  refine lc_tup (xs := wrongV) (fun i H1 => H1 tw = some (.tup wrongV) ∧ H1 D2 = some (.lst ((wrongV.take i).filter isD))) ⟨same_upd nD2 _ _ upd_same, upd_same⟩ (fun i H1 _ h => SqT.of h.1) ?_ ?_
  · rintro i x H1 hx ⟨ht, hD⟩
    have hi : i < 6 := (List.getElem?_eq_some_iff.mp hx).1
    have hl : ((wrongV.take i).filter isD).length < sizeLine := ofNat_lt (by
      have h1 := List.length_filter_le isD (wrongV.take i)
      rw [List.length_take] at h1
      omega)
    refine ⟨rfl, _, rfl, x, rfl, wrongV_in x (List.mem_of_getElem? hx), _, rfl, ?_⟩
    cases e : isD x with
    | true =>
      refine iteT ⟨_, rfl, _, hD, hl, ?_, ?_⟩
      · rw [upd_ne (ne_of_none (upd_same (H := G5)) nD2)]
        exact ht
      · rw [upd_same, List.take_add_one, hx, List.filter_append]
        show _ = some (HO.lst (_ ++ List.filter isD [x]))
        rw [List.filter_cons_of_pos e]
        rfl
    | false =>
      refine iteF ⟨ht, ?_⟩
      rw [hD, List.take_add_one, hx, List.filter_append]
      show _ = some (HO.lst (_ ++ List.filter isD [x]))
      rw [List.filter_cons_of_neg (by rw [e]; exact Bool.false_ne_true), List.filter_nil, List.append_nil]
  rintro H1 ⟨ht, hD⟩
  rw [List.take_length, wrongV_fil] at hD
  refine ⟨(by show 2 ≤ sizeLine; decide), fun t5 nt5 => ?_⟩
  have s6 := same_upd (o := .lst [.int 0, .int 999999]) nt5
  refine ⟨.list [.int 0, .int 999999], .list [.int 0, .int 999999], .lst (SqL.of (s6 _ _ hD)) (.cons (.int _) (.cons (.int _) .nil)), .lst (SqL.of upd_same) (.cons (.int _) (.cons (.int _) .nil)), by decide +kernel, by decide +kernel, ?_⟩
  exact q _
end
end Yj
set_option Elab.async false
set_option linter.all false
set_option maxRecDepth 100000
set_option maxHeartbeats 4000000
set_option pp.maxSteps 1500
namespace Yj
open PySem PySem.Spec PyProof.Rows L2
theorem no_exc {P : Program} {w : World} {outer : List Env} {H : Hp} {s s' : Shared} {e : Value} (h : L2N.CX P w outer H s (fun _ _ _ => False) e s') : False := by
  obtain ⟨_, _, _, _, _, _, _, _, _, _, _, _, z⟩ := h
  exact z
theorem dict_of {K : PySem.W.Frag} {C : Addr} (h : PySem.W.hasDictIn K C = true) : ∃ cd, PySem.W.clsIn K C = some cd ∧ cd.hasDict = true := by
  unfold PySem.W.hasDictIn at h
  cases e : PySem.W.clsIn K C with
  | none =>
    rw [e] at h
    cases h
  | some cd =>
    rw [e] at h
    exact ⟨cd, rfl, h⟩
/-- an error of the class at S is what «except S» names -/
theorem exm_own {K : PySem.W.Frag} {S : Addr} (h1 : PySem.W.subIn K (.ref S) (.type "BaseException") = some true) (h2 : PySem.W.isClsIn K S = true) (h3 : PySem.W.typeIn K (.ref S) = some (.type "type")) (h4 : PySem.W.subIn K (.ref S) (.ref S) = some true) : PySem.W.exmOne K (.ref S) (.ref S) = some true := by
  have e1 : (PySem.W.subIn K (.ref S) (.type "BaseException") == some true) = true := by rw [h1]; rfl
  have h2' : (PySem.W.clsIn K S).isSome = true := h2
  have e2 : ((PySem.W.clsIn K S).isSome && PySem.W.typeIn K (.ref S) == some (.type "type")) = true := by rw [h2', h3]; rfl
  unfold PySem.W.exmOne
  rw [if_pos e1]
  unfold PySem.W.kitCls
  dsimp only
  rw [if_pos e2]
  exact h4
theorem kit_self {K : PySem.W.Frag} {C : Addr} : PySem.W.kitOne K (.ref C) (.ref C) = some true := by
  unfold PySem.W.kitOne
  rw [if_pos (by simp)]
theorem kit_not {K : PySem.W.Frag} {C : Addr} (h2 : PySem.W.isClsIn K C = true) (h3 : PySem.W.typeIn K (.ref C) = some (.type "type")) (h4 : PySem.W.subIn K (.type "dict") (.ref C) = some false) : PySem.W.kitOne K (.type "dict") (.ref C) = some false := by
  have h2' : (PySem.W.clsIn K C).isSome = true := h2
  have e2 : ((PySem.W.clsIn K C).isSome && PySem.W.typeIn K (.ref C) == some (.type "type")) = true := by rw [h2', h3]; rfl
  unfold PySem.W.kitOne
  rw [if_neg (by simp)]
  unfold PySem.W.kitCls
  dsimp only
  rw [if_pos e2]
  exact h4
set_option maxHeartbeats 16000000 in
theorem all_mk {l : PySem.W.OpenLaw} {w : World} {K : PySem.W.Frag} {h : Heap} {mg : Str → Option Value} {fa : Addr} (X : K.In h) (G : h.Ns mainGlobals mg) (hfa : mg "law" = some (.ref fa))
    {f8 f9 f10 f12 f13 f14 f15 f16 f17 f18 f19 f20 f21 f22 f23 f24 f26 f27 f28 f30 f34 f36 f37 f38 f3999 f3000 : Addr} {od8 an8 od9 an9 od10 an10 od12 an12 od13 an13 od14 an14 od15 an15 od16 an16 od17 an17 od18 an18 od19 an19 od20 an20 od21 an21 od22 an22 od23 an23 od24 an24 od26 an26 od27 an27 od28 an28 od30 an30 od34 an34 od36 an36 od37 an37 od38 an38 od3000 an3000 : Option Addr} {sl8 sl9 sl10 sl12 sl13 sl14 sl15 sl16 sl17 sl18 sl19 sl20 sl21 sl22 sl23 sl24 sl26 sl27 sl28 sl30 sl34 sl36 sl37 sl38 sl3000 : Array (Option Value)} {oc8 kV8 dc8 pm8 cd8 ct8 oc9 kV9 dc9 pm9 cd9 ct9 oc10 kV10 dc10 pm10 cd10 ct10 oc12 kV12 dc12 pm12 cd12 ct12 oc13 kV13 dc13 pm13 cd13 ct13 oc14 kV14 dc14 pm14 cd14 ct14 oc15 kV15 dc15 pm15 cd15 ct15 oc16 kV16 dc16 pm16 cd16 ct16 oc17 kV17 dc17 pm17 cd17 ct17 oc18 kV18 dc18 pm18 cd18 ct18 oc19 kV19 dc19 pm19 cd19 ct19 oc20 kV20 dc20 pm20 cd20 ct20 oc21 kV21 dc21 pm21 cd21 ct21 oc22 kV22 dc22 pm22 cd22 ct22 oc23 kV23 dc23 pm23 cd23 ct23 oc24 kV24 dc24 pm24 cd24 ct24 oc26 kV26 dc26 pm26 cd26 ct26 oc27 kV27 dc27 pm27 cd27 ct27 oc28 kV28 dc28 pm28 cd28 ct28 oc30 kV30 dc30 pm30 cd30 ct30 oc34 kV34 dc34 pm34 cd34 ct34 oc36 kV36 dc36 pm36 cd36 ct36 oc37 kV37 dc37 pm37 cd37 ct37 oc38 kV38 dc38 pm38 cd38 ct38 oc3000 kV3000 dc3000 pm3000 cd3000 ct3000 : Value} {tk4 tk5 tk6 tk7 : Tok}
    (a8 : PySem.W.nsIn K mainGlobals "is_integer" = some (some (.ref f8)))
    (l8 : K.lookup f8 = some ⟨oc8, od8, .func (PySem.W.fnOf "is_integer" "is_integer" (defArgs s_is_integer) (defBody s_is_integer) (defScope s_is_integer) .none kV8 dc8 pm8 an8 cd8 ct8), sl8⟩)
    (c8 : PySem.W.codeIn K cd8 "is_integer" = true)
    (k8 : PySem.W.keepIn K (.ref f8) = true)
    (a9 : PySem.W.nsIn K mainGlobals "is_name" = some (some (.ref f9)))
    (l9 : K.lookup f9 = some ⟨oc9, od9, .func (PySem.W.fnOf "is_name" "is_name" (defArgs s_is_name) (defBody s_is_name) (defScope s_is_name) .none kV9 dc9 pm9 an9 cd9 ct9), sl9⟩)
    (c9 : PySem.W.codeIn K cd9 "is_name" = true)
    (k9 : PySem.W.keepIn K (.ref f9) = true)
    (a10 : PySem.W.nsIn K mainGlobals "is_day" = some (some (.ref f10)))
    (l10 : K.lookup f10 = some ⟨oc10, od10, .func (PySem.W.fnOf "is_day" "is_day" (defArgs s_is_day) (defBody s_is_day) (defScope s_is_day) .none kV10 dc10 pm10 an10 cd10 ct10), sl10⟩)
    (c10 : PySem.W.codeIn K cd10 "is_day" = true)
    (k10 : PySem.W.keepIn K (.ref f10) = true)
    (a12 : PySem.W.nsIn K mainGlobals "is_span" = some (some (.ref f12)))
    (l12 : K.lookup f12 = some ⟨oc12, od12, .func (PySem.W.fnOf "is_span" "is_span" (defArgs s_is_span) (defBody s_is_span) (defScope s_is_span) .none kV12 dc12 pm12 an12 cd12 ct12), sl12⟩)
    (c12 : PySem.W.codeIn K cd12 "is_span" = true)
    (k12 : PySem.W.keepIn K (.ref f12) = true)
    (a13 : PySem.W.nsIn K mainGlobals "normal" = some (some (.ref f13)))
    (l13 : K.lookup f13 = some ⟨oc13, od13, .func (PySem.W.fnOf "normal" "normal" (defArgs s_normal) (defBody s_normal) (defScope s_normal) .none kV13 dc13 pm13 an13 cd13 ct13), sl13⟩)
    (c13 : PySem.W.codeIn K cd13 "normal" = true)
    (k13 : PySem.W.keepIn K (.ref f13) = true)
    (a14 : PySem.W.nsIn K mainGlobals "_melted" = some (some (.ref f14)))
    (l14 : K.lookup f14 = some ⟨oc14, od14, .func (PySem.W.fnOf "_melted" "_melted" (defArgs s__melted) (defBody s__melted) (defScope s__melted) .none kV14 dc14 pm14 an14 cd14 ct14), sl14⟩)
    (c14 : PySem.W.codeIn K cd14 "_melted" = true)
    (k14 : PySem.W.keepIn K (.ref f14) = true)
    (a15 : PySem.W.nsIn K mainGlobals "union" = some (some (.ref f15)))
    (l15 : K.lookup f15 = some ⟨oc15, od15, .func (PySem.W.fnOf "union" "union" (defArgs s_union) (defBody s_union) (defScope s_union) .none kV15 dc15 pm15 an15 cd15 ct15), sl15⟩)
    (c15 : PySem.W.codeIn K cd15 "union" = true)
    (k15 : PySem.W.keepIn K (.ref f15) = true)
    (a16 : PySem.W.nsIn K mainGlobals "meet" = some (some (.ref f16)))
    (l16 : K.lookup f16 = some ⟨oc16, od16, .func (PySem.W.fnOf "meet" "meet" (defArgs s_meet) (defBody s_meet) (defScope s_meet) .none kV16 dc16 pm16 an16 cd16 ct16), sl16⟩)
    (c16 : PySem.W.codeIn K cd16 "meet" = true)
    (k16 : PySem.W.keepIn K (.ref f16) = true)
    (a17 : PySem.W.nsIn K mainGlobals "others" = some (some (.ref f17)))
    (l17 : K.lookup f17 = some ⟨oc17, od17, .func (PySem.W.fnOf "others" "others" (defArgs s_others) (defBody s_others) (defScope s_others) .none kV17 dc17 pm17 an17 cd17 ct17), sl17⟩)
    (c17 : PySem.W.codeIn K cd17 "others" = true)
    (k17 : PySem.W.keepIn K (.ref f17) = true)
    (a18 : PySem.W.nsIn K mainGlobals "less" = some (some (.ref f18)))
    (l18 : K.lookup f18 = some ⟨oc18, od18, .func (PySem.W.fnOf "less" "less" (defArgs s_less) (defBody s_less) (defScope s_less) .none kV18 dc18 pm18 an18 cd18 ct18), sl18⟩)
    (c18 : PySem.W.codeIn K cd18 "less" = true)
    (k18 : PySem.W.keepIn K (.ref f18) = true)
    (a19 : PySem.W.nsIn K mainGlobals "unlike" = some (some (.ref f19)))
    (l19 : K.lookup f19 = some ⟨oc19, od19, .func (PySem.W.fnOf "unlike" "unlike" (defArgs s_unlike) (defBody s_unlike) (defScope s_unlike) .none kV19 dc19 pm19 an19 cd19 ct19), sl19⟩)
    (c19 : PySem.W.codeIn K cd19 "unlike" = true)
    (k19 : PySem.W.keepIn K (.ref f19) = true)
    (a20 : PySem.W.nsIn K mainGlobals "_ended_ahead" = some (some (.ref f20)))
    (l20 : K.lookup f20 = some ⟨oc20, od20, .func (PySem.W.fnOf "_ended_ahead" "_ended_ahead" (defArgs s__ended_ahead) (defBody s__ended_ahead) (defScope s__ended_ahead) .none kV20 dc20 pm20 an20 cd20 ct20), sl20⟩)
    (c20 : PySem.W.codeIn K cd20 "_ended_ahead" = true)
    (k20 : PySem.W.keepIn K (.ref f20) = true)
    (a21 : PySem.W.nsIn K mainGlobals "has" = some (some (.ref f21)))
    (l21 : K.lookup f21 = some ⟨oc21, od21, .func (PySem.W.fnOf "has" "has" (defArgs s_has) (defBody s_has) (defScope s_has) .none kV21 dc21 pm21 an21 cd21 ct21), sl21⟩)
    (c21 : PySem.W.codeIn K cd21 "has" = true)
    (k21 : PySem.W.keepIn K (.ref f21) = true)
    (a22 : PySem.W.nsIn K mainGlobals "how_many" = some (some (.ref f22)))
    (l22 : K.lookup f22 = some ⟨oc22, od22, .func (PySem.W.fnOf "how_many" "how_many" (defArgs s_how_many) (defBody s_how_many) (defScope s_how_many) .none kV22 dc22 pm22 an22 cd22 ct22), sl22⟩)
    (c22 : PySem.W.codeIn K cd22 "how_many" = true)
    (k22 : PySem.W.keepIn K (.ref f22) = true)
    (a23 : PySem.W.nsIn K mainGlobals "is_part" = some (some (.ref f23)))
    (l23 : K.lookup f23 = some ⟨oc23, od23, .func (PySem.W.fnOf "is_part" "is_part" (defArgs s_is_part) (defBody s_is_part) (defScope s_is_part) .none kV23 dc23 pm23 an23 cd23 ct23), sl23⟩)
    (c23 : PySem.W.codeIn K cd23 "is_part" = true)
    (k23 : PySem.W.keepIn K (.ref f23) = true)
    (a24 : PySem.W.nsIn K mainGlobals "breaks" = some (some (.ref f24)))
    (l24 : K.lookup f24 = some ⟨oc24, od24, .func (PySem.W.fnOf "breaks" "breaks" (defArgs s_breaks) (defBody s_breaks) (defScope s_breaks) .none kV24 dc24 pm24 an24 cd24 ct24), sl24⟩)
    (c24 : PySem.W.codeIn K cd24 "breaks" = true)
    (k24 : PySem.W.keepIn K (.ref f24) = true)
    (a26 : PySem.W.nsIn K mainGlobals "_law_number" = some (some (.ref f26)))
    (l26 : K.lookup f26 = some ⟨oc26, od26, .func (PySem.W.fnOf "_law_number" "_law_number" (defArgs s__law_number) (defBody s__law_number) (defScope s__law_number) .none kV26 dc26 pm26 an26 cd26 ct26), sl26⟩)
    (c26 : PySem.W.codeIn K cd26 "_law_number" = true)
    (k26 : PySem.W.keepIn K (.ref f26) = true)
    (a27 : PySem.W.nsIn K mainGlobals "_law_take" = some (some (.ref f27)))
    (l27 : K.lookup f27 = some ⟨oc27, od27, .func (PySem.W.fnOf "_law_take" "_law_take" (defArgs s__law_take) (defBody s__law_take) (defScope s__law_take) .none kV27 dc27 pm27 an27 cd27 ct27), sl27⟩)
    (c27 : PySem.W.codeIn K cd27 "_law_take" = true)
    (k27 : PySem.W.keepIn K (.ref f27) = true)
    (a28 : PySem.W.nsIn K mainGlobals "_law_pick" = some (some (.ref f28)))
    (l28 : K.lookup f28 = some ⟨oc28, od28, .func (PySem.W.fnOf "_law_pick" "_law_pick" (defArgs s__law_pick) (defBody s__law_pick) (defScope s__law_pick) .none kV28 dc28 pm28 an28 cd28 ct28), sl28⟩)
    (c28 : PySem.W.codeIn K cd28 "_law_pick" = true)
    (k28 : PySem.W.keepIn K (.ref f28) = true)
    (a30 : PySem.W.nsIn K mainGlobals "_law_day" = some (some (.ref f30)))
    (l30 : K.lookup f30 = some ⟨oc30, od30, .func (PySem.W.fnOf "_law_day" "_law_day" (defArgs s__law_day) (defBody s__law_day) (defScope s__law_day) .none kV30 dc30 pm30 an30 cd30 ct30), sl30⟩)
    (c30 : PySem.W.codeIn K cd30 "_law_day" = true)
    (k30 : PySem.W.keepIn K (.ref f30) = true)
    (a34 : PySem.W.nsIn K mainGlobals "_law_days" = some (some (.ref f34)))
    (l34 : K.lookup f34 = some ⟨oc34, od34, .func (PySem.W.fnOf "_law_days" "_law_days" (defArgs s__law_days) (defBody s__law_days) (defScope s__law_days) .none kV34 dc34 pm34 an34 cd34 ct34), sl34⟩)
    (c34 : PySem.W.codeIn K cd34 "_law_days" = true)
    (k34 : PySem.W.keepIn K (.ref f34) = true)
    (a36 : PySem.W.nsIn K mainGlobals "_law_rows" = some (some (.ref f36)))
    (l36 : K.lookup f36 = some ⟨oc36, od36, .func (PySem.W.fnOf "_law_rows" "_law_rows" (defArgs s__law_rows) (defBody s__law_rows) (defScope s__law_rows) .none kV36 dc36 pm36 an36 cd36 ct36), sl36⟩)
    (c36 : PySem.W.codeIn K cd36 "_law_rows" = true)
    (k36 : PySem.W.keepIn K (.ref f36) = true)
    (a37 : PySem.W.nsIn K mainGlobals "_law_is_form" = some (some (.ref f37)))
    (l37 : K.lookup f37 = some ⟨oc37, od37, .func (PySem.W.fnOf "_law_is_form" "_law_is_form" (defArgs s__law_is_form) (defBody s__law_is_form) (defScope s__law_is_form) .none kV37 dc37 pm37 an37 cd37 ct37), sl37⟩)
    (c37 : PySem.W.codeIn K cd37 "_law_is_form" = true)
    (k37 : PySem.W.keepIn K (.ref f37) = true)
    (a38 : PySem.W.nsIn K mainGlobals "law" = some (some (.ref f38)))
    (l38 : K.lookup f38 = some ⟨oc38, od38, .func (PySem.W.fnOf "law" "law" (defArgs s_law) (defBody s_law) (defScope s_law) .none kV38 dc38 pm38 an38 cd38 ct38), sl38⟩)
    (c38 : PySem.W.codeIn K cd38 "law" = true)
    (k38 : PySem.W.keepIn K (.ref f38) = true)
    (x3999a : PySem.W.nsIn K mainGlobals "BadSpans" = some (some (.ref f3999)))
    (x3999i : PySem.W.excInitIn K f3999 PySem.YjX_BadSpans.exTail "Exception.__new__" = true)
    (x3999o : PySem.W.excOver K f3999 PySem.YjX_BadSpans.exTail = true)
    (x3999t : PySem.W.takerIn K f3999 "number" = some none)
    (x3999s : PySem.W.findIn K (.ref f3999) "__setattr__" = some (some (.builtin "object.__setattr__")))
    (x3999g : PySem.W.findIn K (.ref f3999) "__getattribute__" = some (some (.builtin "BaseException.__getattribute__")))
    (x3999gg : PySem.W.findIn K (.ref f3999) "__getattr__" = some none)
    (x3999n : PySem.W.findIn K (.ref f3999) "number" = some none)
    (x3999in : PySem.W.findIn K (.ref f3999) "__init__" = some (some (.ref f3000)))
    (x3999ti : PySem.W.typeIn K (.ref f3000) = some (.type "function"))
    (x3999k : PySem.W.keepIn K (.ref f3999) = true)
    (x3999b : PySem.W.subIn K (.ref f3999) (.type "BaseException") = some true)
    (x3999tc : PySem.W.typeIn K (.ref f3999) = some (.type "type"))
    (x3999hd : PySem.W.hasDictIn K f3999 = true)
    (x3999ic : PySem.W.isClsIn K f3999 = true)
    (x3999sc : PySem.W.subIn K (.ref f3999) (.ref f3999) = some true)
    (x3999l : K.lookup f3000 = some ⟨oc3000, od3000, .func (PySem.W.fnOf "__init__" "BadSpans.__init__" (PySem.YjX_BadSpans.nArgs ⟨6, 17, 6, 21⟩ ⟨6, 23, 6, 29⟩) (PySem.YjX_BadSpans.nBody ⟨7, 8, 7, 12⟩ ⟨7, 8, 7, 19⟩ ⟨7, 22, 7, 28⟩ ⟨7, 8, 7, 28⟩) (PySem.YjX_BadSpans.nScope []) .none kV3000 dc3000 pm3000 an3000 cd3000 ct3000), sl3000⟩)
    (x3999c : PySem.W.codeIn K cd3000 "BadSpans.__init__" = true)
    (z_isinstance : PySem.W.nsIn K mainGlobals "isinstance" = some none)
    (z_len : PySem.W.nsIn K mainGlobals "len" = some none)
    (z_all : PySem.W.nsIn K mainGlobals "all" = some none)
    (z_any : PySem.W.nsIn K mainGlobals "any" = some none)
    (z_sum : PySem.W.nsIn K mainGlobals "sum" = some none)
    (z_sorted : PySem.W.nsIn K mainGlobals "sorted" = some none)
    (z_max : PySem.W.nsIn K mainGlobals "max" = some none)
    (z_min : PySem.W.nsIn K mainGlobals "min" = some none)
    (z_tuple : PySem.W.nsIn K mainGlobals "tuple" = some none)
    (z_list : PySem.W.nsIn K mainGlobals "list" = some none)
    (z_int : PySem.W.nsIn K mainGlobals "int" = some none)
    (z_bool : PySem.W.nsIn K mainGlobals "bool" = some none)
    (z_str : PySem.W.nsIn K mainGlobals "str" = some none)
    (z_enumerate : PySem.W.nsIn K mainGlobals "enumerate" = some none)
    (z_range : PySem.W.nsIn K mainGlobals "range" = some none)
    (z_zip : PySem.W.nsIn K mainGlobals "zip" = some none)
    (z_abs : PySem.W.nsIn K mainGlobals "abs" = some none)
    (v4 : PySem.W.nsIn K mainGlobals "LETTERS" = some (some (Value.str "abcdefghijklmnopqrstuvwxyz" tk4)))
    (v5 : PySem.W.nsIn K mainGlobals "FIGURES" = some (some (Value.str "0123456789" tk5)))
    (v6 : PySem.W.nsIn K mainGlobals "LONGEST_NAME" = some (some (Value.int 8 tk6)))
    (v7 : PySem.W.nsIn K mainGlobals "LAST_DAY" = some (some (Value.int 999999 tk7))) :
    ∃ fd : FuncData, (∀ (s : Shared) (v : Value), BindsTo s fd ⟨[v], []⟩ [("script", v)]) ∧ ∀ base : Heap, K.In base → base.Ns mainGlobals mg → FnOk l.prog w K mg base (L2N.CX l.prog w) 5 fa fd ["script"] (spLaw K) := by
  have e := hfa.symm.trans (PySem.W.mg_of X G a38)
  cases e
  have T : Txt K mg (fun i => match i with | 8 => f8 | 9 => f9 | 10 => f10 | 12 => f12 | 13 => f13 | 14 => f14 | 15 => f15 | 16 => f16 | 17 => f17 | 18 => f18 | 19 => f19 | 20 => f20 | 21 => f21 | 22 => f22 | 23 => f23 | 24 => f24 | 26 => f26 | 27 => f27 | 28 => f28 | 30 => f30 | 34 => f34 | 36 => f36 | 37 => f37 | 38 => fa | 3999 => f3999 | 3000 => f3000 | _ => 0) (fun i => match i with | 8 => PySem.W.fnOf "is_integer" "is_integer" (defArgs s_is_integer) (defBody s_is_integer) (defScope s_is_integer) .none kV8 dc8 pm8 an8 cd8 ct8 | 9 => PySem.W.fnOf "is_name" "is_name" (defArgs s_is_name) (defBody s_is_name) (defScope s_is_name) .none kV9 dc9 pm9 an9 cd9 ct9 | 10 => PySem.W.fnOf "is_day" "is_day" (defArgs s_is_day) (defBody s_is_day) (defScope s_is_day) .none kV10 dc10 pm10 an10 cd10 ct10 | 12 => PySem.W.fnOf "is_span" "is_span" (defArgs s_is_span) (defBody s_is_span) (defScope s_is_span) .none kV12 dc12 pm12 an12 cd12 ct12 | 13 => PySem.W.fnOf "normal" "normal" (defArgs s_normal) (defBody s_normal) (defScope s_normal) .none kV13 dc13 pm13 an13 cd13 ct13 | 14 => PySem.W.fnOf "_melted" "_melted" (defArgs s__melted) (defBody s__melted) (defScope s__melted) .none kV14 dc14 pm14 an14 cd14 ct14 | 15 => PySem.W.fnOf "union" "union" (defArgs s_union) (defBody s_union) (defScope s_union) .none kV15 dc15 pm15 an15 cd15 ct15 | 16 => PySem.W.fnOf "meet" "meet" (defArgs s_meet) (defBody s_meet) (defScope s_meet) .none kV16 dc16 pm16 an16 cd16 ct16 | 17 => PySem.W.fnOf "others" "others" (defArgs s_others) (defBody s_others) (defScope s_others) .none kV17 dc17 pm17 an17 cd17 ct17 | 18 => PySem.W.fnOf "less" "less" (defArgs s_less) (defBody s_less) (defScope s_less) .none kV18 dc18 pm18 an18 cd18 ct18 | 19 => PySem.W.fnOf "unlike" "unlike" (defArgs s_unlike) (defBody s_unlike) (defScope s_unlike) .none kV19 dc19 pm19 an19 cd19 ct19 | 20 => PySem.W.fnOf "_ended_ahead" "_ended_ahead" (defArgs s__ended_ahead) (defBody s__ended_ahead) (defScope s__ended_ahead) .none kV20 dc20 pm20 an20 cd20 ct20 | 21 => PySem.W.fnOf "has" "has" (defArgs s_has) (defBody s_has) (defScope s_has) .none kV21 dc21 pm21 an21 cd21 ct21 | 22 => PySem.W.fnOf "how_many" "how_many" (defArgs s_how_many) (defBody s_how_many) (defScope s_how_many) .none kV22 dc22 pm22 an22 cd22 ct22 | 23 => PySem.W.fnOf "is_part" "is_part" (defArgs s_is_part) (defBody s_is_part) (defScope s_is_part) .none kV23 dc23 pm23 an23 cd23 ct23 | 24 => PySem.W.fnOf "breaks" "breaks" (defArgs s_breaks) (defBody s_breaks) (defScope s_breaks) .none kV24 dc24 pm24 an24 cd24 ct24 | 26 => PySem.W.fnOf "_law_number" "_law_number" (defArgs s__law_number) (defBody s__law_number) (defScope s__law_number) .none kV26 dc26 pm26 an26 cd26 ct26 | 27 => PySem.W.fnOf "_law_take" "_law_take" (defArgs s__law_take) (defBody s__law_take) (defScope s__law_take) .none kV27 dc27 pm27 an27 cd27 ct27 | 28 => PySem.W.fnOf "_law_pick" "_law_pick" (defArgs s__law_pick) (defBody s__law_pick) (defScope s__law_pick) .none kV28 dc28 pm28 an28 cd28 ct28 | 30 => PySem.W.fnOf "_law_day" "_law_day" (defArgs s__law_day) (defBody s__law_day) (defScope s__law_day) .none kV30 dc30 pm30 an30 cd30 ct30 | 34 => PySem.W.fnOf "_law_days" "_law_days" (defArgs s__law_days) (defBody s__law_days) (defScope s__law_days) .none kV34 dc34 pm34 an34 cd34 ct34 | 36 => PySem.W.fnOf "_law_rows" "_law_rows" (defArgs s__law_rows) (defBody s__law_rows) (defScope s__law_rows) .none kV36 dc36 pm36 an36 cd36 ct36 | 37 => PySem.W.fnOf "_law_is_form" "_law_is_form" (defArgs s__law_is_form) (defBody s__law_is_form) (defScope s__law_is_form) .none kV37 dc37 pm37 an37 cd37 ct37 | 38 => PySem.W.fnOf "law" "law" (defArgs s_law) (defBody s_law) (defScope s_law) .none kV38 dc38 pm38 an38 cd38 ct38 | _ => PySem.W.fnOf "law" "law" (defArgs s_law) (defBody s_law) (defScope s_law) .none kV38 dc38 pm38 an38 cd38 ct38) (fun i => match i with | 4 => Value.str "abcdefghijklmnopqrstuvwxyz" tk4 | 5 => Value.str "0123456789" tk5 | 6 => Value.int 8 tk6 | 7 => Value.int 999999 tk7 | _ => Value.none) := { g_is_integer := PySem.W.mg_of X G a8, F_is_integer := fun_mk (st := s_is_integer) l8 c8 k8, g_is_name := PySem.W.mg_of X G a9, F_is_name := fun_mk (st := s_is_name) l9 c9 k9, g_is_day := PySem.W.mg_of X G a10, F_is_day := fun_mk (st := s_is_day) l10 c10 k10, g_is_span := PySem.W.mg_of X G a12, F_is_span := fun_mk (st := s_is_span) l12 c12 k12, g_normal := PySem.W.mg_of X G a13, F_normal := fun_mk (st := s_normal) l13 c13 k13, g__melted := PySem.W.mg_of X G a14, F__melted := fun_mk (st := s__melted) l14 c14 k14, g_union := PySem.W.mg_of X G a15, F_union := fun_mk (st := s_union) l15 c15 k15, g_meet := PySem.W.mg_of X G a16, F_meet := fun_mk (st := s_meet) l16 c16 k16, g_others := PySem.W.mg_of X G a17, F_others := fun_mk (st := s_others) l17 c17 k17, g_less := PySem.W.mg_of X G a18, F_less := fun_mk (st := s_less) l18 c18 k18, g_unlike := PySem.W.mg_of X G a19, F_unlike := fun_mk (st := s_unlike) l19 c19 k19, g__ended_ahead := PySem.W.mg_of X G a20, F__ended_ahead := fun_mk (st := s__ended_ahead) l20 c20 k20, g_has := PySem.W.mg_of X G a21, F_has := fun_mk (st := s_has) l21 c21 k21, g_how_many := PySem.W.mg_of X G a22, F_how_many := fun_mk (st := s_how_many) l22 c22 k22, g_is_part := PySem.W.mg_of X G a23, F_is_part := fun_mk (st := s_is_part) l23 c23 k23, g_breaks := PySem.W.mg_of X G a24, F_breaks := fun_mk (st := s_breaks) l24 c24 k24, g__law_number := PySem.W.mg_of X G a26, F__law_number := fun_mk (st := s__law_number) l26 c26 k26, g__law_take := PySem.W.mg_of X G a27, F__law_take := fun_mk (st := s__law_take) l27 c27 k27, g__law_pick := PySem.W.mg_of X G a28, F__law_pick := fun_mk (st := s__law_pick) l28 c28 k28, g__law_day := PySem.W.mg_of X G a30, F__law_day := fun_mk (st := s__law_day) l30 c30 k30, g__law_days := PySem.W.mg_of X G a34, F__law_days := fun_mk (st := s__law_days) l34 c34 k34, g__law_rows := PySem.W.mg_of X G a36, F__law_rows := fun_mk (st := s__law_rows) l36 c36 k36, g__law_is_form := PySem.W.mg_of X G a37, F__law_is_form := fun_mk (st := s__law_is_form) l37 c37 k37, g_law := PySem.W.mg_of X G a38, F_law := fun_mk (st := s_law) l38 c38 k38, x_BadSpans := ⟨PySem.W.mg_of X G x3999a, x3999i, x3999o, x3999t, dict_of x3999hd, x3999s, x3999g, x3999gg, x3999n, x3999in, x3999ti, x3999k, x3999b, x3999tc, x3999hd, exm_own x3999b x3999ic x3999tc x3999sc, ⟨_, _, _, _, _, _, _, _, _, _, _, _, _, _, _, _, x3999l, x3999c⟩⟩, z_isinstance := PySem.W.mg_none_of X G z_isinstance, z_len := PySem.W.mg_none_of X G z_len, z_all := PySem.W.mg_none_of X G z_all, z_any := PySem.W.mg_none_of X G z_any, z_sum := PySem.W.mg_none_of X G z_sum, z_sorted := PySem.W.mg_none_of X G z_sorted, z_max := PySem.W.mg_none_of X G z_max, z_min := PySem.W.mg_none_of X G z_min, z_tuple := PySem.W.mg_none_of X G z_tuple, z_list := PySem.W.mg_none_of X G z_list, z_int := PySem.W.mg_none_of X G z_int, z_bool := PySem.W.mg_none_of X G z_bool, z_str := PySem.W.mg_none_of X G z_str, z_enumerate := PySem.W.mg_none_of X G z_enumerate, z_range := PySem.W.mg_none_of X G z_range, z_zip := PySem.W.mg_none_of X G z_zip, z_abs := PySem.W.mg_none_of X G z_abs, c_LETTERS := PySem.W.mg_of X G v4, r_LETTERS := ⟨tk4, rfl⟩, c_FIGURES := PySem.W.mg_of X G v5, r_FIGURES := ⟨tk5, rfl⟩, c_LONGEST_NAME := PySem.W.mg_of X G v6, r_LONGEST_NAME := ⟨tk6, rfl⟩, c_LAST_DAY := PySem.W.mg_of X G v7, r_LAST_DAY := ⟨tk7, rfl⟩ }
  exact ⟨PySem.W.fnOf "law" "law" (defArgs s_law) (defBody s_law) (defScope s_law) .none kV38 dc38 pm38 an38 cd38 ct38, fun s v => .of_eq rfl, fun base _ _ => ok_law T⟩
end Yj
set_option Elab.async false
set_option linter.all false
open PySem PySem.W PyProof.Rows
set_option maxRecDepth 100000 in
set_option maxHeartbeats 0 in
theorem PySem.Challenge.cw_twicedated_k50_whole_spans_holds : PySem.Challenge.rw_twicedated_k50_whole_spans.Holds := by
  w_on; o_law; k_head; (case hw => w_witness2)
  k_fill
  refine L2.walk_of (l := PySem.Challenge.rw_twicedated_k50_whole_spans) (n := 63) (k := 5) (x := "script") (CX := fun w => L2N.CX PySem.Challenge.rw_twicedated_k50_whole_spans.prog w) (sp := fun w => Yj.spLaw _) rfl (by decide) rfl ⟨rfl, by decide, by decide⟩ (fun w h Y => PySem.W.kIn_of Y) ?F (fun _ _ a ns hl _ hS => ⟨a, ns, rfl, hS, hl, fun _ => rfl⟩) (fun _ _ _ _ _ h => Yj.no_exc h)
  case F =>
    intro w mg fa h KX G hmg
    refine' Yj.all_mk KX G hmg ?a8 ?l8 ?c8 ?k8 ?a9 ?l9 ?c9 ?k9 ?a10 ?l10 ?c10 ?k10 ?a12 ?l12 ?c12 ?k12 ?a13 ?l13 ?c13 ?k13 ?a14 ?l14 ?c14 ?k14 ?a15 ?l15 ?c15 ?k15 ?a16 ?l16 ?c16 ?k16 ?a17 ?l17 ?c17 ?k17 ?a18 ?l18 ?c18 ?k18 ?a19 ?l19 ?c19 ?k19 ?a20 ?l20 ?c20 ?k20 ?a21 ?l21 ?c21 ?k21 ?a22 ?l22 ?c22 ?k22 ?a23 ?l23 ?c23 ?k23 ?a24 ?l24 ?c24 ?k24 ?a26 ?l26 ?c26 ?k26 ?a27 ?l27 ?c27 ?k27 ?a28 ?l28 ?c28 ?k28 ?a30 ?l30 ?c30 ?k30 ?a34 ?l34 ?c34 ?k34 ?a36 ?l36 ?c36 ?k36 ?a37 ?l37 ?c37 ?k37 ?a38 ?l38 ?c38 ?k38 ?x3999a ?x3999i ?x3999o ?x3999t ?x3999s ?x3999g ?x3999gg ?x3999n ?x3999in ?x3999ti ?x3999k ?x3999b ?x3999tc ?x3999hd ?x3999ic ?x3999sc ?x3999l ?x3999c ?z_isinstance ?z_len ?z_all ?z_any ?z_sum ?z_sorted ?z_max ?z_min ?z_tuple ?z_list ?z_int ?z_bool ?z_str ?z_enumerate ?z_range ?z_zip ?z_abs ?v4 ?v5 ?v6 ?v7
    (case a8 => k_is); (case l8 => k_is); (case c8 => k_is); (case k8 => k_is); (case a9 => k_is); (case l9 => k_is); (case c9 => k_is); (case k9 => k_is)
    (case a10 => k_is); (case l10 => k_is); (case c10 => k_is); (case k10 => k_is); (case a12 => k_is); (case l12 => k_is); (case c12 => k_is); (case k12 => k_is)
    (case a13 => k_is); (case l13 => k_is); (case c13 => k_is); (case k13 => k_is); (case a14 => k_is); (case l14 => k_is); (case c14 => k_is); (case k14 => k_is)
    (case a15 => k_is); (case l15 => k_is); (case c15 => k_is); (case k15 => k_is); (case a16 => k_is); (case l16 => k_is); (case c16 => k_is); (case k16 => k_is)
    (case a17 => k_is); (case l17 => k_is); (case c17 => k_is); (case k17 => k_is); (case a18 => k_is); (case l18 => k_is); (case c18 => k_is); (case k18 => k_is)
    (case a19 => k_is); (case l19 => k_is); (case c19 => k_is); (case k19 => k_is); (case a20 => k_is); (case l20 => k_is); (case c20 => k_is); (case k20 => k_is)
    (case a21 => k_is); (case l21 => k_is); (case c21 => k_is); (case k21 => k_is); (case a22 => k_is); (case l22 => k_is); (case c22 => k_is); (case k22 => k_is)
    (case a23 => k_is); (case l23 => k_is); (case c23 => k_is); (case k23 => k_is); (case a24 => k_is); (case l24 => k_is); (case c24 => k_is); (case k24 => k_is)
    (case a26 => k_is); (case l26 => k_is); (case c26 => k_is); (case k26 => k_is); (case a27 => k_is); (case l27 => k_is); (case c27 => k_is); (case k27 => k_is)
    (case a28 => k_is); (case l28 => k_is); (case c28 => k_is); (case k28 => k_is); (case a30 => k_is); (case l30 => k_is); (case c30 => k_is); (case k30 => k_is)
    (case a34 => k_is); (case l34 => k_is); (case c34 => k_is); (case k34 => k_is); (case a36 => k_is); (case l36 => k_is); (case c36 => k_is); (case k36 => k_is)
    (case a37 => k_is); (case l37 => k_is); (case c37 => k_is); (case k37 => k_is); (case a38 => k_is); (case l38 => k_is); (case c38 => k_is); (case k38 => k_is)
    (case x3999a => k_is); (case x3999i => kx_is); (case x3999o => kx_is); (case x3999t => k_is); (case x3999s => k_is); (case x3999g => k_is); (case x3999gg => k_is); (case x3999n => k_is)
    (case x3999in => k_is); (case x3999ti => k_is); (case x3999k => k_is); (case x3999b => k_is); (case x3999tc => k_is); (case x3999hd => k_is); (case x3999ic => k_is); (case x3999sc => k_is)
    (case x3999l => k_is); (case x3999c => k_is); (case z_isinstance => k_is); (case z_len => k_is); (case z_all => k_is); (case z_any => k_is); (case z_sum => k_is); (case z_sorted => k_is)
    (case z_max => k_is); (case z_min => k_is); (case z_tuple => k_is); (case z_list => k_is); (case z_int => k_is); (case z_bool => k_is); (case z_str => k_is); (case z_enumerate => k_is)
    (case z_range => k_is); (case z_zip => k_is); (case z_abs => k_is); (case v4 => k_is); (case v5 => k_is); (case v6 => k_is); (case v7 => k_is)

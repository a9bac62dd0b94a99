import PyProof.Rows.All
import Wide.All
import OpenK.AllK
import Wide.FinOn
import PyProof.EqAt
import PyProof.EqKinds
import PyProof.TupleCall
import HandS.ForMost
import HandS.ForExc
import HandS.Evl
import HandS.IsInst
import HandS.Walk
import HandS.SetKeys
import HandS.SetBool
import HandS.DictComp
import HandS.ExcIs
import HandS.TupMul
import HandS.Wide
import HandS.RevRange
import HandS.Conv
import HandS.Zip
import HandS.Gcd
import KE.GoesZip
import KE.GoesEnum
import KE.GoesMore
import KE.KMathG
import HandS.More
import HandS.TryMany
import HandS.WordsExc
import KE.KIsAll
import HandS.ExcField
import HandS.EndBits
import PyProof.Rows.ReprR
import HandS.DeepEq
import PyProof.NeData
import HandS.Ends
import HandS.ExcInit
import HandS.ExcOwn
import HandS.Property
import HandS.Defaults
import KE.KOpsOwn
import HandS.WideBits
import HandS.Style
import OpenK.KOps
import PySem.Challenge.RW_retrysafe_k03_sums_meets_and_duals
set_option Elab.async false
set_option linter.all false
set_option maxRecDepth 100000
set_option maxHeartbeats 8000000
set_option exponentiation.threshold 2000000
/-! part JbA -/
/-! Data of any depth, what stands for them in the heap, and what an expression gives as such data. -/
namespace Jb
open PySem PySem.Spec PyProof.Rows L2 Evl
/-- plain data -/
inductive Dt where
  | non | bl (b : Bool) | int (i : Int) | str (s : Str) | tup (l : List Dt) | lst (l : List Dt) | dct (l : List (Str × Dt))
mutual
/-- the value v stands for the datum -/
inductive Rep (K : PySem.W.Frag) (H : Hp) : Dt → V → Prop where
  | non : Rep K H .non .non
  | bl (b : Bool) : Rep K H (.bl b) (.bl b)
  | int (i : Int) : Rep K H (.int i) (.int i)
  | str (s : Str) : Rep K H (.str s) (.str s)
  | tup {a : Addr} {l : List Dt} {vs : List V} (h : SqT K H a vs) (r : Reps K H l vs) : Rep K H (.tup l) (.ref a)
  | lst {a : Addr} {l : List Dt} {vs : List V} (h : H a = some (.lst vs)) (r : Reps K H l vs) : Rep K H (.lst l) (.ref a)
  | dct {a : Addr} {l : List (Str × Dt)} {kvs : List (Key × V)} (h : H a = some (.dK kvs)) (r : KReps K H l kvs) : Rep K H (.dct l) (.ref a)
inductive Reps (K : PySem.W.Frag) (H : Hp) : List Dt → List V → Prop where
  | nil : Reps K H [] []
  | cons {d : Dt} {v : V} {ds : List Dt} {vs : List V} (h : Rep K H d v) (t : Reps K H ds vs) : Reps K H (d :: ds) (v :: vs)
inductive KReps (K : PySem.W.Frag) (H : Hp) : List (Str × Dt) → List (Key × V) → Prop where
  | nil : KReps K H [] []
  | cons {s : Str} {d : Dt} {v : V} {ds : List (Str × Dt)} {vs : List (Key × V)} (h : Rep K H d v) (t : KReps K H ds vs) : KReps K H ((s, d) :: ds) ((Sum.inr s, v) :: vs)
end
section
variable {K : PySem.W.Frag} {H H' : Hp}
mutual
theorem Rep.mono (e : Ex H H') : ∀ {d : Dt} {v : V}, Rep K H d v → Rep K H' d v
  | _, _, .non => .non
  | _, _, .bl b => .bl b
  | _, _, .int i => .int i
  | _, _, .str s => .str s
  | _, _, .tup h r => .tup (ex_t e h) (Reps.mono e r)
  | _, _, .lst h r => .lst (e _ _ h) (Reps.mono e r)
  | _, _, .dct h r => .dct (e _ _ h) (KReps.mono e r)
theorem Reps.mono (e : Ex H H') : ∀ {ds : List Dt} {vs : List V}, Reps K H ds vs → Reps K H' ds vs
  | _, _, .nil => .nil
  | _, _, .cons h t => .cons (Rep.mono e h) (Reps.mono e t)
theorem KReps.mono (e : Ex H H') : ∀ {ds : List (Str × Dt)} {vs : List (Key × V)}, KReps K H ds vs → KReps K H' ds vs
  | _, _, .nil => .nil
  | _, _, .cons h t => .cons (Rep.mono e h) (KReps.mono e t)
end
theorem Reps.length : ∀ {ds : List Dt} {vs : List V}, Reps K H ds vs → ds.length = vs.length
  | _, _, .nil => rfl
  | _, _, .cons _ t => by rw [List.length_cons, List.length_cons, Reps.length t]
theorem Reps.get : ∀ {ds : List Dt} {vs : List V} {i : Nat} {v : V}, Reps K H ds vs → vs[i]? = some v → ∃ d, ds[i]? = some d ∧ Rep K H d v
  | _, _, _, _, .nil, e => by simp at e
  | _, _, 0, _, .cons h _, e => by simp at e; subst e; exact ⟨_, rfl, h⟩
  | _, _, i + 1, v, .cons _ t, e => by
    obtain ⟨d, h1, h2⟩ := Reps.get (i := i) (v := v) t (by simpa using e)
    exact ⟨d, by simpa using h1, h2⟩
theorem Reps.dat : ∀ {ds : List Dt} {vs : List V} {i : Nat} {d : Dt}, Reps K H ds vs → ds[i]? = some d → ∃ v, vs[i]? = some v ∧ Rep K H d v
  | _, _, _, _, .nil, e => by simp at e
  | _, _, 0, _, .cons h _, e => by simp at e; subst e; exact ⟨_, rfl, h⟩
  | _, _, i + 1, d, .cons _ t, e => by
    obtain ⟨v, h1, h2⟩ := Reps.dat (i := i) (d := d) t (by simpa using e)
    exact ⟨v, by simpa using h1, h2⟩
theorem Reps.app : ∀ {ds es : List Dt} {vs ws : List V}, Reps K H ds vs → Reps K H es ws → Reps K H (ds ++ es) (vs ++ ws)
  | _, _, _, _, .nil, s => s
  | _, _, _, _, .cons h t, s => .cons h (Reps.app t s)
theorem KReps.length : ∀ {ds : List (Str × Dt)} {vs : List (Key × V)}, KReps K H ds vs → ds.length = vs.length
  | _, _, .nil => rfl
  | _, _, .cons _ t => by rw [List.length_cons, List.length_cons, KReps.length t]
/-- the type of what stands for a datum -/
def tyD : Dt → String
  | .non => "NoneType" | .bl _ => "bool" | .int _ => "int" | .str _ => "str" | .tup _ => "tuple" | .lst _ => "list" | .dct _ => "dict"
theorem Rep.ty {d : Dt} {v : V} (r : Rep K H d v) : TyX K H v (.type (tyD d)) := by
  cases r with
  | non => exact .base .non
  | bl b => exact .base (.bl b)
  | int i => exact .base (.int i)
  | str s => exact .base (.str s)
  | tup h r =>
    rcases h with (h | ⟨o, h⟩) | ⟨o, its, n, h1, h2, _⟩
    · exact .base (.tup h)
    · exact .fTuple h
    · exact .kTuple h1 h2
  | lst h r => exact .base (.lst h)
  | dct h r => exact .base (.dK h)
/-- an expression gives a value that stands for the datum, what was tracked stands as before -/
def EvD (K : PySem.W.Frag) (te : TE) (σ : L2.St) (H : Hp) (d : Dt) : Prop := ∀ H1, Ex H H1 → ∀ Q : VK, (∀ H2 v, Ex H1 H2 → Rep K H2 d v → Q v H2) → te σ H1 Q
theorem EvD.mono {te : TE} {σ : L2.St} {d : Dt} (e : Ex H H') (h : EvD K te σ H d) : EvD K te σ H' d := fun H1 a Q q => h H1 (e.trans a) Q q
/-- scalars -/
def sc : Dt → Option V
  | .non => some .non | .bl b => some (.bl b) | .int i => some (.int i) | .str s => some (.str s) | _ => none
theorem Rep.sc {d : Dt} {v w : V} (r : Rep K H d v) (h : sc d = some w) : v = w := by
  cases r <;> first | exact Option.some.inj h | cases h
theorem rep_sc {d : Dt} {w : V} (h : sc d = some w) : Rep K H d w := by
  cases d <;> first | (cases Option.some.inj h; constructor) | cases h
theorem EvD.ev {te : TE} {σ : L2.St} {d : Dt} {v : V} (h : EvD K te σ H d) (hs : Jb.sc d = some v) : Ev te σ H v := fun H1 e Q q => h H1 e Q fun H2 w e2 r => by rw [r.sc hs]; exact q H2 e2
theorem evd_ev {te : TE} {σ : L2.St} {d : Dt} {v : V} (h : Ev te σ H v) (hs : Jb.sc d = some v) : EvD K te σ H d := fun H1 e Q q => h H1 e Q fun H2 e2 => q H2 v e2 (rep_sc hs)
theorem evd_var {i : Nat} {σ : L2.St} {v : V} {d : Dt} (h : σ[i]? = some (some v)) (r : Rep K H d v) : EvD K (tVar i) σ H d := fun H1 e Q q => ⟨v, h, q H1 v (Ex.refl H1) (r.mono e)⟩
theorem evd_is {te : TE} {σ : L2.St} {d e : Dt} (h : EvD K te σ H d) (he : d = e) : EvD K te σ H e := he ▸ h
/-- isinstance(x, T) -/
theorem ev_isi {ta : TE} {σ : L2.St} {d : Dt} {n : String} {b : Bool} (h : EvD K ta σ H d) (hb : kitB (tyD d) n = some b) : Ev (tCB (rIsi K) (tCons ta (tCons (tC (.ty n)) tNil))) σ H (.bl b) := fun H1 e Q q =>
  h H1 e _ fun H2 v e2 r => ⟨v, .ty n, _, _, b, rfl, .ty n, r.ty, kit_ty hb, q H2 e2⟩
/-- a tuple's item -/
theorem evd_ix {ta tb : TE} {σ : L2.St} {l : List Dt} {i : Nat} {d : Dt} (ha : EvD K ta σ H (.tup l)) (hb : ∀ H1, Ex H H1 → Ev tb σ H1 (.int (i : Int))) (hd : l[i]? = some d) : EvD K (tOp (rIxT K) ta tb) σ H d := fun H1 e Q q =>
  ha H1 e _ fun H2 v e2 r => by
    cases r with
    | tup h r =>
      refine hb H2 (e.trans e2) H2 (Ex.refl H2) _ fun H3 e3 => ?_
      obtain ⟨w, h1, h2⟩ := r.dat hd
      exact ⟨_, _, _, w, rfl, rfl, ex_t e3 h, atI_nat h1, q H3 w (e2.trans e3) (h2.mono e3)⟩
/-- the arguments of a call -/
def EvDs (K : PySem.W.Frag) (ta : TA) (σ : L2.St) (H : Hp) (ds : List Dt) : Prop := ∀ H1, Ex H H1 → ∀ Q : List V → Hp → Prop, (∀ H2 vs, Ex H1 H2 → Reps K H2 ds vs → Q vs H2) → ta σ H1 Q
theorem eds_nil {σ : L2.St} : EvDs K tNil σ H [] := fun H1 _ _ q => q H1 [] (Ex.refl H1) .nil
theorem eds_cons {ta : TE} {tr : TA} {σ : L2.St} {d : Dt} {ds : List Dt} (h : EvD K ta σ H d) (hr : ∀ H1, Ex H H1 → EvDs K tr σ H1 ds) : EvDs K (tCons ta tr) σ H (d :: ds) := fun H1 e Q q =>
  h H1 e _ fun H2 v e2 r => hr H2 (e.trans e2) H2 (Ex.refl H2) _ fun H3 vs e3 rs => q H3 (v :: vs) (e2.trans e3) (.cons (r.mono e3) rs)
/-- a def that gives back a datum reckoned from its arguments' data; nothing that stood is changed -/
def spD (K : PySem.W.Frag) (n : Nat) (pre : List Dt → Prop) (m : List Dt → Dt) : Sp := fun vs H Q _ => ∃ ds, pre ds ∧ ds.length = n ∧ Reps K H ds vs ∧ ∀ H' v, Ex H H' → Rep K H' (m ds) v → Q v H'
theorem evd_call {ta : TA} {σ : L2.St} {n : Nat} {pre : List Dt → Prop} {m : List Dt → Dt} {E : XK} {ds : List Dt} (h : EvDs K ta σ H ds) (hp : pre ds) (hn : ds.length = n) : EvD K (tCall (spD K n pre m) [] E ta) σ H (m ds) := fun H1 e Q q =>
  h H1 e _ fun H2 vs e2 rs => by
    show spD K n pre m (vs ++ []) H2 Q E
    rw [List.append_nil]
    exact ⟨ds, hp, hn, rs, fun H' v e3 r => q H' v (e2.trans e3) r⟩
end
/-- a def of the text that keeps its promise, as its callers see it -/
def Cl (P : Program) (w : World) (K : PySem.W.Frag) (mg : Str → Option Value) (base : Heap) (k : Nat) (x : Str) (ps : List Str) (sp : Sp) : Prop :=
  ∃ f fd, FnOk P w K mg base CX0 k f fd ps sp ∧ mg x = some (.ref f) ∧ PySem.W.keepIn K (.ref f) = true ∧ L2.Binds K fd ps []
/-- a def of the text, found -/
def Fd (K : PySem.W.Frag) (mg : Str → Option Value) (x : Str) (st : Stmt) (ps : List Str) : Prop := ∃ f fd, L2.Fun K x x st f fd ∧ mg x = some (.ref f) ∧ L2.Binds K fd ps []
theorem pe_cl {X : Cx} {k : Nat} {x : Str} {ps : List Str} {sp : Sp} {e : Expr} {es : List Expr} {t : TA} {p pos : Pos} (C : Cl X.prog X.w X.K X.mg X.base k x ps sp) (hr : Room k X.A) (hg : Gl X x) (ha : PA X (e :: es) t)
    (hdb : (x == ("__debug__" : Str)) = false := by decide)
    (he : starEach (e :: es) X.env = (false, eval e X.env) :: starEach es X.env := by rfl)
    (hpl : (backTo pos (starEach es X.env)).any (·.1) = false := by rfl) :
    PE X (.Call (.Name x p) (e :: es) [] pos) (tCall sp [] E0 t) := by
  obtain ⟨f, fd, F, hm, hk, hb⟩ := C
  exact pe_call F hr hg hm hk hb .nil pass0 ha hdb he hpl
section
variable {P : Program} {w : World} {K : PySem.W.Frag} {mg : Str → Option Value} {base : Heap}
/-- a def's promise from its body -/
theorem cl_of {x : Str} {st : Stmt} {N ps : List Str} {k : Nat} {n : Nat} {pre : List Dt → Prop} {m : List Dt → Dt} (F : Fd K mg x st ps) (S : FnScope N ps (defScope st)) (hn : n = ps.length)
    (hbody : ∀ (f : Addr) (cdv : Value) (A : Around) (outer : List Env) (s : Shared) (H : Hp) (vs : List V) (Q : VK) (E : XK) (ds : List Dt), Room k (A.deeper (envOfC x (defScope st) s.heap.objs.size f cdv)) → pre ds → ds.length = n → Reps K H ds vs → (∀ H' v, Ex H H' → Rep K H' (m ds) v → Q v H') →
      ∃ t, PSs (cxOf CX0 P w K mg base N x (defScope st) f cdv A outer s H E).nox (defBody st) t ∧ t { nx := fun _ H' => Q .non H', rt := Q } (start N vs) H) : Cl P w K mg base (k + 1) x ps (spD K n pre m) := by
  obtain ⟨f, fd, F, hm, hb⟩ := F
  refine ⟨f, fd, F.ok S (fun vs H Q E h => ?_) (fun cdv A outer s H vs Q E hr h => ?_), hm, F.kp, hb⟩
  · obtain ⟨ds, _, h1, h2, _⟩ := h
    rw [← h2.length, h1, hn]
  · obtain ⟨ds, h0, h1, h2, h3⟩ := h
    exact hbody f cdv A outer s H vs Q E ds hr h0 h1 h2 h3
end
theorem s_retD {K : PySem.W.Frag} {te : TE} {σ : L2.St} {H : Hp} {D : Ends} {d : Dt} (h : EvD K te σ H d) (k : ∀ H1 v, Ex H H1 → Rep K H1 d v → D.rt v H1) : tRet te D σ H := h H (Ex.refl H) _ fun H1 v e r => k H1 v e r
end Jb

/-! part JbW -/
/-! zip and enumerate over lists and tuples alike (b = true: a list, b = false: a tuple), by the library's walks of anything. -/
namespace Jb
open PySem PySem.Spec PyProof.Rows L2 Evl
/-- a list (true) or a tuple (false) that is read -/
def SqB (K : PySem.W.Frag) (H : Hp) (b : Bool) (a : Addr) (xs : List V) : Prop := match b with | true => SqL K H a xs | false => SqT K H a xs
def HeapSq (h : Heap) (b : Bool) (a : Addr) (its : Array Value) : Prop := match b with | true => h.IsList a its | false => h.IsTuple a its
def IterB (h : Heap) (b : Bool) (it a : Addr) (i : Nat) : Prop := match b with | true => h.IsListIter it a i | false => h.IsTupleIter it a i
def iterObj (b : Bool) (a : Addr) : Obj := match b with | true => { cls := .type "list_iterator", data := .fields #[.ref a, .int 0 0] } | false => { cls := .type "tuple_iterator", data := .fields #[.ref a, .int 0 0] }
theorem sqb_inv {X : Cx} {pins : List (Addr × Obj)} {σ : L2.St} {H : Hp} {s : Shared} {b : Bool} {a : Addr} {xs : List V} (I : Inv X pins σ H s) (h : SqB X.K H b a xs) : ∃ its : List Value, Vals xs its ∧ HeapSq s.heap b a its.toArray := by
  cases b with
  | true =>
    obtain ⟨its, r, p, _⟩ := I.list h
    exact ⟨its, r, p.isList⟩
  | false =>
    obtain ⟨its, r, p, _⟩ := I.tuple h
    exact ⟨its, r, p⟩
theorem sqb_inj {X : Cx} {pins : List (Addr × Obj)} {σ : L2.St} {H : Hp} {s : Shared} {b : Bool} {a : Addr} {xs ys : List V} (I : Inv X pins σ H s) (h : SqB X.K H b a xs) (h' : SqB X.K H b a ys) : xs = ys := by
  cases b with
  | true => exact I.list_inj h h'
  | false => exact I.tuple_inj h h'
theorem sqb_mono {K : PySem.W.Frag} {H H' : Hp} {b : Bool} {a : Addr} {xs : List V} (e : Ex H H') (h : SqB K H b a xs) : SqB K H' b a xs := by
  cases b with
  | true => exact ex_l e h
  | false => exact ex_t e h
theorem heapSq_lt {h : Heap} {b : Bool} {a : Addr} {its : Array Value} (p : HeapSq h b a its) : a < h.objs.size := by
  cases b <;> (obtain ⟨o, e, _⟩ := p; exact Heap.lt_size e)
theorem iterB_keep {h h' : Heap} {b : Bool} {it a : Addr} {i : Nat} (p : IterB h b it a i) (k : ∀ o, h.get? it = some o → h'.get? it = some o) : IterB h' b it a i := by
  cases b with
  | true => exact Heap.IsListIter.at (show h.IsListIter it a i from p) k
  | false => exact Heap.IsTupleIter.at (show h.IsTupleIter it a i from p) k
theorem iterB_obj {h : Heap} {b : Bool} {it a : Addr} {i : Nat} (p : IterB h b it a i) : ∃ o, h.get? it = some o ∧ ∀ v, o.data ≠ .cell v := by
  cases b <;> (obtain ⟨o, e, _, d⟩ := p; exact ⟨o, e, fun v z => by rw [d] at z; cases z⟩)
theorem iterB_new {h : Heap} {b : Bool} {it a : Addr} (e : h.get? it = some (iterObj b a)) : IterB h b it a 0 := by
  cases b <;> exact ⟨_, e, rfl, rfl⟩
theorem drawsB {prog : Program} {w : World} {A : Around} (hh : A.handled = none) (b : Bool) (it a : Addr) (hne : a ≠ it) (items : Array Value) :
    Draws prog w A it [it, a] items.size (fun i v => items[i]? = some v) (fun i h => IterB h b it a i ∧ HeapSq h b a items) := by
  cases b with
  | true => exact Draws.list hh it a hne items
  | false => exact Draws.tuple hh it a hne items
theorem beginsB (b : Bool) (a : Addr) (items : Array Value) : Begins (.ref a) (iterObj b a) fun h => HeapSq h b a items := by
  cases b with
  | true => exact begins_list a items
  | false => exact begins_tuple a items
/-- pairs of the items of two such things -/
def ItZ (K : PySem.W.Frag) (b c : Bool) (a d : Addr) : It :=
  { go := fun i H => ∃ xs ys x y, SqB K H b a xs ∧ SqB K H c d ys ∧ xs[i]? = some x ∧ ys[i]? = some y
    yld := fun i H v H' => ∃ T x y, v = .ref T ∧ H T = none ∧ H' = upd H T (.tup [x, y]) ∧ (∀ xs, SqB K H b a xs → xs[i]? = some x) ∧ ∀ ys, SqB K H c d ys → ys[i]? = some y
    stop := fun i H => ∃ xs ys, SqB K H b a xs ∧ SqB K H c d ys ∧ i = min xs.length ys.length }
/-- a new pair at T beside what stood; ch: the iterator's own cells -/
theorem pair_step {X : Cx} {pins : List (Addr × Obj)} {σ : L2.St} {H : Hp} {s : Shared} {h' : Heap} {ch : List Addr} {T : Addr} {x y : V} {u v : Value} {tk : Nat} (I : Inv X pins σ H s) (hf : ∀ b ∈ ch, FpOk X pins H b)
    (hT : s.heap.objs.size ≤ T) (tp : h'.IsTuple T #[u, v]) (rx : RelV x u) (ry : RelV y v) (k : ∀ b o, b ∉ ch → s.heap.get? b = some o → h'.get? b = some o) :
    Inv X pins σ (upd H T (.tup [x, y])) { s with heap := h', toks := tk } :=
  I.turnedNew (ch := ch) k hf hT ⟨by show 2 ≤ sizeLine; decide, [u, v], .cons rx (.cons ry .nil), tp⟩
theorem turnZ {P : Program} {w : World} {K : PySem.W.Frag} {elts : List Expr} {kk : Nat} {tpos : Pos} {b c : Bool} {a d z TI TO i1 i2 : Addr} (S : ZipSep2 z TI TO i1 i2 [i1, a] [i2, d]) (n1 : a ≠ i1) (n2 : d ≠ i2) :
    Turn P w K (.Tuple elts kk tpos) (ItZ K b c a d) [z, TI, TO, i1, i2] z (fun i h => IsZip h z TI TO .none ∧ IsTupOf2 h TI (.ref i1) (.ref i2) ∧ (∃ x y, IsTupOf2 h TO x y) ∧ IterB h b i1 a i ∧ IterB h c i2 d i) where
  mem := List.mem_cons_self ..
  obj := fun i h st e he => by
    obtain ⟨q1, q2, ⟨x, y, q3⟩, q4, q5⟩ := st
    simp only [List.mem_cons, List.not_mem_nil, or_false] at he
    rcases he with rfl | rfl | rfl | rfl | rfl
    · exact ⟨_, q1, fun _ q => nomatch q⟩
    · exact ⟨_, q2, fun _ q => nomatch q⟩
    · exact ⟨_, q3, fun _ q => nomatch q⟩
    · exact iterB_obj q4
    · exact iterB_obj q5
  keep := fun i h h' ⟨q1, q2, ⟨x, y, q3⟩, q4, q5⟩ k => ⟨k z (by simp) _ q1, k TI (by simp) _ q2, ⟨x, y, k TO (by simp) _ q3⟩, iterB_keep q4 (k i1 (by simp)), iterB_keep q5 (k i2 (by simp))⟩
  item := by
    intro X hP hw hK hc i pins s σ H E I hf st ⟨xs, ys, x, y, sx, sy, ex, ey⟩
    subst hP hw hK
    obtain ⟨q1, q2, q3, q4, q5⟩ := st
    obtain ⟨us, ru, pu⟩ := sqb_inv I sx
    obtain ⟨ws, rw', pw⟩ := sqb_inv I sy
    obtain ⟨u, hu, rxu⟩ := ru.get ex
    obtain ⟨v, hv, ryv⟩ := rw'.get ey
    have lu : i < us.length := (List.getElem?_eq_some_iff.mp hu).1
    have lv : i < ws.length := (List.getElem?_eq_some_iff.mp hv).1
    have hh : X.A.in1.handled = none := I.ok.hd hc
    have W := WalksT.zipD2 (prog := X.prog) (w := X.w) (A := X.A) S (drawsB hh b i1 a n1 us.toArray) (drawsB hh c i2 d n2 ws.toArray)
    refine W.item i s _ _ (by simp; omega) ⟨q1, q2, q3, ⟨q4, pu⟩, ⟨q5, pw⟩⟩ fun T vals h1 tk ⟨u', v', hu', hv', ev⟩ hT tp mid kp => ⟨_, rfl, ?_⟩
    obtain rfl : u' = u := by simpa [hu] using hu'.symm
    obtain rfl : v' = v := by simpa [hv] using hv'.symm
    subst ev
    have ap := W.apart i T h1 mid
    refine W.go elts kk tpos i T { s with heap := h1, toks := tk } _ _ mid fun h2 st2 kp2 => ?_
    have tp2 : h2.IsTuple T #[u', v'] := by
      obtain ⟨o, e, r⟩ := tp
      exact ⟨o, kp2 T o ap e, r⟩
    have cov : ∀ e, e ∉ [z, TI, TO, i1, i2] → e ∉ [z, TO, i1, i2] := fun e ne m => ne (by simp only [List.mem_cons, List.not_mem_nil, or_false] at m ⊢; rcases m with m | m | m | m <;> simp [m])
    obtain ⟨t1, t2, t3, ⟨t4, _⟩, ⟨t5, _⟩⟩ := st2
    refine ⟨.ref T, _, pair_step (s := s) (h' := h2) (tk := tk) I hf hT tp2 rxu ryv fun e o ne q => kp2 e o (cov e ne) (kp e o (cov e ne) q), rfl, ⟨T, x, y, rfl, I.hok.fresh hT, rfl, fun l hl => by rw [sqb_inj I hl sx]; exact ex, fun l hl => by rw [sqb_inj I hl sy]; exact ey⟩, ⟨t1, t2, t3, t4, t5⟩, fun e he => ?_⟩
    have hlt : e < s.heap.objs.size := by
      simp only [List.mem_cons, List.not_mem_nil, or_false] at he
      obtain ⟨_, _, q3⟩ := q3
      rcases he with rfl | rfl | rfl | rfl | rfl
      · exact Heap.lt_size q1
      · exact Heap.lt_size q2
      · exact Heap.lt_size q3
      · obtain ⟨_, e, _⟩ := iterB_obj q4; exact Heap.lt_size e
      · obtain ⟨_, e, _⟩ := iterB_obj q5; exact Heap.lt_size e
    rw [upd_ne (Nat.ne_of_lt (Nat.lt_of_lt_of_le hlt hT))]
    exact (hf e he).1
  done := by
    intro X hP hw hK hc i pins s σ H E I hf st ⟨xs, ys, sx, sy, en⟩
    subst hP hw hK
    obtain ⟨q1, q2, q3, q4, q5⟩ := st
    obtain ⟨us, ru, pu⟩ := sqb_inv I sx
    obtain ⟨ws, rw', pw⟩ := sqb_inv I sy
    have hh : X.A.in1.handled = none := I.ok.hd hc
    have W := WalksT.zipD2 (prog := X.prog) (w := X.w) (A := X.A) S (drawsB hh b i1 a n1 us.toArray) (drawsB hh c i2 d n2 ws.toArray)
    have el : i = min us.toArray.size ws.toArray.size := by
      rw [en, List.size_toArray, List.size_toArray, ← ru.length, ← rw'.length]
    subst el
    refine W.done s _ _ ⟨q1, q2, q3, ⟨q4, pu⟩, ⟨q5, pw⟩⟩ fun h' tk kp => ⟨rfl, I.turnedL (ch := [z, TI, TO, i1, i2]) (fun e o ne q => kp e o (fun m => ne (by simp only [List.mem_cons, List.not_mem_nil, or_false] at m ⊢; rcases m with m | m | m | m <;> simp [m])) q) hf⟩
  self := fun A i s Q E st h => wpAny_pyIter_zip st.1 h
def iZ (K : PySem.W.Frag) (b c : Bool) (ta : TA) : TI := fun σ H R => ta σ H fun vs H1 => ∃ a d xs ys, vs = [.ref a, .ref d] ∧ SqB K H1 b a xs ∧ SqB K H1 c d ys ∧ R (ItZ K b c a d) H1
theorem piZ {X : Cx} {e e2 : Expr} {ta : TA} {p pos tpos : Pos} {elts : List Expr} {kk : Nat} (b c : Bool) (hg : Gl X "zip") (hm : X.mg "zip" = none) (ha : PA X [e, e2] ta)
    (hs : starEach [e, e2] X.env = (false, eval e X.env) :: starEach [e2] X.env := by rfl)
    (hpl : (backTo pos (starEach [e2] X.env)).any (·.1) = false := by rfl) :
    PI X (.Tuple elts kk tpos) (.Call (.Name "zip" p) [e, e2] [] pos) (iZ X.K b c ta) := by
  refine ⟨fun pins s σ H R I h => Call_ (ld_blt I hg hm boot_zip (callWith_type1 (thn (ha.run pos pins s σ H _ I h) fun us s1 hq => ?_) hs hpl))⟩
  obtain ⟨vs, H1, I1, r1, a, d, xs, ys, rfl, sx, sy, q⟩ := hq
  obtain ⟨u1, u2, rfl, e1, e2⟩ := vals2 r1
  cases e1
  cases e2
  obtain ⟨us, ru, pu⟩ := sqb_inv I1 sx
  obtain ⟨ws, rw', pw⟩ := sqb_inv I1 sy
  have la := heapSq_lt pu
  have ld := heapSq_lt pw
  refine zip_begins2 (beginsB b a us.toArray) (beginsB c d ws.toArray) pu pw fun h' g1 g2 g3 g4 g5 _ kp => wpAny_pyIter_zip g1 ?_
  have S := zip_sep2 (N := s1.heap.objs.size) (fp1 := [a]) (fp2 := [d]) (fun e he => by rw [List.mem_singleton.mp he]; exact la) (fun e he => by rw [List.mem_singleton.mp he]; exact ld)
  refine ⟨s1.heap.objs.size + 4, _, _, ItZ X.K b c a d, H1, rfl, I1.kept (t' := s1.toks) kp, turnZ S (Nat.ne_of_lt la) (Nat.ne_of_lt (Nat.lt_succ_of_lt ld)), ⟨g1, g2, ⟨_, _, g3⟩, iterB_new g4, iterB_new g5⟩, fun e he => ?_, q⟩
  have hle : s1.heap.objs.size ≤ e := by
    simp only [List.mem_cons, List.not_mem_nil, or_false] at he
    rcases he with rfl | rfl | rfl | rfl | rfl <;> first | exact Nat.le_refl _ | exact Nat.le_add_right _ _
  exact I1.fpOk hle (I1.hok.fresh hle)
/-! ### enumerate -/
def ItE (K : PySem.W.Frag) (b : Bool) (a : Addr) : It :=
  { go := fun i H => ∃ xs x, SqB K H b a xs ∧ xs[i]? = some x
    yld := fun i H v H' => ∃ T x, v = .ref T ∧ H T = none ∧ H' = upd H T (.tup [.int (i : Nat), x]) ∧ ∀ xs, SqB K H b a xs → xs[i]? = some x
    stop := fun i H => ∃ xs, SqB K H b a xs ∧ i = xs.length }
theorem turnE {P : Program} {w : World} {K : PySem.W.Frag} {elts : List Expr} {kk : Nat} {tpos : Pos} {b : Bool} {a e it : Addr} (n1 : a ≠ it) (n2 : e ≠ it) (n3 : e ≠ a) :
    Turn P w K (.Tuple elts kk tpos) (ItE K b a) [e, it] e (fun i h => (∃ old, IsEnum h e it (i : Nat) old) ∧ IterB h b it a i) where
  mem := List.mem_cons_self ..
  obj := fun i h st c hc => by
    obtain ⟨⟨_, q1⟩, q2⟩ := st
    simp only [List.mem_cons, List.not_mem_nil, or_false] at hc
    rcases hc with rfl | rfl
    · exact ⟨_, q1, fun _ q => nomatch q⟩
    · exact iterB_obj q2
  keep := fun i h h' ⟨⟨o, q1⟩, q2⟩ k => ⟨⟨o, k e (by simp) _ q1⟩, iterB_keep q2 (k it (by simp))⟩
  item := by
    intro X hP hw hK hc i pins s σ H E I hf st ⟨xs, x, sx, ex⟩
    subst hP hw hK
    obtain ⟨q1, q2⟩ := st
    obtain ⟨us, ru, pu⟩ := sqb_inv I sx
    obtain ⟨u, hu, rxu⟩ := ru.get ex
    have lu : i < us.length := (List.getElem?_eq_some_iff.mp hu).1
    have hh : X.A.in1.handled = none := I.ok.hd hc
    have W := WalksT.enumerateD (prog := X.prog) (w := X.w) (A := X.A) (drawsB hh b it a n1 us.toArray) e n2 (by simp [n2, n3]) (by simp)
    refine W.item i s _ _ (by simpa using lu) ⟨q1, q2, pu⟩ fun T vals h1 tk ⟨t, u', hu', ev⟩ hT tp mid kp => ⟨_, rfl, ?_⟩
    obtain rfl : u' = u := by simpa [hu] using hu'.symm
    subst ev
    have ap := W.apart i T h1 mid
    refine W.go elts kk tpos i T { s with heap := h1, toks := tk } _ _ mid fun h2 st2 kp2 => ?_
    have tp2 : h2.IsTuple T #[.int i t, u'] := by
      obtain ⟨o, e, r⟩ := tp
      exact ⟨o, kp2 T o ap e, r⟩
    obtain ⟨t1, ⟨t4, _⟩⟩ := st2
    refine ⟨.ref T, _, pair_step (s := s) (h' := h2) (tk := tk) I hf hT tp2 (x := .int (i : Nat)) ⟨t, rfl⟩ rxu fun c o ne q => kp2 c o ne (kp c o ne q), rfl, ⟨T, x, rfl, I.hok.fresh hT, rfl, fun l hl => by rw [sqb_inj I hl sx]; exact ex⟩, ⟨t1, t4⟩, fun c hc' => ?_⟩
    have hlt : c < s.heap.objs.size := by
      simp only [List.mem_cons, List.not_mem_nil, or_false] at hc'
      obtain ⟨_, q1⟩ := q1
      rcases hc' with rfl | rfl
      · exact Heap.lt_size q1
      · obtain ⟨_, e, _⟩ := iterB_obj q2; exact Heap.lt_size e
    rw [upd_ne (Nat.ne_of_lt (Nat.lt_of_lt_of_le hlt hT))]
    exact (hf c hc').1
  done := by
    intro X hP hw hK hc i pins s σ H E I hf st ⟨xs, sx, en⟩
    subst hP hw hK
    obtain ⟨q1, q2⟩ := st
    obtain ⟨us, ru, pu⟩ := sqb_inv I sx
    have hh : X.A.in1.handled = none := I.ok.hd hc
    have W := WalksT.enumerateD (prog := X.prog) (w := X.w) (A := X.A) (drawsB hh b it a n1 us.toArray) e n2 (by simp [n2, n3]) (by simp)
    have el : i = us.toArray.size := by rw [en, List.size_toArray, ← ru.length]
    subst el
    exact W.done s _ _ ⟨q1, q2, pu⟩ fun h' tk kp => ⟨rfl, I.turnedL (ch := [e, it]) (fun c o ne q => kp c o ne q) hf⟩
  self := fun A i s Q E ⟨⟨_, q1⟩, _⟩ h => wpAny_pyIter_enum q1 h
/-- enumerate(v) begins: its two new cells -/
theorem enum_newB {v : Value} {o : Obj} {Hv : Heap → Prop} (B : Begins v o Hv) :
    Meets (Builtin.«enumerate.__new__» ⟨[.type "enumerate", v], []⟩) (fun _ R s => Hv s.heap ∧
      R (.ok (.ret (.ref (s.heap.push o).objs.size))) { s with heap := (s.heap.push o).push { cls := .type "enumerate", data := .fields #[.none, .bool false, .ref s.heap.objs.size, rawInt 0, .none, .none] } }) :=
  .of_wp fun prog w A R s hyp => by
    obtain ⟨hp, g, d, tk, os⟩ := s
    obtain ⟨hv, hR⟩ := hyp
    have isub := sub_enumerate
    have go : ∀ {A' : Around} {E' : Value → Shared → Prop} {Q' : Value → Shared → Prop}, Q' (.ref hp.objs.size) ⟨hp.push o, g, d, tk, os⟩ → wpAny (model prog w) A' (pyIter v) Q' E' ⟨hp, g, d, tk, os⟩ := fun {A' E' Q'} z =>
      B.iter prog w A' E' ⟨hp, g, d, tk, os⟩ Q' hv z
    wp_walk using go
    refine wpAny_stack_any fun st => ?_
    refine wpAny_pure ?_
    split
    · rename_i c _ _ _ _ _
      cases (c == Value.type "enumerate") <;> (wp_walk using go; exact ⟨_, rfl, hR⟩)
    · wp_walk using go
      exact ⟨_, rfl, hR⟩
theorem call_enumB {prog : Program} {w : World} {A : Around} {E : Value → Shared → Prop} {s : Shared} {v : Value} {o : Obj} {Hv : Heap → Prop} {Q : Value → Shared → Prop} (B : Begins v o Hv) (hv : Hv s.heap)
    (hq : ∀ h', IsEnum h' (s.heap.objs.size + 1) s.heap.objs.size 0 .none → h'.get? s.heap.objs.size = some o → (∀ c u, s.heap.get? c = some u → h'.get? c = some u) → Q (.ref (s.heap.objs.size + 1)) { s with heap := h' }) :
    wpAny (model prog w) A (call (.type "enumerate") [v]) Q E s := by
  refine callType_new F.called_enumerate (by decide) (F.typeCall_enumerate_1 _) (F.newCall_enumerate_1 _) (fun x => F.args_object_init_2 x _) F.entry_enumerate_new (enum_newB B) ⟨hv, ?_⟩
  have sz : (s.heap.push o).objs.size = s.heap.objs.size + 1 := Heap.size_push ..
  show _ ∧ _
  rw [sz]
  have g2 : ((s.heap.push o).push { cls := .type "enumerate", data := .fields #[.none, .bool false, .ref s.heap.objs.size, rawInt 0, .none, .none] }).get? (s.heap.objs.size + 1) = some { cls := .type "enumerate", data := .fields #[.none, .bool false, .ref s.heap.objs.size, rawInt 0, .none, .none] } := by
    rw [← sz]
    exact Heap.get?_push_size _ rfl
  exact ⟨⟨_, g2, rfl⟩, hq _ g2 (Heap.get?_push_of_some _ (Heap.get?_push_size _ B.free)) fun c u e => Heap.get?_push_of_some _ (Heap.get?_push_of_some _ e)⟩
def iE (K : PySem.W.Frag) (b : Bool) (ta : TA) : TI := fun σ H R => ta σ H fun vs H1 => ∃ a xs, vs = [.ref a] ∧ SqB K H1 b a xs ∧ R (ItE K b a) H1
theorem piE {X : Cx} {e : Expr} {ta : TA} {p pos tpos : Pos} {elts : List Expr} {kk : Nat} (b : Bool) (hg : Gl X "enumerate") (hm : X.mg "enumerate" = none) (ha : PA X [e] ta) (hs : starEach [e] X.env = [(false, eval e X.env)] := by rfl) :
    PI X (.Tuple elts kk tpos) (.Call (.Name "enumerate" p) [e] [] pos) (iE X.K b ta) := by
  refine ⟨fun pins s σ H R I h => Call_ (ld_blt I hg hm boot_enumerate (callWith_type1 (thn (ha.run pos pins s σ H _ I h) fun us s1 hq => ?_) hs rfl))⟩
  obtain ⟨vs, H1, I1, r1, a, xs, rfl, sx, q⟩ := hq
  obtain ⟨u1, rfl, e1⟩ := vals1 r1
  cases e1
  obtain ⟨us, ru, pu⟩ := sqb_inv I1 sx
  have la := heapSq_lt pu
  refine call_enumB (beginsB b a us.toArray) pu fun h' g1 g2 kp => wpAny_pyIter_enum g1 ?_
  refine ⟨s1.heap.objs.size + 1, _, _, ItE X.K b a, H1, rfl, I1.kept (t' := s1.toks) kp, turnE (Nat.ne_of_lt la) (Nat.succ_ne_self _) (Nat.ne_of_gt (Nat.lt_succ_of_lt la)), ⟨⟨_, g1⟩, iterB_new g2⟩, fun c hc => ?_, q⟩
  have hle : s1.heap.objs.size ≤ c := by
    simp only [List.mem_cons, List.not_mem_nil, or_false] at hc
    rcases hc with rfl | rfl
    · exact Nat.le_add_right _ _
    · exact Nat.le_refl _
  exact I1.fpOk hle (I1.hok.fresh hle)
/-! ### as walks -/
theorem walkZ {K : PySem.W.Frag} {b c : Bool} {a d : Addr} {xs ys : List V} : Walk (ItZ K b c a d) (min xs.length ys.length) (fun H => SqB K H b a xs ∧ SqB K H c d ys) (YPair (fun i => xs[i]?) (fun i => ys[i]?)) where
  goes := fun i H hi q => ⟨xs, ys, xs[i]'(by omega), ys[i]'(by omega), q.1, q.2, List.getElem?_eq_getElem _, List.getElem?_eq_getElem _⟩
  stops := fun H q => ⟨xs, ys, q.1, q.2, rfl⟩
  yields := fun i H x H' _ q ⟨T, u, v, h1, h2, h3, h4, h5⟩ => ⟨T, u, v, h1, h2, h3, h4 xs q.1, h5 ys q.2⟩
theorem walkE {K : PySem.W.Frag} {b : Bool} {a : Addr} {xs : List V} : Walk (ItE K b a) xs.length (fun H => SqB K H b a xs) (YPair (fun i => some (.int (i : Nat))) (fun i => xs[i]?)) where
  goes := fun i H hi q => ⟨xs, xs[i], q, List.getElem?_eq_getElem _⟩
  stops := fun H q => ⟨xs, q, rfl⟩
  yields := fun i H x H' _ q ⟨T, v, h1, h2, h3, h4⟩ => ⟨T, .int (i : Nat), v, h1, h2, h3, rfl, h4 xs q⟩
/-! ### lcm -/
def rLcm : List V → Hp → VK → Prop := fun vs H Q => ∃ a b : Int, vs = [.int a, .int b] ∧ a.natAbs < 2 ^ 13000 ∧ b.natAbs < 2 ^ 13000 ∧ Q (.int ((Nat.lcm a.natAbs b.natAbs : Nat) : Int)) H
theorem log_lt {n k : Nat} (h : n < 2 ^ (k + 1)) : n.log2 ≤ k := PySem.W.mg_log h
theorem cr_lcm {X : Cx} : CallR X (.builtin "math.lcm") rLcm := by
  intro pins s σ H vs us Q I r h
  obtain ⟨a, b, rfl, ha, hb, q⟩ := h
  obtain ⟨t, u, rfl⟩ := Vals.int2 r
  have one : Nat.lcm 1 a.natAbs = a.natAbs := Nat.lcm_one_left _
  have l1 : (max 1 a.natAbs).log2 ≤ 12999 := PySem.W.mg_log (k := 12999) (by have : (1 : Nat) < 2 ^ 13000 := Nat.one_lt_two_pow (by decide); show max 1 a.natAbs < 2 ^ 13000; omega)
  have l2 : (max a.natAbs b.natAbs).log2 ≤ 12999 := PySem.W.mg_log (k := 12999) (by show max a.natAbs b.natAbs < 2 ^ 13000; omega)
  have sz : (((Nat.lcm 1 a.natAbs).lcm b.natAbs : Nat) : Int).natAbs.log2 < bitsLine := by
    rw [one]
    show (a.natAbs.lcm b.natAbs).log2 < bitsLine
    have p : a.natAbs.lcm b.natAbs < 2 ^ 26000 := by
      have d : a.natAbs.lcm b.natAbs ≤ a.natAbs * b.natAbs := Nat.div_le_self _ _
      have m : a.natAbs * b.natAbs < 2 ^ 13000 * 2 ^ 13000 := Nat.mul_lt_mul'' ha hb
      rw [← Nat.pow_add] at m
      exact Nat.lt_of_le_of_lt d m
    have p2 := PySem.W.mg_log (k := 25999) p
    have e : bitsLine = 134217728 := by decide
    omega
  refine call_function_meets PySem.W.MGF.kind_lcm PySem.W.MGF.plain_lcm PySem.W.MGF.entry_lcm (PySem.W.MGF.args_lcm _ _) (PySem.W.mg_run_lcm a t b u (by omega) (by omega) sz).meets ?_
  exact ⟨.int ((Nat.lcm a.natAbs b.natAbs : Nat) : Int), H, I.tok _, ⟨_, by rw [one]⟩, q⟩
end Jb

/-! part JbC -/
/-! What comprehensions and calls give, whatever is walked. -/
namespace Jb
open PySem PySem.Spec PyProof.Rows L2 Evl
section
variable {K : PySem.W.Frag} {H H' : Hp} {σ : L2.St} {t : TT} {te tl : TE} {g : TG} {wi : TI}
/-- a walk that goes on well in every heap that keeps what H2 has; Pt: what is known of an item -/
def Good (J : It) (n : Nat) (H2 : Hp) (Pt : Nat → V → Hp → Prop) : Prop :=
  ∃ G Y, Walk J n G Y ∧ (∀ H3, Ex H2 H3 → G H3) ∧ ∀ i H3 x H4, i < n → Ex H2 H3 → Y i H3 x H4 → Ex H3 H4 ∧ Pt i x H4
def EvI (wi : TI) (σ : L2.St) (H : Hp) (n : Nat) (Pt : Nat → V → Hp → Prop) : Prop := ∀ H1, Ex H H1 → ∀ R : It → Hp → Prop, (∀ J H2, Ex H1 H2 → Good J n H2 Pt → R J H2) → wi σ H1 R
theorem el_lcG {vs : List Nat} {n : Nat} {Pt : Nat → V → Hp → Prop} (f : Nat → Bool) (v : Nat → V) (S : Nat → L2.St → Prop) (hw : EvI wi σ H n Pt) (hn : n ≤ 40000)
    (hg : ∀ i x H2, i < n → Ex H H2 → Pt i x H2 → ∀ R : L2.St → Hp → Prop, (∀ σ2, S i σ2 → wipe σ2 vs = wipe σ vs → R σ2 H2) → g x (wipe σ vs) H2 R)
    (ht : ∀ i σ2 H2, i < n → S i σ2 → Ex H H2 → EvT t σ2 H2 (f i)) (he : ∀ i σ2 H2, i < n → S i σ2 → f i = true → Ex H H2 → Ev te σ2 H2 (v i)) :
    EvL (tLc wi g t te vs) σ H (given n f v) := fun H0 e0 Q q => hw H0 e0 _ fun J H1 e1 ⟨G, Y, W, hG, hY⟩ Dl hD =>
  lc_it W (Cw H1 f v Dl) ⟨hD, Ex.new hD, upd_same⟩ (fun i H2 _ p => hG H2 p.2.1) (fun i x H2 H3 hi p y => by
    obtain ⟨e3, pt⟩ := hY i H2 x H3 hi p.2.1 y
    have e4 : Ex H1 H3 := p.2.1.trans e3
    refine hg i x H3 hi ((e0.trans e1).trans e4) pt _ fun σ2 s2 hwp => ⟨hwp, ?_⟩
    have p3 : Cw H1 f v Dl i H3 := ⟨p.1, e4, e3 _ _ p.2.2⟩
    exact cw_turn p3 (by omega) (ht i σ2 H1 hi s2 (e0.trans e1)) (fun hf => he i σ2 H1 hi s2 hf (e0.trans e1))) (fun H2 p => q Dl H2 (fresh_back e1 p.1) (e1.trans p.2.1) p.2.2)
/-! the walks -/
theorem ei_tup {a : Addr} {xs : List V} (h : Ev tl σ H (.ref a)) (hx : SqT K H a xs) : EvI (iTup K tl) σ H xs.length (fun i x _ => xs[i]? = some x) := fun H1 e R q => h H1 e _ fun H2 e2 =>
  ⟨a, rfl, ⟨xs, ex_t (e.trans e2) hx⟩, q _ H2 e2 ⟨_, _, walk_tup, fun H3 e3 => ex_t ((e.trans e2).trans e3) hx, fun i H3 x H4 _ _ y => ⟨y.1 ▸ Ex.refl _, y.2⟩⟩⟩
theorem ei_list {a : Addr} {xs : List V} (h : Ev tl σ H (.ref a)) (hx : SqL K H a xs) : EvI (iList K tl) σ H xs.length (fun i x _ => xs[i]? = some x) := fun H1 e R q => h H1 e _ fun H2 e2 =>
  ⟨a, rfl, ⟨xs, ex_l (e.trans e2) hx⟩, q _ H2 e2 ⟨_, _, walk_list, fun H3 e3 => ex_l ((e.trans e2).trans e3) hx, fun i H3 x H4 _ _ y => ⟨y.1 ▸ Ex.refl _, y.2⟩⟩⟩
theorem ei_listN {xs : List V} (h : EvL tl σ H xs) : EvI (iList K tl) σ H xs.length (fun i x _ => xs[i]? = some x) := fun H1 e R q => h H1 e _ fun a H2 _ e2 hx =>
  ⟨a, rfl, ⟨xs, sq_of hx⟩, q _ H2 e2 ⟨_, _, walk_list, fun H3 e3 => sq_of (e3 _ _ hx), fun i H3 x H4 _ _ y => ⟨y.1 ▸ Ex.refl _, y.2⟩⟩⟩
/-- what stands at a pair's address -/
def PairAt (xs ys : Nat → Option V) (i : Nat) (x : V) (H : Hp) : Prop := ∃ T u v, x = .ref T ∧ H T = some (.tup [u, v]) ∧ xs i = some u ∧ ys i = some v
theorem ypair_at {xs ys : Nat → Option V} {i : Nat} {H3 H4 : Hp} {x : V} (y : YPair xs ys i H3 x H4) : Ex H3 H4 ∧ PairAt xs ys i x H4 := by
  obtain ⟨T, u, v, rfl, h1, rfl, h2, h3⟩ := y
  exact ⟨Ex.new h1, T, u, v, rfl, upd_same, h2, h3⟩
theorem ei_zip {b c : Bool} {ta : TA} {a d : Addr} {xs ys : List V} (h : EvA ta σ H [.ref a, .ref d]) (hx : SqB K H b a xs) (hy : SqB K H c d ys) :
    EvI (iZ K b c ta) σ H (min xs.length ys.length) (PairAt (fun i => xs[i]?) (fun i => ys[i]?)) := fun H1 e R q => h H1 e _ fun H2 e2 =>
  ⟨a, d, xs, ys, rfl, sqb_mono (e.trans e2) hx, sqb_mono (e.trans e2) hy, q _ H2 e2 ⟨_, _, walkZ, fun H3 e3 => ⟨sqb_mono ((e.trans e2).trans e3) hx, sqb_mono ((e.trans e2).trans e3) hy⟩, fun i H3 x H4 _ _ y => ypair_at y⟩⟩
theorem ei_enum {b : Bool} {ta : TA} {a : Addr} {xs : List V} (h : EvA ta σ H [.ref a]) (hx : SqB K H b a xs) :
    EvI (iE K b ta) σ H xs.length (PairAt (fun i => some (.int (i : Nat))) (fun i => xs[i]?)) := fun H1 e R q => h H1 e _ fun H2 e2 =>
  ⟨a, xs, rfl, sqb_mono (e.trans e2) hx, q _ H2 e2 ⟨_, _, walkE, fun H3 e3 => sqb_mono ((e.trans e2).trans e3) hx, fun i H3 x H4 _ _ y => ypair_at y⟩⟩
/-- the two targets of a pair -/
theorem g_pair {xs ys : Nat → Option V} {i : Nat} {x : V} {H2 : Hp} {j k : Nat} {σ0 : L2.St} {R : L2.St → Hp → Prop} (p : PairAt xs ys i x H2) (q : ∀ u v, xs i = some u → ys i = some v → R ((σ0.set j (some u)).set k (some v)) H2) :
    gTup K 2 (gCons (gName j) (gCons (gName k) gNil)) x σ0 H2 R := by
  obtain ⟨T, u, v, rfl, h1, h2, h3⟩ := p
  exact ⟨T, [u, v], rfl, st_of h1, rfl, u, [v], rfl, v, [], rfl, rfl, q u v h2 h3⟩
/-- given, all of them -/
theorem given_all {n : Nat} {f : Nat → Bool} {v : Nat → V} (h : ∀ i, i < n → f i = true) : given n f v = (List.range n).map v := by
  unfold given
  rw [List.filter_eq_self.mpr fun i hi => h i (List.mem_range.mp hi)]
theorem given_map {n : Nat} {f : Nat → Bool} {v : Nat → V} {xs : List V} (h : ∀ i, i < n → f i = true) (hl : xs.length = n) (hv : ∀ i x, xs[i]? = some x → v i = x) : given n f v = xs := by
  rw [given_all h]
  apply List.ext_getElem?
  intro i
  rw [List.getElem?_map]
  by_cases hi : i < n
  · rw [List.getElem?_range hi, Option.map_some, List.getElem?_eq_getElem (by omega)]
    exact congrArg some (hv i _ (List.getElem?_eq_getElem (by omega)))
  · rw [List.getElem?_eq_none (by simp; omega), List.getElem?_eq_none (by omega), Option.map_none]
end
/-- what tuple(x) asks, x a list or a tuple -/
def rTup (K : PySem.W.Frag) : List V → Hp → VK → Prop := fun vs H Q => ∃ p ys, vs = [.ref p] ∧ ((SqL K H p ys ∧ ∀ l, H l = none → Q (.ref l) (upd H l (.tup ys))) ∨ (SqT K H p ys ∧ Q (.ref p) H))
theorem eu_tupL {K : PySem.W.Frag} {te : TE} {σ : L2.St} {H : Hp} {xs : List V} (h : EvL te σ H xs) : EvU (tCB (rTup K) (tCons te tNil)) σ H xs := fun H1 e Q q =>
  h H1 e _ fun p H2 hp e2 hd => ⟨p, xs, rfl, .inl ⟨sq_of hd, fun l hl => q l _ (fresh_back e2 hl) (e2.trans (Ex.new hl)) upd_same⟩⟩
end Jb

/-! part SpM -/
/-! Reduced bases as plain functions on lists. -/
namespace Sp
def ent (v : List Int) (p : Nat) : Int := v.getD p 0
def piv : List Int → Option Nat
  | [] => none
  | x :: r => if x ≠ 0 then some 0 else (piv r).map (· + 1)
def gcdL (v : List Int) : Nat := v.foldl (fun g x => Nat.gcd g x.natAbs) 0
def prim (v : List Int) : List Int := if gcdL v = 1 ∨ gcdL v = 0 then v else v.map fun x => x / (gcdL v : Int)
abbrev Rows := List (Nat × List Int)
def rowAt (R : Rows) (p : Nat) : List Int := (R.lookup p).getD []
def hits (v : List Int) (R : Rows) : List Nat := (R.map (·.1)).filter fun p => decide (ent v p ≠ 0)
def hd (R : Rows) (p : Nat) : Int := ent (rowAt R p) p
def need (v : List Int) (R : Rows) (p : Nat) : Int := hd R p / (Nat.gcd (hd R p).natAbs (ent v p).natAbs : Nat)
def scaleStep (v : List Int) (R : Rows) (s : Int) (p : Nat) : Int := (Nat.lcm s.natAbs (need v R p).natAbs : Nat)
def scaleOf (v : List Int) (R : Rows) : Int := (hits v R).foldl (scaleStep v R) 1
def fac (v : List Int) (R : Rows) (s : Int) (p : Nat) : Int := s * ent v p / hd R p
def subStep (v : List Int) (R : Rows) (s : Int) (rest : List Int) (p : Nat) : List Int := List.zipWith (fun o t => o - fac v R s p * t) rest (rowAt R p)
def rem (v : List Int) (R : Rows) : List Int := (hits v R).foldl (subStep v R (scaleOf v R)) (v.map (scaleOf v R * ·))
def cross (row v : List Int) (p : Nat) : List Int :=
  List.zipWith (fun o t => ent v p / (Nat.gcd (ent row p).natAbs (ent v p).natAbs : Nat) * o - ent row p / (Nat.gcd (ent row p).natAbs (ent v p).natAbs : Nat) * t) row v
def clr (row v : List Int) (p : Nat) : List Int := if ent row p = 0 then row else prim (cross row v p)
def up (v : List Int) (p : Nat) : List Int := if ent v p < 0 then v.map (- ·) else v
def addRow (R : Rows) (v : List Int) : Rows :=
  match piv (prim (rem v R)) with
  | none => R
  | some p => (R.map fun q => (q.1, clr q.2 (up (prim (rem v R)) p) p)) ++ [(p, up (prim (rem v R)) p)]
def redGo : Rows → List (List Int) → Rows
  | R, [] => R
  | R, v :: vs => if R.length = v.length then R else redGo (addRow R v) vs
def red (vs : List (List Int)) : Rows := redGo [] vs
theorem gcdL_take {v : List Int} {i : Nat} {x : Int} (h : v[i]? = some x) : gcdL (v.take (i + 1)) = Nat.gcd (gcdL (v.take i)) x.natAbs := by
  unfold gcdL
  rw [List.take_add_one, h]
  simp
theorem gcdL_one {v : List Int} {i : Nat} (h : gcdL (v.take i) = 1) : gcdL v = 1 := by
  have key : ∀ (l : List Int), l.foldl (fun g x => Nat.gcd g x.natAbs) 1 = 1 := by
    intro l
    induction l with
    | nil => rfl
    | cons a l ih => rw [List.foldl_cons, Nat.gcd_one_left]; exact ih
  have e : v = v.take i ++ v.drop i := (List.take_append_drop i v).symm
  unfold gcdL at h ⊢
  rw [e, List.foldl_append, h]
  exact key _
theorem piv_at : ∀ (v : List Int) (i : Nat), (∀ j, j < i → ent v j = 0) → (h : i < v.length) → ent v i ≠ 0 → piv v = some i
  | [], _, _, h, _ => by simp at h
  | x :: r, 0, _, _, h => by
    have h' : x ≠ 0 := by simpa [ent] using h
    unfold piv
    rw [if_pos h']
  | x :: r, i + 1, hz, hl, h => by
    have h0 : x = 0 := by simpa [ent] using hz 0 (by omega)
    have ih := piv_at r i (fun j hj => by simpa [ent] using hz (j + 1) (by omega)) (by simpa using hl) (by simpa [ent] using h)
    unfold piv
    rw [if_neg (by simp [h0]), ih]
    rfl
theorem piv_none : ∀ (v : List Int), (∀ j, j < v.length → ent v j = 0) → piv v = none
  | [], _ => rfl
  | x :: r, hz => by
    have h0 : x = 0 := by simpa [ent] using hz 0 (by simp)
    have ih := piv_none r fun j hj => by simpa [ent] using hz (j + 1) (by simpa using hj)
    unfold piv
    rw [if_neg (by simp [h0]), ih]
    rfl
theorem piv_some : ∀ {v : List Int} {i : Nat}, piv v = some i → i < v.length ∧ ent v i ≠ 0 ∧ ∀ j, j < i → ent v j = 0
  | [], _, h => by simp [piv] at h
  | x :: r, i, h => by
    unfold piv at h
    by_cases hx : x ≠ 0
    · rw [if_pos hx] at h
      obtain rfl := Option.some.inj h
      exact ⟨by simp, by simpa [ent] using hx, fun j hj => by omega⟩
    · rw [if_neg hx] at h
      cases e : piv r with
      | none => rw [e] at h; cases h
      | some k =>
        rw [e] at h
        obtain rfl : k + 1 = i := by simpa using h
        obtain ⟨a, b, c⟩ := piv_some e
        refine ⟨by simp; omega, by simpa [ent] using b, fun j hj => ?_⟩
        cases j with
        | zero => simpa [ent] using hx
        | succ j => simpa [ent] using c j (by omega)
theorem piv_zero {v : List Int} (h : piv v = none) : ∀ j, ent v j = 0 := by
  intro j
  by_cases hj : j < v.length
  · refine Classical.byContradiction fun q => ?_
    have : ∃ i, i < v.length ∧ ent v i ≠ 0 ∧ ∀ k, k < i → ent v k = 0 := by
      have key : ∀ n, (∃ i, i ≤ n ∧ i < v.length ∧ ent v i ≠ 0) → ∃ i, i < v.length ∧ ent v i ≠ 0 ∧ ∀ k, k < i → ent v k = 0 := by
        intro n
        induction n with
        | zero => rintro ⟨i, h1, h2, h3⟩; exact ⟨i, h2, h3, fun k hk => by omega⟩
        | succ n ih =>
          rintro ⟨i, h1, h2, h3⟩
          by_cases z : ∃ i, i ≤ n ∧ i < v.length ∧ ent v i ≠ 0
          · exact ih z
          · refine ⟨i, h2, h3, fun k hk => Classical.byContradiction fun q => z ⟨k, by omega, by omega, q⟩⟩
      exact key j ⟨j, Nat.le_refl _, hj, q⟩
    obtain ⟨i, h1, h2, h3⟩ := this
    rw [piv_at v i h3 h1 h2] at h
    cases h
  · unfold ent
    rw [List.getD_eq_getElem?_getD, List.getElem?_eq_none (by omega)]
    rfl
/-- the keys in order, the rows in the order of their keys -/
def keysUp (R : Rows) : List Int := (R.map fun q => (q.1 : Int)).mergeSort (fun a b => decide (a ≤ b))
def srtR (R : Rows) : Rows := (keysUp R).map fun y => (y.toNat, rowAt R y.toNat)
theorem keysUp_perm (R : Rows) : (keysUp R).Perm (R.map fun q => (q.1 : Int)) := List.mergeSort_perm _ _
theorem keysUp_up (R : Rows) : (keysUp R).Pairwise (· ≤ ·) := by
  have h := List.pairwise_mergeSort (le := fun (a b : Int) => decide (a ≤ b)) (fun a b c h1 h2 => decide_eq_true (Int.le_trans (of_decide_eq_true h1) (of_decide_eq_true h2))) (fun a b => by
    rcases Int.le_total a b with h | h
    · simp [h]
    · simp [h]) (R.map fun q => (q.1 : Int))
  exact h.imp fun h => of_decide_eq_true h
theorem keysUp_same {R : Rows} {ys : List Int} (h : ys.Perm (R.map fun q => (q.1 : Int))) (hp : ys.Pairwise (· ≤ ·)) : ys = keysUp R :=
  List.Perm.eq_of_pairwise (fun a b _ _ h1 h2 => Int.le_antisymm h1 h2) hp (keysUp_up R) (h.trans (keysUp_perm R).symm)
theorem prim_len (v : List Int) : (prim v).length = v.length := by
  unfold prim
  split
  · rfl
  · rw [List.length_map]
theorem up_len (v : List Int) (p : Nat) : (up v p).length = v.length := by
  unfold up
  split
  · rw [List.length_map]
  · rfl
end Sp

/-! part SpN -/
/-! What reducing does, in numbers. -/
namespace Sp
theorem nd1 {n : Nat} {z : Int} (h : n ∣ z.natAbs) : (n : Int) ∣ z := Int.ofNat_dvd_left.mpr h
theorem nd2 {n : Nat} {z : Int} (h : (n : Int) ∣ z) : n ∣ z.natAbs := Int.ofNat_dvd_left.mp h
theorem nd3 {n : Nat} {z : Int} (h : z.natAbs ∣ n) : z ∣ (n : Int) := Int.ofNat_dvd_right.mpr h
theorem ent_map (f : Int → Int) (h0 : f 0 = 0) (v : List Int) (j : Nat) : ent (v.map f) j = f (ent v j) := by
  unfold ent
  rw [List.getD_eq_getElem?_getD, List.getD_eq_getElem?_getD, List.getElem?_map]
  cases v[j]? with
  | none => exact h0.symm
  | some x => rfl
theorem ent_zip (f : Int → Int → Int) (h0 : f 0 0 = 0) {a b : List Int} (h : a.length = b.length) (j : Nat) : ent (List.zipWith f a b) j = f (ent a j) (ent b j) := by
  unfold ent
  rw [List.getD_eq_getElem?_getD, List.getD_eq_getElem?_getD, List.getD_eq_getElem?_getD, List.getElem?_zipWith]
  by_cases hj : j < a.length
  · rw [List.getElem?_eq_getElem hj, List.getElem?_eq_getElem (h ▸ hj)]
    rfl
  · rw [List.getElem?_eq_none (by omega), List.getElem?_eq_none (by omega)]
    exact h0.symm
theorem ent_out {v : List Int} {j : Nat} (h : v.length ≤ j) : ent v j = 0 := by
  unfold ent
  rw [List.getD_eq_getElem?_getD, List.getElem?_eq_none h] <;> rfl
/-! the greatest common divisor -/
theorem gcdL_dvd_go : ∀ (v : List Int) (g : Nat), (v.foldl (fun g x => Nat.gcd g x.natAbs) g ∣ g) ∧ ∀ x ∈ v, v.foldl (fun g x => Nat.gcd g x.natAbs) g ∣ x.natAbs
  | [], g => ⟨Nat.dvd_refl g, fun x h => by cases h⟩
  | a :: v, g => by
    obtain ⟨h1, h2⟩ := gcdL_dvd_go v (Nat.gcd g a.natAbs)
    rw [List.foldl_cons]
    refine ⟨Nat.dvd_trans h1 (Nat.gcd_dvd_left _ _), fun x hx => ?_⟩
    rcases List.mem_cons.mp hx with e | e
    · rw [e]; exact Nat.dvd_trans h1 (Nat.gcd_dvd_right _ _)
    · exact h2 x e
theorem gcdL_dvd {v : List Int} (j : Nat) : (gcdL v : Int) ∣ ent v j := by
  unfold ent
  rw [List.getD_eq_getElem?_getD]
  cases e : v[j]? with
  | none => exact ⟨0, (Int.mul_zero _).symm⟩
  | some x => exact nd1 ((gcdL_dvd_go v 0).2 x (List.mem_of_getElem? e))
theorem gcdL_zero_go : ∀ (v : List Int), (∀ x ∈ v, x = 0) → v.foldl (fun g x => Nat.gcd g x.natAbs) 0 = 0
  | [], _ => rfl
  | a :: v, h => by
    rw [List.foldl_cons, h a List.mem_cons_self]
    exact gcdL_zero_go v fun x hx => h x (List.mem_cons_of_mem _ hx)
theorem gcdL_lt {v : List Int} {b : Nat} (hb : 0 < b) (h : ∀ j, (ent v j).natAbs < 2 ^ b) : (gcdL v).log2 < b := by
  by_cases z : gcdL v = 0
  · rw [z]
    simpa using hb
  · have : ∃ j, ent v j ≠ 0 := by
      refine Classical.byContradiction fun q => z ?_
      refine gcdL_zero_go v fun x hx => ?_
      obtain ⟨j, hj⟩ := List.mem_iff_getElem?.mp hx
      have : ent v j = 0 := Classical.byContradiction fun y => q ⟨j, y⟩
      unfold ent at this
      rw [List.getD_eq_getElem?_getD, hj] at this
      exact this
    obtain ⟨j, hj⟩ := this
    have h1 : gcdL v ∣ (ent v j).natAbs := nd2 (gcdL_dvd j)
    have h2 := Nat.le_of_dvd (by omega) h1
    exact (Nat.log2_lt z).mpr (Nat.lt_of_le_of_lt h2 (h j))
/-- primitive is division by a positive number -/
theorem prim_ent (v : List Int) : ∃ g : Int, 0 < g ∧ ∀ j, ent (prim v) j * g = ent v j := by
  unfold prim
  by_cases h : gcdL v = 1 ∨ gcdL v = 0
  · rw [if_pos h]
    exact ⟨1, by decide, fun j => Int.mul_one _⟩
  · rw [if_neg h]
    refine ⟨(gcdL v : Int), by omega, fun j => ?_⟩
    rw [ent_map (fun x => x / (gcdL v : Int)) (Int.zero_ediv _)]
    exact Int.ediv_mul_cancel (gcdL_dvd j)
theorem le_of_mul {x g y : Int} (hg : 0 < g) (h : x * g = y) : x.natAbs ≤ y.natAbs := by
  rw [← h, Int.natAbs_mul]
  exact Nat.le_mul_of_pos_right _ (by omega)
/-! hits and scale -/
structure Good (wd : Nat) (R : Rows) (D : Int) (d : Nat) : Prop where
  len : ∀ q ∈ R, q.2.length = wd ∧ q.1 < wd
  nd : (R.map (·.1)).Nodup
  pv : ∀ q ∈ R, piv q.2 = some q.1
  pos : ∀ q ∈ R, 0 < ent q.2 q.1
  zero : ∀ q ∈ R, ∀ r ∈ R, q.1 ≠ r.1 → ent q.2 r.1 = 0
  dpos : 0 < D
  dlt : D.natAbs < 2 ^ d
  mul : ∀ q ∈ R, ∃ m : Int, 0 < m ∧ m * ent q.2 q.1 = D ∧ ∀ j, (m * ent q.2 j).natAbs < 2 ^ d
theorem look_mem {p : Nat} {row : List Int} : ∀ {R : Rows}, (R.map (·.1)).Nodup → (p, row) ∈ R → R.lookup p = some row
  | [], _, h => by cases h
  | (q1, q2) :: R, nd, hm => by
    rcases List.mem_cons.mp hm with e | e
    · cases e; simp [List.lookup]
    · have hne : p ≠ q1 := fun z => (List.nodup_cons.mp nd).1 (List.mem_map.mpr ⟨_, e, by exact z⟩)
      have : (p == q1) = false := by simpa using hne
      simp only [List.lookup, this]
      exact look_mem (List.nodup_cons.mp nd).2 e
theorem rowAt_mem {p : Nat} {row : List Int} {R : Rows} (nd : (R.map (·.1)).Nodup) (h : (p, row) ∈ R) : rowAt R p = row := by
  unfold rowAt
  rw [look_mem nd h] <;> rfl
section
variable {wd d : Nat} {R : Rows} {D : Int} {v : List Int}
theorem Good.hit (G : Good wd R D d) {p : Nat} (h : p ∈ hits v R) : ∃ row, (p, row) ∈ R ∧ rowAt R p = row ∧ ent v p ≠ 0 := by
  unfold hits at h
  obtain ⟨h1, h2⟩ := List.mem_filter.mp h
  obtain ⟨⟨p', row⟩, h3, h4⟩ := List.mem_map.mp h1
  have h4 : p' = p := h4
  subst h4
  exact ⟨row, h3, rowAt_mem G.nd h3, of_decide_eq_true h2⟩
theorem Good.hd_pos (G : Good wd R D d) {p : Nat} (h : p ∈ hits v R) : 0 < hd R p := by
  obtain ⟨row, h1, h2, _⟩ := G.hit h
  unfold hd
  rw [h2]
  exact G.pos _ h1
theorem Good.hd_dvd (G : Good wd R D d) {p : Nat} (h : p ∈ hits v R) : hd R p ∣ D := by
  obtain ⟨row, h1, h2, _⟩ := G.hit h
  obtain ⟨m, _, h3, _⟩ := G.mul _ h1
  unfold hd
  rw [h2, ← h3]
  exact ⟨m, Int.mul_comm _ _⟩
theorem need_dvd {p : Nat} : need v R p ∣ hd R p := by
  unfold need
  have : ((Nat.gcd (hd R p).natAbs (ent v p).natAbs : Nat) : Int) ∣ hd R p := nd1 (Nat.gcd_dvd_left _ _)
  exact ⟨_, (Int.ediv_mul_cancel this).symm⟩
theorem fold_dvd (D : Int) : ∀ (l : List Nat) (s : Int), s ∣ D → (∀ p ∈ l, need v R p ∣ D) → l.foldl (scaleStep v R) s ∣ D
  | [], s, h, _ => h
  | p :: l, s, h, hn => by
    rw [List.foldl_cons]
    refine fold_dvd D l _ ?_ fun q hq => hn q (List.mem_cons_of_mem _ hq)
    unfold scaleStep
    have h1 : s.natAbs ∣ D.natAbs := Int.natAbs_dvd_natAbs.mpr h
    have h2 : (need v R p).natAbs ∣ D.natAbs := Int.natAbs_dvd_natAbs.mpr (hn p List.mem_cons_self)
    exact nd1 (Nat.lcm_dvd h1 h2)
theorem dvd_fold : ∀ (l : List Nat) (s : Int), s ∣ l.foldl (scaleStep v R) s ∧ ∀ p ∈ l, need v R p ∣ l.foldl (scaleStep v R) s
  | [], s => ⟨Int.dvd_refl s, fun p h => by cases h⟩
  | p :: l, s => by
    obtain ⟨h1, h2⟩ := dvd_fold l (scaleStep v R s p)
    rw [List.foldl_cons]
    have a1 : s ∣ scaleStep v R s p := by unfold scaleStep; exact nd3 (Nat.dvd_lcm_left _ _)
    have a2 : need v R p ∣ scaleStep v R s p := by unfold scaleStep; exact nd3 (Nat.dvd_lcm_right _ _)
    refine ⟨Int.dvd_trans a1 h1, fun q hq => ?_⟩
    rcases List.mem_cons.mp hq with e | e
    · rw [e]; exact Int.dvd_trans a2 h1
    · exact h2 q e
theorem fold_nn : ∀ (l : List Nat) (s : Int), 0 ≤ s → 0 ≤ l.foldl (scaleStep v R) s
  | [], s, h => h
  | p :: l, s, h => by
    rw [List.foldl_cons]
    exact fold_nn l _ (by unfold scaleStep; exact Int.natCast_nonneg _)
theorem Good.need_D (G : Good wd R D d) {p : Nat} (h : p ∈ hits v R) : need v R p ∣ D := Int.dvd_trans need_dvd (G.hd_dvd h)
theorem Good.pre (G : Good wd R D d) (i : Nat) : (((hits v R).take i).foldl (scaleStep v R) 1).natAbs < 2 ^ d := by
  have h : ((hits v R).take i).foldl (scaleStep v R) 1 ∣ D := fold_dvd D _ 1 ⟨D, (Int.one_mul D).symm⟩ fun p hp => G.need_D (List.mem_of_mem_take hp)
  have h2 : (((hits v R).take i).foldl (scaleStep v R) 1).natAbs ∣ D.natAbs := Int.natAbs_dvd_natAbs.mpr h
  exact Nat.lt_of_le_of_lt (Nat.le_of_dvd (by have := G.dpos; omega) h2) G.dlt
theorem Good.scale_D (G : Good wd R D d) : ∃ t : Int, 0 < t ∧ scaleOf v R * t = D := by
  have h : scaleOf v R ∣ D := fold_dvd D _ 1 ⟨D, (Int.one_mul D).symm⟩ fun p hp => G.need_D hp
  have h0 : 0 ≤ scaleOf v R := fold_nn _ 1 (by decide)
  obtain ⟨t, ht⟩ := h
  have := G.dpos
  refine ⟨t, ?_, ht.symm⟩
  refine Classical.byContradiction fun q => ?_
  have : scaleOf v R * t ≤ 0 := Int.mul_nonpos_of_nonneg_of_nonpos h0 (by omega)
  omega
/-- the factors are exact -/
theorem Good.fac_eq (G : Good wd R D d) {p : Nat} (h : p ∈ hits v R) : fac v R (scaleOf v R) p * hd R p = scaleOf v R * ent v p := by
  unfold fac
  refine Int.ediv_mul_cancel ?_
  have h1 : need v R p ∣ scaleOf v R := (dvd_fold (v := v) (R := R) (hits v R) 1).2 p h
  have hg1 : ((Nat.gcd (hd R p).natAbs (ent v p).natAbs : Nat) : Int) ∣ hd R p := nd1 (Nat.gcd_dvd_left _ _)
  have hg2 : ((Nat.gcd (hd R p).natAbs (ent v p).natAbs : Nat) : Int) ∣ ent v p := nd1 (Nat.gcd_dvd_right _ _)
  have e1 : need v R p * ((Nat.gcd (hd R p).natAbs (ent v p).natAbs : Nat) : Int) = hd R p := Int.ediv_mul_cancel hg1
  obtain ⟨a, ha⟩ := h1
  obtain ⟨b, hb⟩ := hg2
  refine ⟨a * b, ?_⟩
  generalize ((Nat.gcd (hd R p).natAbs (ent v p).natAbs : Nat) : Int) = g at *
  rw [ha, ← e1]
  conv => lhs; rw [hb]
  simp only [Int.mul_assoc, Int.mul_left_comm, Int.mul_comm]
/-- the rest, entry by entry -/
theorem rest_ent (G : Good wd R D d) (hv : v.length = wd) (s : Int) (j : Nat) : ∀ (l : List Nat) (rest : List Int), (∀ p ∈ l, p ∈ hits v R) → rest.length = wd →
    ent (l.foldl (subStep v R s) rest) j = ent rest j - (l.map fun p => fac v R s p * ent (rowAt R p) j).sum
  | [], rest, _, _ => by simp
  | p :: l, rest, hl, hr => by
    obtain ⟨row, h1, h2, _⟩ := G.hit (hl p List.mem_cons_self)
    have hlen : (rowAt R p).length = wd := by rw [h2]; exact (G.len _ h1).1
    have hs : (subStep v R s rest p).length = wd := by unfold subStep; rw [List.length_zipWith, hr, hlen, Nat.min_self]
    rw [List.foldl_cons, rest_ent G hv s j l _ (fun q hq => hl q (List.mem_cons_of_mem _ hq)) hs]
    have e : ent (subStep v R s rest p) j = ent rest j - fac v R s p * ent (rowAt R p) j := by
      unfold subStep
      exact ent_zip (fun o t => o - fac v R s p * t) (by simp) (by rw [hr, hlen]) j
    rw [e, List.map_cons, List.sum_cons]
    omega
theorem Good.rem_ent (G : Good wd R D d) (hv : v.length = wd) (j : Nat) : ent (rem v R) j = scaleOf v R * ent v j - ((hits v R).map fun p => fac v R (scaleOf v R) p * ent (rowAt R p) j).sum := by
  unfold rem
  rw [rest_ent G hv _ j _ _ (fun _ h => h) (by rw [List.length_map, hv]), ent_map _ (Int.mul_zero _)]
end
end Sp

/-! part SpP -/
/-! What reducing keeps. -/
namespace Sp
theorem sum_one (f : Nat → Int) (a : Nat) : ∀ (l : List Nat), l.Nodup → (∀ p ∈ l, p ≠ a → f p = 0) → (l.map f).sum = if a ∈ l then f a else 0
  | [], _, _ => rfl
  | p :: l, nd, h => by
    obtain ⟨n1, n2⟩ := List.nodup_cons.mp nd
    rw [List.map_cons, List.sum_cons, sum_one f a l n2 fun q hq => h q (List.mem_cons_of_mem _ hq)]
    by_cases c : p = a
    · subst c
      rw [if_neg n1, if_pos List.mem_cons_self, Int.add_zero]
    · rw [h p List.mem_cons_self c, Int.zero_add]
      have : (a ∈ p :: l) ↔ a ∈ l := ⟨fun z => (List.mem_cons.mp z).elim (fun e => absurd e.symm c) id, List.mem_cons_of_mem _⟩
      by_cases m : a ∈ l
      · rw [if_pos m, if_pos (this.mpr m)]
      · rw [if_neg m, if_neg fun z => m (this.mp z)]
theorem sum_bd (f : Nat → Int) (t : Int) (B : Nat) : ∀ (l : List Nat), (∀ p ∈ l, (t * f p).natAbs ≤ B) → (t * (l.map f).sum).natAbs ≤ l.length * B
  | [], _ => by simp
  | p :: l, h => by
    have h1 := h p List.mem_cons_self
    have h2 := sum_bd f t B l fun q hq => h q (List.mem_cons_of_mem _ hq)
    rw [List.map_cons, List.sum_cons, Int.mul_add, List.length_cons, Nat.add_mul, Nat.one_mul]
    have := Int.natAbs_add_le (t * f p) (t * (l.map f).sum)
    omega
section
variable {wd d c : Nat} {R : Rows} {D : Int} {v : List Int}
theorem hits_nd (nd : (R.map (·.1)).Nodup) : (hits v R).Nodup := List.Nodup.sublist List.filter_sublist nd
theorem hits_len : (hits v R).length ≤ R.length := by
  unfold hits
  have := List.length_filter_le (fun p => decide (ent v p ≠ 0)) (R.map (·.1))
  rwa [List.length_map] at this
theorem Good.row (G : Good wd R D d) {p : Nat} (h : p ∈ R.map (·.1)) : (p, rowAt R p) ∈ R := by
  obtain ⟨⟨p', row⟩, h3, h4⟩ := List.mem_map.mp h
  have h4 : p' = p := h4
  subst h4
  rw [rowAt_mem G.nd h3]
  exact h3
theorem Good.rem_zero (G : Good wd R D d) (hv : v.length = wd) {q : Nat × List Int} (hq : q ∈ R) : ent (rem v R) q.1 = 0 := by
  rw [G.rem_ent hv, sum_one _ q.1 _ (hits_nd G.nd) fun p hp hne => ?_]
  · by_cases m : q.1 ∈ hits v R
    · rw [if_pos m]
      have := G.fac_eq m
      unfold hd at this
      rw [this, Int.sub_self]
    · rw [if_neg m]
      have : ent v q.1 = 0 := by
        refine Classical.byContradiction fun z => m ?_
        unfold hits
        exact List.mem_filter.mpr ⟨List.mem_map.mpr ⟨q, hq, rfl⟩, decide_eq_true z⟩
      rw [this, Int.mul_zero, Int.sub_zero]
  · obtain ⟨row, h1, h2, _⟩ := G.hit hp
    rw [h2, G.zero _ h1 _ hq hne, Int.mul_zero]
theorem pow_mul {a b : Nat} {x y : Int} (hx : x.natAbs < 2 ^ a) (hy : y.natAbs < 2 ^ b) : (x * y).natAbs < 2 ^ (a + b) := by
  rw [Int.natAbs_mul, Nat.pow_add]
  exact Nat.mul_lt_mul'' hx hy
theorem Good.rem_lt (G : Good wd R D d) (hv : v.length = wd) (hb : ∀ j, (ent v j).natAbs < 2 ^ c) (hn : R.length ≤ 7) (j : Nat) : (ent (rem v R) j).natAbs < 2 ^ (d + c + 3) := by
  obtain ⟨t, ht, hs⟩ := G.scale_D (v := v)
  have h1 : (t * ent (rem v R) j).natAbs < 2 ^ (d + c + 3) := by
    rw [G.rem_ent hv, Int.mul_sub]
    have e1 : t * (scaleOf v R * ent v j) = D * ent v j := by rw [← hs]; simp only [Int.mul_assoc, Int.mul_left_comm, Int.mul_comm]
    rw [e1]
    have b1 : (D * ent v j).natAbs < 2 ^ (d + c) := pow_mul G.dlt (hb j)
    have b2 := sum_bd (fun p => fac v R (scaleOf v R) p * ent (rowAt R p) j) t (2 ^ (d + c)) (hits v R) fun p hp => by
      obtain ⟨row, g1, g2, _⟩ := G.hit hp
      obtain ⟨m, m0, m1, m2⟩ := G.mul _ g1
      have hp0 := G.hd_pos hp
      have e2 : t * fac v R (scaleOf v R) p = m * ent v p := by
        refine Int.eq_of_mul_eq_mul_right (a := hd R p) (by omega) ?_
        rw [Int.mul_assoc, G.fac_eq hp]
        have m1' : m * hd R p = D := by unfold hd; rw [g2]; exact m1
        calc t * (scaleOf v R * ent v p) = (scaleOf v R * t) * ent v p := by simp only [Int.mul_assoc, Int.mul_left_comm, Int.mul_comm]
          _ = m * hd R p * ent v p := by rw [hs, m1']
          _ = m * ent v p * hd R p := by simp only [Int.mul_assoc, Int.mul_left_comm, Int.mul_comm]
      have e3 : t * (fac v R (scaleOf v R) p * ent (rowAt R p) j) = (m * ent row j) * ent v p := by
        rw [← Int.mul_assoc, e2, g2]
        simp only [Int.mul_assoc, Int.mul_left_comm, Int.mul_comm]
      rw [e3]
      exact Nat.le_of_lt (pow_mul (m2 j) (hb p))
    have b3 := Int.natAbs_sub_le (D * ent v j) (t * ((hits v R).map fun p => fac v R (scaleOf v R) p * ent (rowAt R p) j).sum)
    have b4 := hits_len (v := v) (R := R)
    have b5 : (hits v R).length * 2 ^ (d + c) ≤ 7 * 2 ^ (d + c) := Nat.mul_le_mul_right _ (by omega)
    rw [Nat.pow_add 2 (d + c) 3]
    omega
  rw [Int.natAbs_mul] at h1
  exact Nat.lt_of_le_of_lt (Nat.le_mul_of_pos_left _ (by omega)) h1
theorem zero_of_mul {x g y : Int} (hg : 0 < g) (h : x * g = y) (hy : y = 0) : x = 0 := by
  rw [hy] at h
  rcases Int.mul_eq_zero.mp h with z | z
  · exact z
  · omega
/-- the new row -/
structure New (wd : Nat) (R : Rows) (u : List Int) (p b : Nat) : Prop where
  len : u.length = wd
  lt : p < wd
  pos : 0 < ent u p
  low : ∀ j, j < p → ent u j = 0
  zero : ∀ q ∈ R, ent u q.1 = 0
  bd : ∀ j, (ent u j).natAbs < 2 ^ b
theorem rem_len' (G : Good wd R D d) (hv : v.length = wd) : (rem v R).length = wd := by
  have key : ∀ (l : List Nat) (rest : List Int), (∀ p ∈ l, p ∈ hits v R) → rest.length = wd → (l.foldl (subStep v R (scaleOf v R)) rest).length = wd := by
    intro l
    induction l with
    | nil => intro rest _ h; exact h
    | cons p l ih =>
      intro rest hl hr
      obtain ⟨row, h1, h2, _⟩ := G.hit (hl p List.mem_cons_self)
      rw [List.foldl_cons]
      refine ih _ (fun q hq => hl q (List.mem_cons_of_mem _ hq)) ?_
      unfold subStep
      rw [List.length_zipWith, hr, h2, (G.len _ h1).1, Nat.min_self]
  exact key _ _ (fun _ h => h) (by rw [List.length_map, hv])
theorem up_ent (u : List Int) (p j : Nat) : ent (up u p) j = if ent u p < 0 then - ent u j else ent u j := by
  unfold up
  split
  · rw [ent_map (fun x => -x) (by decide)]
  · rfl
theorem Good.new (G : Good wd R D d) (hv : v.length = wd) (hb : ∀ j, (ent v j).natAbs < 2 ^ c) (hn : R.length ≤ 7) {p : Nat} (hp : piv (prim (rem v R)) = some p) : New wd R (up (prim (rem v R)) p) p (d + c + 3) := by
  obtain ⟨g, g0, hg⟩ := prim_ent (rem v R)
  obtain ⟨p1, p2, p3⟩ := piv_some hp
  have l1 := rem_len' (v := v) G hv
  have l2 : (prim (rem v R)).length = wd := by rw [prim_len, l1]
  refine ⟨by rw [up_len, l2], by rw [← l2]; exact p1, ?_, fun j hj => ?_, fun q hq => ?_, fun j => ?_⟩
  · rw [up_ent]; split <;> omega
  · rw [up_ent, p3 j hj]; split <;> rfl
  · have := zero_of_mul g0 (hg q.1) (G.rem_zero hv hq)
    rw [up_ent, this]
    split <;> rfl
  · have h1 := le_of_mul g0 (hg j)
    have h2 := G.rem_lt hv hb hn j
    rw [up_ent]
    split
    · rw [Int.natAbs_neg]; omega
    · omega
/-- cleared is a combination with positive factors -/
theorem clr_ent {row u : List Int} {p : Nat} (hl : row.length = u.length) (hu : 0 < ent u p) : ∃ k : Int, 0 < k ∧ ∀ j, k * ent (clr row u p) j = ent u p * ent row j - ent row p * ent u j := by
  unfold clr
  by_cases h : ent row p = 0
  · rw [if_pos h, h]
    exact ⟨ent u p, hu, fun j => by rw [Int.zero_mul, Int.sub_zero]⟩
  · rw [if_neg h]
    obtain ⟨g, g0, hg⟩ := prim_ent (cross row u p)
    have c0 : 0 < Nat.gcd (ent row p).natAbs (ent u p).natAbs := Nat.gcd_pos_of_pos_left _ (by omega)
    have d1 : ((Nat.gcd (ent row p).natAbs (ent u p).natAbs : Nat) : Int) ∣ ent row p := nd1 (Nat.gcd_dvd_left _ _)
    have d2 : ((Nat.gcd (ent row p).natAbs (ent u p).natAbs : Nat) : Int) ∣ ent u p := nd1 (Nat.gcd_dvd_right _ _)
    have hc : ∀ j, ent (cross row u p) j = ent u p / (Nat.gcd (ent row p).natAbs (ent u p).natAbs : Nat) * ent row j - ent row p / (Nat.gcd (ent row p).natAbs (ent u p).natAbs : Nat) * ent u j := fun j => by
      unfold cross
      exact ent_zip (fun o t => ent u p / (Nat.gcd (ent row p).natAbs (ent u p).natAbs : Nat) * o - ent row p / (Nat.gcd (ent row p).natAbs (ent u p).natAbs : Nat) * t) (by simp) hl j
    have e1 := Int.ediv_mul_cancel d1
    have e2 := Int.ediv_mul_cancel d2
    have m0 : (0 : Int) < (Nat.gcd (ent row p).natAbs (ent u p).natAbs : Nat) := by omega
    generalize ((Nat.gcd (ent row p).natAbs (ent u p).natAbs : Nat) : Int) = m at *
    refine ⟨m * g, Int.mul_pos m0 g0, fun j => ?_⟩
    have e3 : m * g * ent (prim (cross row u p)) j = m * ent (cross row u p) j := by rw [← hg j]; simp only [Int.mul_assoc, Int.mul_left_comm, Int.mul_comm]
    rw [e3, hc j, Int.mul_sub]
    have a1 : m * (ent u p / m * ent row j) = ent u p * ent row j := by rw [← Int.mul_assoc, Int.mul_comm m, e2]
    have a2 : m * (ent row p / m * ent u j) = ent row p * ent u j := by rw [← Int.mul_assoc, Int.mul_comm m, e1]
    rw [a1, a2]
theorem pos_of_mul {k x y : Int} (hk : 0 < k) (h : k * x = y) (hy : 0 < y) : 0 < x := by
  refine Classical.byContradiction fun z => ?_
  have : k * x ≤ 0 := Int.mul_nonpos_of_nonneg_of_nonpos (by omega) (by omega)
  omega
theorem zero_of_mul' {k x y : Int} (hk : 0 < k) (h : k * x = y) (hy : y = 0) : x = 0 := zero_of_mul hk (by rw [Int.mul_comm]; exact h) hy
theorem clr_len {row u : List Int} {p : Nat} (hl : row.length = u.length) : (clr row u p).length = row.length := by
  unfold clr
  split
  · rfl
  · rw [prim_len]
    unfold cross
    rw [List.length_zipWith, hl, Nat.min_self]
/-- the state behind one vector more -/
theorem Good.step {b : Nat} (G : Good wd R D d) {u : List Int} {p : Nat} (N : New wd R u p b) : Good wd ((R.map fun q => (q.1, clr q.2 u p)) ++ [(p, u)]) (D * ent u p) (d + b + 1) := by
  have pn : p ∉ R.map (·.1) := fun z => by
    obtain ⟨q, hq, e⟩ := List.mem_map.mp z
    have := N.zero q hq
    have e : q.1 = p := e
    rw [e] at this
    have := N.pos
    omega
  have keys : ((R.map fun q => (q.1, clr q.2 u p)) ++ [(p, u)]).map (·.1) = R.map (·.1) ++ [p] := by
    rw [List.map_append, List.map_map]
    rfl
  have hz : ∀ q ∈ R, ∀ j, j < q.1 → ent q.2 j = 0 := fun q hq j hj => (piv_some (G.pv q hq)).2.2 j hj
  have hc : ∀ q ∈ R, ∃ k : Int, 0 < k ∧ ∀ j, k * ent (clr q.2 u p) j = ent u p * ent q.2 j - ent q.2 p * ent u j := fun q hq => clr_ent (by rw [(G.len q hq).1, N.len]) N.pos
  have hm : ∀ q ∈ (R.map fun q => (q.1, clr q.2 u p)) ++ [(p, u)], (∃ r ∈ R, q = (r.1, clr r.2 u p)) ∨ q = (p, u) := fun q hq => by
    rcases List.mem_append.mp hq with h | h
    · obtain ⟨r, hr, e⟩ := List.mem_map.mp h
      exact .inl ⟨r, hr, e.symm⟩
    · exact .inr (List.mem_singleton.mp h)
  have hpos : ∀ r ∈ R, 0 < ent (clr r.2 u p) r.1 := fun r hr => by
    obtain ⟨k, k0, hk⟩ := hc r hr
    refine pos_of_mul k0 (hk r.1) ?_
    rw [N.zero r hr, Int.mul_zero, Int.sub_zero]
    exact Int.mul_pos N.pos (G.pos r hr)
  have hlow : ∀ r ∈ R, ∀ j, j < r.1 → ent (clr r.2 u p) j = 0 := fun r hr j hj => by
    obtain ⟨k, k0, hk⟩ := hc r hr
    refine zero_of_mul' k0 (hk j) ?_
    rw [hz r hr j hj, Int.mul_zero, Int.zero_sub]
    have : ent r.2 p * ent u j = 0 := by
      by_cases c1 : j < p
      · rw [N.low j c1, Int.mul_zero]
      · rw [hz r hr p (by omega), Int.zero_mul]
    rw [this] <;> rfl
  have hlen : ∀ r ∈ R, (clr r.2 u p).length = wd := fun r hr => by rw [clr_len (by rw [(G.len r hr).1, N.len]), (G.len r hr).1]
  exact {
    len := fun q hq => by
      rcases hm q hq with ⟨r, hr, rfl⟩ | rfl
      · exact ⟨hlen r hr, (G.len r hr).2⟩
      · exact ⟨N.len, N.lt⟩
    nd := by
      rw [keys]
      exact List.nodup_append.mpr ⟨G.nd, by simp, fun a ha b hb e => by
        obtain rfl := List.mem_singleton.mp hb
        exact pn (e ▸ ha)⟩
    pv := fun q hq => by
      rcases hm q hq with ⟨r, hr, rfl⟩ | rfl
      · exact piv_at _ r.1 (hlow r hr) (by rw [hlen r hr]; exact (G.len r hr).2) (Int.ne_of_gt (hpos r hr))
      · exact piv_at u p N.low (by rw [N.len]; exact N.lt) (by have := N.pos; omega)
    pos := fun q hq => by
      rcases hm q hq with ⟨r, hr, rfl⟩ | rfl
      · exact hpos r hr
      · exact N.pos
    zero := fun q hq s hs hne => by
      rcases hm q hq with ⟨r, hr, rfl⟩ | rfl
      · obtain ⟨k, k0, hk⟩ := hc r hr
        rcases hm s hs with ⟨r2, hr2, rfl⟩ | rfl
        · refine zero_of_mul' k0 (hk r2.1) ?_
          rw [N.zero r2 hr2, G.zero r hr r2 hr2 hne, Int.mul_zero, Int.mul_zero] <;> rfl
        · refine zero_of_mul' k0 (hk p) ?_
          rw [Int.mul_comm, Int.sub_self]
      · rcases hm s hs with ⟨r2, hr2, rfl⟩ | rfl
        · exact N.zero r2 hr2
        · exact absurd rfl hne
    dpos := Int.mul_pos G.dpos N.pos
    dlt := by
      have := pow_mul G.dlt (N.bd p)
      exact Nat.lt_of_lt_of_le this (Nat.pow_le_pow_right (by decide) (by omega))
    mul := fun q hq => by
      rcases hm q hq with ⟨r, hr, rfl⟩ | rfl
      · obtain ⟨k, k0, hk⟩ := hc r hr
        obtain ⟨m, m0, m1, m2⟩ := G.mul r hr
        refine ⟨m * k, Int.mul_pos m0 k0, ?_, fun j => ?_⟩
        · show m * k * ent (clr r.2 u p) r.1 = _
          rw [Int.mul_assoc, hk r.1, N.zero r hr, Int.mul_zero, Int.sub_zero, ← m1]
          simp only [Int.mul_assoc, Int.mul_left_comm, Int.mul_comm]
        · show (m * k * ent (clr r.2 u p) j).natAbs < _
          rw [Int.mul_assoc, hk j, Int.mul_sub]
          have a1 : (m * (ent u p * ent r.2 j)).natAbs < 2 ^ (d + b) := by
            have : m * (ent u p * ent r.2 j) = (m * ent r.2 j) * ent u p := by simp only [Int.mul_assoc, Int.mul_left_comm, Int.mul_comm]
            rw [this]
            exact pow_mul (m2 j) (N.bd p)
          have a2 : (m * (ent r.2 p * ent u j)).natAbs < 2 ^ (d + b) := by
            have : m * (ent r.2 p * ent u j) = (m * ent r.2 p) * ent u j := by simp only [Int.mul_assoc, Int.mul_left_comm, Int.mul_comm]
            rw [this]
            exact pow_mul (m2 p) (N.bd j)
          have a3 := Int.natAbs_sub_le (m * (ent u p * ent r.2 j)) (m * (ent r.2 p * ent u j))
          rw [Nat.pow_succ]
          omega
      · refine ⟨D, G.dpos, rfl, fun j => ?_⟩
        have := pow_mul G.dlt (N.bd j)
        exact Nat.lt_of_lt_of_le this (Nat.pow_le_pow_right (by decide) (by omega)) }
theorem Good.up {d' : Nat} (G : Good wd R D d) (h : d ≤ d') : Good wd R D d' :=
  ⟨G.len, G.nd, G.pv, G.pos, G.zero, G.dpos, Nat.lt_of_lt_of_le G.dlt (Nat.pow_le_pow_right (by decide) h), fun q hq => (G.mul q hq).elim fun m z => ⟨m, z.1, z.2.1, fun j => Nat.lt_of_lt_of_le (z.2.2 j) (Nat.pow_le_pow_right (by decide) h)⟩⟩
theorem Good.add (G : Good wd R D d) (hv : v.length = wd) (hb : ∀ j, (ent v j).natAbs < 2 ^ c) (hn : R.length ≤ 7) : ∃ D', Good wd (addRow R v) D' (d + (d + c + 3) + 1) := by
  unfold addRow
  cases hp : piv (prim (rem v R)) with
  | none => exact ⟨D, G.up (by omega)⟩
  | some p => exact ⟨_, G.step (G.new hv hb hn hp)⟩
theorem add_len : (addRow R v).length ≤ R.length + 1 := by
  unfold addRow
  split
  · omega
  · rw [List.length_append, List.length_map]
    exact Nat.le_refl _
theorem Good.row_bd (G : Good wd R D d) {q : Nat × List Int} (hq : q ∈ R) (j : Nat) : (ent q.2 j).natAbs < 2 ^ d := by
  obtain ⟨m, m0, _, m2⟩ := G.mul q hq
  have := m2 j
  rw [Int.natAbs_mul] at this
  exact Nat.lt_of_le_of_lt (Nat.le_mul_of_pos_left _ (by omega)) this
/-- what cross comes to -/
theorem cross_bd {b : Nat} (G : Good wd R D d) {u : List Int} {p : Nat} (N : New wd R u p b) {q : Nat × List Int} (hq : q ∈ R) (j : Nat) : (ent (cross q.2 u p) j).natAbs < 2 ^ (d + b + 1) := by
  unfold cross
  rw [ent_zip (fun o t => ent u p / (Nat.gcd (ent q.2 p).natAbs (ent u p).natAbs : Nat) * o - ent q.2 p / (Nat.gcd (ent q.2 p).natAbs (ent u p).natAbs : Nat) * t) (by simp) (by rw [(G.len q hq).1, N.len])]
  have e1 : (ent u p / (Nat.gcd (ent q.2 p).natAbs (ent u p).natAbs : Nat)).natAbs < 2 ^ b := Nat.lt_of_le_of_lt (Int.natAbs_ediv_le_natAbs _ _) (N.bd p)
  have e2 : (ent q.2 p / (Nat.gcd (ent q.2 p).natAbs (ent u p).natAbs : Nat)).natAbs < 2 ^ d := Nat.lt_of_le_of_lt (Int.natAbs_ediv_le_natAbs _ _) (G.row_bd hq p)
  have a1 := pow_mul e1 (G.row_bd hq j)
  have a2 := pow_mul e2 (N.bd j)
  rw [Nat.add_comm b d] at a1
  have a3 := Int.natAbs_sub_le (ent u p / (Nat.gcd (ent q.2 p).natAbs (ent u p).natAbs : Nat) * ent q.2 j) (ent q.2 p / (Nat.gcd (ent q.2 p).natAbs (ent u p).natAbs : Nat) * ent u j)
  rw [Nat.pow_succ]
  omega
end
end Sp

/-! part JbD -/
/-! Dicts of rows of ints, and what builds them. -/
namespace Jb
open PySem PySem.Spec PyProof.Rows L2 Evl
def iVs (ns : List Int) : List V := ns.map V.int
theorem iVs_get {ns : List Int} {i : Nat} {x : V} (h : (iVs ns)[i]? = some x) : ∃ n, ns[i]? = some n ∧ x = .int n := by
  unfold iVs at h
  rw [List.getElem?_map] at h
  cases e : ns[i]? with
  | none => rw [e] at h; cases h
  | some n => rw [e] at h; exact ⟨n, rfl, (Option.some.inj h).symm⟩
theorem iVs_ent {ns : List Int} {i : Nat} (h : i < ns.length) : (iVs ns)[i]? = some (.int (Sp.ent ns i)) := by
  unfold iVs Sp.ent
  rw [List.getElem?_map, List.getElem?_eq_getElem h, List.getD_eq_getElem?_getD, List.getElem?_eq_getElem h]
  rfl
theorem iVs_len (ns : List Int) : (iVs ns).length = ns.length := List.length_map ..
/-- the entries of a dict: ints to tuples of ints -/
def KvR (K : PySem.W.Frag) (H : Hp) (R : Sp.Rows) (kvs : List (Key × V)) : Prop := Paired (fun (p : Nat × List Int) (q : Key × V) => q.1 = Sum.inl (p.1 : Int) ∧ ∃ a, q.2 = .ref a ∧ SqT K H a (iVs p.2)) R kvs
theorem paired_mono {α β : Type} {r s : α → β → Prop} (m : ∀ a b, r a b → s a b) : ∀ {xs : List α} {ys : List β}, Paired r xs ys → Paired s xs ys
  | _, _, .nil => .nil
  | _, _, .cons h t => .cons (m _ _ h) (paired_mono m t)
theorem paired_app {α β : Type} {r : α → β → Prop} : ∀ {xs xs' : List α} {ys ys' : List β}, Paired r xs ys → Paired r xs' ys' → Paired r (xs ++ xs') (ys ++ ys')
  | _, _, _, _, .nil, t => t
  | _, _, _, _, .cons h u, t => .cons h (paired_app u t)
theorem paired_get {α β : Type} {r : α → β → Prop} : ∀ {xs : List α} {ys : List β} {i : Nat} {y : β}, Paired r xs ys → ys[i]? = some y → ∃ x, xs[i]? = some x ∧ r x y
  | _, _, _, _, .nil, e => by simp at e
  | _, _, 0, _, .cons h _, e => by simp at e; subst e; exact ⟨_, rfl, h⟩
  | _, _, i + 1, y, .cons _ t, e => by
    obtain ⟨x, h1, h2⟩ := paired_get (i := i) (y := y) t (by simpa using e)
    exact ⟨x, by simpa using h1, h2⟩
theorem paired_get' {α β : Type} {r : α → β → Prop} : ∀ {xs : List α} {ys : List β} {i : Nat} {x : α}, Paired r xs ys → xs[i]? = some x → ∃ y, ys[i]? = some y ∧ r x y
  | _, _, _, _, .nil, e => by simp at e
  | _, _, 0, _, .cons h _, e => by simp at e; subst e; exact ⟨_, rfl, h⟩
  | _, _, i + 1, y, .cons _ t, e => by
    obtain ⟨x, h1, h2⟩ := paired_get' (i := i) (x := y) t (by simpa using e)
    exact ⟨x, by simpa using h1, h2⟩
theorem sqt_upd {K : PySem.W.Frag} {H : Hp} {D a : Addr} {o u : HO} {xs : List V} (h : SqT K H a xs) (hD : H D = some u) (nt : ∀ ys, u ≠ .tup ys) (nf : ∀ b ys, u ≠ .frz b (.tup ys)) : SqT K (upd H D o) a xs := by
  rcases h with (h | ⟨b, h⟩) | h
  · exact .inl (.inl (by rw [upd_ne fun z => by rw [z, hD] at h; exact nt _ (Option.some.inj h)]; exact h))
  · exact .inl (.inr ⟨b, by rw [upd_ne fun z => by rw [z, hD] at h; exact nf _ _ (Option.some.inj h)]; exact h⟩)
  · exact .inr h
theorem sqt_updD {K : PySem.W.Frag} {H : Hp} {D a : Addr} {o : HO} {kvs : List (Key × V)} {xs : List V} (h : SqT K H a xs) (hD : H D = some (.dK kvs)) : SqT K (upd H D o) a xs := sqt_upd h hD (fun _ z => nomatch z) (fun _ _ z => nomatch z)
section
variable {K : PySem.W.Frag} {H H' : Hp} {R : Sp.Rows} {kvs : List (Key × V)}
theorem KvR.mono (e : Ex H H') (h : KvR K H R kvs) : KvR K H' R kvs := paired_mono (fun _ _ ⟨h1, a, h2, h3⟩ => ⟨h1, a, h2, ex_t e h3⟩) h
theorem KvR.upd {D : Addr} {o : HO} {ks : List (Key × V)} (h : KvR K H R kvs) (hD : H D = some (.dK ks)) : KvR K (upd H D o) R kvs := paired_mono (fun _ _ ⟨h1, a, h2, h3⟩ => ⟨h1, a, h2, sqt_updD h3 hD⟩) h
theorem KvR.look {p : Nat} {row : List Int} : ∀ {R : Sp.Rows} {kvs : List (Key × V)}, KvR K H R kvs → R.lookup p = some row → ∃ a, valV kvs (Sum.inl (p : Int)) = some (.ref a) ∧ SqT K H a (iVs row)
  | _, _, .nil, e => by cases e
  | (q, r) :: R, (k, v) :: kvs, .cons ⟨h1, a, h2, h3⟩ t, e => by
    have h1 : k = Sum.inl (q : Int) := h1
    have h2 : v = .ref a := h2
    subst h1 h2
    by_cases c : p = q
    · subst c
      simp [List.lookup] at e
      subst e
      exact ⟨a, by unfold valV; simp, h3⟩
    · have e' : R.lookup p = some row := by
        have : (p == q) = false := by simpa using c
        simpa [List.lookup, this] using e
      obtain ⟨b, g1, g2⟩ := KvR.look t e'
      refine ⟨b, ?_, g2⟩
      unfold valV at g1 ⊢
      have : ¬ ((Sum.inl (q : Int) : Key) = Sum.inl (p : Int)) := fun z => c (by have := Sum.inl.inj z; omega)
      rw [List.find?_cons_of_neg (by simpa using this)]
      exact g1
theorem KvR.keys : ∀ {R : Sp.Rows} {kvs : List (Key × V)}, KvR K H R kvs → kvs.map (·.1) = R.map fun p => (Sum.inl (p.1 : Int) : Key)
  | _, _, .nil => rfl
  | _, _, .cons ⟨h1, _⟩ t => by rw [List.map_cons, List.map_cons, KvR.keys t, h1]
theorem KvR.none {p : Nat} : ∀ {R : Sp.Rows} {kvs : List (Key × V)}, KvR K H R kvs → p ∉ R.map (·.1) → valV kvs (Sum.inl (p : Int)) = none
  | _, _, .nil, _ => rfl
  | (q, r) :: R, (k, v) :: kvs, .cons ⟨h1, a, h2, h3⟩ t, e => by
    have h1 : k = Sum.inl (q : Int) := h1
    subst h1
    have c : p ≠ q := fun z => e (by simp [z])
    have ih := KvR.none t fun z => e (by simp at z ⊢; exact .inr z)
    unfold valV at ih ⊢
    have : ¬ ((Sum.inl (q : Int) : Key) = Sum.inl (p : Int)) := fun z => c (by have := Sum.inl.inj z; omega)
    rw [List.find?_cons_of_neg (by simpa using this)]
    exact ih
/-- one more entry -/
theorem KvR.put {p : Nat} {a : Addr} {row : List Int} (h : KvR K H R kvs) (hn : p ∉ R.map (·.1)) (hs : SqT K H a (iVs row)) : KvR K H (R ++ [(p, row)]) (putK kvs (Sum.inl (p : Int)) (.ref a)) := by
  rw [putK_new _ (h.none hn)]
  exact paired_app h (.cons ⟨rfl, a, rfl, hs⟩ .nil)
end
/-- a dict comprehension over what goes on well -/
theorem dc_it {J : It} {n : Nat} {G : Hp → Prop} {Y : Nat → Hp → V → Hp → Prop} (w : Walk J n G Y) {g : TG} {tt : TT} {tk tv : TE} {vs : List Nat} {σ : L2.St} {H1 : Hp} {D : Addr} {Qd : Hp → Prop} (Pv : Nat → Hp → Prop)
    (h0 : Pv 0 (upd H1 D (.dK []))) (hG : ∀ i H, i ≤ n → Pv i H → G H)
    (hs : ∀ i x H H', i < n → Pv i H → Y i H x H' → g x (wipe σ vs) H' fun τ H2 => wipe τ vs = wipe σ vs ∧ tt τ H2 fun b H3 =>
      if b = true then tk τ H3 fun y H4 => tv τ H4 fun z H5 => ∃ kvs k, y = kV k ∧ H5 D = some (.dK kvs) ∧ kvs.length < sizeLine ∧ Pv (i + 1) (upd H5 D (.dK (putK kvs k z))) else Pv (i + 1) H3) (hd : ∀ H, Pv n H → Qd H) :
    ∃ W : Nat → Nat → Hp → Prop, (∃ m, W 0 m (upd H1 D (.dK []))) ∧
    ∀ i m H, W i m H →
      (J.stop i H ∧ Qd H) ∨ (J.go i H ∧ ∃ Nx : Hp → Prop, (∀ H', Nx H' → ∃ m', m' < m ∧ W (i + 1) m' H') ∧ ∀ x H', J.yld i H x H' → g x (wipe σ vs) H' fun τ H2 => wipe τ vs = wipe σ vs ∧ tt τ H2 fun b H3 =>
        if b = true then tk τ H3 fun y H4 => tv τ H4 fun z H5 => ∃ kvs k, y = kV k ∧ H5 D = some (.dK kvs) ∧ kvs.length < sizeLine ∧ Nx (upd H5 D (.dK (putK kvs k z))) else Nx H3) := by
  refine ⟨fun i m H => m = n - i ∧ i ≤ n ∧ Pv i H, ⟨n, (Nat.sub_zero n).symm, Nat.zero_le n, h0⟩, fun i m H ⟨em, hi, p⟩ => ?_⟩
  subst em
  rcases Nat.lt_or_eq_of_le hi with lt | rfl
  · exact .inr ⟨w.goes i H lt (hG i H hi p), Pv (i + 1), fun H' p' => ⟨n - (i + 1), by omega, rfl, lt, p'⟩, fun x H' y => hs i x H H' lt p (w.yields i H x H' lt (hG i H hi p) y)⟩
  · exact .inl ⟨w.stops H (hG i H hi p), hd H p⟩
section
variable {K : PySem.W.Frag} {H H' : Hp} {σ : L2.St} {td ty tl ta tb : TE}
/-- the keys of a locked dict -/
theorem ei_keys {d : Addr} {o : Obj} {kvs : List (Key × V)} (h : Ev tl σ H (.ref d)) (hd : H d = some (.frz o (.dK kvs))) : EvI (iKeys tl) σ H kvs.length (fun i x _ => ∃ k v, kvs[i]? = some (k, v) ∧ x = kV k) := fun H1 e R q => h H1 e _ fun H2 e2 =>
  ⟨d, o, rfl, .inl ⟨kvs, e2 _ _ (e _ _ hd), q _ H2 e2 ⟨_, _, walk_keys (d := d) (o := o), fun H3 e3 => e3 _ _ (e2 _ _ (e _ _ hd)), fun i H3 x H4 _ _ y => ⟨y.1 ▸ Ex.refl _, y.2⟩⟩⟩⟩
/-- d[k], it is there -/
theorem ev_dget {d : Addr} {kvs : List (Key × V)} {k : Key} {v : V} (h : Ev td σ H (.ref d)) (hk : Ev ty σ H (kV k)) (hd : Rd H d (.dK kvs)) (hv : valV kvs k = some v) : Ev (tDGet td ty) σ H v := fun H1 e Q q =>
  h H1 e _ fun H2 e2 => hk.mono (e.trans e2) H2 (Ex.refl H2) _ fun H3 e3 => ⟨d, v, rfl, .inl ⟨kvs, k, ex_rd ((e.trans e2).trans e3) hd, rfl, hv.symm⟩, q H3 (e2.trans e3)⟩
/-- t[i] -/
theorem ev_ixV {a : Addr} {ns : List Int} {i : Nat} (ha : Ev ta σ H (.ref a)) (hb : Ev tb σ H (.int (i : Int))) (hs : SqT K H a (iVs ns)) (hi : i < ns.length) : Ev (tOp (rIxT K) ta tb) σ H (.int (Sp.ent ns i)) := ev_op ha hb (rv_ixT hs (atI_nat (iVs_ent hi)))
/-- one more thing is written over: what was known and is not this one stands -/
theorem ex_back {H0 H1 : Hp} {d : Addr} {o u : HO} (hd : H0 d = some u) (e : Ex (upd H0 d o) H1) : Ex H0 (upd H1 d u) := fun b x hb => by
  by_cases c : b = d
  · subst c
    rw [upd_same, ← hd]
    exact hb
  · rw [upd_ne c]
    exact e b x (by rw [upd_ne c]; exact hb)
theorem ev_gcd {a b : Int} {ta : TA} (h : EvA ta σ H [.int a, .int b]) : Ev (tCB rGcd ta) σ H (.int (Nat.gcd a.natAbs b.natAbs : Nat)) := ev_cb h fun H1 _ Q q => ⟨a, b, rfl, q H1 (Ex.refl H1)⟩
theorem ev_lcm {a b : Int} {ta : TA} (h : EvA ta σ H [.int a, .int b]) (ha : a.natAbs < 2 ^ 13000) (hb : b.natAbs < 2 ^ 13000) : Ev (tCB rLcm ta) σ H (.int (Nat.lcm a.natAbs b.natAbs : Nat)) := ev_cb h fun H1 _ Q q => ⟨a, b, rfl, ha, hb, q H1 (Ex.refl H1)⟩
theorem ev_mul {a b : Int} (ha : Ev ta σ H (.int a)) (hb : Ev tb σ H (.int b)) (h : CMulW a b) : Ev (tOp (rI CMulW fun i j => .int (i * j)) ta tb) σ H (.int (a * b)) := ev_op ha hb (rv_I h)
theorem ev_div {a b : Int} (ha : Ev ta σ H (.int a)) (hb : Ev tb σ H (.int b)) (h : CDivW a b) : Ev (tOp (rI CDivW fun i j => .int (i / j)) ta tb) σ H (.int (a / b)) := ev_op ha hb (rv_I h)
end
section
variable {K : PySem.W.Frag} {H H' : Hp} {σ : L2.St} {te tl ta tb : TE}
theorem eu_tupA {a : Addr} {xs : List V} (h : Ev te σ H (.ref a)) (hx : SqL K H a xs) : EvU (tCB (rTup K) (tCons te tNil)) σ H xs := fun H1 e Q q =>
  h H1 e _ fun H2 e2 => ⟨a, xs, rfl, .inl ⟨ex_l (e.trans e2) hx, fun l hl => q l _ (fresh_back e2 hl) (e2.trans (Ex.new hl)) upd_same⟩⟩
theorem yes_ev : EvT tYes σ H true := fun H1 _ _ q => q H1 (Ex.refl H1)
/-- [g(x) for x in a tuple of ints] -/
theorem el_mapT {a : Addr} {ns : List Int} {j : Nat} {vs : List Nat} (g : Int → Int) (ha : Ev tl σ H (.ref a)) (hs : SqT K H a (iVs ns)) (hl : ns.length ≤ 40000) (hw : ∀ x, wipe ((wipe σ vs).set j (some x)) vs = wipe σ vs)
    (he : ∀ i H2, i < ns.length → Ex H H2 → Ev te ((wipe σ vs).set j (some (.int (Sp.ent ns i)))) H2 (.int (g (Sp.ent ns i)))) : EvL (tLc (iTup K tl) (gName j) tYes te vs) σ H (iVs (ns.map g)) := by
  have g0 := el_lcG (t := tYes) (te := te) (g := gName j) (σ := σ) (vs := vs) (fun _ => true) (fun i => .int (g (Sp.ent ns i))) (fun i σ2 => σ2 = (wipe σ vs).set j (some (.int (Sp.ent ns i)))) (ei_tup (tl := tl) ha hs) (by rw [iVs_len]; exact hl)
    (fun i x H2 hi _ hx Q hQ => by
      rw [iVs_len] at hi
      obtain rfl : V.int (Sp.ent ns i) = x := Option.some.inj ((iVs_ent hi).symm.trans hx)
      exact hQ _ rfl (hw _))
    (fun i σ2 H2 _ _ _ => yes_ev) (fun i σ2 H2 hi hs _ e => by
      subst hs
      exact he i H2 (by rw [iVs_len] at hi; exact hi) e)
  rw [given_map (xs := iVs (ns.map g)) (fun _ _ => rfl) (by rw [iVs_len, iVs_len, List.length_map]) (fun i x hx => by
    obtain ⟨n, hn, rfl⟩ := iVs_get hx
    rw [List.getElem?_map] at hn
    cases e : ns[i]? with
    | none => rw [e] at hn; cases hn
    | some m =>
      rw [e] at hn
      have : Sp.ent ns i = m := by unfold Sp.ent; rw [List.getD_eq_getElem?_getD, e]; rfl
      show V.int (g (Sp.ent ns i)) = V.int n
      rw [this]
      exact congrArg V.int (Option.some.inj hn))] at g0
  exact g0
theorem sqb_of {b : Bool} {a : Addr} {xs : List V} (h : match b with | true => SqL K H a xs | false => SqT K H a xs) : SqB K H b a xs := h
/-- [g(x, y) for x, y in zip(two rows of ints of one length)] -/
theorem el_zipI {b c : Bool} {a d : Addr} {ns ms : List Int} {ta : TA} {j k : Nat} {vs : List Nat} (g : Int → Int → Int) (ha : EvA ta σ H [.ref a, .ref d]) (hs : SqB K H b a (iVs ns)) (hm : SqB K H c d (iVs ms)) (hlen : ms.length = ns.length) (hl : ns.length ≤ 40000)
    (hw : ∀ x y, wipe (((wipe σ vs).set j (some x)).set k (some y)) vs = wipe σ vs)
    (he : ∀ i H2, i < ns.length → Ex H H2 → Ev te (((wipe σ vs).set j (some (.int (Sp.ent ns i)))).set k (some (.int (Sp.ent ms i)))) H2 (.int (g (Sp.ent ns i) (Sp.ent ms i)))) :
    EvL (tLc (iZ K b c ta) (gTup K 2 (gCons (gName j) (gCons (gName k) gNil))) tYes te vs) σ H (iVs (List.zipWith g ns ms)) := by
  have hmin : min (iVs ns).length (iVs ms).length = ns.length := by rw [iVs_len, iVs_len, hlen, Nat.min_self]
  have g0 := el_lcG (t := tYes) (te := te) (g := gTup K 2 (gCons (gName j) (gCons (gName k) gNil))) (σ := σ) (vs := vs) (fun _ => true) (fun i => .int (g (Sp.ent ns i) (Sp.ent ms i))) (fun i σ2 => σ2 = ((wipe σ vs).set j (some (.int (Sp.ent ns i)))).set k (some (.int (Sp.ent ms i)))) (ei_zip ha hs hm) (by rw [hmin]; exact hl)
    (fun i x H2 hi _ hx Q hQ => by
      rw [hmin] at hi
      refine g_pair hx fun u v hu hv => ?_
      obtain rfl : V.int (Sp.ent ns i) = u := Option.some.inj ((iVs_ent hi).symm.trans hu)
      obtain rfl : V.int (Sp.ent ms i) = v := Option.some.inj ((iVs_ent (by omega)).symm.trans hv)
      exact hQ _ rfl (hw _ _))
    (fun i σ2 H2 _ _ _ => yes_ev) (fun i σ2 H2 hi hs _ e => by
      subst hs
      exact he i H2 (by rw [hmin] at hi; exact hi) e)
  rw [hmin, given_map (xs := iVs (List.zipWith g ns ms)) (fun _ _ => rfl) (by rw [iVs_len, List.length_zipWith, hlen, Nat.min_self]) (fun i x hx => by
    obtain ⟨n, hn, rfl⟩ := iVs_get hx
    rw [List.getElem?_zipWith] at hn
    cases e : ns[i]? with
    | none => rw [e] at hn; cases hn
    | some m =>
      cases e2 : ms[i]? with
      | none => rw [e, e2] at hn; cases hn
      | some m2 =>
        rw [e, e2] at hn
        have h1 : Sp.ent ns i = m := by unfold Sp.ent; rw [List.getD_eq_getElem?_getD, e]; rfl
        have h2 : Sp.ent ms i = m2 := by unfold Sp.ent; rw [List.getD_eq_getElem?_getD, e2]; rfl
        show V.int (g (Sp.ent ns i) (Sp.ent ms i)) = V.int n
        rw [h1, h2]
        exact congrArg V.int (Option.some.inj hn))] at g0
  exact g0
end
end Jb

/-! part JbE -/
/-! A loop over what goes on well; over a list or a tuple, whichever it is. -/
namespace Jb
open PySem PySem.Spec PyProof.Rows L2 Evl
section
variable {K : PySem.W.Frag} {H : Hp} {σ : L2.St} {wi : TI} {g : TG} {tu : TS} {D : Ends} {tl : TE}
theorem s_forI {n : Nat} {Pt : Nat → V → Hp → Prop} (hw : EvI wi σ H n Pt) (Pv : Hp → Nat → L2.St → Hp → Prop) (h0 : ∀ H2, Ex H H2 → Pv H2 0 σ H2) (hE : ∀ H2 i σ' H', Pv H2 i σ' H' → Ex H2 H')
    (hs : ∀ H2 i x σ' H3 H4, i < n → Ex H H2 → Pv H2 i σ' H3 → Ex H3 H4 → Pt i x H4 → g x σ' H4 fun σ2 H5 => tu { D with nx := Pv H2 (i + 1), ct := Pv H2 (i + 1), bk := D.nx } σ2 H5) (hd : ∀ H2 σ' H', Ex H H2 → Pv H2 n σ' H' → D.nx σ' H') : tFor wi g tu D σ H :=
  hw H (Ex.refl H) _ fun J H2 e2 ⟨G, Y, W, hG, hY⟩ => for_it W (Pv H2) (h0 H2 e2) (fun i σ' H' _ p => hG H' (hE H2 i σ' H' p)) (fun i x σ' H3 H4 hi p y => by
    obtain ⟨e4, pt⟩ := hY i H3 x H4 hi (hE H2 i σ' H3 p) y
    exact hs H2 i x σ' H3 H4 hi e2 p e4 pt) (fun σ' H' p => hd H2 σ' H' e2 p)
def iBoth (K : PySem.W.Frag) (tl : TE) : TI := fun σ H R => iList K tl σ H R ∨ iTup K tl σ H R
theorem pi_both {X : Cx} {tg e : Expr} {te : TE} (h : PE X e te) : PI X tg e (iBoth X.K te) := ⟨fun pins s σ H R I q => q.elim (fun q => (pi_list (tg := tg) h).run pins s σ H R I q) fun q => (pi_tup (tg := tg) h).run pins s σ H R I q⟩
theorem ei_both {b : Bool} {a : Addr} {xs : List V} (h : Ev tl σ H (.ref a)) (hx : SqB K H b a xs) : EvI (iBoth K tl) σ H xs.length (fun i x _ => xs[i]? = some x) := by
  cases b with
  | true => exact fun H1 e R q => .inl (ei_list (K := K) h hx H1 e R q)
  | false => exact fun H1 e R q => .inr (ei_tup (K := K) h hx H1 e R q)
end
section
variable {σ : L2.St} {H : Hp} {ta tb : TE} {a b : Int}
theorem ev_sub (ha : Ev ta σ H (.int a)) (hb : Ev tb σ H (.int b)) : Ev (tOp (rI0 fun i j => .int (i - j)) ta tb) σ H (.int (a - b)) := ev_op ha hb rv_I0
theorem ev_add (ha : Ev ta σ H (.int a)) (hb : Ev tb σ H (.int b)) : Ev (tOp (rI0 fun i j => .int (i + j)) ta tb) σ H (.int (a + b)) := ev_op ha hb rv_I0
end
theorem s_retCallU {sp : Sp} {te : TE} {D : Ends} {σ : L2.St} {H : Hp} {xs : List V} {E : XK} (h : EvU te σ H xs) (k : ∀ p H1, Ex H H1 → H1 p = some (.tup xs) → sp [.ref p] H1 D.rt E) : tRet (tCall sp [] E (tCons te tNil)) D σ H :=
  h H (Ex.refl H) _ fun p H1 _ e hp => k p H1 e hp
theorem q_forI {wi : TI} {g : TG} {tu tz : TS} {D : Ends} {σ : L2.St} {H : Hp} {n : Nat} {Pt : Nat → V → Hp → Prop} (hw : EvI wi σ H n Pt) (Pv : Hp → Nat → L2.St → Hp → Prop) (h0 : ∀ H2, Ex H H2 → Pv H2 0 σ H2) (hE : ∀ H2 i σ' H', Pv H2 i σ' H' → Ex H2 H')
    (hs : ∀ H2 i x σ' H3 H4, i < n → Ex H H2 → Pv H2 i σ' H3 → Ex H3 H4 → Pt i x H4 → g x σ' H4 fun σ2 H5 => tu { D with nx := Pv H2 (i + 1), ct := Pv H2 (i + 1), bk := tz D } σ2 H5) (hd : ∀ H2 σ' H', Ex H H2 → Pv H2 n σ' H' → tz D σ' H') : tSeq (tFor wi g tu) tz D σ H :=
  s_forI (D := { D with nx := tz D }) hw Pv h0 hE hs hd
theorem ev_lenD {σ : L2.St} {H : Hp} {ta : TE} {d : Addr} {kvs : List (Key × V)} (h : Ev ta σ H (.ref d)) (hd : H d = some (.dK kvs)) : Ev (tCB (fun xs H Q => ∃ a kvs, xs = [V.ref a] ∧ H a = some (HO.dK kvs) ∧ Q (V.int (kvs.length : Nat)) H) (tCons ta tNil)) σ H (.int (kvs.length : Nat)) := fun H1 e Q q =>
  h H1 e _ fun H2 e2 => ⟨d, kvs, rfl, e2 _ _ (e _ _ hd), q H2 e2⟩
def rLenA (K : PySem.W.Frag) : List V → Hp → VK → Prop := fun xs H Q => ∃ x n, xs = [x] ∧ LenV K x H n ∧ Q (V.int (n : Nat)) H
theorem ev_lenB {K : PySem.W.Frag} {σ : L2.St} {H : Hp} {ta : TE} {b : Bool} {a : Addr} {xs : List V} (h : Ev ta σ H (.ref a)) (hx : SqB K H b a xs) : Ev (tCB (rLenA K) (tCons ta tNil)) σ H (.int (xs.length : Nat)) := fun H1 e Q q =>
  h H1 e _ fun H2 e2 => ⟨.ref a, xs.length, rfl, by
    have := sqb_mono (e.trans e2) hx
    cases b with
    | true => exact .inl ⟨xs, this, rfl⟩
    | false => exact .inr ⟨xs, this, rfl⟩, q H2 e2⟩
end Jb

/-! part JbT -/
/-! try with several clauses of the form «except C as n». -/
namespace Jb
open PySem PySem.Spec PyProof.Rows L2
abbrev Sui := Addr → Value → Option Addr → TS
/-- the end of a suite whose name is taken away -/
def fades (D : Ends) (i : Nat) : Ends := { nx := fun τ G => D.nx (τ.set i none) G, rt := D.rt, bk := fun τ G => D.bk (τ.set i none) G, ct := fun τ G => D.ct (τ.set i none) G }
/-- what the clauses wish, one behind the other -/
def wNamed (K : PySem.W.Frag) (W0 : WX) (D : Ends) : List (Value × Nat × Sui) → WX
  | [] => W0
  | (c, i, ts) :: l => fun cls d τ G => ∃ b, PySem.W.exmOne K cls c = some b ∧ (b = true → ∀ e, G e = none → ts e cls d (fades D i) (τ.set i (some (.ref e))) G) ∧ (b = false → wNamed K W0 D l cls d τ G)
inductive Clauses (X : Cx) : List ExceptHandler → List (Value × Nat × Sui) → Prop
  | nil : Clauses X [] []
  | cons {x n : Str} {c : Value} {i : Nat} {ts : Sui} {st : Stmt} {more : List Stmt} {np hp : Pos} {hs : List ExceptHandler} {l : List (Value × Nat × Sui)} (cl : Names X x c) (at_ : X.N[i]? = some n) (lo : X.env.kindOf n = some .local)
      (su : ∀ (e : Addr) (o : Obj) (cls : Value) (d : Option Addr) (pn : List (Addr × Obj)), Zc cls d o → (∃ fs, o.data = .fields fs) → PSs (X.suite e ((e, o) :: pn)) (st :: more) (ts e cls d)) (tl : Clauses X hs l) :
      Clauses X (.ExceptHandler (some (.Name x np)) (some n) (st :: more) hp :: hs) ((c, i, ts) :: l)
section
variable {X : Cx} {pins : List (Addr × Obj)} {D : Ends} {W0 : WX} {e : Addr} {G0 : Heap} {sI s' : Shared} {τ : L2.St} {G : Hp} {cls : Value} {d : Option Addr}
/-- the clauses, from the state in which the exception has landed -/
theorem named_go (es : X.stack = X.env :: X.outer) (ef : X.env.frame = some X.env.locals) (nd : X.N.Nodup) (tk : Takes X W0) (J : Inv X pins τ G sI) (gr : ∀ b o, sI.heap.get? b = some o → b ∉ frs X.stack → G0.get? b = some o)
    (os : s'.os = sI.os) (bare : AllBare s'.gens) (fe : G e = none) {h3 : Heap} (fl : HandSPX.FlyingZ G0 (X.env :: X.outer) e (Zc cls d) h3) (upt : sI.heap.UpToSlots h3)
    (nL : e ≠ X.env.locals) (nF : e ∉ X.fs) {hds : List ExceptHandler} {l : List (Value × Nat × Sui)} (hk : Clauses X hds l) : wNamed X.K W0 D l cls d τ G → wpAny (model X.prog X.w) X.A (handleBy (.ref e) X.env hds) (SP X pins D) X.xe { s' with heap := h3 } := by
  have okX := J.ok
  have J3 : Inv X pins τ G { s' with heap := h3 } := J.landed gr fl.1 upt os bare
  obtain ⟨o3, f3, at3, z3, da3⟩ := fl.there
  have I3 := J3.suite at3 da3 fe nL nF
  induction hk with
  | nil =>
    intro wish
    refine wpAny_handleBy_nil ?_
    obtain ⟨_, _, _, oe, fs, T, oT, _, at0, _, da0, tr0, _⟩ := id fl
    have last : wpAny (model X.prog X.w) X.A (setFlight (.ref e) X.env.frame) (fun _ s4 => wpAny (model X.prog X.w) X.A (throw (.ref e) : Sem Flow) (SP X pins D) X.xe s4) X.xe { s' with heap := h3 } := by
      rw [ef]
      exact HandSPX.setFlight_upZ fl fun h4 held u4 => wpAny_throw (tk _ _ ⟨e, G0, sI, pins, τ, G, cls, d, rfl, J, gr, upt.trans u4, .inr (.inr (es ▸ held)), fe, os, bare, wish⟩)
    unfold PySem.passOn
    refine wpAny_bind (wpAny_field at0 da0 tr0 ?_)
    rw [if_neg (by simp : ¬ ((Value.ref T == Value.none) = true))]
    first
      | exact wpAny_bind (wpAny_pure (wpAny_bind last))
      | exact wpAny_bind last
  | @cons x n c i ts st more np hp hs l cl at_ lo su tl ih =>
    intro wish
    obtain ⟨b, hb, yes, no⟩ := wish
    refine wpAny_handleBy_cons (codeAny_handlers_test ?_) (by intro q; cases q)
    have TY : PySem.W.Looks (model X.prog X.w) h3 (typeOf (.ref e)) cls := fun A Q E s k q => wpAny_typeOf_ref (k _ _ at3) (by rw [z3.1]; exact q)
    have EX := PySem.W.exm_one (M := model X.prog X.w) J3.kIn TY hb
    have name : ∀ {Q : Value → Shared → Prop} {E : Value → Shared → Prop}, Q c { s' with heap := h3 } → wpAny (model X.prog X.w) (X.A.mark (some (.ref e))) (eval (.Name x np) X.env) Q E { s' with heap := h3 } := fun {Q E} q => by
      obtain ⟨g1, g2, g3 | ⟨g3, g4, g5⟩⟩ := cl
      · exact ld_glob (X := X.suite e ((e, o3) :: (X.pn ++ pins))) I3 g1 g3 q g2
      · exact ld_blt (X := X.suite e ((e, o3) :: (X.pn ++ pins))) I3 g1 g3 g4 q g5 g2
    refine name (EX.here ?_)
    cases b with
    | false => exact ih (no rfl)
    | true =>
      refine codeAny_handlers_suite_as (HandSPX.lands_againZ fl fun h4 fl4 u4 => ?_)
      have J4 : Inv X pins τ G { s' with heap := h4 } := J.landed gr fl4.1 (upt.trans u4) os bare
      obtain ⟨o4, f4, at4, z4, da4⟩ := fl4.there
      refine store_ok (X := X.suite e ((e, o4) :: (X.pn ++ pins))) (v := .ref e) (J4.suite at4 da4 fe nL nF) nd at_ (.inl lo) rfl (fun s5 I5 => ?_) (.inr lo)
      refine wpAny_mono ((su e o4 cls d (X.pn ++ pins) z4 ⟨_, da4⟩).run [] s5 _ G _ I5 (yes rfl e fe)) (fun f s6 out => ?_) (fun _ _ z => False.elim z)
      have gone : ∀ {τ6 : L2.St} {G6 : Hp} {Q : Shared → Prop}, Inv (X.suite e ((e, o4) :: (X.pn ++ pins))) [] τ6 G6 s6 → (∀ s7, Inv X pins (τ6.set i none) G6 s7 → Q s7) →
          wpAny (model X.prog X.w) X.A (do bindName X.env n .none; unbindBehindTheSuite X.env n hp) (fun _ s7 => Q s7) X.xe s6 := fun {τ6 G6 Q} I6 hq => gone_ok (I6.unsuite okX) nd at_ lo hq
      cases f with
      | ret u =>
        obtain ⟨v6, τ6, G6, I6, r6, q6⟩ := out
        exact gone I6 fun s7 J7 => ⟨_, _, _, J7, r6, q6⟩
      | next | brk | cont =>
        obtain ⟨τ6, G6, I6, q6⟩ := out
        exact gone I6 fun s7 J7 => ⟨_, _, J7, q6⟩
theorem ps_try_named {body : List Stmt} {h₀ : ExceptHandler} {hds : List ExceptHandler} {l : List (Value × Nat × Sui)} {pos : Pos} {tb : WX → TS} (es : X.stack = X.env :: X.outer) (ef : X.env.frame = some X.env.locals) (nd : X.N.Nodup) (tk : Takes X W0)
    (bd : ∀ (W : WX) (pn : List (Addr × Obj)) (xe : Value → Shared → Prop), Takes (X.tr pn xe) W → PassesOwn (model X.prog X.w) X.A X.env xe → PSs (X.tr pn xe) body (tb W))
    (hk : Clauses X (h₀ :: hds) l) : PS X (.Try body (h₀ :: hds) [] [] pos) (fun D σ H => tb (wNamed X.K W0 D l) D σ H) := by
  refine ⟨fun pins s σ H D I want => ?_⟩
  have okX := I.ok
  have fr : X.A.frames = some (X.env :: X.outer) := by rw [okX.frames, es]
  refine wpAny_Try_except (wpAny_mono ((bd (wNamed X.K W0 D l) (X.pn ++ pins) (fun u s1 => wpAny (model X.prog X.w) X.A (noteFrame u X.env) (fun _ s2 => wpAny (model X.prog X.w) X.A (setFlight u none) (fun _ s3 =>
    wpAny (model X.prog X.w) X.A (handleBy u X.env (h₀ :: hds)) (SP X pins D) X.xe s3) X.xe s2) X.xe s1) (fun u s' air => ?_) PassesOwn.looking).run [] s σ H D (I.toTry _) want) (fun f s1 out => ?_) (fun _ _ z => z))
  · obtain ⟨e, G0, sI, pins', τ, G, cls, d, rfl, J0, gr, up, sky, fe, os, bare, wish⟩ := air
    have J : Inv X pins τ G sI := J0.ofTry okX
    rw [show (X.tr (X.pn ++ pins) _).stack = X.env :: X.outer from es] at sky
    show wpAny (model X.prog X.w) X.A (noteFrame (.ref e) X.env) _ _ _
    refine Sky.land Zc.steady fr ef sky fun h3 fl u3 => ?_
    obtain ⟨o3, f3, at3, _, da3⟩ := fl.there
    have nfr : e ∉ frs (X.env :: X.outer) := fun hm => by
      obtain ⟨_, o', a', dif⟩ := fl.2.2.1.mem hm
      rw [at3] at a'
      cases a'
      exact dif _ da3
    exact named_go es ef nd tk J gr os bare fe fl (up.trans u3) (fun z => nfr (List.mem_filterMap.mpr ⟨X.env, List.mem_cons_self, by rw [ef, z]⟩))
      (fun hm => by
        obtain ⟨v, hv, q⟩ := List.mem_filterMap.mp hm
        exact nfr (List.mem_filterMap.mpr ⟨v, List.mem_cons_of_mem _ hv, q⟩)) hk wish
  · cases f with
    | next =>
      obtain ⟨τ, G, J, q⟩ := out
      exact wpAny_execs_nil ⟨τ, G, J.ofTry okX, q⟩
    | brk | cont =>
      obtain ⟨τ, G, J, q⟩ := out
      exact ⟨τ, G, J.ofTry okX, q⟩
    | ret u =>
      obtain ⟨v, τ, G, J, r, q⟩ := out
      exact ⟨v, τ, G, J.ofTry okX, r, q⟩
end
end Jb

/-! part JbI -/
/-! isinstance of a caught exception that has fields, where the answer is yes. -/
namespace Jb
open PySem PySem.Spec PySem.Calls PySem.W PyProof.Rows
theorem yes_ans {K : PySem.W.Frag} {x t c : Value} {Z : Heap → Prop} (ty : ∀ (M : Model) (h : Heap), K.In h → Z h → Looks M h (typeOf x) t) (e : kitOne K t c = some true) : Answers (fun s => K.In s.heap ∧ Z s.heap) x c true := by
  intro dep tk prog w A R s hs
  obtain ⟨hh, gn, dr, t0, os⟩ := s
  obtain ⟨⟨X, z⟩, k⟩ := hs
  have T1 := ty (model prog w) hh X z
  unfold Builtin.«isinstance.nested»
  refine wpAny_bind (T1.at ?_)
  unfold kitOne at e
  by_cases same : (t == c) = true
  · rw [if_pos same] at e ⊢
    first
      | ((repeat lk); exact k t0)
      | exact wpAny_bind (wpAny_rule (k t0))
      | exact wpAny_bind (wpAny_rule (wpAny_pure (k t0)))
  · rw [if_neg same] at e ⊢
    obtain ⟨U1, U2, U3⟩ := kit_cls (M := model prog w) X e
    refine wpAny_bind (U1.at ?_)
    rw [if_pos (by decide)]
    k_delta "plainIsInstance"
    refine wpAny_bind (wpAny_bind (U2.at ?_))
    simp only [Bool.not_true, Bool.false_eq_true, if_false]
    refine wpAny_bind ((T1.andThen U3 : Looks (model prog w) hh (isInstance x c) true).at ?_)
    first
      | exact wpAny_pure (wpAny_pure (k t0))
      | (simp only [if_true]; first | exact wpAny_pure (k t0) | exact wpAny_bind (wpAny_pure (wpAny_pure (k t0))))
end Jb
namespace Jb
open PySem PySem.Spec PyProof.Rows L2
/-- isinstance(e, C): e the exception that the suite holds, C its class or one above -/
def rIsY (K : PySem.W.Frag) (cls : Value) (e C : Addr) : List V → Hp → VK → Prop := fun xs H Q => xs = [.ref e, .ref C] ∧ PySem.W.kitOne K cls (.ref C) = some true ∧ Q (.bl true) H
theorem call_isY {X : Cx} {e C : Addr} {o : Obj} {cls : Value} {d : Option Addr} {pn : List (Addr × Obj)} (hz : Zc cls d o) : CallR (X.suite e ((e, o) :: pn)) (.builtin "isinstance") (rIsY X.K cls e C) := by
  rintro pins s σ H xs us Q I r ⟨rfl, hk, q⟩
  obtain ⟨u1, u2, rfl, r1, r2⟩ := vals2 r
  obtain rfl : u1 = Value.ref e := r1
  obtain rfl : u2 = Value.ref C := r2
  obtain ⟨at_, _⟩ := I.pin (e, o) (List.mem_append.mpr (.inl List.mem_cons_self))
  have ty : ∀ (M : Model) (h : Heap), X.K.In h → h.get? e = some o → PySem.W.Looks M h (typeOf (.ref e)) cls := fun M h _ q A Q E s k p => wpAny_typeOf_ref (k _ _ q) (by rw [hz.1]; exact p)
  exact call_isinstance (S := fun _ R s => (X.K.In s.heap ∧ s.heap.get? e = some o) ∧ ∀ tk, R (.ok (.ret (.bool true))) { s with toks := tk })
    (fun prog w A R s hs => isinstance_outer (yes_ans ty hk 0 _ prog w A R s hs) (fun z => nomatch z)) ⟨⟨I.kIn, at_⟩, fun tk => ⟨.bl true, H, I.tok tk, rfl, q⟩⟩
end Jb

/-! part JbR -/
/-! repr of data, and defs that are called where no repr is under way. -/
namespace Jb
open PySem PySem.Spec PyProof.Rows L2
/-- what repr gives -/
def shR : PyData → Str
  | .none => "None" | .bool b => if b then "True" else "False" | .int i => toString i | .str x => reprText x | d => d.shown
def okR : PyData → Prop
  | .none => True | .bool _ => True | .int i => i.natAbs.log2 < 1920 | .str x => (reprText x).length ≤ sizeLine
  | d => d.showable = true ∧ d.hasDict = false ∧ d.shown.length ≤ sizeLine ∧ d.depth ≤ 50
def rRepr (K : PySem.W.Frag) : List V → Hp → VK → Prop := fun xs H Q => ∃ v d, xs = [v] ∧ Dp K H v d ∧ okR d ∧ Q (.str (shR d)) H
theorem call_repr {X : Cx} (hg : X.A.guards = some []) (hu : X.A.units + 64 < cLine) : CallR X (.builtin "repr") (rRepr X.K) := by
  rintro pins s σ H xs us Q I r ⟨v, d, rfl, hd, ok, q⟩
  obtain ⟨u, rfl, ru⟩ := vals1 r
  have heap : ∀ {a : Addr} {as : List Addr}, Reads s.heap (.ref a) d as → u = .ref a → (d.showable = true ∧ d.hasDict = false ∧ d.shown.length ≤ sizeLine ∧ d.depth ≤ 50) → Q (.str d.shown) H → wpAny (model X.prog X.w) X.A (call (.builtin "repr") [u]) (EP X pins σ Q) X.xe s := fun {a as} rd eu ⟨h1, h2, h3, h4⟩ qq => by
    subst eu
    exact repr_of_reads' rd h1 (PyData.noDict_hsm h2) hg (by omega) (fun _ _ z => z) (fun h' t tk hk => ⟨.str _, H, I.kept (t' := tk) hk, ⟨t, rfl⟩, qq⟩) h3
  cases hd with
  | non =>
    obtain rfl : u = Value.none := ru
    exact PySem.P.repr_of_none ⟨.str _, H, I.tok _, ⟨_, rfl⟩, q⟩
  | bl b =>
    obtain rfl : u = Value.bool b := ru
    exact PySem.P.repr_of_bool ⟨.str _, H, I.tok _, ⟨_, rfl⟩, q⟩
  | int i =>
    obtain ⟨t, rfl⟩ := ru
    exact PySem.P.repr_of_int ok ⟨.str _, H, I.tok _, ⟨_, rfl⟩, q⟩
  | str x =>
    obtain ⟨t, rfl⟩ := ru
    exact PySem.P.repr_of_str ⟨.str _, H, I.tok _, ⟨_, rfl⟩, q⟩ ok
  | @lst a vs ds hs ha =>
    obtain rfl : u = Value.ref a := ru
    obtain ⟨as, rd⟩ := Dp.reads I (.list ds) (.ref a) (.ref a) (.lst hs ha) rfl
    exact heap rd rfl ok q
  | @tup a vs ds hs ha =>
    obtain rfl : u = Value.ref a := ru
    obtain ⟨as, rd⟩ := Dp.reads I (.tuple ds) (.ref a) (.ref a) (.tup hs ha) rfl
    exact heap rd rfl ok q
/-- a def's promise where no repr is under way -/
structure FnG (P : Program) (w : World) (K : PySem.W.Frag) (mg : Str → Option Value) (base : Heap) (k : Nat) (f : Addr) (fd : FuncData) (ps : List Str) (sp : Sp) : Prop where
  len : ∀ vs H Q E, sp vs H Q E → vs.length = ps.length
  run : ∀ (A : Around) (outer : List Env) (s : Shared) (H : Hp) (args : Args) (us : List Value) (vs : List V) (Q : VK) (E : XK), A.guards = some [] → Room k A → Env0 P w K mg base A outer s H → BindsTo s fd args (ps.zip us) → Vals vs us → sp vs H Q E →
    codeAny (model P w) A (.call (.ref f) args) (CR CX0 outer P w H s Q E) s
section
variable {P : Program} {w : World} {K : PySem.W.Frag} {mg : Str → Option Value} {base : Heap}
theorem fnG_of {x qual : Str} {st : Stmt} {f : Addr} {fd : FuncData} {N ps : List Str} {k : Nat} {sp : Sp} (F : L2.Fun K x qual st f fd) (S : FnScope N ps (defScope st)) (len : ∀ vs H Q E, sp vs H Q E → vs.length = ps.length)
    (body : ∀ (cdv : Value) (A : Around) (outer : List Env) (s : Shared) (H : Hp) (vs : List V) (Q : VK) (E : XK), A.guards = some [] → Room k (A.deeper (envOfC qual (defScope st) s.heap.objs.size f cdv)) → sp vs H Q E →
      ∃ t, PSs (cxOf CX0 P w K mg base N qual (defScope st) f cdv A outer s H E).nox (defBody st) t ∧ t { nx := fun _ H' => Q .non H', rt := Q } (start N vs) H) : FnG P w K mg base (k + 1) f fd ps sp := by
  obtain ⟨oc, od, kV, doc, pm, an, cdv, ct, osl, rfl, at_, code⟩ := F.ex
  refine ⟨len, fun A outer s H args us vs Q E g room env binds vals want => ?_⟩
  have KI : K.In s.heap := env.mod.kin.keeps fun b o z => (env.bs b o z).1
  have nl : s.heap.NoLimit := env.mod.nolimit.keeps fun b o z => (env.bs b o z).1
  have kinds : ∀ z ∈ ps.zip us, (defScope st).names.lookup z.1 = some .local ∨ ((defScope st).names.lookup z.1 = some .cell ∧ ((cellsFrom (s.heap.objs.size + 1) (defScope st).names []).lookup z.1).isSome = true) := fun ⟨n, u⟩ hz =>
    (S.par n (List.of_mem_zip hz).1).elim .inl fun q => .inr ⟨q, PySem.W.cellsFrom_some _ _ _ (.inl q)⟩
  refine codeAny_call_function room.depth (KI _ _ at_) rfl S.co S.gen rfl (PySem.W.codeRec_of KI code) (binds _ _ _ _ (wpAny_newFunctionEnv_cells S.kind kinds fun e he s1 new => ?_))
  subst he
  refine ⟨nl.keeps new.toInCall.keep, codeAny_func ?_⟩
  obtain ⟨t, derived, reading⟩ := body cdv A outer s H vs Q E g (room.deeper _) want
  refine wpAny_mono (derived.nox.run [] s1 (start N vs) H _ (inv_start S room.hd env (len _ _ _ _ want) vals new) reading) (fun fl s' out => ?_) fun _ _ z => z
  cases fl with
  | ret u =>
    obtain ⟨v, τ, G, J, rv, q⟩ := out
    exact ⟨v, G, J.os, J.bare, J.base, J.hok, rv, q⟩
  | next =>
    obtain ⟨τ, G, J, q⟩ := out
    exact ⟨V.non, G, J.os, J.bare, J.base, J.hok, rfl, q⟩
  | brk | cont =>
    obtain ⟨_, _, _, q⟩ := out
    exact q.elim
/-- such a def, called -/
def ClG (P : Program) (w : World) (K : PySem.W.Frag) (mg : Str → Option Value) (base : Heap) (k : Nat) (x : Str) (ps : List Str) (sp : Sp) : Prop :=
  ∃ f fd, FnG P w K mg base k f fd ps sp ∧ mg x = some (.ref f) ∧ PySem.W.keepIn K (.ref f) = true ∧ L2.Binds K fd ps []
theorem pe_clG {X : Cx} {k : Nat} {x : Str} {ps : List Str} {sp : Sp} {e : Expr} {es : List Expr} {t : TA} {p pos : Pos} (C : ClG X.prog X.w X.K X.mg X.base k x ps sp) (g : X.A.guards = some []) (hr : Room k X.A) (hg : Gl X x) (ha : PA X (e :: es) t)
    (hdb : (x == ("__debug__" : Str)) = false := by decide)
    (he : starEach (e :: es) X.env = (false, eval e X.env) :: starEach es X.env := by rfl)
    (hpl : (backTo pos (starEach es X.env)).any (·.1) = false := by rfl) :
    PE X (.Call (.Name x p) (e :: es) [] pos) (tCall sp [] E0 t) := by
  obtain ⟨f, fd, F, hm, hk, hb⟩ := C
  refine ⟨fun pins s σ H Q I h => wpAny_Call_Name_kw (ld_glob I hg hm ?_ hdb)⟩
  refine PySem.W.callWith_K (h₀ := X.base) I.ok.mod.kin hk (thn (ha.run pos pins s σ H _ I h) fun us s1 ⟨vs, H1, I1, r, q⟩ => ⟨I1.kIn, ?_⟩) he hpl
  have r2 : Vals (vs ++ []) (us ++ []) := r.append .nil
  have bd := hb s1 us I1.kIn (by rw [← r2.length]; exact F.len _ _ _ _ q)
  refine wpAny_call (codeAny_mono (F.run X.A X.stack s1 H1 ⟨us, []⟩ (us ++ []) (vs ++ []) Q E0 g hr I1.env0 bd r2 q) fun res s' out => ?_)
  cases res with
  | error _ => exact False.elim out
  | ok fl => cases fl <;> first | exact I1.after out | exact False.elim out
end
end Jb

/-! part JbQ -/
/-! != of two lists whose items are the same values. -/
namespace Jb
open PySem PySem.Spec PyProof.Rows L2 Evl
def rNeI (K : PySem.W.Frag) : R2 := fun x y H Q => ∃ a b xs, x = .ref a ∧ y = .ref b ∧ SqL K H a xs ∧ SqL K H b xs ∧ (∀ v ∈ xs, flatB v = true ∨ ∃ r, v = .ref r) ∧ Q (.bl false) H
theorem item_same {A : Around} {s : Shared} : ∀ {xs : List V} {us ws : List Value}, (∀ v ∈ xs, flatB v = true ∨ ∃ r, v = .ref r) → Vals xs us → Vals xs ws → ∀ j (h1 : j < us.length) (h2 : j < ws.length), SeqAt.EqAt A s us[j] ws[j] true
  | [], _, _, _, .nil, .nil, j, h1, _ => absurd h1 (Nat.not_lt_zero j)
  | v :: xs, _, _, hf, .cons a1 b1, .cons a2 b2, 0, _, _ => by
    rcases hf v List.mem_cons_self with f | ⟨r, rfl⟩
    · exact eqAt_same a1 a2 f
    · cases (show _ = Value.ref r from a1)
      cases (show _ = Value.ref r from a2)
      exact SeqAt.EqAt.same _
  | v :: xs, _, _, hf, .cons a1 b1, .cons a2 b2, j + 1, h1, h2 => item_same (fun u hu => hf u (List.mem_cons_of_mem _ hu)) b1 b2 j (Nat.lt_of_succ_lt_succ h1) (Nat.lt_of_succ_lt_succ h2)
theorem op_neI {X : Cx} (hu : X.A.units + 64 < cLine) : OpR X (compareOp .NotEq) (rNeI X.K) := by
  rintro pins s σ H x y v u Q I rx ry ⟨a, b, xs, rfl, rfl, ha, hb, hf, q⟩
  cases (show v = Value.ref a from rx)
  cases (show u = Value.ref b from ry)
  obtain ⟨us, r1, p1, _⟩ := I.list ha
  obtain ⟨ws, r2, p2, _⟩ := I.list hb
  have hl : us.length = ws.length := r1.length.symm.trans r2.length
  have step := SeqAt.RcNeAt.lists (A := X.A) (s := s) (e := fun _ => true) p1.isList p2.isList (by rw [List.size_toArray, List.size_toArray]; exact hl) (by omega) (fun j h1 h2 => by
    have k := item_same (A := X.A.in1) (s := s) hf r1 r2 j (by simpa using h1) (by simpa using h2)
    simpa using k)
  refine step X.prog X.w X.xe _ ?_
  have z : (!(List.range us.toArray.size).all fun _ => true) = false := by rw [show ((List.range us.toArray.size).all fun _ => true) = true from List.all_eq_true.mpr fun _ _ => rfl] <;> rfl
  rw [z]
  exact ⟨.bl false, H, I, rfl, q⟩
end Jb

/-! part JbG -/
/-! The end of a law whose promise is one where no repr is under way. -/
namespace Jb
open PySem PySem.Spec PyProof.Rows L2
section
variable {P : Program} {w : World} {K : PySem.W.Frag} {mg mb : Str → Option Value} {k : Nat} {fa a : Addr} {fd : FuncData} {x : Str} {sp : Sp} {s1 : Shared} {vs : List Value} {ns : List Int}
/-- the call, over a heap in which nothing but the script is tracked -/
theorem enterG (KX : K.In s1.heap) (hns : s1.heap.Ns mainGlobals mg) (hb : s1.heap.Ns builtinsNs mb) (hbb : ∀ x : Str, x ≠ "__name__" → mb x = bootBuiltins x) (hlim : s1.heap.NoLimit) (hg : s1.gens = #[])
    (ha : s1.heap.get? a = some { cls := .type "list", data := .seq vs.toArray }) (hi : IntsAre vs ns) (hl : ns.length ≤ sizeLine) (hr : Room k callerA)
    (F : ∀ base : Heap, K.In base → base.Ns mainGlobals mg → FnG P w K mg base k fa fd [x] sp) (bind : ∀ (s : Shared) (u : Value), BindsTo s fd ⟨[u], []⟩ [(x, u)])
    (hsp : ∀ H : Hp, Only H → SqL K H a (ns.map V.int) → sp [.ref a] H (fun v _ => v = .bl true) fun _ _ _ => False) :
    codeAny (model P w) callerA (.call (.ref fa) ⟨[.ref a], []⟩) (fun r s' => r = .ok (.ret (.bool true)) ∧ OldK s1.heap s'.heap ∧ s'.os = s1.os ∧ AllBare s'.gens) s1 := by
  have nums := vals_ints hi
  have lens := hi.length
  have go : ∀ H : Hp, Only H → SqL K H a (ns.map V.int) → HOk P w H s1.heap → (∀ b, H b ≠ none → b = a) → (H a ≠ none → K.lookup a = none) →
      codeAny (model P w) callerA (.call (.ref fa) ⟨[.ref a], []⟩) (fun r s' => r = .ok (.ret (.bool true)) ∧ OldK s1.heap s'.heap ∧ s'.os = s1.os ∧ AllBare s'.gens) s1 := by
    intro H only sq ok just free
    have low : ∀ {b : Addr} {o : Obj}, s1.heap.get? b = some o → H b = none → (hidT s1.heap H).get? b = some o := fun e n => hidT_get e n
    have dictFree : ∀ {b : Addr} {o : Obj} {es : Array DictEntry} {ep : Nat}, s1.heap.get? b = some o → o.data = .dict es ep → H b = none := fun {b o es ep} e d => by
      refine Classical.byContradiction fun q => ?_
      obtain rfl : b = a := just b q
      rw [ha] at e
      cases e
      exact nomatch d
    have nsLow : ∀ {b : Addr} {m : Str → Option Value}, s1.heap.Ns b m → (hidT s1.heap H).Ns b m := fun {b m} ⟨o, es, ep, e, d, r⟩ => ⟨o, es, ep, low e (dictFree e d), d, r⟩
    have KB : K.In (hidT s1.heap H) := fun b o e => low (KX b o e) (Classical.byContradiction fun q => by
      obtain rfl : b = a := just b q
      rw [free q] at e
      cases e)
    have M : Mod K mg (hidT s1.heap H) := ⟨KB, nsLow hns, ⟨mb, nsLow hb, hbb⟩, hlim.elim fun mc z => ⟨mc, nsLow z.1, z.2⟩⟩
    have env : Env0 P w K mg (hidT s1.heap H) callerA [] s1 H := ⟨rfl, M, fun b o e => of_hidT e, Nat.le_of_eq (hidT_size _ _), trivial, (fun b z => by cases z), ok, .of_eq hg⟩
    refine codeAny_mono ((F _ KB (nsLow hns)).run callerA [] s1 H ⟨[.ref a], []⟩ [.ref a] [.ref a] _ _ rfl hr env (bind s1 (.ref a)) (.cons rfl .nil) (hsp H only sq)) fun r s' out => ?_
    cases r with
    | error _ => exact False.elim out
    | ok fl =>
      cases fl with
      | next | brk | cont => exact False.elim out
      | ret u =>
        obtain ⟨v, G, os, bare, un, okG, rv, ev⟩ := out
        obtain rfl : v = V.bl true := ev
        obtain rfl : u = Value.bool true := rv
        refine ⟨rfl, OldK.of_keep fun b o e => ?_, os, bare⟩
        by_cases q : H b = none
        · exact un.keep b o e q (fun z => by cases z) (by simp)
        · rcases only b with z | ⟨ob, xs, z⟩
          · exact absurd z q
          · obtain ⟨g1, _⟩ := ok b _ z
            obtain ⟨g2, _⟩ := okG b _ (un.frzs b ob _ z)
            rw [e] at g1
            cases g1
            exact g2
  cases hk : K.lookup a with
  | some o =>
    have e := KX a o hk
    rw [ha] at e
    cases e
    exact go (fun _ => none) (fun _ => .inl rfl) (.inr ⟨_, vs.toArray, _, hk, rfl, rfl, rfl, by rw [List.size_toArray, lens]; exact hl, by simpa using nums⟩) (fun b u z => by cases (show (none : Option HO) = some u from z)) (fun b z => absurd rfl z) fun z => absurd rfl z
  | none =>
    have at_ : ∀ b, b ≠ a → (fun b => if b = a then some (HO.frz { cls := .type "list", data := .seq vs.toArray } (.lst (ns.map V.int))) else none) b = none := fun b n => if_neg n
    refine go (fun b => if b = a then some (.frz { cls := .type "list", data := .seq vs.toArray } (.lst (ns.map V.int))) else none) (fun b => ?_) (.inl (.inr ⟨{ cls := .type "list", data := .seq vs.toArray }, if_pos rfl⟩)) (fun b u z => ?_) (fun b z => Classical.byContradiction fun n => z (at_ b n)) fun _ => hk
    · by_cases c : b = a
      · exact .inr ⟨_, _, if_pos c⟩
      · exact .inl (at_ b c)
    · by_cases c : b = a
      · subst c
        cases (if_pos rfl).symm.trans z
        exact ⟨ha, by rw [List.length_map]; exact hl, vs, _, nums, ha⟩
      · cases (at_ b c).symm.trans z
end
theorem walkG {l : PySem.W.OpenLaw} {n k : Nat} {q : Program} {loose : List Str} {XP : (Str → Option Value) → Heap → Prop} {YP : World → Heap → Prop} {d : DefRec} {K : Params → PySem.W.Frag} {sp : World → Sp} {x : Str}
    (hn : l.most = some n) (hn2 : n ≤ sizeLine) (hdf : d.params.defaults = []) (hr : Room k callerA) (hY : ∀ (w : World) (h : Heap), YP w h → (K w.params).In h)
    (F : ∀ (w : World) (mg : Str → Option Value) (fa : Addr) (h : Heap), (K w.params).In h → h.Ns mainGlobals mg → mg d.name = some (.ref fa) →
      ∃ fd : FuncData, (∀ (s : Shared) (u : Value), BindsTo s fd ⟨[u], []⟩ [(x, u)]) ∧ ∀ base : Heap, (K w.params).In base → base.Ns mainGlobals mg → FnG l.prog w (K w.params) mg base k fa fd [x] (sp w))
    (hsp : ∀ (w : World) (H : Hp) (a : Addr) (ns : List Int), ns.length ≤ n → (∀ z ∈ ns, Builtin.Int.intBits z ≤ 1048576) → Only H → SqL (K w.params) H a (ns.map V.int) → sp w [.ref a] H (fun v _ => v = .bl true) fun _ _ _ => False) :
    PySem.W.WalkO q loose XP YP l.row.toRowW d [] (fun f vs => PySem.call f vs) := by
  refine Att.attach_callB hn hdf fun w _ s1 mg _ fa _ _ _ _ a _ ns G Y _ _ _ hmg at_ nums len bits gens => ?_
  have KX := hY w _ Y
  obtain ⟨fd, bind, hF⟩ := F w mg fa _ KX G.T.g hmg
  exact enterG KX G.T.g G.T.b G.T.builtins G.T.nolimit gens at_ nums (Nat.le_trans len hn2) hr hF bind fun H only sq => hsp w H a ns len bits only sq
end Jb

/-! part SpQ -/
/-! Minors by expansion, and the identity by which Bareiss's divisions go up. Columns stand with the last one first, rows too. -/
namespace Sp
abbrev Fun := Nat → Int
abbrev Form := List Nat → Int
/-- one row more -/
def wed (b : Fun) : Form → Form
  | _, [] => 0
  | f, j :: C => b j * f C - wed b (fun cs => f (j :: cs)) C
def minor : List Fun → Form
  | [], [] => 1
  | [], _ :: _ => 0
  | b :: P, C => wed b (minor P) C
theorem wed_add (b : Fun) : ∀ (C : List Nat) (f g : Form), wed b (fun cs => f cs + g cs) C = wed b f C + wed b g C
  | [], f, g => rfl
  | j :: C, f, g => by
    have ih := wed_add b C (fun cs => f (j :: cs)) (fun cs => g (j :: cs))
    show b j * (f C + g C) - wed b (fun cs => f (j :: cs) + g (j :: cs)) C = (b j * f C - wed b (fun cs => f (j :: cs)) C) + (b j * g C - wed b (fun cs => g (j :: cs)) C)
    rw [ih, Int.mul_add]
    omega
theorem wed_smul (b : Fun) (k : Int) : ∀ (C : List Nat) (f : Form), wed b (fun cs => k * f cs) C = k * wed b f C
  | [], f => (Int.mul_zero k).symm
  | j :: C, f => by
    have ih := wed_smul b k C (fun cs => f (j :: cs))
    show b j * (k * f C) - wed b (fun cs => k * f (j :: cs)) C = k * (b j * f C - wed b (fun cs => f (j :: cs)) C)
    rw [ih, Int.mul_sub, Int.mul_left_comm]
theorem wed_zero (b : Fun) : ∀ (C : List Nat), wed b (fun _ => 0) C = 0
  | [] => rfl
  | j :: C => by
    show b j * 0 - wed b (fun _ => 0) C = 0
    rw [wed_zero b C, Int.mul_zero] <;> rfl
theorem add_wed (b c : Fun) : ∀ (C : List Nat) (f : Form), wed (fun j => b j + c j) f C = wed b f C + wed c f C
  | [], f => rfl
  | j :: C, f => by
    have ih := add_wed b c C (fun cs => f (j :: cs))
    show (b j + c j) * f C - wed (fun j => b j + c j) (fun cs => f (j :: cs)) C = (b j * f C - wed b (fun cs => f (j :: cs)) C) + (c j * f C - wed c (fun cs => f (j :: cs)) C)
    rw [ih, Int.add_mul]
    omega
theorem smul_wed (k : Int) (b : Fun) : ∀ (C : List Nat) (f : Form), wed (fun j => k * b j) f C = k * wed b f C
  | [], f => (Int.mul_zero k).symm
  | j :: C, f => by
    have ih := smul_wed k b C (fun cs => f (j :: cs))
    show k * b j * f C - wed (fun j => k * b j) (fun cs => f (j :: cs)) C = k * (b j * f C - wed b (fun cs => f (j :: cs)) C)
    rw [ih, Int.mul_sub, Int.mul_assoc]
/-- a row twice -/
theorem wed_twice (b : Fun) : ∀ (C : List Nat) (f : Form), wed b (wed b f) C = 0
  | [], f => rfl
  | j :: C, f => by
    have ih := wed_twice b C (fun cs => f (j :: cs))
    show b j * wed b f C - wed b (fun cs => b j * f cs - wed b (fun ds => f (j :: ds)) cs) C = 0
    have e : wed b (fun cs => b j * f cs - wed b (fun ds => f (j :: ds)) cs) C = b j * wed b f C := by
      have h1 := wed_add b C (fun cs => b j * f cs) (fun cs => (-1) * wed b (fun ds => f (j :: ds)) cs)
      have h2 := wed_smul b (-1) C (wed b (fun ds => f (j :: ds)))
      rw [ih] at h2
      have h3 := wed_smul b (b j) C f
      have e1 : (fun cs => b j * f cs - wed b (fun ds => f (j :: ds)) cs) = fun cs => b j * f cs + (-1) * wed b (fun ds => f (j :: ds)) cs := by
        funext cs
        omega
      rw [e1, h1, h2, h3]
      omega
    rw [e]
    omega
theorem wed_swap (a b : Fun) (f : Form) (C : List Nat) : wed a (wed b f) C = - wed b (wed a f) C := by
  have h := wed_twice (fun j => a j + b j) C f
  have e : wed (fun j => a j + b j) f = fun cs => wed a f cs + wed b f cs := funext fun cs => add_wed a b cs f
  rw [e, wed_add, add_wed, add_wed, wed_twice, wed_twice] at h
  omega
theorem wed_mem {x : Fun} : ∀ {P : List Fun}, x ∈ P → ∀ C, wed x (minor P) C = 0
  | u :: P, h, C => by
    rcases List.mem_cons.mp h with e | e
    · subst e
      exact wed_twice x C (minor P)
    · have ih : wed x (minor P) = fun _ => 0 := funext fun D => wed_mem e D
      show wed x (wed u (minor P)) C = 0
      rw [wed_swap, ih, wed_zero]
      rfl
theorem wed_off {b : Fun} : ∀ {C : List Nat}, (∀ c ∈ C, b c = 0) → ∀ f, wed b f C = 0
  | [], _, f => rfl
  | j :: C, h, f => by
    show b j * f C - wed b (fun cs => f (j :: cs)) C = 0
    rw [h j List.mem_cons_self, wed_off (fun c hc => h c (List.mem_cons_of_mem _ hc)), Int.zero_mul]
    rfl
/-- a minor as a function of its last column is a combination of the rows -/
inductive Comb : List Fun → Fun → Prop
  | nil : Comb [] fun _ => 0
  | cons {b : Fun} {P : List Fun} {y : Fun} (k : Int) (h : Comb P y) : Comb (b :: P) fun j => k * b j + y j
theorem comb_ext {P : List Fun} {y z : Fun} (h : Comb P y) (e : ∀ j, y j = z j) : Comb P z := by
  have : y = z := funext e
  exact this ▸ h
theorem comb_zero : ∀ P : List Fun, Comb P fun _ => 0
  | [] => .nil
  | b :: P => comb_ext (.cons 0 (comb_zero P)) fun j => by rw [Int.zero_mul]; rfl
theorem comb_add : ∀ {P : List Fun} {y z : Fun}, Comb P y → Comb P z → Comb P fun j => y j + z j
  | _, _, _, .nil, .nil => comb_ext .nil fun j => rfl
  | _, _, _, .cons (b := b) (y := y) k h, .cons (y := z) l g => comb_ext (.cons (k + l) (comb_add h g)) fun j => by
    show (k + l) * b j + (y j + z j) = (k * b j + y j) + (l * b j + z j)
    rw [Int.add_mul]
    omega
theorem comb_smul (m : Int) : ∀ {P : List Fun} {y : Fun}, Comb P y → Comb P fun j => m * y j
  | _, _, .nil => comb_ext .nil fun j => (Int.mul_zero m).symm
  | _, _, .cons k h => comb_ext (.cons (m * k) (comb_smul m h)) fun j => by rw [Int.mul_add, Int.mul_assoc]
theorem comb_up {b : Fun} {P : List Fun} {y : Fun} (h : Comb P y) : Comb (b :: P) y := comb_ext (.cons 0 h) fun j => by rw [Int.zero_mul]; omega
/-- forms that are combinations at each list of columns stay so -/
theorem comb_wed {P : List Fun} (b : Fun) : ∀ (C : List Nat) (f : Nat → Form), (∀ cs, Comb P fun j => f j cs) → Comb P fun j => wed b (f j) C
  | [], f, h => comb_zero P
  | c :: C, f, h => by
    have ih := comb_wed b C (fun j cs => f j (c :: cs)) fun cs => h (c :: cs)
    refine comb_ext (comb_add (comb_smul (b c) (h C)) (comb_smul (-1) ih)) fun j => ?_
    show b c * f j C + (-1) * wed b (fun cs => f j (c :: cs)) C = b c * f j C - wed b (fun cs => f j (c :: cs)) C
    omega
theorem minor_comb : ∀ (P : List Fun) (C : List Nat), Comb P fun j => minor P (j :: C)
  | [], C => comb_ext .nil fun j => rfl
  | b :: P, C => by
    have h1 : Comb P fun j => wed b (fun cs => minor P (j :: cs)) C := comb_wed b C (fun j cs => minor P (j :: cs)) fun cs => minor_comb P cs
    refine comb_ext (.cons (minor P C) (comb_smul (-1) h1)) fun j => ?_
    show minor P C * b j + (-1) * wed b (fun cs => minor P (j :: cs)) C = b j * minor P C - wed b (fun cs => minor P (j :: cs)) C
    rw [Int.mul_comm]
    omega
/-- the row b below: d times b and a combination of the rows above -/
theorem minor_row (b : Fun) (P : List Fun) (C : List Nat) : ∃ y, Comb P y ∧ ∀ j, minor (b :: P) (j :: C) = minor P C * b j + y j := by
  have h1 : Comb P fun j => wed b (fun cs => minor P (j :: cs)) C := comb_wed b C (fun j cs => minor P (j :: cs)) fun cs => minor_comb P cs
  refine ⟨_, comb_smul (-1) h1, fun j => ?_⟩
  show b j * minor P C - wed b (fun cs => minor P (j :: cs)) C = minor P C * b j + (-1) * wed b (fun cs => minor P (j :: cs)) C
  rw [Int.mul_comm]
  omega
theorem wed_comb {g : Form} {C : List Nat} : ∀ {P : List Fun} {y : Fun}, Comb P y → (∀ x ∈ P, wed x g C = 0) → wed y g C = 0
  | _, _, .nil, _ => wed_off (fun _ _ => rfl) g
  | _, _, .cons (b := b) (y := y) k h, hx => by
    rw [add_wed (fun j => k * b j) y, smul_wed, hx _ List.mem_cons_self, wed_comb h fun x hm => hx x (List.mem_cons_of_mem _ hm), Int.mul_zero]
    rfl
/-- the identity: the crossed rows, by the pivot before -/
theorem cross_minor {a b : Fun} {P : List Fun} {C : List Nat} (hb : ∀ c ∈ C, minor (b :: P) (c :: C) = 0) (c j : Nat) :
    minor P C * minor (b :: a :: P) (j :: c :: C) = minor (a :: P) (c :: C) * minor (b :: P) (j :: C) - minor (b :: P) (c :: C) * minor (a :: P) (j :: C) := by
  obtain ⟨y, hy, he⟩ := minor_row b P C
  have hz : wed y (minor (a :: P)) (j :: c :: C) = 0 := wed_comb hy fun x hx => wed_mem (List.mem_cons_of_mem _ hx) _
  have h1 : minor P C * minor (b :: a :: P) (j :: c :: C) = wed (fun k => minor (b :: P) (k :: C)) (minor (a :: P)) (j :: c :: C) := by
    have e : (fun k => minor (b :: P) (k :: C)) = fun k => minor P C * b k + y k := funext he
    rw [e, add_wed (fun k => minor P C * b k) y, smul_wed, hz, Int.add_zero]
    rfl
  rw [h1]
  generalize hs : (fun k => minor (b :: P) (k :: C)) = s
  have s0 : ∀ k ∈ C, s k = 0 := fun k hk => by rw [← hs]; exact hb k hk
  have sj : s j = minor (b :: P) (j :: C) := by rw [← hs]
  have sc : s c = minor (b :: P) (c :: C) := by rw [← hs]
  show s j * minor (a :: P) (c :: C) - (s c * minor (a :: P) (j :: C) - wed s (fun cs => minor (a :: P) (j :: c :: cs)) C) = _
  rw [wed_off s0, sj, sc, Int.sub_zero, Int.mul_comm (minor (b :: P) (j :: C))]
end Sp

/-! part SpS -/
/-! Spans by fractions, leading places, echelon systems. -/
namespace Sp
/-- a multiple of v is a combination of the rows -/
def InQ (S : List Fun) (v : Fun) : Prop := ∃ N : Int, N ≠ 0 ∧ Comb S fun j => N * v j
theorem comb_mem {v : Fun} : ∀ {S : List Fun}, v ∈ S → Comb S v
  | b :: S, h => by
    rcases List.mem_cons.mp h with e | e
    · subst e
      exact comb_ext (.cons 1 (comb_zero S)) fun j => by rw [Int.one_mul]; omega
    · exact comb_up (comb_mem e)
theorem inq_comb {S : List Fun} {v : Fun} (h : Comb S v) : InQ S v := ⟨1, by decide, comb_ext h fun j => (Int.one_mul _).symm⟩
theorem inq_mem {S : List Fun} {v : Fun} (h : v ∈ S) : InQ S v := inq_comb (comb_mem h)
theorem inq_zero {S : List Fun} {v : Fun} (h : ∀ j, v j = 0) : InQ S v := inq_comb (comb_ext (comb_zero S) fun j => (h j).symm)
theorem inq_add {S : List Fun} {u v : Fun} (hu : InQ S u) (hv : InQ S v) : InQ S fun j => u j + v j := by
  obtain ⟨N, n0, h⟩ := hu
  obtain ⟨M, m0, g⟩ := hv
  refine ⟨N * M, Int.mul_ne_zero n0 m0, comb_ext (comb_add (comb_smul M h) (comb_smul N g)) fun j => ?_⟩
  show M * (N * u j) + N * (M * v j) = N * M * (u j + v j)
  rw [Int.mul_add, ← Int.mul_assoc, ← Int.mul_assoc, Int.mul_comm M N]
theorem inq_smul {S : List Fun} {v : Fun} (k : Int) (hv : InQ S v) : InQ S fun j => k * v j := by
  obtain ⟨N, n0, h⟩ := hv
  exact ⟨N, n0, comb_ext (comb_smul k h) fun j => Int.mul_left_comm k N (v j)⟩
theorem inq_div {S : List Fun} {v : Fun} {k : Int} (k0 : k ≠ 0) (hv : InQ S fun j => k * v j) : InQ S v := by
  obtain ⟨N, n0, h⟩ := hv
  exact ⟨N * k, Int.mul_ne_zero n0 k0, comb_ext h fun j => (Int.mul_assoc N k (v j)).symm⟩
theorem inq_ext {S : List Fun} {u v : Fun} (h : InQ S u) (e : ∀ j, u j = v j) : InQ S v := (funext e : u = v) ▸ h
theorem comb_inq {T : List Fun} : ∀ {S : List Fun} {v : Fun}, Comb S v → (∀ s ∈ S, InQ T s) → InQ T v
  | _, _, .nil, _ => inq_zero fun _ => rfl
  | _, _, .cons k h, hs => inq_add (inq_smul k (hs _ List.mem_cons_self)) (comb_inq h fun s hm => hs s (List.mem_cons_of_mem _ hm))
theorem inq_trans {S T : List Fun} {v : Fun} (h : InQ S v) (hs : ∀ s ∈ S, InQ T s) : InQ T v := by
  obtain ⟨N, n0, c⟩ := h
  exact inq_div n0 (comb_inq c hs)
/-- the first place that is not 0 -/
def Lead (v : Fun) (c : Nat) : Prop := v c ≠ 0 ∧ ∀ j, j < c → v j = 0
theorem lead_one {v : Fun} {c d : Nat} (h : Lead v c) (g : Lead v d) : c = d := by
  rcases Nat.lt_trichotomy c d with z | z | z
  · exact absurd (g.2 c z) h.1
  · exact z
  · exact absurd (h.2 d z) g.1
abbrev Ech := List (Nat × Fun)
structure IsE (E : Ech) : Prop where
  nd : (E.map (·.1)).Nodup
  ld : ∀ q ∈ E, Lead q.2 q.1
theorem comb_lead : ∀ {E : Ech} {y : Fun}, IsE E → Comb (E.map (·.2)) y → (∀ j, y j = 0) ∨ ∃ c ∈ E.map (·.1), Lead y c
  | [], _, _, .nil => .inl fun _ => rfl
  | (c0, e0) :: E, _, hE, .cons (y := y) k h => by
    have ih := comb_lead (E := E) ⟨(List.nodup_cons.mp hE.nd).2, fun q hq => hE.ld q (List.mem_cons_of_mem _ hq)⟩ h
    have l0 : Lead e0 c0 := hE.ld (c0, e0) List.mem_cons_self
    by_cases hk : k = 0
    · subst hk
      rcases ih with z | ⟨c, hc, l⟩
      · exact .inl fun j => by show 0 * e0 j + y j = 0; rw [Int.zero_mul, z j] <;> rfl
      · refine .inr ⟨c, List.mem_cons_of_mem _ hc, ?_, fun j hj => ?_⟩
        · show 0 * e0 c + y c ≠ 0
          rw [Int.zero_mul, Int.zero_add]
          exact l.1
        · show 0 * e0 j + y j = 0
          rw [Int.zero_mul, l.2 j hj] <;> rfl
    · rcases ih with z | ⟨c, hc, l⟩
      · refine .inr ⟨c0, List.mem_cons_self, ?_, fun j hj => ?_⟩
        · show k * e0 c0 + y c0 ≠ 0
          rw [z, Int.add_zero]
          exact Int.mul_ne_zero hk l0.1
        · show k * e0 j + y j = 0
          rw [z, l0.2 j hj, Int.mul_zero] <;> rfl
      · have hne : c0 ≠ c := fun e => (List.nodup_cons.mp hE.nd).1 (e ▸ hc)
        rcases Nat.lt_or_ge c0 c with lt | ge
        · refine .inr ⟨c0, List.mem_cons_self, ?_, fun j hj => ?_⟩
          · show k * e0 c0 + y c0 ≠ 0
            rw [l.2 c0 lt, Int.add_zero]
            exact Int.mul_ne_zero hk l0.1
          · show k * e0 j + y j = 0
            rw [l.2 j (by omega), l0.2 j hj, Int.mul_zero] <;> rfl
        · have lt : c < c0 := by omega
          refine .inr ⟨c, List.mem_cons_of_mem _ hc, ?_, fun j hj => ?_⟩
          · show k * e0 c + y c ≠ 0
            rw [l0.2 c lt, Int.mul_zero, Int.zero_add]
            exact l.1
          · show k * e0 j + y j = 0
            rw [l.2 j hj, l0.2 j (by omega), Int.mul_zero] <;> rfl
theorem inq_lead {E : Ech} {v : Fun} {c : Nat} (hE : IsE E) (h : InQ (E.map (·.2)) v) (l : Lead v c) : c ∈ E.map (·.1) := by
  obtain ⟨N, n0, hc⟩ := h
  have l' : Lead (fun j => N * v j) c := ⟨Int.mul_ne_zero n0 l.1, fun j hj => by show N * v j = 0; rw [l.2 j hj, Int.mul_zero]⟩
  rcases comb_lead hE hc with z | ⟨d, hd, g⟩
  · exact absurd (z c) l'.1
  · rw [lead_one l' g]
    exact hd
theorem nd_le : ∀ (l m : List Nat), l.Nodup → (∀ x ∈ l, x ∈ m) → l.length ≤ m.length
  | [], _, _, _ => Nat.zero_le _
  | a :: l, m, nd, h => by
    obtain ⟨n1, n2⟩ := List.nodup_cons.mp nd
    obtain ⟨m1, m2, e⟩ := List.append_of_mem (h a List.mem_cons_self)
    have ih := nd_le l (m1 ++ m2) n2 fun x hx => by
      have hm := h x (List.mem_cons_of_mem _ hx)
      rw [e] at hm
      rcases List.mem_append.mp hm with z | z
      · exact List.mem_append_left _ z
      · rcases List.mem_cons.mp z with z | z
        · rw [z] at hx
          exact absurd hx n1
        · exact List.mem_append_right _ z
    rw [e, List.length_cons, List.length_append, List.length_cons]
    rw [List.length_append] at ih
    omega
/-- an echelon system of a space within another: no longer -/
theorem ech_le {E F : Ech} (hE : IsE E) (hF : IsE F) (h : ∀ e ∈ E.map (·.2), InQ (F.map (·.2)) e) : E.length ≤ F.length := by
  have k := nd_le (E.map (·.1)) (F.map (·.1)) hE.nd fun c hc => by
    obtain ⟨q, hq, e⟩ := List.mem_map.mp hc
    subst e
    exact inq_lead hF (h q.2 (List.mem_map.mpr ⟨q, hq, rfl⟩)) (hE.ld q hq)
  rwa [List.length_map, List.length_map] at k
/-- an echelon system of all that these rows span -/
structure Spans (S : List Fun) (E : Ech) : Prop where
  ech : IsE E
  sub : ∀ e ∈ E.map (·.2), InQ S e
  sup : ∀ s ∈ S, InQ (E.map (·.2)) s
/-- its length is the space's -/
theorem spans_len {S T : List Fun} {E F : Ech} (hE : Spans S E) (hF : Spans T F) (h1 : ∀ s ∈ S, InQ T s) (h2 : ∀ t ∈ T, InQ S t) : E.length = F.length :=
  Nat.le_antisymm (ech_le hE.ech hF.ech fun e he => inq_trans (hE.sub e he) fun s hs => inq_trans (h1 s hs) hF.sup)
    (ech_le hF.ech hE.ech fun e he => inq_trans (hF.sub e he) fun s hs => inq_trans (h2 s hs) hE.sup)
end Sp

/-! part SpT -/
/-! The rank by Bareiss's elimination. -/
namespace Sp
def newRow (first : List Int) (c : Nat) (before : Int) (row : List Int) : List Int := List.zipWith (fun e f => (ent first c * e - ent row c * f).fdiv before) row first
def nz (c : Nat) (r : List Int) : Bool := decide (ent r c ≠ 0)
def restOf {α : Type} (L : List α) (i : Nat) (h : α) : List α := (L.set i h).drop 1
def bar : Nat → Nat → List (List Int) → Nat → Int → Nat
  | 0, _, _, found, _ => found
  | k + 1, c, low, found, before =>
    match low.findIdx? (nz c) with
    | none => bar k (c + 1) low found before
    | some i => bar k (c + 1) ((restOf low i (low.getD 0 [])).map (newRow (low.getD i []) c before)) (found + 1) (ent (low.getD i []) c)
def rank (n : Nat) (rows : List (List Int)) : Nat := bar n 0 rows 0 1
theorem rest_sub {α : Type} {h x : α} {t : List α} {i : Nat} (hx : x ∈ restOf (h :: t) i h) : x ∈ h :: t := by
  unfold restOf at hx
  cases i with
  | zero => exact List.mem_cons_of_mem _ hx
  | succ i =>
    have hx : x ∈ t.set i h := hx
    rcases List.mem_or_eq_of_mem_set hx with z | z
    · exact List.mem_cons_of_mem _ z
    · rw [z]; exact List.mem_cons_self
theorem rest_cover {α : Type} {h x : α} {t : List α} {i : Nat} (hi : i < (h :: t).length) (hx : x ∈ h :: t) : x = (h :: t)[i] ∨ x ∈ restOf (h :: t) i h := by
  unfold restOf
  cases i with
  | zero =>
    rcases List.mem_cons.mp hx with z | z
    · exact .inl z
    · exact .inr z
  | succ i =>
    have hi' : i < t.length := by simpa using hi
    show x = t[i] ∨ x ∈ t.set i h
    rcases List.mem_cons.mp hx with z | z
    · refine .inr ?_
      rw [z]
      exact List.mem_iff_getElem.mpr ⟨i, by rw [List.length_set]; exact hi', by rw [List.getElem_set_self]⟩
    · obtain ⟨k, hk, e⟩ := List.mem_iff_getElem.mp z
      by_cases c : i = k
      · subst c
        exact .inl e.symm
      · exact .inr (List.mem_iff_getElem.mpr ⟨k, by rw [List.length_set]; exact hk, by rw [List.getElem_set_ne c]; exact e⟩)
theorem rest_map {α β : Type} (f : α → β) (L : List α) (i : Nat) (h : α) : (restOf L i h).map f = restOf (L.map f) i (f h) := by
  unfold restOf
  rw [List.map_drop, List.map_set]
theorem newRow_ent {first row : List Int} {c : Nat} {before : Int} (h : row.length = first.length) (j : Nat) : ent (newRow first c before row) j = (ent first c * ent row j - ent row c * ent first j).fdiv before := by
  unfold newRow
  exact ent_zip (fun e f => (ent first c * e - ent row c * f).fdiv before) (by simp) h j
structure Elim (n : Nat) (S : List Fun) (c : Nat) (L : List (List Int × Fun)) (P : List Fun) (C : List Nat) (E : Ech) (before : Int) : Prop where
  low : ∀ q ∈ L, q.1.length = n ∧ (∀ j, ent q.1 j = minor (q.2 :: P) (j :: C)) ∧ ∀ j, j < c → ent q.1 j = 0
  bf : before = minor P C
  b0 : before ≠ 0
  cs : ∀ k ∈ C, k < c
  ech : IsE E
  ec : ∀ q ∈ E, q.1 < c
  es : ∀ e ∈ E.map (·.2), InQ S e
  pe : ∀ p ∈ P, InQ (E.map (·.2)) p
  all : ∀ s ∈ S, s ∈ L.map (·.2) ∨ s ∈ P
  ps : ∀ p ∈ P, p ∈ S
  ls : ∀ q ∈ L, q.2 ∈ S
theorem Elim.skip {n c : Nat} {S : List Fun} {L : List (List Int × Fun)} {P : List Fun} {C : List Nat} {E : Ech} {before : Int} (I : Elim n S c L P C E before) (hn : ∀ q ∈ L, ent q.1 c = 0) : Elim n S (c + 1) L P C E before :=
  { I with low := fun q hq => ⟨(I.low q hq).1, (I.low q hq).2.1, fun j hj => (by
      by_cases e : j = c
      · subst e
        exact hn q hq
      · exact (I.low q hq).2.2 j (by omega))⟩, cs := fun k hk => Nat.lt_succ_of_lt (I.cs k hk), ec := fun q hq => Nat.lt_succ_of_lt (I.ec q hq) }
theorem Elim.pick {n c i : Nat} {S : List Fun} {h a : List Int × Fun} {t : List (List Int × Fun)} {P : List Fun} {C : List Nat} {E : Ech} {before : Int} (I : Elim n S c (h :: t) P C E before) (hi : i < (h :: t).length) (ha : (h :: t)[i] = a) (ac : ent a.1 c ≠ 0) :
    Elim n S (c + 1) ((restOf (h :: t) i h).map fun q => (newRow a.1 c before q.1, q.2)) (a.2 :: P) (c :: C) ((c, ent a.1) :: E) (ent a.1 c) := by
  have am : a ∈ h :: t := by rw [← ha]; exact List.getElem_mem hi
  obtain ⟨a1, a2, a3⟩ := I.low a am
  have lead : Lead (ent a.1) c := ⟨ac, a3⟩
  have aS : InQ S (ent a.1) := by
    obtain ⟨y, hy, he⟩ := minor_row a.2 P C
    refine inq_ext (inq_add (inq_smul before (inq_mem (I.ls a am))) (comb_inq hy fun p hp => inq_mem (I.ps p hp))) fun j => ?_
    rw [a2 j, he j, ← I.bf]
  exact {
    low := fun q hq => by
      obtain ⟨r, hr, e⟩ := List.mem_map.mp hq
      subst e
      have rm := rest_sub hr
      obtain ⟨r1, r2, r3⟩ := I.low r rm
      have hl : r.1.length = a.1.length := by rw [r1, a1]
      have key : ∀ j, ent (newRow a.1 c before r.1) j = minor (r.2 :: a.2 :: P) (j :: c :: C) := fun j => by
        rw [newRow_ent hl, a2 c, r2 j, r2 c, a2 j, ← cross_minor (fun k hk => by rw [← r2 k]; exact r3 k (I.cs k hk)) c j, ← I.bf]
        exact Int.mul_fdiv_cancel_left _ I.b0
      refine ⟨by unfold newRow; rw [List.length_zipWith, hl, Nat.min_self, a1], key, fun j hj => ?_⟩
      show ent (newRow a.1 c before r.1) j = 0
      rw [newRow_ent hl]
      by_cases e : j = c
      · subst e
        rw [Int.mul_comm, Int.sub_self, Int.zero_fdiv]
      · rw [r3 j (by omega), a3 j (by omega), Int.mul_zero, Int.mul_zero, Int.sub_zero, Int.zero_fdiv]
    bf := a2 c
    b0 := ac
    cs := fun k hk => by
      rcases List.mem_cons.mp hk with z | z
      · omega
      · exact Nat.lt_succ_of_lt (I.cs k z)
    ech := ⟨List.nodup_cons.mpr ⟨fun z => by
        obtain ⟨q, hq, e⟩ := List.mem_map.mp z
        have h1 := I.ec q hq
        have e : q.1 = c := e
        omega, I.ech.nd⟩, fun q hq => by
      rcases List.mem_cons.mp hq with z | z
      · rw [z]; exact lead
      · exact I.ech.ld q z⟩
    ec := fun q hq => by
      rcases List.mem_cons.mp hq with z | z
      · rw [z]; exact Nat.lt_succ_self c
      · exact Nat.lt_succ_of_lt (I.ec q z)
    es := fun e he => by
      rcases List.mem_cons.mp he with z | z
      · rw [z]; exact aS
      · exact I.es e z
    pe := fun p hp => by
      have up : ∀ {v : Fun}, InQ (E.map (·.2)) v → InQ (((c, ent a.1) :: E).map (·.2)) v := fun {v} h => inq_trans h fun s hs => inq_mem (List.mem_cons_of_mem _ hs)
      rcases List.mem_cons.mp hp with z | z
      · rw [z]
        obtain ⟨y, hy, he⟩ := minor_row a.2 P C
        refine inq_div I.b0 (inq_ext (inq_add (inq_mem (List.mem_cons_self (a := ent a.1))) (inq_smul (-1) (up (comb_inq hy I.pe)))) fun j => ?_)
        have := he j
        rw [← a2 j, ← I.bf] at this
        omega
      · exact up (I.pe p z)
    all := fun s hs => by
      rcases I.all s hs with z | z
      · obtain ⟨q, hq, e⟩ := List.mem_map.mp z
        subst e
        rcases rest_cover hi hq with y | y
        · rw [y, ha]; exact .inr List.mem_cons_self
        · exact .inl (List.mem_map.mpr ⟨_, List.mem_map.mpr ⟨q, y, rfl⟩, rfl⟩)
      · exact .inr (List.mem_cons_of_mem _ z)
    ps := fun p hp => by
      rcases List.mem_cons.mp hp with z | z
      · rw [z]; exact I.ls a am
      · exact I.ps p z
    ls := fun q hq => by
      obtain ⟨r, hr, e⟩ := List.mem_map.mp hq
      subst e
      exact I.ls r (rest_sub hr) }
theorem bar_ok {n : Nat} {S : List Fun} : ∀ (k c : Nat) (L : List (List Int × Fun)) (P : List Fun) (C : List Nat) (E : Ech) (before : Int), c + k = n → Elim n S c L P C E before → ∃ F, Spans S F ∧ F.length = bar k c (L.map (·.1)) E.length before
  | 0, c, L, P, C, E, before, hc, I => by
    refine ⟨E, ⟨I.ech, I.es, fun s hs => ?_⟩, rfl⟩
    rcases I.all s hs with h | h
    · obtain ⟨q, hq, e⟩ := List.mem_map.mp h
      subst e
      obtain ⟨l1, l2, l3⟩ := I.low q hq
      have z : ∀ j, ent q.1 j = 0 := fun j => by
        by_cases hj : j < c
        · exact l3 j hj
        · exact ent_out (by omega)
      obtain ⟨y, hy, he⟩ := minor_row q.2 P C
      refine inq_div I.b0 (inq_ext (inq_smul (-1) (comb_inq hy I.pe)) fun j => ?_)
      have := he j
      rw [← l2 j, z j, ← I.bf] at this
      omega
    · exact I.pe s h
  | k + 1, c, L, P, C, E, before, hc, I => by
    unfold bar
    cases hf : (L.map (·.1)).findIdx? (nz c) with
    | none =>
      have hn := List.findIdx?_eq_none_iff.mp hf
      refine bar_ok k (c + 1) L P C E before (by omega) (I.skip fun q hq => ?_)
      have := hn q.1 (List.mem_map.mpr ⟨q, hq, rfl⟩)
      unfold nz at this
      simpa using this
    | some i =>
      cases L with
      | nil => cases hf
      | cons h t =>
      obtain ⟨hi, hnz, _⟩ := List.findIdx?_eq_some_iff_getElem.mp hf
      rw [List.getElem_map] at hnz
      have hi : i < (h :: t).length := by rw [List.length_map] at hi; exact hi
      generalize ha : (h :: t)[i] = a at hnz
      have am : a ∈ h :: t := by rw [← ha]; exact List.getElem_mem hi
      obtain ⟨a1, a2, a3⟩ := I.low a am
      have ac : ent a.1 c ≠ 0 := by
        unfold nz at hnz
        simpa using hnz
      have e0 : ((h :: t).map (·.1)).getD 0 [] = h.1 := rfl
      have ei : ((h :: t).map (·.1)).getD i [] = a.1 := by
        rw [List.getD_eq_getElem?_getD, List.getElem?_map, List.getElem?_eq_getElem hi, ha] <;> rfl
      dsimp only
      rw [e0, ei]
      have em : (restOf ((h :: t).map (·.1)) i h.1).map (newRow a.1 c before) = ((restOf (h :: t) i h).map fun q => (newRow a.1 c before q.1, q.2)).map (·.1) := by
        rw [← rest_map (·.1) (h :: t) i h, List.map_map, List.map_map]
        rfl
      rw [em]
      exact bar_ok k (c + 1) _ _ _ _ _ (by omega) (I.pick hi ha ac)
theorem elim_start {n : Nat} {rows : List (List Int)} (h : ∀ r ∈ rows, r.length = n) : Elim n (rows.map ent) 0 (rows.map fun r => (r, ent r)) [] [] [] 1 := {
    low := fun q hq => by
      obtain ⟨r, hr, e⟩ := List.mem_map.mp hq
      subst e
      refine ⟨h r hr, fun j => ?_, fun j hj => absurd hj (Nat.not_lt_zero j)⟩
      show ent r j = ent r j * 1 - 0
      rw [Int.mul_one, Int.sub_zero]
    bf := rfl
    b0 := by decide
    cs := fun k hk => by cases hk
    ech := ⟨List.nodup_nil, fun q hq => by cases hq⟩
    ec := fun q hq => by cases hq
    es := fun e he => by cases he
    pe := fun p hp => by cases hp
    all := fun s hs => .inl (by rw [List.map_map]; exact hs)
    ps := fun p hp => by cases hp
    ls := fun q hq => by
      obtain ⟨r, hr, e⟩ := List.mem_map.mp hq
      subst e
      exact List.mem_map.mpr ⟨r, hr, rfl⟩ }
/-- the rank is the length of an echelon system of the span -/
theorem rank_spans {n : Nat} {rows : List (List Int)} (h : ∀ r ∈ rows, r.length = n) : ∃ F, Spans (rows.map ent) F ∧ F.length = rank n rows := by
  have := bar_ok (n := n) (S := rows.map ent) n 0 (rows.map fun r => (r, ent r)) [] [] [] 1 (by omega) (elim_start h)
  rw [List.map_map] at this
  have e : (fun q : List Int × Fun => q.1) ∘ (fun r => (r, ent r)) = id := rfl
  rw [e, List.map_id] at this
  exact this
/-- how great minors get -/
theorem wed_bd {b : Fun} {B F m : Nat} (hb : ∀ j, (b j).natAbs ≤ B) : ∀ (C : List Nat) (f : Form), C.length ≤ m → (∀ cs, cs.length ≤ m → (f cs).natAbs ≤ F) → (wed b f C).natAbs ≤ C.length * (B * F)
  | [], f, _, _ => Nat.zero_le _
  | j :: C, f, hm, hf => by
    rw [List.length_cons] at hm
    have ih := wed_bd (F := F) (m := m - 1) hb C (fun cs => f (j :: cs)) (by omega) fun cs hcs => hf _ (by rw [List.length_cons]; omega)
    have h1 : (b j * f C).natAbs ≤ B * F := by rw [Int.natAbs_mul]; exact Nat.mul_le_mul (hb j) (hf C (by omega))
    have h2 := Int.natAbs_sub_le (b j * f C) (wed b (fun cs => f (j :: cs)) C)
    show (b j * f C - wed b (fun cs => f (j :: cs)) C).natAbs ≤ _
    rw [List.length_cons, Nat.add_mul, Nat.one_mul]
    omega
theorem minor_bd {B m : Nat} : ∀ (P : List Fun), (∀ p ∈ P, ∀ j, (p j).natAbs ≤ B) → ∀ C : List Nat, C.length ≤ m → (minor P C).natAbs ≤ (m * B) ^ P.length
  | [], _, [], _ => by
    show (1 : Int).natAbs ≤ (m * B) ^ 0
    rw [Nat.pow_zero]
    decide
  | [], _, _ :: _, _ => Nat.zero_le _
  | b :: P, h, C, hC => by
    have ih := minor_bd (m := m) P fun p hp => h p (List.mem_cons_of_mem _ hp)
    have h1 := wed_bd (F := (m * B) ^ P.length) (m := m) (h b List.mem_cons_self) C (minor P) hC ih
    refine Nat.le_trans h1 ?_
    rw [List.length_cons, Nat.pow_succ]
    calc C.length * (B * (m * B) ^ P.length) ≤ m * (B * (m * B) ^ P.length) := Nat.mul_le_mul_right _ hC
      _ = (m * B) ^ P.length * (m * B) := by rw [← Nat.mul_assoc, Nat.mul_comm]
end Sp

/-! part SpU -/
/-! The reduced rows span what the given ones span; membership; ranks. -/
namespace Sp
def rws (R : Rows) : List Fun := R.map fun q => ent q.2
def echOf (R : Rows) : Ech := R.map fun q => (q.1, ent q.2)
theorem echOf_snd (R : Rows) : (echOf R).map (·.2) = rws R := by
  unfold echOf rws
  rw [List.map_map]
  rfl
theorem echOf_fst (R : Rows) : (echOf R).map (·.1) = R.map (·.1) := by
  unfold echOf
  rw [List.map_map]
  rfl
theorem inq_sum {T : List Fun} (k : Nat → Int) (f : Nat → Fun) : ∀ (l : List Nat), (∀ p ∈ l, InQ T (f p)) → InQ T fun j => (l.map fun p => k p * f p j).sum
  | [], _ => inq_zero fun _ => rfl
  | p :: l, h => inq_ext (inq_add (inq_smul (k p) (h p List.mem_cons_self)) (inq_sum k f l fun q hq => h q (List.mem_cons_of_mem _ hq))) fun j => by rw [List.map_cons, List.sum_cons]
section
variable {wd d : Nat} {R : Rows} {D : Int} {v : List Int}
theorem Good.isE (G : Good wd R D d) : IsE (echOf R) where
  nd := by rw [echOf_fst]; exact G.nd
  ld := fun q hq => by
    obtain ⟨r, hr, e⟩ := List.mem_map.mp hq
    subst e
    obtain ⟨_, h1, h2⟩ := piv_some (G.pv r hr)
    exact ⟨h1, h2⟩
theorem Good.row_in (G : Good wd R D d) {p : Nat} (h : p ∈ hits v R) : ent (rowAt R p) ∈ rws R := by
  obtain ⟨row, h1, h2, _⟩ := G.hit h
  rw [h2]
  exact List.mem_map.mpr ⟨_, h1, rfl⟩
theorem Good.scale_ne (G : Good wd R D d) : scaleOf v R ≠ 0 := fun z => by
  obtain ⟨t, ht, e⟩ := G.scale_D (v := v)
  rw [z, Int.zero_mul] at e
  have := G.dpos
  omega
/-- the remainder within what v and the rows span; v within what the remainder and the rows span -/
theorem Good.rem_in (G : Good wd R D d) (hv : v.length = wd) {T : List Fun} (hT : ∀ r ∈ rws R, InQ T r) (h : InQ T (ent v)) : InQ T (ent (rem v R)) := by
  refine inq_ext (inq_add (inq_smul (scaleOf v R) h) (inq_smul (-1) (inq_sum (fun p => fac v R (scaleOf v R) p) (fun p => ent (rowAt R p)) (hits v R) fun p hp => hT _ (G.row_in hp)))) fun j => ?_
  rw [G.rem_ent hv j]
  omega
theorem Good.rem_out (G : Good wd R D d) (hv : v.length = wd) {T : List Fun} (hT : ∀ r ∈ rws R, InQ T r) (h : InQ T (ent (rem v R))) : InQ T (ent v) := by
  refine inq_div (k := scaleOf v R) G.scale_ne (inq_ext (inq_add h (inq_sum (fun p => fac v R (scaleOf v R) p) (fun p => ent (rowAt R p)) (hits v R) fun p hp => hT _ (G.row_in hp))) fun j => ?_)
  rw [G.rem_ent hv j]
  omega
theorem prim_in {T : List Fun} {w : List Int} : InQ T (ent (prim w)) ↔ InQ T (ent w) := by
  obtain ⟨g, g0, hg⟩ := prim_ent w
  constructor
  · intro h
    exact inq_ext (inq_smul g h) fun j => by rw [Int.mul_comm]; exact hg j
  · intro h
    exact inq_div (k := g) (by omega) (inq_ext h fun j => by rw [Int.mul_comm]; exact (hg j).symm)
theorem up_in {T : List Fun} {w : List Int} {p : Nat} : InQ T (ent (up w p)) ↔ InQ T (ent w) := by
  by_cases c : ent w p < 0
  · constructor
    · intro h
      exact inq_ext (inq_smul (-1) h) fun j => by rw [up_ent, if_pos c]; omega
    · intro h
      exact inq_ext (inq_smul (-1) h) fun j => by rw [up_ent, if_pos c]; omega
  · have e : ∀ j, ent (up w p) j = ent w j := fun j => by rw [up_ent, if_neg c]
    constructor
    · intro h; exact inq_ext h e
    · intro h; exact inq_ext h fun j => (e j).symm
/-- what was worked off is what the rows span -/
structure Both (S : List Fun) (R : Rows) : Prop where
  sub : ∀ r ∈ rws R, InQ S r
  sup : ∀ s ∈ S, InQ (rws R) s
theorem Good.both {c : Nat} {S : List Fun} (G : Good wd R D d) (hv : v.length = wd) (hb : ∀ j, (ent v j).natAbs < 2 ^ c) (hn : R.length ≤ 7) (B : Both S R) : Both (ent v :: S) (addRow R v) := by
  have sub0 : ∀ r ∈ rws R, InQ (ent v :: S) r := fun r hr => inq_trans (B.sub r hr) fun s hs => inq_mem (List.mem_cons_of_mem _ hs)
  unfold addRow
  cases hp : piv (prim (rem v R)) with
  | none =>
    have z := piv_zero hp
    refine ⟨sub0, fun s hs => ?_⟩
    rcases List.mem_cons.mp hs with e | e
    · rw [e]
      exact G.rem_out hv (fun r hr => inq_mem hr) (prim_in.mp (inq_zero z))
    · exact B.sup s e
  | some p =>
    have N := G.new hv hb hn hp
    have uin : InQ (ent v :: S) (ent (Sp.up (prim (rem v R)) p)) := up_in.mpr (prim_in.mpr (G.rem_in hv sub0 (inq_mem List.mem_cons_self)))
    have uback : ∀ {T : List Fun}, (∀ r ∈ rws R, InQ T r) → InQ T (ent (Sp.up (prim (rem v R)) p)) → InQ T (ent v) := fun {T} hT h => G.rem_out hv hT (prim_in.mp (up_in.mp h))
    dsimp only
    generalize hu : Sp.up (prim (rem v R)) p = u at N uin uback
    have hc : ∀ q ∈ R, ∃ k : Int, 0 < k ∧ ∀ j, k * ent (clr q.2 u p) j = ent u p * ent q.2 j - ent q.2 p * ent u j := fun q hq => clr_ent (by rw [(G.len q hq).1, N.len]) N.pos
    have up0 : ent u p ≠ 0 := by have := N.pos; omega
    have hr' : rws ((R.map fun q => (q.1, clr q.2 u p)) ++ [(p, u)]) = (R.map fun q => ent (clr q.2 u p)) ++ [ent u] := by
      unfold rws
      rw [List.map_append, List.map_map]
      rfl
    have um : ent u ∈ rws ((R.map fun q => (q.1, clr q.2 u p)) ++ [(p, u)]) := by rw [hr']; exact List.mem_append_right _ (List.mem_singleton.mpr rfl)
    have old : ∀ r ∈ rws R, InQ (rws ((R.map fun q => (q.1, clr q.2 u p)) ++ [(p, u)])) r := fun r hr => by
      obtain ⟨q, hq, e⟩ := List.mem_map.mp hr
      subst e
      obtain ⟨k, k0, hk⟩ := hc q hq
      have cm : ent (clr q.2 u p) ∈ rws ((R.map fun q => (q.1, clr q.2 u p)) ++ [(p, u)]) := by rw [hr']; exact List.mem_append_left _ (List.mem_map.mpr ⟨q, hq, rfl⟩)
      refine inq_div up0 (inq_ext (inq_add (inq_smul k (inq_mem cm)) (inq_smul (ent q.2 p) (inq_mem um))) fun j => ?_)
      have := hk j
      omega
    refine ⟨fun r hr => ?_, fun s hs => ?_⟩
    · rw [hr'] at hr
      rcases List.mem_append.mp hr with h | h
      · obtain ⟨q, hq, e⟩ := List.mem_map.mp h
        subst e
        obtain ⟨k, k0, hk⟩ := hc q hq
        refine inq_div (k := k) (by omega) (inq_ext (inq_add (inq_smul (ent u p) (sub0 _ (List.mem_map.mpr ⟨q, hq, rfl⟩))) (inq_smul (- ent q.2 p) uin)) fun j => ?_)
        have := hk j
        rw [Int.neg_mul]
        omega
      · rw [List.mem_singleton.mp h]
        exact uin
    · rcases List.mem_cons.mp hs with e | e
      · rw [e]
        exact uback old (inq_mem um)
      · exact inq_trans (B.sup s e) old
theorem Good.len_le (G : Good wd R D d) : R.length ≤ wd := by
  have := nd_le (R.map (·.1)) (List.range wd) G.nd fun x hx => by
    obtain ⟨q, hq, e⟩ := List.mem_map.mp hx
    subst e
    exact List.mem_range.mpr (G.len q hq).2
  rwa [List.length_map, List.length_range] at this
/-- a full set of rows: everything of that width is within -/
theorem Good.full (G : Good wd R D d) (h : R.length = wd) (hv : v.length = wd) : InQ (rws R) (ent v) := by
  have keys : ∀ j, j < wd → j ∈ R.map (·.1) := fun j hj => Classical.byContradiction fun z => by
    have := nd_le (j :: R.map (·.1)) (List.range wd) (List.nodup_cons.mpr ⟨z, G.nd⟩) fun x hx => by
      rcases List.mem_cons.mp hx with e | e
      · rw [e]; exact List.mem_range.mpr hj
      · obtain ⟨q, hq, e⟩ := List.mem_map.mp e
        subst e
        exact List.mem_range.mpr (G.len q hq).2
    rw [List.length_cons, List.length_map, List.length_range] at this
    omega
  have hh : ∀ p ∈ hits v R, InQ (rws R) (ent (rowAt R p)) := fun p hp => inq_mem (G.row_in hp)
  refine G.rem_out hv (fun r hr => inq_mem hr) (inq_zero fun j => ?_)
  by_cases hj : j < wd
  · obtain ⟨q, hq, e⟩ := List.mem_map.mp (keys j hj)
    subst e
    exact G.rem_zero hv hq
  · exact ent_out (by rw [rem_len' G hv]; omega)
end
theorem both_nil : Both [] [] := ⟨fun r hr => (by cases hr), fun s hs => (by cases hs)⟩
theorem red_go {wd c : Nat} (hw : wd ≤ 8) : ∀ (vs : List (List Int)) (R : Rows) (D : Int) (d : Nat) (S : List Fun), Good wd R D d → Both S R → (∀ v ∈ vs, v.length = wd ∧ ∀ j, (ent v j).natAbs < 2 ^ c) →
    ∃ D' d', Good wd (redGo R vs) D' d' ∧ (∀ r ∈ rws (redGo R vs), InQ (vs.map ent ++ S) r) ∧ ∀ s ∈ vs.map ent ++ S, InQ (rws (redGo R vs)) s
  | [], R, D, d, S, G, B, _ => ⟨D, d, G, B.sub, B.sup⟩
  | v :: vs, R, D, d, S, G, B, h => by
    obtain ⟨hv, hb⟩ := h v List.mem_cons_self
    unfold redGo
    by_cases z : R.length = v.length
    · rw [if_pos z]
      refine ⟨D, d, G, fun r hr => inq_trans (B.sub r hr) fun s hs => inq_mem (List.mem_append_right _ hs), fun s hs => ?_⟩
      rcases List.mem_append.mp hs with e | e
      · obtain ⟨u, hu, e⟩ := List.mem_map.mp e
        subst e
        exact G.full (z.trans hv) (h u hu).1
      · exact B.sup s e
    · rw [if_neg z]
      have hl : R.length ≤ 7 := by have := G.len_le; omega
      obtain ⟨D', G'⟩ := G.add hv hb hl
      obtain ⟨D2, d2, G2, h1, h2⟩ := red_go hw vs (addRow R v) D' _ (ent v :: S) G' (G.both hv hb hl B) fun u hu => h u (List.mem_cons_of_mem _ hu)
      have sw : ∀ x : Fun, x ∈ vs.map ent ++ ent v :: S ↔ x ∈ (v :: vs).map ent ++ S := fun x => by
        simp only [List.map_cons, List.mem_append, List.mem_cons]
        constructor
        · rintro (a | a | a)
          · exact .inl (.inr a)
          · exact .inl (.inl a)
          · exact .inr a
        · rintro ((a | a) | a)
          · exact .inr (.inl a)
          · exact .inl a
          · exact .inr (.inr a)
      exact ⟨D2, d2, G2, fun r hr => inq_trans (h1 r hr) fun s hs => inq_mem ((sw s).mp hs), fun s hs => h2 s ((sw s).mpr hs)⟩
/-- the reduced rows are an echelon system of the span -/
theorem red_spans {wd c : Nat} (hw : wd ≤ 8) {rows : List (List Int)} (h : ∀ v ∈ rows, v.length = wd ∧ ∀ j, (ent v j).natAbs < 2 ^ c) : ∃ D d, Good wd (red rows) D d ∧ Spans (rows.map ent) (echOf (red rows)) := by
  have G0 : Good wd [] 1 1 := ⟨fun q hq => (by cases hq), List.nodup_nil, fun q hq => (by cases hq), fun q hq => (by cases hq), fun q hq => (by cases hq), by decide, by decide, fun q hq => (by cases hq)⟩
  obtain ⟨D, d, G, h1, h2⟩ := red_go hw rows [] 1 1 [] G0 both_nil h
  rw [List.append_nil] at h1 h2
  exact ⟨D, d, G, G.isE, by rw [echOf_snd]; exact h1, by rw [echOf_snd]; exact h2⟩
theorem red_rank {wd c : Nat} (hw : wd ≤ 8) {rows : List (List Int)} (h : ∀ v ∈ rows, v.length = wd ∧ ∀ j, (ent v j).natAbs < 2 ^ c) : (red rows).length = rank wd rows := by
  obtain ⟨D, d, G, S⟩ := red_spans hw h
  obtain ⟨F, SF, hF⟩ := rank_spans (n := wd) fun r hr => (h r hr).1
  have := spans_len S SF (fun s hs => inq_mem hs) (fun s hs => inq_mem hs)
  rw [hF] at this
  unfold echOf at this
  rwa [List.length_map] at this
/-- in the space exactly if nothing remains -/
theorem in_iff {wd d : Nat} {R : Rows} {D : Int} {v : List Int} (G : Good wd R D d) (hv : v.length = wd) : piv (rem v R) = none ↔ InQ (rws R) (ent v) := by
  constructor
  · intro h
    exact G.rem_out hv (fun r hr => inq_mem hr) (inq_zero (piv_zero h))
  · intro h
    have hr := G.rem_in hv (fun r hr => inq_mem hr) h
    obtain ⟨N, n0, hc⟩ := hr
    rw [← echOf_snd] at hc
    refine piv_none _ fun j _ => ?_
    rcases comb_lead G.isE hc with z | ⟨p, hp, l⟩
    · rcases Int.mul_eq_zero.mp (z j) with e | e
      · exact absurd e n0
      · exact e
    · rw [echOf_fst] at hp
      obtain ⟨q, hq, e⟩ := List.mem_map.mp hp
      subst e
      exact absurd (by show N * ent (rem v R) q.1 = 0; rw [G.rem_zero hv hq, Int.mul_zero]) l.1
/-- in the span exactly if the rank stays -/
theorem rank_in {wd c : Nat} (hw : wd ≤ 8) {rows : List (List Int)} {v : List Int} (h : ∀ u ∈ rows, u.length = wd ∧ ∀ j, (ent u j).natAbs < 2 ^ c) (hv : v.length = wd) : rank wd (rows ++ [v]) = rank wd rows ↔ InQ (rows.map ent) (ent v) := by
  obtain ⟨F, SF, hF⟩ := rank_spans (n := wd) (rows := rows) fun r hr => (h r hr).1
  obtain ⟨F2, SF2, hF2⟩ := rank_spans (n := wd) (rows := rows ++ [v]) fun r hr => by
    rcases List.mem_append.mp hr with z | z
    · exact (h r z).1
    · rw [List.mem_singleton.mp z]; exact hv
  have inb : ∀ s ∈ rows.map ent, s ∈ (rows ++ [v]).map ent := fun s hs => by rw [List.map_append]; exact List.mem_append_left _ hs
  constructor
  · intro hr
    refine Classical.byContradiction fun z => ?_
    obtain ⟨D, d, G, S⟩ := red_spans hw h
    have S2 := S.sup
    have S1 := S.sub
    rw [echOf_snd] at S1 S2
    have nin : piv (rem v (red rows)) ≠ none := fun e => z (inq_trans ((in_iff G hv).mp e) S1)
    obtain ⟨p, hp⟩ := Option.ne_none_iff_exists'.mp nin
    obtain ⟨_, l1, l2⟩ := piv_some hp
    have E' : IsE ((p, ent (rem v (red rows))) :: echOf (red rows)) := ⟨List.nodup_cons.mpr ⟨fun y => by
        rw [echOf_fst] at y
        obtain ⟨q, hq, e⟩ := List.mem_map.mp y
        have e : q.1 = p := e
        have := G.rem_zero hv hq
        rw [e] at this
        exact l1 this, G.isE.nd⟩, fun q hq => by
      rcases List.mem_cons.mp hq with y | y
      · rw [y]; exact ⟨l1, l2⟩
      · exact G.isE.ld q y⟩
    have key := ech_le E' SF2.ech fun e he => by
      refine inq_trans (S := (rows ++ [v]).map ent) ?_ SF2.sup
      rcases List.mem_cons.mp he with y | y
      · rw [y]
        exact G.rem_in hv (fun r hr => inq_trans (S1 r hr) fun s hs => inq_mem (inb s hs)) (inq_mem (by rw [List.map_append]; exact List.mem_append_right _ (List.mem_singleton.mpr rfl)))
      · rw [echOf_snd] at y
        exact inq_trans (S1 e y) fun s hs => inq_mem (inb s hs)
    have e1 := spans_len S SF (fun s hs => inq_mem hs) (fun s hs => inq_mem hs)
    rw [List.length_cons] at key
    omega
  · intro hin
    rw [← hF, ← hF2]
    refine spans_len SF2 SF (fun s hs => ?_) fun t ht => inq_mem (inb t ht)
    rw [List.map_append] at hs
    rcases List.mem_append.mp hs with y | y
    · exact inq_mem y
    · rw [List.mem_singleton.mp y]
      exact hin
end Sp

/-! part SpV -/
/-! There is one reduced form only. -/
namespace Sp
/-- no number but 1 divides all entries -/
def Prm (v : List Int) : Prop := ∀ d : Nat, (∀ j, (d : Int) ∣ ent v j) → d = 1
theorem dvd_gcdL_go : ∀ (v : List Int) (g d : Nat), d ∣ g → (∀ x ∈ v, d ∣ x.natAbs) → d ∣ v.foldl (fun g x => Nat.gcd g x.natAbs) g
  | [], _, _, h, _ => h
  | a :: v, g, d, h, hx => by
    rw [List.foldl_cons]
    exact dvd_gcdL_go v _ d (Nat.dvd_gcd h (hx a List.mem_cons_self)) fun x hm => hx x (List.mem_cons_of_mem _ hm)
theorem mem_ent {v : List Int} {x : Int} (h : x ∈ v) : ∃ j, ent v j = x := by
  obtain ⟨i, hi⟩ := List.mem_iff_getElem?.mp h
  refine ⟨i, ?_⟩
  unfold ent
  rw [List.getD_eq_getElem?_getD, hi]
  rfl
theorem dvd_gcdL {v : List Int} {d : Nat} (h : ∀ j, (d : Int) ∣ ent v j) : d ∣ gcdL v := dvd_gcdL_go v 0 d (Nat.dvd_zero d) fun x hx => by
  obtain ⟨j, e⟩ := mem_ent hx
  have := h j
  rw [e] at this
  exact nd2 this
theorem prim_prm {w : List Int} (h : ∃ j, ent (prim w) j ≠ 0) : Prm (prim w) := fun d hd => by
  obtain ⟨j, hj⟩ := h
  obtain ⟨g', g0', hg'⟩ := prim_ent w
  have hw : ent w j ≠ 0 := fun z => by
    rw [← hg' j] at z
    rcases Int.mul_eq_zero.mp z with e | e
    · exact hj e
    · omega
  unfold prim at hd
  by_cases c : gcdL w = 1 ∨ gcdL w = 0
  · rw [if_pos c] at hd
    have h1 := dvd_gcdL hd
    rcases c with e | e
    · rw [e] at h1
      exact Nat.dvd_one.mp h1
    · have := gcdL_dvd (v := w) j
      rw [e] at this
      exact absurd (Int.zero_dvd.mp this) hw
  · rw [if_neg c] at hd
    have g0 : 0 < gcdL w := Nat.pos_of_ne_zero fun z => c (.inr z)
    have h2 : ∀ k, ((d * gcdL w : Nat) : Int) ∣ ent w k := fun k => by
      have h3 := hd k
      rw [ent_map (fun x => x / (gcdL w : Int)) (Int.zero_ediv _)] at h3
      obtain ⟨m, hm⟩ := h3
      have h4 := Int.ediv_mul_cancel (gcdL_dvd (v := w) k)
      refine ⟨m, ?_⟩
      rw [← h4, hm, Int.natCast_mul]
      simp only [Int.mul_assoc, Int.mul_left_comm, Int.mul_comm]
    have h5 := dvd_gcdL h2
    have h6 := Nat.le_of_dvd g0 h5
    have h7 : d ≤ 1 := by
      refine Classical.byContradiction fun z => ?_
      have : 2 * gcdL w ≤ d * gcdL w := Nat.mul_le_mul_right _ (by omega)
      omega
    have h8 : d ≠ 0 := fun z => by
      subst z
      rw [Nat.zero_mul] at h5
      have := Nat.eq_zero_of_zero_dvd h5
      omega
    omega
theorem up_prm {v : List Int} {p : Nat} (h : Prm v) : Prm (up v p) := fun d hd => h d fun j => by
  have := hd j
  rw [up_ent] at this
  split at this
  · exact Int.dvd_neg.mp this
  · exact this
def PrmR (R : Rows) : Prop := ∀ q ∈ R, Prm q.2
theorem prm_add {wd d : Nat} {R : Rows} {D : Int} {v : List Int} (G : Good wd (addRow R v) D d) (hP : PrmR R) : PrmR (addRow R v) := by
  have hpos := G.pos
  unfold addRow at hpos ⊢
  cases hp : piv (prim (rem v R)) with
  | none => exact hP
  | some p =>
    rw [hp] at hpos
    dsimp only at hpos ⊢
    intro q hq
    have h1 := hpos q hq
    rcases List.mem_append.mp hq with h | h
    · obtain ⟨r, hr, e⟩ := List.mem_map.mp h
      subst e
      dsimp only at h1 ⊢
      unfold clr at h1 ⊢
      by_cases c : ent r.2 p = 0
      · rw [if_pos c]
        exact hP r hr
      · rw [if_neg c] at h1 ⊢
        exact prim_prm ⟨r.1, by omega⟩
    · rw [List.mem_singleton.mp h] at h1 ⊢
      dsimp only at h1 ⊢
      refine up_prm (prim_prm ⟨p, fun z => ?_⟩)
      rw [up_ent, z] at h1
      simp at h1
theorem prm_go {wd c : Nat} (hw : wd ≤ 8) : ∀ (vs : List (List Int)) (R : Rows) (D : Int) (d : Nat), Good wd R D d → PrmR R → (∀ v ∈ vs, v.length = wd ∧ ∀ j, (ent v j).natAbs < 2 ^ c) → PrmR (redGo R vs)
  | [], R, D, d, _, P, _ => P
  | v :: vs, R, D, d, G, P, h => by
    obtain ⟨hv, hb⟩ := h v List.mem_cons_self
    unfold redGo
    by_cases z : R.length = v.length
    · rw [if_pos z]
      exact P
    · rw [if_neg z]
      have hl : R.length ≤ 7 := by have := G.len_le; omega
      obtain ⟨D', G'⟩ := G.add hv hb hl
      exact prm_go hw vs (addRow R v) D' _ G' (prm_add G' P) fun u hu => h u (List.mem_cons_of_mem _ hu)
theorem red_prm {wd c : Nat} (hw : wd ≤ 8) {rows : List (List Int)} (h : ∀ v ∈ rows, v.length = wd ∧ ∀ j, (ent v j).natAbs < 2 ^ c) : PrmR (red rows) := by
  have G0 : Good wd [] 1 1 := ⟨fun q hq => (by cases hq), List.nodup_nil, fun q hq => (by cases hq), fun q hq => (by cases hq), fun q hq => (by cases hq), by decide, by decide, fun q hq => (by cases hq)⟩
  exact prm_go hw rows [] 1 1 G0 (fun q hq => by cases hq) h
theorem ent_ext {u v : List Int} (hl : u.length = v.length) (h : ∀ j, ent u j = ent v j) : u = v := by
  apply List.ext_getElem? 
  intro i
  by_cases hi : i < u.length
  · have := h i
    unfold ent at this
    rw [List.getD_eq_getElem?_getD, List.getD_eq_getElem?_getD, List.getElem?_eq_getElem hi, List.getElem?_eq_getElem (hl ▸ hi)] at this
    rw [List.getElem?_eq_getElem hi, List.getElem?_eq_getElem (hl ▸ hi)]
    exact congrArg some this
  · rw [List.getElem?_eq_none (by omega), List.getElem?_eq_none (by omega)]
/-- two primitive rows, one a multiple of the other -/
theorem prm_half {u v : List Int} {a b : Nat} (ha : 0 < a) (hb : 0 < b) (hu : Prm u) (e : ∀ j, b * (ent u j).natAbs = a * (ent v j).natAbs) : a / Nat.gcd a b = 1 := by
  refine hu _ fun j => nd1 ?_
  have g0 : 0 < Nat.gcd a b := Nat.gcd_pos_of_pos_left _ ha
  have hc := Nat.coprime_div_gcd_div_gcd g0
  have e1 : a = Nat.gcd a b * (a / Nat.gcd a b) := (Nat.mul_div_cancel' (Nat.gcd_dvd_left a b)).symm
  have e2 : b = Nat.gcd a b * (b / Nat.gcd a b) := (Nat.mul_div_cancel' (Nat.gcd_dvd_right a b)).symm
  have h1 := e j
  have h2 : (b / Nat.gcd a b) * (ent u j).natAbs = (a / Nat.gcd a b) * (ent v j).natAbs := by
    refine Nat.eq_of_mul_eq_mul_left g0 ?_
    rw [← Nat.mul_assoc, ← Nat.mul_assoc, ← e1, ← e2]
    exact h1
  exact hc.dvd_of_dvd_mul_left ⟨_, h2⟩
theorem prm_eq {u v : List Int} {a b : Int} (ha : 0 < a) (hb : 0 < b) (hu : Prm u) (hv : Prm v) (e : ∀ j, b * ent u j = a * ent v j) : ∀ j, ent u j = ent v j := by
  have e' : ∀ j, b.natAbs * (ent u j).natAbs = a.natAbs * (ent v j).natAbs := fun j => by
    rw [← Int.natAbs_mul, ← Int.natAbs_mul, e j]
  have h1 := prm_half (a := a.natAbs) (b := b.natAbs) (by omega) (by omega) hu e'
  have h2 := prm_half (a := b.natAbs) (b := a.natAbs) (by omega) (by omega) hv fun j => (e' j).symm
  rw [Nat.gcd_comm] at h2
  have d1 := Nat.div_mul_cancel (Nat.gcd_dvd_left a.natAbs b.natAbs)
  have d2 := Nat.div_mul_cancel (Nat.gcd_dvd_right a.natAbs b.natAbs)
  rw [h1] at d1
  rw [h2] at d2
  have : a = b := by omega
  intro j
  have h3 := e j
  rw [this] at h3
  exact Int.eq_of_mul_eq_mul_left (by omega) h3
section
variable {wd d1 d2 : Nat} {R1 R2 : Rows} {D1 D2 : Int}
theorem key_in (G1 : Good wd R1 D1 d1) (G2 : Good wd R2 D2 d2) (s : ∀ q ∈ R1, InQ (rws R2) (ent q.2)) {q : Nat × List Int} (hq : q ∈ R1) : q.1 ∈ R2.map (·.1) := by
  have h := s q hq
  rw [← echOf_snd] at h
  obtain ⟨_, l1, l2⟩ := piv_some (G1.pv q hq)
  have := inq_lead G2.isE h ⟨l1, l2⟩
  rwa [echOf_fst] at this
theorem uniq_row (G1 : Good wd R1 D1 d1) (G2 : Good wd R2 D2 d2) (P1 : PrmR R1) (P2 : PrmR R2) (s1 : ∀ q ∈ R1, InQ (rws R2) (ent q.2)) (s2 : ∀ q ∈ R2, InQ (rws R1) (ent q.2)) {q : Nat × List Int} (hq : q ∈ R1) : q ∈ R2 := by
  obtain ⟨r, hr, e⟩ := List.mem_map.mp (key_in G1 G2 s1 hq)
  have e : r.1 = q.1 := e
  have z : ∀ j, ent r.2 q.1 * ent q.2 j + -(ent q.2 q.1) * ent r.2 j = 0 := by
    have hin : InQ (rws R2) fun j => ent r.2 q.1 * ent q.2 j + -(ent q.2 q.1) * ent r.2 j := inq_add (inq_smul _ (s1 q hq)) (inq_smul _ (inq_mem (List.mem_map.mpr ⟨r, hr, rfl⟩)))
    obtain ⟨N, n0, hc⟩ := hin
    rw [← echOf_snd] at hc
    rcases comb_lead G2.isE hc with y | ⟨c, hc1, l⟩
    · intro j
      rcases Int.mul_eq_zero.mp (y j) with e | e
      · exact absurd e n0
      · exact e
    · rw [echOf_fst] at hc1
      obtain ⟨t, ht, e2⟩ := List.mem_map.mp hc1
      have e2 : t.1 = c := e2
      subst e2
      refine absurd ?_ l.1
      show N * (ent r.2 q.1 * ent q.2 t.1 + -(ent q.2 q.1) * ent r.2 t.1) = 0
      by_cases c2 : t.1 = q.1
      · rw [c2, Int.neg_mul, Int.mul_comm (ent r.2 q.1), Int.add_right_neg, Int.mul_zero]
      · obtain ⟨t1, ht1, e3⟩ := List.mem_map.mp (key_in G2 G1 s2 ht)
        have e3 : t1.1 = t.1 := e3
        have z1 : ent q.2 t.1 = 0 := by rw [← e3]; exact G1.zero q hq t1 ht1 (by rw [e3]; exact Ne.symm c2)
        have z2 : ent r.2 t.1 = 0 := G2.zero r hr t ht (by rw [e]; exact Ne.symm c2)
        rw [z1, z2, Int.mul_zero, Int.mul_zero, Int.add_zero, Int.mul_zero]
  have p1 := G1.pos q hq
  have p2 := G2.pos r hr
  rw [e] at p2
  have h := prm_eq p1 p2 (P1 q hq) (P2 r hr) fun j => by
    have := z j
    rw [Int.neg_mul] at this
    omega
  have h2 : q.2 = r.2 := ent_ext (by rw [(G1.len q hq).1, (G2.len r hr).1]) h
  have : q = r := Prod.ext e.symm h2
  rw [this]
  exact hr
theorem perm_of_mem {l m : List Nat} (h1 : l.Nodup) (h2 : m.Nodup) (h : ∀ x, x ∈ l ↔ x ∈ m) : l.Perm m := (List.perm_ext_iff_of_nodup h1 h2).mpr h
theorem uniq (G1 : Good wd R1 D1 d1) (G2 : Good wd R2 D2 d2) (P1 : PrmR R1) (P2 : PrmR R2) (s1 : ∀ q ∈ R1, InQ (rws R2) (ent q.2)) (s2 : ∀ q ∈ R2, InQ (rws R1) (ent q.2)) : srtR R1 = srtR R2 := by
  have mem : ∀ q, q ∈ R1 ↔ q ∈ R2 := fun q => ⟨uniq_row G1 G2 P1 P2 s1 s2, uniq_row G2 G1 P2 P1 s2 s1⟩
  have pk : (R1.map (·.1)).Perm (R2.map (·.1)) := perm_of_mem G1.nd G2.nd fun x => by
    constructor
    · intro h
      obtain ⟨q, hq, e⟩ := List.mem_map.mp h
      exact List.mem_map.mpr ⟨q, (mem q).mp hq, e⟩
    · intro h
      obtain ⟨q, hq, e⟩ := List.mem_map.mp h
      exact List.mem_map.mpr ⟨q, (mem q).mpr hq, e⟩
  have pk2 : (R1.map fun q => (q.1 : Int)).Perm (R2.map fun q => (q.1 : Int)) := by
    have := pk.map (fun n : Nat => (n : Int))
    rw [List.map_map, List.map_map] at this
    exact this
  have ku : keysUp R1 = keysUp R2 := keysUp_same ((keysUp_perm R1).trans pk2) (keysUp_up R1)
  unfold srtR
  rw [ku]
  refine List.map_congr_left fun y hy => ?_
  have hy2 := (keysUp_perm R2).mem_iff.mp hy
  obtain ⟨q, hq, e⟩ := List.mem_map.mp hy2
  subst e
  rw [Int.toNat_natCast, rowAt_mem G2.nd (show (q.1, q.2) ∈ R2 from hq), rowAt_mem G1.nd (show (q.1, q.2) ∈ R1 from (mem q).mpr hq)]
end
/-- bases are equal exactly if the spans are -/
theorem red_eq {wd c : Nat} (hw : wd ≤ 8) {r1 r2 : List (List Int)} (h1 : ∀ v ∈ r1, v.length = wd ∧ ∀ j, (ent v j).natAbs < 2 ^ c) (h2 : ∀ v ∈ r2, v.length = wd ∧ ∀ j, (ent v j).natAbs < 2 ^ c) :
    (srtR (red r1)).map (·.2) = (srtR (red r2)).map (·.2) ↔ (∀ v ∈ r1, InQ (r2.map ent) (ent v)) ∧ ∀ v ∈ r2, InQ (r1.map ent) (ent v) := by
  obtain ⟨D1, d1, G1, S1⟩ := red_spans hw h1
  obtain ⟨D2, d2, G2, S2⟩ := red_spans hw h2
  have a1 := S1.sub
  have a2 := S1.sup
  have b1 := S2.sub
  have b2 := S2.sup
  rw [echOf_snd] at a1 a2 b1 b2
  constructor
  · intro h
    have hm : ∀ s, s ∈ rws (red r1) → s ∈ rws (red r2) := fun s hs => by
      obtain ⟨q, hq, e⟩ := List.mem_map.mp hs
      subst e
      have h3 : q.2 ∈ (srtR (red r1)).map (·.2) := by
        refine List.mem_map.mpr ⟨q, ?_, rfl⟩
        unfold srtR
        refine List.mem_map.mpr ⟨(q.1 : Int), (keysUp_perm _).mem_iff.mpr (List.mem_map.mpr ⟨q, hq, rfl⟩), ?_⟩
        show (((q.1 : Int)).toNat, rowAt (red r1) ((q.1 : Int)).toNat) = q
        rw [Int.toNat_natCast, rowAt_mem G1.nd (show (q.1, q.2) ∈ red r1 from hq)]
      rw [h] at h3
      obtain ⟨t, ht, e⟩ := List.mem_map.mp h3
      unfold srtR at ht
      obtain ⟨y, hy, e2⟩ := List.mem_map.mp ht
      obtain ⟨t2, ht2, e3⟩ := List.mem_map.mp ((keysUp_perm _).mem_iff.mp hy)
      subst e3
      have e2 : (((t2.1 : Int)).toNat, rowAt (red r2) ((t2.1 : Int)).toNat) = t := e2
      rw [Int.toNat_natCast, rowAt_mem G2.nd (show (t2.1, t2.2) ∈ red r2 from ht2)] at e2
      subst e2
      exact List.mem_map.mpr ⟨t2, ht2, congrArg ent e⟩
    have hm2 : ∀ s, s ∈ rws (red r2) → s ∈ rws (red r1) := fun s hs => by
      obtain ⟨q, hq, e⟩ := List.mem_map.mp hs
      subst e
      have h3 : q.2 ∈ (srtR (red r2)).map (·.2) := by
        refine List.mem_map.mpr ⟨q, ?_, rfl⟩
        unfold srtR
        refine List.mem_map.mpr ⟨(q.1 : Int), (keysUp_perm _).mem_iff.mpr (List.mem_map.mpr ⟨q, hq, rfl⟩), ?_⟩
        show (((q.1 : Int)).toNat, rowAt (red r2) ((q.1 : Int)).toNat) = q
        rw [Int.toNat_natCast, rowAt_mem G2.nd (show (q.1, q.2) ∈ red r2 from hq)]
      rw [← h] at h3
      obtain ⟨t, ht, e⟩ := List.mem_map.mp h3
      unfold srtR at ht
      obtain ⟨y, hy, e2⟩ := List.mem_map.mp ht
      obtain ⟨t2, ht2, e3⟩ := List.mem_map.mp ((keysUp_perm _).mem_iff.mp hy)
      subst e3
      have e2 : (((t2.1 : Int)).toNat, rowAt (red r1) ((t2.1 : Int)).toNat) = t := e2
      rw [Int.toNat_natCast, rowAt_mem G1.nd (show (t2.1, t2.2) ∈ red r1 from ht2)] at e2
      subst e2
      exact List.mem_map.mpr ⟨t2, ht2, congrArg ent e⟩
    exact ⟨fun v hv => inq_trans (inq_trans (a2 _ (List.mem_map.mpr ⟨v, hv, rfl⟩)) fun s hs => inq_mem (hm s hs)) b1, fun v hv => inq_trans (inq_trans (b2 _ (List.mem_map.mpr ⟨v, hv, rfl⟩)) fun s hs => inq_mem (hm2 s hs)) a1⟩
  · rintro ⟨h, h'⟩
    have t1 : ∀ q ∈ red r1, InQ (rws (red r2)) (ent q.2) := fun q hq => inq_trans (inq_trans (a1 _ (List.mem_map.mpr ⟨q, hq, rfl⟩)) fun s hs => by
      obtain ⟨v, hv, e⟩ := List.mem_map.mp hs
      subst e
      exact h v hv) b2
    have t2 : ∀ q ∈ red r2, InQ (rws (red r1)) (ent q.2) := fun q hq => inq_trans (inq_trans (b1 _ (List.mem_map.mpr ⟨q, hq, rfl⟩)) fun s hs => by
      obtain ⟨v, hv, e⟩ := List.mem_map.mp hs
      subst e
      exact h' v hv) a2
    rw [uniq G1 G2 (red_prm hw h1) (red_prm hw h2) t1 t2]
end Sp

/-! part SpW -/
/-! How great the entries of reduced rows get: they are minors of the given rows, whatever was added when. -/
namespace Sp
/-- neighbouring columns exchanged -/
def SwapAll (f : Form) : Prop := ∀ (A : List Nat) (i j : Nat) (C : List Nat), f (A ++ i :: j :: C) = - f (A ++ j :: i :: C)
theorem swap_tail {f : Form} (h : SwapAll f) (a : Nat) : SwapAll fun cs => f (a :: cs) := fun A i j C => h (a :: A) i j C
theorem swap_wed (b : Fun) : ∀ (A : List Nat) (f : Form), SwapAll f → ∀ (i j : Nat) (C : List Nat), wed b f (A ++ i :: j :: C) = - wed b f (A ++ j :: i :: C)
  | [], f, h, i, j, C => by
    have e : (fun cs => f (i :: j :: cs)) = fun cs => (-1) * f (j :: i :: cs) := funext fun cs => by
      have := h [] i j cs
      simp only [List.nil_append] at this
      rw [this]
      omega
    have e2 := wed_smul b (-1) C (fun cs => f (j :: i :: cs))
    show b i * f (j :: C) - (b j * f (i :: C) - wed b (fun cs => f (i :: j :: cs)) C) = -(b j * f (i :: C) - (b i * f (j :: C) - wed b (fun cs => f (j :: i :: cs)) C))
    rw [e, e2]
    omega
  | a :: A, f, h, i, j, C => by
    have ih := swap_wed b A (fun cs => f (a :: cs)) (swap_tail h a) i j C
    show b a * f (A ++ i :: j :: C) - wed b (fun cs => f (a :: cs)) (A ++ i :: j :: C) = -(b a * f (A ++ j :: i :: C) - wed b (fun cs => f (a :: cs)) (A ++ j :: i :: C))
    rw [ih, h A i j C, Int.mul_neg]
    omega
theorem swap_minor : ∀ P : List Fun, SwapAll (minor P)
  | [] => fun A i j C => by cases A <;> rfl
  | b :: P => fun A i j C => swap_wed b A (minor P) (swap_minor P) i j C
theorem swap_front : ∀ (A : List Nat) (f : Form), SwapAll f → ∀ (p : Nat) (C : List Nat), (f (A ++ p :: C)).natAbs = (f (p :: (A ++ C))).natAbs
  | [], f, h, p, C => rfl
  | a :: A, f, h, p, C => by
    have ih := swap_front A (fun cs => f (a :: cs)) (swap_tail h a) p C
    have h2 := h [] a p (A ++ C)
    simp only [List.nil_append] at h2
    show (f (a :: (A ++ p :: C))).natAbs = (f (p :: a :: (A ++ C))).natAbs
    rw [show (f (a :: (A ++ p :: C))).natAbs = (f (a :: p :: (A ++ C))).natAbs from ih, h2, Int.natAbs_neg]
theorem swap_twice {f : Form} (h : SwapAll f) (p : Nat) (C : List Nat) : f (p :: p :: C) = 0 := by
  have := h [] p p C
  simp only [List.nil_append] at this
  omega
theorem swap_rep {f : Form} (h : SwapAll f) {j : Nat} {C : List Nat} (hj : j ∈ C) : f (j :: C) = 0 := by
  obtain ⟨A, B, rfl⟩ := List.append_of_mem hj
  have h1 := swap_front (j :: A) f h j B
  have h2 := swap_twice h j (A ++ B)
  have h1 : (f (j :: (A ++ j :: B))).natAbs = (f (j :: j :: (A ++ B))).natAbs := h1
  rw [h2] at h1
  exact Int.natAbs_eq_zero.mp h1
theorem perm_abs {C C' : List Nat} (h : C.Perm C') : ∀ f : Form, SwapAll f → (f C).natAbs = (f C').natAbs := by
  induction h with
  | nil => intro f _; rfl
  | cons x _ ih => intro f hf; exact ih (fun cs => f (x :: cs)) (swap_tail hf x)
  | swap x y l =>
    intro f hf
    have := hf [] y x l
    simp only [List.nil_append] at this
    rw [this, Int.natAbs_neg]
  | trans _ _ i1 i2 => intro f hf; exact (i1 f hf).trans (i2 f hf)
/-- what the elimination finds: rows of S, columns, a minor that is not 0 -/
structure Found (S : List Fun) (F : Ech) (P : List Fun) : Prop where
  sp : Spans S F
  len : P.length = F.length
  nz : minor P (F.map (·.1)) ≠ 0
  ps : ∀ p ∈ P, p ∈ S
theorem bar_found {n : Nat} {S : List Fun} : ∀ (k c : Nat) (L : List (List Int × Fun)) (P : List Fun) (C : List Nat) (E : Ech) (before : Int), c + k = n → Elim n S c L P C E before → E.map (·.1) = C → P.length = C.length → ∃ F P', Found S F P'
  | 0, c, L, P, C, E, before, hc, I, hE, hP => by
    refine ⟨E, P, ⟨I.ech, I.es, fun s hs => ?_⟩, by rw [hP, ← hE, List.length_map], by rw [hE, ← I.bf]; exact I.b0, I.ps⟩
    rcases I.all s hs with h | h
    · obtain ⟨q, hq, e⟩ := List.mem_map.mp h
      subst e
      obtain ⟨l1, l2, l3⟩ := I.low q hq
      have z : ∀ j, ent q.1 j = 0 := fun j => by
        by_cases hj : j < c
        · exact l3 j hj
        · exact ent_out (by omega)
      obtain ⟨y, hy, he⟩ := minor_row q.2 P C
      refine inq_div I.b0 (inq_ext (inq_smul (-1) (comb_inq hy I.pe)) fun j => ?_)
      have := he j
      rw [← l2 j, z j, ← I.bf] at this
      omega
    · exact I.pe s h
  | k + 1, c, L, P, C, E, before, hc, I, hE, hP => by
    cases hf : (L.map (·.1)).findIdx? (nz c) with
    | none =>
      have hn := List.findIdx?_eq_none_iff.mp hf
      refine bar_found k (c + 1) L P C E before (by omega) (I.skip fun q hq => ?_) hE hP
      have := hn q.1 (List.mem_map.mpr ⟨q, hq, rfl⟩)
      unfold nz at this
      simpa using this
    | some i =>
      cases L with
      | nil => cases hf
      | cons h t =>
      obtain ⟨hi, hnz, _⟩ := List.findIdx?_eq_some_iff_getElem.mp hf
      rw [List.getElem_map] at hnz
      have hi : i < (h :: t).length := by rw [List.length_map] at hi; exact hi
      generalize ha : (h :: t)[i] = a at hnz
      have ac : ent a.1 c ≠ 0 := by
        unfold nz at hnz
        simpa using hnz
      exact bar_found k (c + 1) _ _ _ _ _ (by omega) (I.pick hi ha ac) (by rw [List.map_cons, hE]) (by rw [List.length_cons, List.length_cons, hP])
theorem rows_found {n : Nat} {rows : List (List Int)} (h : ∀ r ∈ rows, r.length = n) : ∃ F P, Found (rows.map ent) F P :=
  bar_found (n := n) n 0 (rows.map fun r => (r, ent r)) [] [] [] 1 (by omega) (elim_start h) rfl rfl
theorem prm_dvd {u : List Int} {a b : Nat} (ha : 0 < a) (hu : Prm u) (e : ∀ j, a ∣ b * (ent u j).natAbs) : a ∣ b := by
  have g0 : 0 < Nat.gcd a b := Nat.gcd_pos_of_pos_left _ ha
  have h1 : a / Nat.gcd a b = 1 := hu _ fun j => nd1 (by
    have hc := Nat.coprime_div_gcd_div_gcd g0
    have h2 : a / Nat.gcd a b ∣ (b / Nat.gcd a b) * (ent u j).natAbs := by
      obtain ⟨k, hk⟩ := e j
      refine ⟨k, Nat.eq_of_mul_eq_mul_left g0 ?_⟩
      rw [← Nat.mul_assoc, ← Nat.mul_assoc, Nat.mul_div_cancel' (Nat.gcd_dvd_left a b), Nat.mul_div_cancel' (Nat.gcd_dvd_right a b)]
      exact hk
    exact hc.dvd_of_dvd_mul_left h2)
  have h2 := Nat.div_mul_cancel (Nat.gcd_dvd_left a b)
  rw [h1, Nat.one_mul] at h2
  rw [← h2]
  exact Nat.gcd_dvd_right a b
section
variable {wd d : Nat} {R : Rows} {D : Int}
theorem found_keys (G : Good wd R D d) {S : List Fun} {F : Ech} {P : List Fun} (X : Found S F P) (h1 : ∀ r ∈ rws R, InQ S r) (h2 : ∀ s ∈ S, InQ (rws R) s) : (R.map (·.1)).Perm (F.map (·.1)) := by
  refine perm_of_mem G.nd X.sp.ech.nd fun x => ⟨fun h => ?_, fun h => ?_⟩
  · obtain ⟨q, hq, e⟩ := List.mem_map.mp h
    subst e
    obtain ⟨_, l1, l2⟩ := piv_some (G.pv q hq)
    exact inq_lead X.sp.ech (inq_trans (h1 _ (List.mem_map.mpr ⟨q, hq, rfl⟩)) X.sp.sup) ⟨l1, l2⟩
  · obtain ⟨q, hq, e⟩ := List.mem_map.mp h
    subst e
    have := inq_lead G.isE (v := q.2) (c := q.1) (by rw [echOf_snd]; exact inq_trans (X.sp.sub _ (List.mem_map.mpr ⟨q, hq, rfl⟩)) h2) (X.sp.ech.ld q hq)
    rwa [echOf_fst] at this
/-- a vector of the span that is 0 at all other pivots is a multiple of the row -/
theorem only_row (G : Good wd R D d) {w : Fun} (hw : InQ (rws R) w) {q : Nat × List Int} (hq : q ∈ R) (hz : ∀ t ∈ R, t.1 ≠ q.1 → w t.1 = 0) : ∀ j, ent q.2 q.1 * w j = w q.1 * ent q.2 j := by
  have hin : InQ (rws R) fun j => ent q.2 q.1 * w j + -(w q.1) * ent q.2 j := inq_add (inq_smul _ hw) (inq_smul _ (inq_mem (List.mem_map.mpr ⟨q, hq, rfl⟩)))
  obtain ⟨N, n0, hc⟩ := hin
  rw [← echOf_snd] at hc
  have z : ∀ j, ent q.2 q.1 * w j + -(w q.1) * ent q.2 j = 0 := by
    rcases comb_lead G.isE hc with y | ⟨c, hc1, l⟩
    · intro j
      rcases Int.mul_eq_zero.mp (y j) with e | e
      · exact absurd e n0
      · exact e
    · rw [echOf_fst] at hc1
      obtain ⟨t, ht, e2⟩ := List.mem_map.mp hc1
      have e2 : t.1 = c := e2
      subst e2
      refine absurd ?_ l.1
      show N * (ent q.2 q.1 * w t.1 + -(w q.1) * ent q.2 t.1) = 0
      by_cases c2 : t.1 = q.1
      · rw [c2, Int.neg_mul, Int.mul_comm (ent q.2 q.1), Int.add_right_neg, Int.mul_zero]
      · rw [hz t ht c2, G.zero q hq t ht (Ne.symm c2), Int.mul_zero, Int.mul_zero, Int.add_zero, Int.mul_zero]
  intro j
  have := z j
  rw [Int.neg_mul] at this
  omega
/-- the bound -/
theorem Good.sharp (G : Good wd R D d) (hP : PrmR R) {rows : List (List Int)} {B e : Nat} (hl : ∀ r ∈ rows, r.length = wd) (hB : ∀ r ∈ rows, ∀ j, (ent r j).natAbs ≤ B) (h1 : ∀ r ∈ rws R, InQ (rows.map ent) r) (h2 : ∀ s ∈ rows.map ent, InQ (rws R) s) (he : (wd * B) ^ R.length < 2 ^ e) : ∃ D', Good wd R D' e := by
  obtain ⟨F, P, X⟩ := rows_found hl
  have pk := found_keys G X h1 h2
  have hab := perm_abs pk (minor P) (swap_minor P)
  have hPl : P.length = R.length := by
    rw [X.len]
    have := pk.length_eq
    rw [List.length_map, List.length_map] at this
    exact this.symm
  have hD0 : 0 < (minor P (R.map (·.1))).natAbs := by
    have := X.nz
    omega
  have hpb : ∀ p ∈ P, ∀ j, (p j).natAbs ≤ B := fun p hp j => by
    obtain ⟨r, hr, e⟩ := List.mem_map.mp (X.ps p hp)
    subst e
    exact hB r hr j
  have hK : (R.map (·.1)).length ≤ wd := by rw [List.length_map]; exact G.len_le
  have bd : ∀ C : List Nat, C.length ≤ wd → (minor P C).natAbs < 2 ^ e := fun C hC => Nat.lt_of_le_of_lt (minor_bd P hpb C hC) (by rw [hPl]; exact he)
  refine ⟨((minor P (R.map (·.1))).natAbs : Nat), { len := G.len, nd := G.nd, pv := G.pv, pos := G.pos, zero := G.zero, dpos := by omega, dlt := by rw [Int.natAbs_natCast]; exact bd _ hK, mul := fun q hq => ?_ }⟩
  obtain ⟨RA, RB, hR⟩ := List.append_of_mem hq
  have hkeys : R.map (·.1) = RA.map (·.1) ++ q.1 :: RB.map (·.1) := by rw [hR, List.map_append, List.map_cons]
  have hfr := swap_front (RA.map (·.1)) (minor P) (swap_minor P) q.1 (RB.map (·.1))
  rw [← hkeys] at hfr
  have hlen : (RA.map (·.1) ++ RB.map (·.1)).length + 1 ≤ wd := by
    have := hK
    rw [hkeys, List.length_append, List.length_cons] at this
    rw [List.length_append]
    omega
  have hw : InQ (rws R) fun j => minor P (j :: (RA.map (·.1) ++ RB.map (·.1))) := inq_trans (comb_inq (minor_comb P _) fun p hp => inq_mem (X.ps p hp)) h2
  have hz : ∀ t ∈ R, t.1 ≠ q.1 → minor P (t.1 :: (RA.map (·.1) ++ RB.map (·.1))) = 0 := fun t ht hne => by
    refine swap_rep (swap_minor P) ?_
    have : t.1 ∈ R.map (·.1) := List.mem_map.mpr ⟨t, ht, rfl⟩
    rw [hkeys] at this
    rcases List.mem_append.mp this with y | y
    · exact List.mem_append_left _ y
    · rcases List.mem_cons.mp y with y | y
      · exact absurd y hne
      · exact List.mem_append_right _ y
  have key := only_row G hw hq hz
  have up := G.pos q hq
  have keyA : ∀ j, (ent q.2 q.1).natAbs * (minor P (j :: (RA.map (·.1) ++ RB.map (·.1)))).natAbs = (minor P (R.map (·.1))).natAbs * (ent q.2 j).natAbs := fun j => by
    rw [hfr, ← Int.natAbs_mul, ← Int.natAbs_mul, key j]
  have hdv : (ent q.2 q.1).natAbs ∣ (minor P (R.map (·.1))).natAbs := prm_dvd (by omega) (hP q hq) fun j => ⟨_, (keyA j).symm⟩
  obtain ⟨m, hm⟩ := hdv
  have m0 : 0 < m := Nat.pos_of_ne_zero fun z => by rw [z, Nat.mul_zero] at hm; omega
  refine ⟨(m : Int), by omega, ?_, fun j => ?_⟩
  · have e1 : ((ent q.2 q.1).natAbs : Int) = ent q.2 q.1 := by omega
    rw [hm, Int.natCast_mul, e1, Int.mul_comm]
  · rw [Int.natAbs_mul, Int.natAbs_natCast]
    have e2 : m * (ent q.2 j).natAbs = (minor P (j :: (RA.map (·.1) ++ RB.map (·.1)))).natAbs := by
      refine Nat.eq_of_mul_eq_mul_left (show 0 < (ent q.2 q.1).natAbs by omega) ?_
      rw [keyA j, hm, Nat.mul_assoc]
    rw [e2]
    exact bd _ (by rw [List.length_cons]; exact hlen)
end
end Sp

/-! part SpX -/
/-! Dimensions of spans: echelon systems exist, maps, the sum and the common part. -/
namespace Sp
def Sup (n : Nat) (v : Fun) : Prop := ∀ j, n ≤ j → v j = 0
theorem comb_sup {n : Nat} {S : List Fun} {v : Fun} (h : ∀ s ∈ S, Sup n s) (hc : Comb S v) : Sup n v := by
  induction hc with
  | nil => exact fun _ _ => rfl
  | @cons b P y k c ih =>
    intro j hj
    show k * b j + y j = 0
    rw [h b List.mem_cons_self j hj, ih (fun s hs => h s (List.mem_cons_of_mem _ hs)) j hj, Int.mul_zero, Int.zero_add]
theorem inq_sup {n : Nat} {S : List Fun} {v : Fun} (h : ∀ s ∈ S, Sup n s) (hv : InQ S v) : Sup n v := fun j hj => by
  obtain ⟨N, n0, c⟩ := hv
  have := comb_sup h c j hj
  exact (Int.mul_eq_zero.mp this).resolve_left n0
theorem inq_mono {S T : List Fun} {v : Fun} (h : ∀ s ∈ S, s ∈ T) (hv : InQ S v) : InQ T v := inq_trans hv fun s hs => inq_mem (h s hs)
theorem ech_add {n : Nat} : ∀ (k c : Nat) (F : Ech) (v : Fun), c + k = n → IsE F → (∀ q ∈ F, Sup n q.2) → Sup n v → (∀ j, j < c → v j = 0) → ∃ F' : Ech, IsE F' ∧ F'.length ≤ F.length + 1 ∧ (∀ q ∈ F, q ∈ F') ∧ InQ (F'.map (·.2)) v ∧ ∀ q ∈ F', q ∈ F ∨ InQ (v :: F.map (·.2)) q.2
  | 0, c, F, v, e, hF, _, hs, hz => ⟨F, hF, by omega, fun q h => h, inq_zero fun j => by
      by_cases z : j < c
      · exact hz j z
      · exact hs j (by omega), fun q h => .inl h⟩
  | k + 1, c, F, v, e, hF, hFs, hs, hz => by
    by_cases h0 : v c = 0
    · exact ech_add k (c + 1) F v (by omega) hF hFs hs fun j hj => by
        by_cases z : j = c
        · rw [z]; exact h0
        · exact hz j (by omega)
    · by_cases hm : c ∈ F.map (·.1)
      · obtain ⟨q, hq, hqc⟩ := List.mem_map.mp hm
        have l := hF.ld q hq
        rw [hqc] at l
        have hv1 : InQ (v :: F.map (·.2)) fun j => q.2 c * v j + -(v c) * q.2 j := inq_add (inq_smul _ (inq_mem List.mem_cons_self)) (inq_smul _ (inq_mem (List.mem_cons_of_mem _ (List.mem_map.mpr ⟨q, hq, rfl⟩))))
        obtain ⟨F', i1, i2, i3, i4, i5⟩ := ech_add k (c + 1) F (fun j => q.2 c * v j + -(v c) * q.2 j) (by omega) hF hFs (fun j hj => by
          show q.2 c * v j + -(v c) * q.2 j = 0
          rw [hs j hj, hFs q hq j hj, Int.mul_zero, Int.mul_zero]
          rfl) (fun j hj => by
          show q.2 c * v j + -(v c) * q.2 j = 0
          by_cases z : j = c
          · rw [z, Int.neg_mul, Int.mul_comm (v c)]
            omega
          · rw [hz j (by omega), l.2 j (by omega), Int.mul_zero, Int.mul_zero]
            rfl)
        refine ⟨F', i1, i2, i3, ?_, fun r hr => ?_⟩
        · refine inq_div l.1 (inq_ext (inq_add i4 (inq_smul (v c) (inq_mem (List.mem_map.mpr ⟨q, i3 q hq, rfl⟩)))) fun j => ?_)
          show q.2 c * v j + -(v c) * q.2 j + v c * q.2 j = q.2 c * v j
          rw [Int.neg_mul]
          omega
        · rcases i5 r hr with z | z
          · exact .inl z
          · refine .inr (inq_trans z fun s hs2 => ?_)
            rcases List.mem_cons.mp hs2 with y | y
            · rw [y]; exact hv1
            · exact inq_mem (List.mem_cons_of_mem _ y)
      · refine ⟨(c, v) :: F, ⟨List.nodup_cons.mpr ⟨hm, hF.nd⟩, fun q hq => ?_⟩, by rw [List.length_cons]; omega, fun q hq => List.mem_cons_of_mem _ hq, inq_mem List.mem_cons_self, fun q hq => ?_⟩
        · rcases List.mem_cons.mp hq with y | y
          · rw [y]; exact ⟨h0, hz⟩
          · exact hF.ld q y
        · rcases List.mem_cons.mp hq with y | y
          · rw [y]; exact .inr (inq_mem List.mem_cons_self)
          · exact .inl y
theorem ech_ex {n : Nat} : ∀ S : List Fun, (∀ s ∈ S, Sup n s) → ∃ F, Spans S F ∧ F.length ≤ S.length
  | [], _ => ⟨[], ⟨⟨List.nodup_nil, fun q hq => nomatch hq⟩, (fun e he => nomatch he), (fun s hs => nomatch hs)⟩, Nat.le_refl _⟩
  | s :: S, h => by
    obtain ⟨F, hF, hl⟩ := ech_ex S fun t ht => h t (List.mem_cons_of_mem _ ht)
    have hFs : ∀ q ∈ F, Sup n q.2 := fun q hq => inq_sup (fun t ht => h t (List.mem_cons_of_mem _ ht)) (hF.sub q.2 (List.mem_map.mpr ⟨q, hq, rfl⟩))
    obtain ⟨F', i1, i2, i3, i4, i5⟩ := ech_add n 0 F s (by omega) hF.ech hFs (h s List.mem_cons_self) fun j hj => absurd hj (Nat.not_lt_zero j)
    refine ⟨F', ⟨i1, fun e he => ?_, fun t ht => ?_⟩, by rw [List.length_cons]; omega⟩
    · obtain ⟨q, hq, rfl⟩ := List.mem_map.mp he
      have up : ∀ q ∈ F, InQ (s :: S) q.2 := fun q hq => inq_mono (fun t ht => List.mem_cons_of_mem _ ht) (hF.sub q.2 (List.mem_map.mpr ⟨q, hq, rfl⟩))
      rcases i5 q hq with z | z
      · exact up q z
      · refine inq_trans z fun t ht => ?_
        rcases List.mem_cons.mp ht with y | y
        · rw [y]; exact inq_mem List.mem_cons_self
        · obtain ⟨r, hr, rfl⟩ := List.mem_map.mp y
          exact up r hr
    · rcases List.mem_cons.mp ht with y | y
      · rw [y]; exact i4
      · exact inq_mono (fun u hu => by
          obtain ⟨r, hr, rfl⟩ := List.mem_map.mp hu
          exact List.mem_map.mpr ⟨r, i3 r hr, rfl⟩) (hF.sup t y)
/-- how many vectors a span has -/
def Dim (S : List Fun) (m : Nat) : Prop := ∃ F, Spans S F ∧ F.length = m
theorem dim_eq {S T : List Fun} {m k : Nat} (h : Dim S m) (g : Dim T k) (h1 : ∀ s ∈ S, InQ T s) (h2 : ∀ t ∈ T, InQ S t) : m = k := by
  obtain ⟨F, hF, e⟩ := h
  obtain ⟨E, hE, e2⟩ := g
  rw [← e, ← e2]
  exact spans_len hF hE h1 h2
theorem dim_same {S T : List Fun} {m : Nat} (h : Dim S m) (h1 : ∀ s ∈ S, InQ T s) (h2 : ∀ t ∈ T, InQ S t) : Dim T m := by
  obtain ⟨F, hF, e⟩ := h
  exact ⟨F, ⟨hF.ech, fun x hx => inq_trans (hF.sub x hx) h1, fun t ht => inq_trans (h2 t ht) hF.sup⟩, e⟩
theorem dim_ex {n : Nat} {S : List Fun} (h : ∀ s ∈ S, Sup n s) : ∃ m, Dim S m ∧ m ≤ S.length := by
  obtain ⟨F, hF, hl⟩ := ech_ex S h
  exact ⟨_, ⟨F, hF, rfl⟩, hl⟩
theorem dim_le {n m : Nat} {S : List Fun} (h : ∀ s ∈ S, Sup n s) (hd : Dim S m) : m ≤ S.length := by
  obtain ⟨k, hk, hl⟩ := dim_ex h
  rw [dim_eq hd hk (fun s hs => inq_mem hs) fun s hs => inq_mem hs]
  exact hl
theorem dim_ech {F : Ech} (h : IsE F) : Dim (F.map (·.2)) F.length := ⟨F, ⟨h, fun e he => inq_mem he, fun s hs => inq_mem hs⟩, rfl⟩
/-! ### maps -/
structure Lin (T : Fun → Fun) : Prop where
  add : ∀ u v, T (fun j => u j + v j) = fun j => T u j + T v j
  smul : ∀ (k : Int) u, T (fun j => k * u j) = fun j => k * T u j
theorem Lin.zero {T : Fun → Fun} (L : Lin T) : T (fun _ => 0) = fun _ => 0 := by
  have h := L.smul 0 fun _ => 0
  have e : (fun _ : Nat => (0 : Int) * 0) = fun _ => 0 := funext fun _ => rfl
  rw [e] at h
  rw [h]
  exact funext fun j => Int.zero_mul _
theorem comb_lin {T : Fun → Fun} (L : Lin T) : ∀ {S : List Fun} {v : Fun}, Comb S v → Comb (S.map T) (T v)
  | _, _, .nil => by rw [L.zero]; exact .nil
  | _, _, .cons (b := b) (y := y) k c => by
    rw [L.add (fun j => k * b j) y, L.smul k b]
    exact .cons k (comb_lin L c)
theorem inq_lin {T : Fun → Fun} (L : Lin T) {S : List Fun} {v : Fun} (h : InQ S v) : InQ (S.map T) (T v) := by
  obtain ⟨N, n0, c⟩ := h
  exact ⟨N, n0, by rw [← L.smul]; exact comb_lin L c⟩
theorem dim_lin_le {n' m k : Nat} {T : Fun → Fun} (L : Lin T) {S : List Fun} (hs : ∀ v, Sup n' (T v)) (h : Dim S m) (g : Dim (S.map T) k) : k ≤ m := by
  obtain ⟨F, hF, e⟩ := h
  obtain ⟨j, hj, hl⟩ := dim_ex (n := n') (S := (F.map (·.2)).map T) fun s hs2 => by
    obtain ⟨t, _, rfl⟩ := List.mem_map.mp hs2
    exact hs t
  rw [List.length_map, List.length_map, e] at hl
  rw [dim_eq g hj (fun s hs2 => by
    obtain ⟨t, ht, rfl⟩ := List.mem_map.mp hs2
    exact inq_lin L (hF.sup t ht)) fun s hs2 => by
    obtain ⟨t, ht, rfl⟩ := List.mem_map.mp hs2
    exact inq_lin L (hF.sub t ht)]
  exact hl
theorem dim_lin {n n' m k : Nat} {T U : Fun → Fun} (L : Lin T) (LU : Lin U) {S : List Fun} (hT : ∀ v, Sup n' (T v)) (hU : ∀ v, Sup n (U v)) (hUT : ∀ s ∈ S, U (T s) = s) (h : Dim S m) (g : Dim (S.map T) k) : k = m := by
  refine Nat.le_antisymm (dim_lin_le L hT h g) (dim_lin_le LU hU g ?_)
  rw [List.map_map]
  have e : S.map (U ∘ T) = S := by
    conv => rhs; rw [← List.map_id S]
    exact List.map_congr_left hUT
  rw [e]
  exact h
/-! ### the sum and the common part -/
def pr (w : Nat) (x y : Fun) : Fun := fun i => if i < w then x i else if i < w + w then y (i - w) else 0
theorem pr_sup {w : Nat} (x y : Fun) : Sup (w + w) (pr w x y) := fun j hj => by
  unfold pr
  rw [if_neg (by omega), if_neg (by omega)]
def lo (w : Nat) (z : Fun) : Fun := fun i => if i < w then z i else 0
def hi (w : Nat) (z : Fun) : Fun := fun i => if i < w then z (i + w) else 0
theorem lo_pr {w : Nat} {x y : Fun} (h : Sup w x) : lo w (pr w x y) = x := funext fun i => by
  unfold lo pr
  by_cases c : i < w
  · rw [if_pos c, if_pos c]
  · rw [if_neg c, h i (by omega)]
theorem hi_pr {w : Nat} {x y : Fun} (h : Sup w y) : hi w (pr w x y) = y := funext fun i => by
  unfold hi pr
  by_cases c : i < w
  · rw [if_pos c, if_neg (by omega), if_pos (by omega), Nat.add_sub_cancel]
  · rw [if_neg c, h i (by omega)]
theorem lin_lo {w : Nat} : Lin (lo w) := ⟨fun u v => funext fun j => by unfold lo; by_cases c : j < w <;> simp [c], fun k u => funext fun j => by unfold lo; by_cases c : j < w <;> simp [c]⟩
theorem lin_hi {w : Nat} : Lin (hi w) := ⟨fun u v => funext fun j => by unfold hi; by_cases c : j < w <;> simp [c], fun k u => funext fun j => by unfold hi; by_cases c : j < w <;> simp [c]⟩
theorem lin_pr {w : Nat} {f g : Fun → Fun} (hf : Lin f) (hg : Lin g) : Lin fun z => pr w (f z) (g z) :=
  ⟨fun u v => funext fun j => by
    show pr w (f _) (g _) j = pr w (f u) (g u) j + pr w (f v) (g v) j
    rw [hf.add, hg.add]
    unfold pr
    by_cases c : j < w
    · simp [c]
    · by_cases d : j < w + w <;> simp [c, d], fun k u => funext fun j => by
    show pr w (f _) (g _) j = k * pr w (f u) (g u) j
    rw [hf.smul, hg.smul]
    unfold pr
    by_cases c : j < w
    · simp [c]
    · by_cases d : j < w + w <;> simp [c, d]⟩
theorem lin_id : Lin fun z => z := ⟨fun _ _ => rfl, fun _ _ => rfl⟩
theorem lin_z : Lin fun _ => fun _ => 0 := ⟨fun _ _ => funext fun _ => rfl, fun k _ => funext fun _ => (Int.mul_zero k).symm⟩
theorem lin_sum {f g : Fun → Fun} (hf : Lin f) (hg : Lin g) (m : Int) : Lin fun z => fun j => f z j + m * g z j :=
  ⟨fun u v => funext fun j => by
    show f _ j + m * g _ j = f u j + m * g u j + (f v j + m * g v j)
    rw [hf.add, hg.add]
    show f u j + f v j + m * (g u j + g v j) = _
    rw [Int.mul_add]
    omega, fun k u => funext fun j => by
    show f _ j + m * g _ j = k * (f u j + m * g u j)
    rw [hf.smul, hg.smul]
    show k * f u j + m * (k * g u j) = _
    rw [Int.mul_add, Int.mul_left_comm]⟩
theorem comb_split {p : Nat × Fun → Bool} : ∀ {F : Ech} {y : Fun}, Comb (F.map (·.2)) y → ∃ y1 y2, Comb ((F.filter p).map (·.2)) y1 ∧ Comb ((F.filter fun q => !p q).map (·.2)) y2 ∧ ∀ j, y j = y1 j + y2 j
  | [], _, .nil => ⟨_, _, .nil, .nil, fun j => rfl⟩
  | q :: F, _, .cons (y := y) k c => by
    obtain ⟨y1, y2, h1, h2, e⟩ := comb_split (p := p) c
    by_cases hp : p q = true
    · refine ⟨fun j => k * q.2 j + y1 j, y2, ?_, ?_, fun j => by show k * q.2 j + y j = k * q.2 j + y1 j + y2 j; rw [e j]; omega⟩
      · rw [List.filter_cons_of_pos hp]; exact .cons k h1
      · rw [List.filter_cons_of_neg (by simp [hp])]; exact h2
    · refine ⟨y1, fun j => k * q.2 j + y2 j, ?_, ?_, fun j => by show k * q.2 j + y j = y1 j + (k * q.2 j + y2 j); rw [e j]; omega⟩
      · rw [List.filter_cons_of_neg hp]; exact h1
      · rw [List.filter_cons_of_pos (by simp [hp])]; exact .cons k h2
theorem filter_two (w : Nat) : ∀ F : Ech, F.length = (F.filter fun q => decide (q.1 < w)).length + (F.filter fun q => !decide (q.1 < w)).length
  | [] => rfl
  | q :: F => by
    have ih := filter_two w F
    by_cases c : q.1 < w
    · rw [List.filter_cons_of_pos (by simp [c]), List.filter_cons_of_neg (by simp [c]), List.length_cons, List.length_cons, ih]
      omega
    · rw [List.filter_cons_of_neg (by simp [c]), List.filter_cons_of_pos (by simp [c]), List.length_cons, List.length_cons, ih]
      omega
theorem lead_lt {w c : Nat} {v : Fun} (h : Sup w v) (l : Lead v c) : c < w := by
  by_cases z : c < w
  · exact z
  · exact absurd (h c (by omega)) l.1
theorem dim_add {w a b j m : Nat} {A B M : List Fun} (sA : ∀ s ∈ A, Sup w s) (sB : ∀ s ∈ B, Sup w s) (hA : Dim A a) (hB : Dim B b) (hJ : Dim (A ++ B) j) (hM : Dim M m) (sM : ∀ s ∈ M, Sup w s) (hm : ∀ x, Sup w x → (InQ M x ↔ InQ A x ∧ InQ B x)) : a + b = j + m := by
  obtain ⟨FA, SA, eA⟩ := hA
  obtain ⟨FB, SB, eB⟩ := hB
  have supA : ∀ q ∈ FA, Sup w q.2 := fun q hq => inq_sup sA (SA.sub q.2 (List.mem_map.mpr ⟨q, hq, rfl⟩))
  have supB : ∀ q ∈ FB, Sup w q.2 := fun q hq => inq_sup sB (SB.sub q.2 (List.mem_map.mpr ⟨q, hq, rfl⟩))
  have z0 : Sup w fun _ => 0 := fun _ _ => rfl
  -- the system (b, 0), (0, a)
  have hE0 : IsE (FB.map (fun q => (q.1, pr w q.2 fun _ => 0)) ++ FA.map fun q => (q.1 + w, pr w (fun _ => 0) q.2)) := by
    refine ⟨?_, fun q hq => ?_⟩
    · rw [List.map_append, List.map_map, List.map_map, List.nodup_append]
      refine ⟨SB.ech.nd, ?_, fun x hx y hy => ?_⟩
      · have : FA.map ((·.1) ∘ fun q : Nat × Fun => (q.1 + w, pr w (fun _ => 0) q.2)) = (FA.map (·.1)).map (· + w) := by rw [List.map_map]; rfl
        rw [this]
        exact List.Pairwise.map _ (fun a b h z => h (by omega)) SA.ech.nd
      · obtain ⟨q, hq, rfl⟩ := List.mem_map.mp hx
        obtain ⟨r, hr, rfl⟩ := List.mem_map.mp hy
        have := lead_lt (supB q hq) (SB.ech.ld q hq)
        show q.1 ≠ r.1 + w
        omega
    · rcases List.mem_append.mp hq with h | h
      · obtain ⟨r, hr, rfl⟩ := List.mem_map.mp h
        have l := SB.ech.ld r hr
        have lt := lead_lt (supB r hr) l
        refine ⟨?_, fun i hi => ?_⟩
        · show pr w r.2 (fun _ => 0) r.1 ≠ 0
          unfold pr
          rw [if_pos lt]
          exact l.1
        · have hi : i < r.1 := hi
          show pr w r.2 (fun _ => 0) i = 0
          unfold pr
          rw [if_pos (by omega)]
          exact l.2 i hi
      · obtain ⟨r, hr, rfl⟩ := List.mem_map.mp h
        have l := SA.ech.ld r hr
        have lt := lead_lt (supA r hr) l
        refine ⟨?_, fun i hi => ?_⟩
        · show pr w (fun _ => 0) r.2 (r.1 + w) ≠ 0
          unfold pr
          rw [if_neg (by omega), if_pos (by omega), Nat.add_sub_cancel]
          exact l.1
        · have hi : i < r.1 + w := hi
          show pr w (fun _ => 0) r.2 i = 0
          unfold pr
          by_cases c : i < w
          · rw [if_pos c]
          · rw [if_neg c, if_pos (by omega)]
            exact l.2 (i - w) (by omega)
  have d0 := dim_ech hE0
  rw [List.length_append, List.length_map, List.length_map, eA, eB, List.map_append, List.map_map, List.map_map] at d0
  have LU : Lin fun z => pr w (fun i => lo w z i + 1 * hi w z i) (hi w z) := lin_pr (lin_sum lin_lo lin_hi 1) lin_hi
  have LT : Lin fun z => pr w (fun i => lo w z i + -1 * hi w z i) (hi w z) := lin_pr (lin_sum lin_lo lin_hi (-1)) lin_hi
  -- the same in the other form
  let S : List Fun := FB.map (fun q => pr w q.2 fun _ => 0) ++ FA.map fun q => pr w q.2 q.2
  have sS : ∀ s ∈ S, Sup (w + w) s := fun s hs => by
    rcases List.mem_append.mp hs with h | h <;> obtain ⟨r, hr, rfl⟩ := List.mem_map.mp h <;> exact pr_sup _ _
  have eS : (FB.map ((·.2) ∘ fun q : Nat × Fun => (q.1, pr w q.2 fun _ => 0)) ++ FA.map ((·.2) ∘ fun q : Nat × Fun => (q.1 + w, pr w (fun _ => 0) q.2))).map (fun z => pr w (fun i => lo w z i + 1 * hi w z i) (hi w z)) = S := by
    rw [List.map_append, List.map_map, List.map_map]
    refine congr (congrArg _ (List.map_congr_left fun q hq => ?_)) (List.map_congr_left fun q hq => ?_)
    · show pr w (fun i => lo w (pr w q.2 fun _ => 0) i + 1 * hi w (pr w q.2 fun _ => 0) i) (hi w (pr w q.2 fun _ => 0)) = pr w q.2 fun _ => 0
      rw [lo_pr (supB q hq), hi_pr z0]
      congr 1
      exact funext fun i => by show q.2 i + 1 * 0 = q.2 i; omega
    · show pr w (fun i => lo w (pr w (fun _ => 0) q.2) i + 1 * hi w (pr w (fun _ => 0) q.2) i) (hi w (pr w (fun _ => 0) q.2)) = pr w q.2 q.2
      rw [lo_pr z0, hi_pr (supA q hq)]
      congr 1
      exact funext fun i => by show (0 : Int) + 1 * q.2 i = q.2 i; omega
  obtain ⟨k, ⟨F, SF, eF⟩, _⟩ := dim_ex sS
  have hk : k = b + a := by
    refine dim_lin (n := w + w) (n' := w + w) LU LT (fun v => pr_sup _ _) (fun v => pr_sup _ _) (fun s hs => ?_) d0 (by rw [eS]; exact ⟨F, SF, eF⟩)
    have hs2 : ∃ x y, Sup w x ∧ Sup w y ∧ s = pr w x y := by
      rcases List.mem_append.mp hs with h | h <;> obtain ⟨r, hr, rfl⟩ := List.mem_map.mp h
      · exact ⟨_, _, supB r hr, z0, rfl⟩
      · exact ⟨_, _, z0, supA r hr, rfl⟩
    obtain ⟨x, y, hx, hy, rfl⟩ := hs2
    show pr w (fun i => lo w (pr w (fun i => lo w (pr w x y) i + 1 * hi w (pr w x y) i) (hi w (pr w x y))) i + -1 * hi w (pr w (fun i => lo w (pr w x y) i + 1 * hi w (pr w x y) i) (hi w (pr w x y))) i) (hi w (pr w (fun i => lo w (pr w x y) i + 1 * hi w (pr w x y) i) (hi w (pr w x y)))) = pr w x y
    have hxy : Sup w fun i => x i + 1 * y i := fun i hi' => by
      show x i + 1 * y i = 0
      rw [hx i hi', hy i hi']
      rfl
    rw [lo_pr hx, hi_pr hy, lo_pr hxy, hi_pr hy]
    congr 1
    exact funext fun i => by show x i + 1 * y i + -1 * y i = x i; omega
  have supF : ∀ q ∈ F, Sup (w + w) q.2 := fun q hq => inq_sup sS (SF.sub q.2 (List.mem_map.mpr ⟨q, hq, rfl⟩))
  -- the first halves
  have hE1 : Spans (A ++ B) ((F.filter fun q => decide (q.1 < w)).map fun q => (q.1, lo w q.2)) := by
    have hlead : ∀ q ∈ F, q.1 < w → Lead (lo w q.2) q.1 := fun q hq hl => by
      have l := SF.ech.ld q hq
      refine ⟨by show lo w q.2 q.1 ≠ 0; unfold lo; rw [if_pos hl]; exact l.1, fun i hi' => by unfold lo; rw [if_pos (by omega)]; exact l.2 i hi'⟩
    refine ⟨⟨?_, fun q hq => ?_⟩, fun e he => ?_, ?_⟩
    · rw [List.map_map]
      exact List.Nodup.sublist (List.Sublist.map _ List.filter_sublist) SF.ech.nd
    · obtain ⟨r, hr, rfl⟩ := List.mem_map.mp hq
      have := List.mem_filter.mp hr
      exact hlead r this.1 (of_decide_eq_true this.2)
    · rw [List.map_map] at he
      obtain ⟨r, hr, rfl⟩ := List.mem_map.mp he
      have hr2 := (List.mem_filter.mp hr).1
      refine inq_trans (inq_lin lin_lo (SF.sub r.2 (List.mem_map.mpr ⟨r, hr2, rfl⟩))) fun s hs => ?_
      obtain ⟨t, ht, rfl⟩ := List.mem_map.mp hs
      rcases List.mem_append.mp ht with h | h <;> obtain ⟨u, hu, rfl⟩ := List.mem_map.mp h
      · rw [lo_pr (supB u hu)]
        exact inq_mono (fun x hx => List.mem_append_right _ hx) (SB.sub u.2 (List.mem_map.mpr ⟨u, hu, rfl⟩))
      · rw [lo_pr (supA u hu)]
        exact inq_mono (fun x hx => List.mem_append_left _ hx) (SA.sub u.2 (List.mem_map.mpr ⟨u, hu, rfl⟩))
    · have key : ∀ z ∈ S, InQ (((F.filter fun q => decide (q.1 < w)).map fun q => (q.1, lo w q.2)).map (·.2)) (lo w z) := fun z hz => by
        refine inq_trans (inq_lin lin_lo (SF.sup z hz)) fun s hs => ?_
        obtain ⟨t, ht, rfl⟩ := List.mem_map.mp hs
        obtain ⟨r, hr, rfl⟩ := List.mem_map.mp ht
        by_cases c : r.1 < w
        · exact inq_mem (by rw [List.map_map]; exact List.mem_map.mpr ⟨r, List.mem_filter.mpr ⟨hr, decide_eq_true c⟩, rfl⟩)
        · refine inq_zero fun i => ?_
          unfold lo
          by_cases d : i < w
          · rw [if_pos d]; exact (SF.ech.ld r hr).2 i (by omega)
          · rw [if_neg d]
      intro s hs
      rcases List.mem_append.mp hs with h | h
      · refine inq_trans (SA.sup s h) fun t ht => ?_
        obtain ⟨u, hu, rfl⟩ := List.mem_map.mp ht
        have := key (pr w u.2 u.2) (List.mem_append_right _ (List.mem_map.mpr ⟨u, hu, rfl⟩))
        rwa [lo_pr (supA u hu)] at this
      · refine inq_trans (SB.sup s h) fun t ht => ?_
        obtain ⟨u, hu, rfl⟩ := List.mem_map.mp ht
        have := key (pr w u.2 fun _ => 0) (List.mem_append_left _ (List.mem_map.mpr ⟨u, hu, rfl⟩))
        rwa [lo_pr (supB u hu)] at this
  -- the second halves of what begins with 0
  have hE2 : Spans M ((F.filter fun q => !decide (q.1 < w)).map fun q => (q.1 - w, hi w q.2)) := by
    have hge : ∀ q ∈ F.filter fun q => !decide (q.1 < w), q ∈ F ∧ w ≤ q.1 ∧ q.1 < w + w := fun q hq => by
      obtain ⟨h1, h2⟩ := List.mem_filter.mp hq
      refine ⟨h1, ?_, lead_lt (supF q h1) (SF.ech.ld q h1)⟩
      simp at h2
      exact h2
    have hpr : ∀ q ∈ F.filter fun q => !decide (q.1 < w), lo w q.2 = fun _ => 0 := fun q hq => funext fun i => by
      obtain ⟨h1, h2, h3⟩ := hge q hq
      unfold lo
      by_cases d : i < w
      · rw [if_pos d]; exact (SF.ech.ld q h1).2 i (by omega)
      · rw [if_neg d]
    refine ⟨⟨?_, fun q hq => ?_⟩, fun e he => ?_, fun s hs => ?_⟩
    · rw [List.map_map]
      have nd : ((F.filter fun q => !decide (q.1 < w)).map (·.1)).Nodup := List.Nodup.sublist (List.Sublist.map _ List.filter_sublist) SF.ech.nd
      have e : (F.filter fun q => !decide (q.1 < w)).map ((·.1) ∘ fun q : Nat × Fun => (q.1 - w, hi w q.2)) = ((F.filter fun q => !decide (q.1 < w)).map (·.1)).map (· - w) := by rw [List.map_map]; rfl
      rw [e]
      refine List.pairwise_map.mpr (List.Pairwise.imp_of_mem (fun {a b} ha hb h z => h ?_) nd)
      obtain ⟨qa, h1, rfl⟩ := List.mem_map.mp ha
      obtain ⟨qb, h2, rfl⟩ := List.mem_map.mp hb
      have := (hge qa h1).2.1
      have := (hge qb h2).2.1
      omega
    · obtain ⟨r, hr, rfl⟩ := List.mem_map.mp hq
      obtain ⟨h1, h2, h3⟩ := hge r hr
      have l := SF.ech.ld r h1
      refine ⟨?_, fun i hi' => ?_⟩
      · show hi w r.2 (r.1 - w) ≠ 0
        unfold hi
        rw [if_pos (by omega), Nat.sub_add_cancel h2]
        exact l.1
      · have hi' : i < r.1 - w := hi'
        show hi w r.2 i = 0
        unfold hi
        rw [if_pos (by omega)]
        exact l.2 (i + w) (by omega)
    · rw [List.map_map] at he
      obtain ⟨r, hr, rfl⟩ := List.mem_map.mp he
      obtain ⟨h1, h2, h3⟩ := hge r hr
      have hS := SF.sub r.2 (List.mem_map.mpr ⟨r, h1, rfl⟩)
      refine (hm (hi w r.2) fun i hi' => by unfold hi; rw [if_neg (by omega)]).mpr ⟨?_, ?_⟩
      · refine inq_trans (inq_lin lin_hi hS) fun s hs => ?_
        obtain ⟨t, ht, rfl⟩ := List.mem_map.mp hs
        rcases List.mem_append.mp ht with h | h <;> obtain ⟨u, hu, rfl⟩ := List.mem_map.mp h
        · rw [hi_pr z0]; exact inq_zero fun _ => rfl
        · rw [hi_pr (supA u hu)]; exact SA.sub u.2 (List.mem_map.mpr ⟨u, hu, rfl⟩)
      · have LR : Lin fun z => fun i => lo w z i + -1 * hi w z i := lin_sum lin_lo lin_hi (-1)
        have h := inq_lin LR hS
        have e : (fun i => lo w r.2 i + -1 * hi w r.2 i) = fun i => -1 * hi w r.2 i := by rw [hpr r hr]; exact funext fun i => Int.zero_add _
        have h : InQ (S.map fun z => fun i => lo w z i + -1 * hi w z i) fun i => lo w r.2 i + -1 * hi w r.2 i := h
        rw [e] at h
        refine inq_trans (inq_div (by decide) h) fun s hs => ?_
        obtain ⟨t, ht, rfl⟩ := List.mem_map.mp hs
        rcases List.mem_append.mp ht with h | h <;> obtain ⟨u, hu, rfl⟩ := List.mem_map.mp h
        · refine inq_ext (SB.sub u.2 (List.mem_map.mpr ⟨u, hu, rfl⟩)) fun i => ?_
          show u.2 i = lo w (pr w u.2 _) i + -1 * hi w (pr w u.2 _) i
          rw [lo_pr (supB u hu), hi_pr z0]
          show u.2 i = u.2 i + -1 * 0
          omega
        · refine inq_zero fun i => ?_
          show lo w (pr w u.2 _) i + -1 * hi w (pr w u.2 _) i = 0
          rw [lo_pr (supA u hu), hi_pr (supA u hu)]
          omega
    · obtain ⟨hsA, hsB⟩ := (hm s (sM s hs)).mp (inq_mem hs)
      have sw := sM s hs
      -- (0, s) lies in the span
      have k1 : InQ S (pr w s s) := by
        refine inq_trans (inq_lin (lin_pr lin_id lin_id) (inq_trans hsA SA.sup)) fun t ht => ?_
        obtain ⟨v, hv, rfl⟩ := List.mem_map.mp ht
        obtain ⟨u, hu, rfl⟩ := List.mem_map.mp hv
        exact inq_mem (List.mem_append_right _ (List.mem_map.mpr ⟨u, hu, rfl⟩))
      have k2 : InQ S (pr w s fun _ => 0) := by
        refine inq_trans (inq_lin (lin_pr lin_id lin_z) (inq_trans hsB SB.sup)) fun t ht => ?_
        obtain ⟨v, hv, rfl⟩ := List.mem_map.mp ht
        obtain ⟨u, hu, rfl⟩ := List.mem_map.mp hv
        exact inq_mem (List.mem_append_left _ (List.mem_map.mpr ⟨u, hu, rfl⟩))
      have k3 : InQ S (pr w (fun _ => 0) s) := inq_ext (inq_add k1 (inq_smul (-1) k2)) fun i => by
        unfold pr
        by_cases c : i < w
        · simp [c]; omega
        · by_cases d : i < w + w <;> simp [c, d]
      obtain ⟨N, n0, hc⟩ := inq_trans k3 SF.sup
      obtain ⟨y1, y2, c1, c2, ey⟩ := comb_split (p := fun q : Nat × Fun => decide (q.1 < w)) hc
      have hy2 : ∀ i, i < w → y2 i = 0 := fun i hi' => by
        have h0 : InQ ((F.filter fun q => !decide (q.1 < w)).map (·.2)) y2 := inq_comb c2
        have h1 := inq_lin (lin_lo (w := w)) h0
        have h2 : InQ [] (lo w y2) := inq_trans h1 fun t ht => by
          obtain ⟨v, hv, rfl⟩ := List.mem_map.mp ht
          obtain ⟨u, hu, rfl⟩ := List.mem_map.mp hv
          rw [hpr u hu]
          exact inq_zero fun _ => rfl
        obtain ⟨N', n0', cc⟩ := h2
        have : N' * lo w y2 i = 0 := by
          generalize hf : (fun j => N' * lo w y2 j) = f at cc
          cases cc
          exact congrFun hf i
        have := (Int.mul_eq_zero.mp this).resolve_left n0'
        unfold lo at this
        rwa [if_pos hi'] at this
      have hy1 : ∀ i, i < w → y1 i = 0 := fun i hi' => by
        have h0 : N * pr w (fun _ => 0) s i = y1 i + y2 i := ey i
        unfold pr at h0
        rw [if_pos hi', hy2 i hi', Int.mul_zero] at h0
        omega
      have hIE : IsE (F.filter fun q => decide (q.1 < w)) := ⟨List.Nodup.sublist (List.Sublist.map _ List.filter_sublist) SF.ech.nd, fun q hq => SF.ech.ld q (List.mem_filter.mp hq).1⟩
      have hy1z : ∀ i, y1 i = 0 := by
        rcases comb_lead hIE c1 with z | ⟨c, hc, l⟩
        · exact z
        · obtain ⟨q, hq, rfl⟩ := List.mem_map.mp hc
          exact absurd (hy1 q.1 (of_decide_eq_true (List.mem_filter.mp hq).2)) l.1
      have k4 : InQ ((F.filter fun q => !decide (q.1 < w)).map (·.2)) (pr w (fun _ => 0) s) := ⟨N, n0, comb_ext c2 fun i => by
        have h0 : N * pr w (fun _ => 0) s i = y1 i + y2 i := ey i
        show y2 i = N * pr w (fun _ => 0) s i
        rw [h0, hy1z i]
        omega⟩
      have k5 := inq_lin (lin_hi (w := w)) k4
      rw [hi_pr sw] at k5
      refine inq_trans k5 fun t ht => ?_
      obtain ⟨v, hv, rfl⟩ := List.mem_map.mp ht
      obtain ⟨u, hu, rfl⟩ := List.mem_map.mp hv
      exact inq_mem (by rw [List.map_map]; exact List.mem_map.mpr ⟨u, hu, rfl⟩)
  have l1 := dim_eq hJ ⟨_, hE1, rfl⟩ (fun s hs => inq_mem hs) fun s hs => inq_mem hs
  have l2 := dim_eq hM ⟨_, hE2, rfl⟩ (fun s hs => inq_mem hs) fun s hs => inq_mem hs
  rw [List.length_map] at l1 l2
  have lf := filter_two w F
  omega
end Sp

/-! part SpY -/
/-! The dual of a reduced system: one solution for each free place. -/
namespace Sp
def dot : Nat → Fun → Fun → Int
  | 0, _, _ => 0
  | n + 1, x, y => dot n x y + x n * y n
theorem dot_zero : ∀ {n : Nat} {x y : Fun}, (∀ j, j < n → x j * y j = 0) → dot n x y = 0
  | 0, _, _, _ => rfl
  | n + 1, x, y, h => by
    show dot n x y + x n * y n = 0
    rw [dot_zero (fun j hj => h j (by omega)), h n (by omega)]
    rfl
theorem dot_one {a : Nat} : ∀ {n : Nat} {x y : Fun}, a < n → (∀ j, j < n → j ≠ a → x j * y j = 0) → dot n x y = x a * y a
  | 0, _, _, h, _ => absurd h (Nat.not_lt_zero a)
  | n + 1, x, y, h, g => by
    show dot n x y + x n * y n = _
    by_cases c : n = a
    · subst c
      rw [dot_zero fun j hj => g j (by omega) (by omega)]
      omega
    · rw [dot_one (by omega) fun j hj => g j (by omega), g n (by omega) c]
      omega
theorem dot_two {a b : Nat} (hab : a ≠ b) : ∀ {n : Nat} {x y : Fun}, a < n → b < n → (∀ j, j < n → j ≠ a → j ≠ b → x j * y j = 0) → dot n x y = x a * y a + x b * y b
  | 0, _, _, h, _, _ => absurd h (Nat.not_lt_zero a)
  | n + 1, x, y, ha, hb, g => by
    show dot n x y + x n * y n = _
    by_cases c : n = a
    · subst c
      rw [dot_one (a := b) (by omega) fun j hj h => g j (by omega) (by omega) h]
      omega
    · by_cases c2 : n = b
      · subst c2
        rw [dot_one (a := a) (by omega) fun j hj h => g j (by omega) h (by omega)]
      · rw [dot_two hab (by omega) (by omega) fun j hj => g j (by omega), g n (by omega) c c2]
        omega
theorem dot_add : ∀ {n : Nat} {x u v : Fun}, dot n x (fun j => u j + v j) = dot n x u + dot n x v
  | 0, _, _, _ => rfl
  | n + 1, x, u, v => by
    show dot n x _ + x n * (u n + v n) = dot n x u + x n * u n + (dot n x v + x n * v n)
    rw [dot_add, Int.mul_add]
    omega
theorem dot_smul {k : Int} : ∀ {n : Nat} {x u : Fun}, dot n x (fun j => k * u j) = k * dot n x u
  | 0, _, _ => (Int.mul_zero k).symm
  | n + 1, x, u => by
    show dot n x _ + x n * (k * u n) = k * (dot n x u + x n * u n)
    rw [dot_smul, Int.mul_add, Int.mul_left_comm]
theorem dot_comm : ∀ {n : Nat} {x y : Fun}, dot n x y = dot n y x
  | 0, _, _ => rfl
  | n + 1, x, y => by
    show dot n x y + x n * y n = dot n y x + y n * x n
    rw [dot_comm, Int.mul_comm]
theorem dot_comb {n : Nat} {x : Fun} {S : List Fun} {v : Fun} (h : ∀ s ∈ S, dot n x s = 0) (hc : Comb S v) : dot n x v = 0 := by
  induction hc with
  | nil => exact dot_zero fun j _ => Int.mul_zero _
  | @cons b P y k c ih =>
    rw [dot_add, dot_smul, h b List.mem_cons_self, ih fun s hs => h s (List.mem_cons_of_mem _ hs), Int.mul_zero]
    rfl
theorem dot_inq {n : Nat} {x : Fun} {S : List Fun} {v : Fun} (h : ∀ s ∈ S, dot n x s = 0) (hv : InQ S v) : dot n x v = 0 := by
  obtain ⟨N, n0, c⟩ := hv
  have := dot_comb h c
  rw [dot_smul] at this
  exact (Int.mul_eq_zero.mp this).resolve_left n0
/-! ### the scale -/
def ask (r : Nat × List Int) (f : Nat) : Int := ent r.2 r.1 / ((Nat.gcd (ent r.2 r.1).natAbs (ent r.2 f).natAbs : Nat) : Int)
def sclGo (f : Nat) : Rows → Int → Int
  | [], s => s
  | r :: R, s => sclGo f R ((Nat.lcm s.natAbs (ask r f).natAbs : Nat) : Int)
def scl (R : Rows) (f : Nat) : Int := sclGo f R 1
theorem scl_dvd {f : Nat} {D : Int} : ∀ {R : Rows} {s : Int}, s ∣ D → (∀ r ∈ R, ask r f ∣ D) → sclGo f R s ∣ D
  | [], s, h, _ => h
  | r :: R, s, h, g => by
    show sclGo f R _ ∣ D
    exact scl_dvd (R := R) (nd1 (Nat.lcm_dvd (Int.natAbs_dvd_natAbs.mpr h) (Int.natAbs_dvd_natAbs.mpr (g r List.mem_cons_self)))) fun q hq => g q (List.mem_cons_of_mem _ hq)
theorem dvd_scl {f : Nat} : ∀ {R : Rows} {s : Int}, s ∣ sclGo f R s ∧ ∀ r ∈ R, ask r f ∣ sclGo f R s
  | [], s => ⟨Int.dvd_refl s, fun r h => nomatch h⟩
  | r :: R, s => by
    obtain ⟨h1, h2⟩ := dvd_scl (f := f) (R := R) (s := ((Nat.lcm s.natAbs (ask r f).natAbs : Nat) : Int))
    refine ⟨Int.dvd_trans (nd3 (Nat.dvd_lcm_left _ _)) h1, fun q hq => ?_⟩
    rcases List.mem_cons.mp hq with e | e
    · rw [e]; exact Int.dvd_trans (nd3 (Nat.dvd_lcm_right _ _)) h1
    · exact h2 q e
theorem scl_nn {f : Nat} : ∀ {R : Rows} {s : Int}, 0 ≤ s → 0 ≤ sclGo f R s
  | [], _, h => h
  | r :: R, s, _ => by
    show 0 ≤ sclGo f R _
    exact scl_nn (R := R) (Int.natCast_nonneg _)
/-! ### the solution -/
def solAt (R : Rows) (f : Nat) (j : Nat) : Int := if j = f then scl R f else if j ∈ R.map (·.1) then -(ent (rowAt R j) f) * scl R f / ent (rowAt R j) j else 0
def sol (R : Rows) (f w : Nat) : List Int := (List.range w).map (solAt R f)
theorem sol_len {R : Rows} {f w : Nat} : (sol R f w).length = w := by unfold sol; rw [List.length_map, List.length_range]
theorem sol_ent {R : Rows} {f w j : Nat} : ent (sol R f w) j = if j < w then solAt R f j else 0 := by
  unfold sol ent
  rw [List.getD_eq_getElem?_getD, List.getElem?_map]
  by_cases c : j < w
  · rw [if_pos c, List.getElem?_range c]; rfl
  · rw [if_neg c, List.getElem?_eq_none (by rw [List.length_range]; omega)]; rfl
section
variable {wd d f : Nat} {R : Rows} {D : Int}
theorem Good.ask_D (G : Good wd R D d) {r : Nat × List Int} (h : r ∈ R) : ask r f ∣ D := by
  obtain ⟨m, _, h3, _⟩ := G.mul r h
  refine Int.dvd_trans ?_ ⟨m, by rw [← h3, Int.mul_comm]⟩
  have hg : ((Nat.gcd (ent r.2 r.1).natAbs (ent r.2 f).natAbs : Nat) : Int) ∣ ent r.2 r.1 := nd1 (Nat.gcd_dvd_left _ _)
  exact ⟨_, (Int.ediv_mul_cancel hg).symm⟩
theorem Good.scl_D (G : Good wd R D d) : ∃ t : Int, 0 < t ∧ 0 < scl R f ∧ scl R f * t = D := by
  have h : scl R f ∣ D := scl_dvd ⟨D, (Int.one_mul D).symm⟩ fun r hr => G.ask_D hr
  have h0 : 0 ≤ scl R f := scl_nn (by decide)
  obtain ⟨t, ht⟩ := h
  have hp := G.dpos
  have hs : 0 < scl R f := by
    rcases Int.lt_or_eq_of_le h0 with z | z
    · exact z
    · rw [← z, Int.zero_mul] at ht
      omega
  refine ⟨t, ?_, hs, ht.symm⟩
  refine Classical.byContradiction fun q => ?_
  have : scl R f * t ≤ 0 := Int.mul_nonpos_of_nonneg_of_nonpos h0 (by omega)
  omega
theorem solAt_f : solAt R f f = scl R f := if_pos rfl
theorem solAt_free {j : Nat} (h : j ≠ f) (g : j ∉ R.map (·.1)) : solAt R f j = 0 := by
  unfold solAt
  rw [if_neg h, if_neg g]
theorem Good.solAt_piv (G : Good wd R D d) {r : Nat × List Int} (h : r ∈ R) (hf : f ∉ R.map (·.1)) : solAt R f r.1 * ent r.2 r.1 = -(ent r.2 f) * scl R f := by
  have hm : r.1 ∈ R.map (·.1) := List.mem_map.mpr ⟨r, h, rfl⟩
  have e : rowAt R r.1 = r.2 := rowAt_mem G.nd (show (r.1, r.2) ∈ R from h)
  unfold solAt
  rw [if_neg (fun z : r.1 = f => hf (z ▸ hm)), if_pos hm, e]
  refine Int.ediv_mul_cancel ?_
  have h1 : ask r f ∣ scl R f := (dvd_scl (f := f) (R := R) (s := 1)).2 r h
  have hg1 : ((Nat.gcd (ent r.2 r.1).natAbs (ent r.2 f).natAbs : Nat) : Int) ∣ ent r.2 r.1 := nd1 (Nat.gcd_dvd_left _ _)
  have hg2 : ((Nat.gcd (ent r.2 r.1).natAbs (ent r.2 f).natAbs : Nat) : Int) ∣ ent r.2 f := nd1 (Nat.gcd_dvd_right _ _)
  have e1 : ask r f * ((Nat.gcd (ent r.2 r.1).natAbs (ent r.2 f).natAbs : Nat) : Int) = ent r.2 r.1 := Int.ediv_mul_cancel hg1
  obtain ⟨a, ha⟩ := h1
  obtain ⟨b, hb⟩ := hg2
  refine ⟨-(a * b), ?_⟩
  generalize ((Nat.gcd (ent r.2 r.1).natAbs (ent r.2 f).natAbs : Nat) : Int) = g at *
  rw [ha, ← e1]
  conv => lhs; rw [hb]
  simp only [Int.mul_assoc, Int.mul_left_comm, Int.mul_comm, Int.neg_mul, Int.mul_neg]
/-- a row and a solution are orthogonal -/
theorem Good.sol_dot (G : Good wd R D d) {r : Nat × List Int} (h : r ∈ R) (hf : f ∉ R.map (·.1)) (hw : f < wd) : dot wd (ent r.2) (ent (sol R f wd)) = 0 := by
  have hm : r.1 ∈ R.map (·.1) := List.mem_map.mpr ⟨r, h, rfl⟩
  have hr := (G.len r h).2
  have hne : f ≠ r.1 := fun z => hf (z ▸ hm)
  rw [dot_two hne hw hr fun j hj h1 h2 => ?_, sol_ent, sol_ent, if_pos hw, if_pos hr, solAt_f, Int.mul_comm (ent r.2 r.1), G.solAt_piv h hf, Int.neg_mul]
  · omega
  · by_cases c : j ∈ R.map (·.1)
    · obtain ⟨q, hq, rfl⟩ := List.mem_map.mp c
      rw [G.zero r h q hq (Ne.symm h2), Int.zero_mul]
    · rw [sol_ent, if_pos hj, solAt_free h1 c, Int.mul_zero]
/-- bounded as the rows are -/
theorem Good.sol_mul (G : Good wd R D d) (hf : f ∉ R.map (·.1)) (hw : f < wd) : ∃ t : Int, 0 < t ∧ t * ent (sol R f wd) f = D ∧ ∀ j, (t * ent (sol R f wd) j).natAbs < 2 ^ d := by
  obtain ⟨t, t0, s0, e⟩ := G.scl_D (f := f)
  refine ⟨t, t0, by rw [sol_ent, if_pos hw, solAt_f, Int.mul_comm]; exact e, fun j => ?_⟩
  rw [sol_ent]
  by_cases c : j < wd
  · rw [if_pos c]
    by_cases h1 : j = f
    · rw [h1, solAt_f, Int.mul_comm, e]
      exact G.dlt
    · by_cases h2 : j ∈ R.map (·.1)
      · obtain ⟨q, hq, rfl⟩ := List.mem_map.mp h2
        obtain ⟨m, m0, hm, hb⟩ := G.mul q hq
        have h3 := G.solAt_piv hq hf
        have h4 : t * solAt R f q.1 = -(m * ent q.2 f) := by
          have hp := G.pos q hq
          refine Int.eq_of_mul_eq_mul_right (show ent q.2 q.1 ≠ 0 by omega) ?_
          rw [Int.mul_assoc, h3]
          have : t * (-(ent q.2 f) * scl R f) = -(ent q.2 f) * D := by rw [← e]; simp only [Int.mul_assoc, Int.mul_left_comm, Int.mul_comm, Int.neg_mul, Int.mul_neg]
          rw [this, ← hm]
          simp only [Int.mul_assoc, Int.mul_left_comm, Int.mul_comm, Int.neg_mul, Int.mul_neg]
        rw [h4, Int.natAbs_neg]
        exact hb f
      · rw [solAt_free h1 h2, Int.mul_zero]
        exact Nat.pow_pos (by decide)
  · rw [if_neg c, Int.mul_zero]
    exact Nat.pow_pos (by decide)
/-- the solution is primitive -/
theorem Good.sol_prm (G : Good wd R D d) (hf : f ∉ R.map (·.1)) (hw : f < wd) : Prm (sol R f wd) := fun g hg => by
  obtain ⟨t, t0, s0, e⟩ := G.scl_D (f := f)
  have h1 := hg f
  rw [sol_ent, if_pos hw, solAt_f] at h1
  obtain ⟨s', hs'⟩ := h1
  have hg0 : (g : Int) ≠ 0 := fun z => by rw [z, Int.zero_mul] at hs'; omega
  have key : scl R f ∣ s' := scl_dvd ⟨s', (Int.one_mul s').symm⟩ fun r hr => by
    have hrw := (G.len r hr).2
    have h2 := hg r.1
    rw [sol_ent, if_pos hrw] at h2
    obtain ⟨y', hy'⟩ := h2
    have h3 := G.solAt_piv hr hf
    have hp := G.pos r hr
    have hpn : 0 < (ent r.2 r.1).natAbs := Int.natAbs_pos.mpr (by omega)
    have hgp : 0 < Nat.gcd (ent r.2 r.1).natAbs (ent r.2 f).natAbs := Nat.gcd_pos_of_pos_left _ hpn
    have hg1 : ((Nat.gcd (ent r.2 r.1).natAbs (ent r.2 f).natAbs : Nat) : Int) ∣ ent r.2 r.1 := nd1 (Nat.gcd_dvd_left _ _)
    have hg2 : ((Nat.gcd (ent r.2 r.1).natAbs (ent r.2 f).natAbs : Nat) : Int) ∣ ent r.2 f := nd1 (Nat.gcd_dvd_right _ _)
    have e1 : ask r f * ((Nat.gcd (ent r.2 r.1).natAbs (ent r.2 f).natAbs : Nat) : Int) = ent r.2 r.1 := Int.ediv_mul_cancel hg1
    obtain ⟨b, hb⟩ := hg2
    have e2 : y' * ask r f = -(b * s') := by
      refine Int.eq_of_mul_eq_mul_right (show (g : Int) * ((Nat.gcd (ent r.2 r.1).natAbs (ent r.2 f).natAbs : Nat) : Int) ≠ 0 from Int.mul_ne_zero hg0 (by omega)) ?_
      rw [hy', hs'] at h3
      have l : y' * ask r f * ((g : Int) * ((Nat.gcd (ent r.2 r.1).natAbs (ent r.2 f).natAbs : Nat) : Int)) = (g : Int) * y' * (ask r f * ((Nat.gcd (ent r.2 r.1).natAbs (ent r.2 f).natAbs : Nat) : Int)) := by simp only [Int.mul_assoc, Int.mul_left_comm, Int.mul_comm]
      have k : -(ent r.2 f) * ((g : Int) * s') = -(b * s') * ((g : Int) * ((Nat.gcd (ent r.2 r.1).natAbs (ent r.2 f).natAbs : Nat) : Int)) := by
        generalize ((Nat.gcd (ent r.2 r.1).natAbs (ent r.2 f).natAbs : Nat) : Int) = gg at hb
        rw [hb]
        simp only [Int.mul_assoc, Int.mul_left_comm, Int.mul_comm, Int.neg_mul, Int.mul_neg]
      rw [l, e1, h3, k]
    -- ask and b have no common divisor
    have cop : Nat.Coprime (ask r f).natAbs b.natAbs := by
      have h5 := Nat.gcd_div_gcd_div_gcd_of_pos_left (n := (ent r.2 r.1).natAbs) (m := (ent r.2 f).natAbs) hpn
      have a1 : (ent r.2 r.1).natAbs / Nat.gcd (ent r.2 r.1).natAbs (ent r.2 f).natAbs = (ask r f).natAbs := Nat.div_eq_of_eq_mul_left hgp (by
        have := congrArg Int.natAbs e1
        rw [Int.natAbs_mul, Int.natAbs_natCast] at this
        exact this.symm)
      have a2 : (ent r.2 f).natAbs / Nat.gcd (ent r.2 r.1).natAbs (ent r.2 f).natAbs = b.natAbs := Nat.div_eq_of_eq_mul_right hgp (by
        have := congrArg Int.natAbs hb
        rw [Int.natAbs_mul, Int.natAbs_natCast] at this
        exact this)
      rw [a1, a2] at h5
      exact h5
    have h6 : (ask r f).natAbs ∣ b.natAbs * s'.natAbs := by
      have : ask r f ∣ b * s' := ⟨-y', by rw [Int.mul_neg, Int.mul_comm (ask r f), e2, Int.neg_neg]⟩
      rw [← Int.natAbs_mul]
      exact Int.natAbs_dvd_natAbs.mpr this
    exact Int.natAbs_dvd_natAbs.mp (cop.dvd_of_dvd_mul_left h6)
  have s1 : 0 < s' := by
    refine Classical.byContradiction fun q => ?_
    have : (g : Int) * s' ≤ 0 := Int.mul_nonpos_of_nonneg_of_nonpos (Int.natCast_nonneg g) (by omega)
    omega
  have h7 := Int.le_of_dvd s1 key
  rw [hs'] at h7
  have h8 : (g : Int) ≤ 1 := Int.le_of_mul_le_mul_right (show (g : Int) * s' ≤ 1 * s' by omega) s1
  omega
/-! ### what is orthogonal to the rows, what is orthogonal to the solutions -/
def free (R : Rows) (w : Nat) : List Nat := (List.range w).filter fun j => !decide (j ∈ R.map (·.1))
theorem mem_free {w j : Nat} : j ∈ free R w ↔ j < w ∧ j ∉ R.map (·.1) := by
  unfold free
  rw [List.mem_filter, List.mem_range]
  simp
def sols (R : Rows) (w : Nat) : List Fun := (free R w).map fun f => ent (sol R f w)
theorem Good.perp_rows (G : Good wd R D d) : ∀ (L : List Nat) (z : Fun), Sup wd z → (∀ r ∈ R, dot wd (ent r.2) z = 0) → (∀ f ∈ L, f ∈ free R wd) → (∀ f ∈ free R wd, f ∉ L → z f = 0) → InQ (sols R wd) z
  | [], z, sz, hz, _, h0 => inq_zero fun j => by
    by_cases c : j < wd
    · by_cases hm : j ∈ R.map (·.1)
      · obtain ⟨r, hr, rfl⟩ := List.mem_map.mp hm
        have h1 := hz r hr
        rw [dot_one c fun i hi hne => ?_] at h1
        · have := G.pos r hr
          exact (Int.mul_eq_zero.mp h1).resolve_left (by omega)
        · by_cases hi2 : i ∈ R.map (·.1)
          · obtain ⟨q, hq, rfl⟩ := List.mem_map.mp hi2
            rw [G.zero r hr q hq (Ne.symm hne), Int.zero_mul]
          · rw [h0 i (mem_free.mpr ⟨hi, hi2⟩) List.not_mem_nil, Int.mul_zero]
      · exact h0 j (mem_free.mpr ⟨c, hm⟩) List.not_mem_nil
    · exact sz j (by omega)
  | f :: L, z, sz, hz, hL, h0 => by
    have hf := mem_free.mp (hL f List.mem_cons_self)
    obtain ⟨t, t0, s0, e⟩ := G.scl_D (f := f)
    have ef : ent (sol R f wd) f = scl R f := by rw [sol_ent, if_pos hf.1, solAt_f]
    have ms : ent (sol R f wd) ∈ sols R wd := List.mem_map.mpr ⟨f, hL f List.mem_cons_self, rfl⟩
    have ih := G.perp_rows L (fun j => scl R f * z j + -(z f) * ent (sol R f wd) j) (fun j hj => by
        show scl R f * z j + -(z f) * ent (sol R f wd) j = 0
        rw [sz j hj, sol_ent, if_neg (by omega), Int.mul_zero, Int.mul_zero]
        rfl) (fun r hr => by
        rw [dot_add, dot_smul, dot_smul, hz r hr, G.sol_dot hr hf.2 hf.1, Int.mul_zero, Int.mul_zero]
        rfl) (fun g hg => hL g (List.mem_cons_of_mem _ hg)) (fun g hg hgL => by
        show scl R f * z g + -(z f) * ent (sol R f wd) g = 0
        by_cases c : g = f
        · rw [c, ef, Int.neg_mul, Int.mul_comm]
          omega
        · have hg2 := mem_free.mp hg
          rw [h0 g hg fun y => by
            rcases List.mem_cons.mp y with y | y
            · exact c y
            · exact hgL y, sol_ent, if_pos hg2.1, solAt_free c hg2.2, Int.mul_zero, Int.mul_zero]
          rfl)
    refine inq_div (show scl R f ≠ 0 by omega) (inq_ext (inq_add ih (inq_smul (z f) (inq_mem ms))) fun j => ?_)
    show scl R f * z j + -(z f) * ent (sol R f wd) j + z f * ent (sol R f wd) j = scl R f * z j
    rw [Int.neg_mul]
    omega
theorem Good.perp_sols (G : Good wd R D d) : ∀ (L : Rows) (z : Fun), Sup wd z → (∀ f ∈ free R wd, dot wd (ent (sol R f wd)) z = 0) → (∀ r ∈ L, r ∈ R) → (∀ r ∈ R, r ∉ L → z r.1 = 0) → InQ (rws R) z
  | [], z, sz, hz, _, h0 => inq_zero fun j => by
    by_cases c : j < wd
    · by_cases hm : j ∈ R.map (·.1)
      · obtain ⟨r, hr, rfl⟩ := List.mem_map.mp hm
        exact h0 r hr List.not_mem_nil
      · have h1 := hz j (mem_free.mpr ⟨c, hm⟩)
        obtain ⟨t, t0, s0, e⟩ := G.scl_D (f := j)
        rw [dot_one c fun i hi hne => ?_, sol_ent, if_pos c, solAt_f] at h1
        · exact (Int.mul_eq_zero.mp h1).resolve_left (by omega)
        · by_cases hi2 : i ∈ R.map (·.1)
          · obtain ⟨q, hq, rfl⟩ := List.mem_map.mp hi2
            rw [h0 q hq List.not_mem_nil, Int.mul_zero]
          · rw [sol_ent, if_pos hi, solAt_free hne hi2, Int.zero_mul]
    · exact sz j (by omega)
  | r :: L, z, sz, hz, hL, h0 => by
    have hr := hL r List.mem_cons_self
    have hp := G.pos r hr
    have hlen := G.len r hr
    have ms : ent r.2 ∈ rws R := List.mem_map.mpr ⟨r, hr, rfl⟩
    have ih := G.perp_sols L (fun j => ent r.2 r.1 * z j + -(z r.1) * ent r.2 j) (fun j hj => by
        show ent r.2 r.1 * z j + -(z r.1) * ent r.2 j = 0
        rw [sz j hj, ent_out (v := r.2) (j := j) (by have := hlen.1; omega), Int.mul_zero, Int.mul_zero]
        rfl) (fun f hf => by
        have hf2 := mem_free.mp hf
        rw [dot_add, dot_smul, dot_smul, hz f hf, dot_comm, G.sol_dot hr hf2.2 hf2.1, Int.mul_zero, Int.mul_zero]
        rfl) (fun g hg => hL g (List.mem_cons_of_mem _ hg)) (fun q hq hqL => by
        show ent r.2 r.1 * z q.1 + -(z r.1) * ent r.2 q.1 = 0
        by_cases c : q.1 = r.1
        · rw [c, Int.neg_mul, Int.mul_comm]
          omega
        · rw [h0 q hq fun y => by
            rcases List.mem_cons.mp y with y | y
            · exact c (by rw [y])
            · exact hqL y, G.zero r hr q hq (Ne.symm c), Int.mul_zero, Int.mul_zero]
          rfl)
    refine inq_div (show ent r.2 r.1 ≠ 0 by omega) (inq_ext (inq_add ih (inq_smul (z r.1) (inq_mem ms))) fun j => ?_)
    show ent r.2 r.1 * z j + -(z r.1) * ent r.2 j + z r.1 * ent r.2 j = ent r.2 r.1 * z j
    rw [Int.neg_mul]
    omega
/-- the solutions span what is orthogonal to the rows -/
theorem Good.dual (G : Good wd R D d) {z : Fun} (sz : Sup wd z) : InQ (sols R wd) z ↔ ∀ r ∈ R, dot wd (ent r.2) z = 0 := by
  constructor
  · intro h r hr
    refine dot_inq (fun s hs => ?_) h
    obtain ⟨f, hf, rfl⟩ := List.mem_map.mp hs
    have hf2 := mem_free.mp hf
    exact G.sol_dot hr hf2.2 hf2.1
  · intro h
    exact G.perp_rows (free R wd) z sz h (fun f hf => hf) fun f hf hn => absurd hf hn
/-- the rows span what is orthogonal to the solutions -/
theorem Good.dual_dual (G : Good wd R D d) {z : Fun} (sz : Sup wd z) : InQ (rws R) z ↔ ∀ f ∈ free R wd, dot wd (ent (sol R f wd)) z = 0 := by
  constructor
  · intro h f hf
    refine dot_inq (fun s hs => ?_) h
    obtain ⟨r, hr, rfl⟩ := List.mem_map.mp hs
    have hf2 := mem_free.mp hf
    rw [dot_comm]
    exact G.sol_dot hr hf2.2 hf2.1
  · intro h
    exact G.perp_sols R z sz h (fun r hr => hr) fun r hr hn => absurd hr hn
end
end Sp

/-! part SpZ -/
/-! The bound once more, for a part of a span: what is 0 at some further columns. -/
namespace Sp
theorem wed_to {f : Fun → Fun} {s : Nat → Nat} {w : Nat} {b : Fun} (hb : ∀ j, j < w → f b j = b (s j)) : ∀ (C : List Nat) (F F' : Form), (∀ c ∈ C, c < w) → (∀ cs : List Nat, (∀ c ∈ cs, c < w) → F cs = F' (cs.map s)) → wed (f b) F C = wed b F' (C.map s)
  | [], _, _, _, _ => rfl
  | j :: C, F, F', hc, h => by
    have hj := hc j List.mem_cons_self
    have hC : ∀ c ∈ C, c < w := fun c h => hc c (List.mem_cons_of_mem _ h)
    show f b j * F C - wed (f b) (fun cs => F (j :: cs)) C = b (s j) * F' (C.map s) - wed b (fun cs => F' (s j :: cs)) (C.map s)
    rw [hb j hj, h C hC, wed_to hb C (fun cs => F (j :: cs)) (fun cs => F' (s j :: cs)) hC fun cs hcs => h (j :: cs) fun c hc2 => by
      rcases List.mem_cons.mp hc2 with y | y
      · rw [y]; exact hj
      · exact hcs c y]
theorem minor_to {f : Fun → Fun} {s : Nat → Nat} {w : Nat} : ∀ (P : List Fun), (∀ p ∈ P, ∀ j, j < w → f p j = p (s j)) → ∀ C : List Nat, (∀ c ∈ C, c < w) → minor (P.map f) C = minor P (C.map s)
  | [], _, [], _ => rfl
  | [], _, _ :: _, _ => rfl
  | b :: P, h, C, hC => wed_to (h b List.mem_cons_self) C _ _ hC fun cs hcs => minor_to P (fun p hp => h p (List.mem_cons_of_mem _ hp)) cs hcs
theorem pull {α β : Type} {f : α → β} {S : List α} : ∀ P : List β, (∀ p ∈ P, p ∈ S.map f) → ∃ P0 : List α, P = P0.map f ∧ ∀ p ∈ P0, p ∈ S
  | [], _ => ⟨[], rfl, fun p h => nomatch h⟩
  | p :: P, h => by
    obtain ⟨P0, h1, h2⟩ := pull P fun q hq => h q (List.mem_cons_of_mem _ hq)
    obtain ⟨a, ha, e⟩ := List.mem_map.mp (h p List.mem_cons_self)
    refine ⟨a :: P0, by rw [List.map_cons, e, h1], fun q hq => ?_⟩
    rcases List.mem_cons.mp hq with y | y
    · rw [y]; exact ha
    · exact h2 q y
/-- the columns in another order: these first -/
def ordr (Q : List Nat) (w : Nat) : List Nat := Q ++ (List.range w).filter fun j => !decide (j ∈ Q)
theorem mem_ordr {Q : List Nat} {w j : Nat} (hQ : ∀ c ∈ Q, c < w) : j ∈ ordr Q w ↔ j < w := by
  unfold ordr
  rw [List.mem_append, List.mem_filter, List.mem_range]
  constructor
  · rintro (h | h)
    · exact hQ j h
    · exact h.1
  · intro h
    by_cases c : j ∈ Q
    · exact .inl c
    · exact .inr ⟨h, by simp [c]⟩
theorem ordr_nd {Q : List Nat} {w : Nat} (h : Q.Nodup) : (ordr Q w).Nodup := by
  unfold ordr
  rw [List.nodup_append]
  refine ⟨h, List.Nodup.sublist List.filter_sublist List.nodup_range, fun a ha b hb e => ?_⟩
  have := (List.mem_filter.mp hb).2
  rw [← e] at this
  simp [ha] at this
theorem ordr_len {Q : List Nat} {w : Nat} (h : Q.Nodup) (hQ : ∀ c ∈ Q, c < w) : (ordr Q w).length = w := by
  have p : (ordr Q w).Perm (List.range w) := perm_of_mem (ordr_nd h) List.nodup_range fun x => by rw [mem_ordr hQ, List.mem_range]
  rw [p.length_eq, List.length_range]
section
variable {wd d : Nat} {R : Rows} {D : Int}
theorem Good.sharp2 (G : Good wd R D d) (hP : PrmR R) {rows : List (List Int)} {B e : Nat} {Q : List Nat} (hQn : Q.Nodup) (hQw : ∀ c ∈ Q, c < wd) (hl : ∀ r ∈ rows, r.length = wd) (hB : ∀ r ∈ rows, ∀ j, (ent r j).natAbs ≤ B)
    (hRQ : ∀ r ∈ R, ∀ c ∈ Q, ent r.2 c = 0) (h1 : ∀ r ∈ rws R, InQ (rows.map ent) r) (hker : ∀ y, InQ (rows.map ent) y → (∀ c ∈ Q, y c = 0) → InQ (rws R) y)
    (hQ : ∀ c ∈ Q, ∃ y, InQ (rows.map ent) y ∧ y c ≠ 0 ∧ ∀ c' ∈ Q, c' ≠ c → y c' = 0) (he : (wd * B) ^ (R.length + Q.length) < 2 ^ e) : ∃ D', Good wd R D' e := by
  let σ := ordr Q wd
  have σn : σ.Nodup := ordr_nd hQn
  have σl : σ.length = wd := ordr_len hQn hQw
  let s : Nat → Nat := fun j => σ.getD j wd
  have hs : ∀ j (h : j < wd), s j = σ[j]'(by omega) := fun j h => by
    show σ.getD j wd = _
    rw [List.getD_eq_getElem?_getD, List.getElem?_eq_getElem (by omega)]
    rfl
  have hsw : ∀ j, j < wd → s j < wd := fun j h => by
    rw [hs j h]
    exact (mem_ordr hQw).mp (List.getElem_mem _)
  have hsi : ∀ i j, i < wd → j < wd → s i = s j → i = j := fun i j hi hj h => by
    rw [hs i hi, hs j hj] at h
    exact (List.getElem_inj σn).mp h
  have hsur : ∀ c, c < wd → ∃ j, j < wd ∧ s j = c := fun c hc => by
    obtain ⟨j, hj, e⟩ := List.mem_iff_getElem.mp ((mem_ordr (Q := Q) hQw).mpr hc)
    exact ⟨j, by have : j < σ.length := hj; omega, by rw [hs j (by have : j < σ.length := hj; omega)]; exact e⟩
  -- a place among the first
  have hsQ : ∀ j, j < wd → (j < Q.length ↔ s j ∈ Q) := fun j hj => by
    have hj' : j < (ordr Q wd).length := by have : j < σ.length := by omega
                                            exact this
    constructor
    · intro h
      rw [hs j hj]
      show (ordr Q wd)[j]'hj' ∈ Q
      unfold ordr at hj' ⊢
      rw [List.getElem_append_left h]
      exact List.getElem_mem h
    · intro h
      refine Classical.byContradiction fun n => ?_
      rw [hs j hj] at h
      have h : (ordr Q wd)[j]'hj' ∈ Q := h
      unfold ordr at hj' h
      rw [List.getElem_append_right (by omega)] at h
      have h2 := (List.mem_filter.mp (List.getElem_mem (l := (List.range wd).filter fun j => !decide (j ∈ Q)) (n := j - Q.length) (by rw [List.length_append] at hj'; omega))).2
      simp [h] at h2
  -- the others come in their order
  have hup : ∀ i j, i < wd → j < wd → s i ∉ Q → s j ∉ Q → s i < s j → i < j := fun i j hi hj ni nj h => by
    refine Classical.byContradiction fun n => ?_
    have hne : j ≠ i := fun z => by rw [z] at h; omega
    have ni' : ¬ i < Q.length := fun z => ni ((hsQ i hi).mp z)
    have nj' : ¬ j < Q.length := fun z => nj ((hsQ j hj).mp z)
    have hi' : i < (ordr Q wd).length := by have : i < σ.length := by omega
                                            exact this
    have hj' : j < (ordr Q wd).length := by have : j < σ.length := by omega
                                            exact this
    have ei : s i = ((List.range wd).filter fun j => !decide (j ∈ Q))[i - Q.length]'(by unfold ordr at hi'; rw [List.length_append] at hi'; omega) := by
      rw [hs i hi]
      show (ordr Q wd)[i]'hi' = _
      unfold ordr at hi' ⊢
      rw [List.getElem_append_right (by omega)]
    have ej : s j = ((List.range wd).filter fun j => !decide (j ∈ Q))[j - Q.length]'(by unfold ordr at hj'; rw [List.length_append] at hj'; omega) := by
      rw [hs j hj]
      show (ordr Q wd)[j]'hj' = _
      unfold ordr at hj' ⊢
      rw [List.getElem_append_right (by omega)]
    have srt : ((List.range wd).filter fun j => !decide (j ∈ Q)).Pairwise (· < ·) := List.Pairwise.filter _ List.pairwise_lt_range
    have := List.pairwise_iff_getElem.mp srt (j - Q.length) (i - Q.length) (by unfold ordr at hj'; rw [List.length_append] at hj'; omega) (by unfold ordr at hi'; rw [List.length_append] at hi'; omega) (by omega)
    rw [← ei, ← ej] at this
    omega
  -- the given rows with their columns in this order
  let f : Fun → Fun := fun g => ent (σ.map g)
  have hf : ∀ g j, j < wd → f g j = g (s j) := fun g j hj => by
    show ent (σ.map g) j = g (s j)
    unfold ent
    rw [List.getD_eq_getElem?_getD, List.getElem?_map, List.getElem?_eq_getElem (show j < σ.length by omega), hs j hj]
    rfl
  have hf0 : ∀ g j, wd ≤ j → f g j = 0 := fun g j hj => ent_out (by rw [List.length_map]; omega)
  have hfl : Lin f := ⟨fun u v => funext fun j => by
      by_cases c : j < wd
      · rw [hf _ j c, hf _ j c, hf _ j c]
      · rw [hf0 _ j (by omega), hf0 _ j (by omega), hf0 _ j (by omega)]; rfl, fun k u => funext fun j => by
      by_cases c : j < wd
      · rw [hf _ j c, hf _ j c]
      · rw [hf0 _ j (by omega), hf0 _ j (by omega), Int.mul_zero]⟩
  obtain ⟨F, P', X⟩ := rows_found (n := wd) (rows := rows.map fun r => σ.map (ent r)) fun r hr => by
    obtain ⟨t, _, rfl⟩ := List.mem_map.mp hr
    rw [List.length_map]
    exact σl
  have eX : (rows.map fun r => σ.map (ent r)).map ent = (rows.map ent).map f := by rw [List.map_map, List.map_map]; rfl
  rw [eX] at X
  obtain ⟨P, eP, ps⟩ := pull P' X.ps
  subst eP
  have supS : ∀ v ∈ (rows.map ent).map f, Sup wd v := fun v hv => by
    obtain ⟨t, _, rfl⟩ := List.mem_map.mp hv
    exact fun j hj => hf0 _ j hj
  have keyw : ∀ q ∈ F, q.1 < wd := fun q hq => by
    have l := X.sp.ech.ld q hq
    have sp := inq_sup supS (X.sp.sub q.2 (List.mem_map.mpr ⟨q, hq, rfl⟩))
    refine Classical.byContradiction fun n => ?_
    exact l.1 (sp q.1 (by omega))
  -- a vector of the span of these, back
  have hback : ∀ v, InQ ((rows.map ent).map f) v → ∃ y, InQ (rows.map ent) y ∧ v = f y := by
    rintro v ⟨N, n0, hc⟩
    have key : ∀ {S : List Fun} {v : Fun}, Comb (S.map f) v → ∃ y, Comb S y ∧ v = f y := by
      intro S
      induction S with
      | nil => intro v h; cases h; exact ⟨_, .nil, hfl.zero.symm⟩
      | cons b S ih =>
        intro v h
        cases h with
        | cons k h =>
          obtain ⟨y, hy, e⟩ := ih h
          refine ⟨_, .cons k hy, ?_⟩
          rw [hfl.add (fun j => k * b j) y, hfl.smul, e]
    obtain ⟨y, hy, e⟩ := key hc
    -- N v = f y: v itself comes from the places back
    refine ⟨fun c => if h : c < wd then v ((hsur c h).choose) else 0, ⟨N, n0, comb_ext hy fun c => ?_⟩, funext fun j => ?_⟩
    · by_cases h : c < wd
      · simp only [h, dif_pos]
        have k := (hsur c h).choose_spec
        have e1 := congrFun e (hsur c h).choose
        rw [hf y _ k.1, k.2] at e1
        exact e1.symm
      · simp only [h, dif_neg, not_false_eq_true, Int.mul_zero]
        exact inq_sup (n := wd) (fun s hs2 => by
          obtain ⟨r, hr, rfl⟩ := List.mem_map.mp hs2
          exact fun j hj => ent_out (by rw [hl r hr]; exact hj)) (inq_comb hy) c (by omega)
    · by_cases h : j < wd
      · rw [hf _ j h]
        have h2 := hsw j h
        simp only [h2, dif_pos]
        have k := (hsur (s j) h2).choose_spec
        rw [hsi _ _ k.1 h k.2]
      · rw [hf0 _ j (by omega)]
        have e1 := congrFun e j
        rw [hf0 y j (by omega)] at e1
        exact (Int.mul_eq_zero.mp e1).resolve_left n0
  have perm : ((F.map (·.1)).map s).Perm (R.map (·.1) ++ Q) := by
    refine perm_of_mem ?_ ?_ fun x => ⟨fun h => ?_, fun h => ?_⟩
    · refine List.pairwise_map.mpr (List.Pairwise.imp_of_mem (fun {a b} ha hb h z => h ?_) X.sp.ech.nd)
      obtain ⟨qa, h1, rfl⟩ := List.mem_map.mp ha
      obtain ⟨qb, h2, rfl⟩ := List.mem_map.mp hb
      exact hsi _ _ (keyw qa h1) (keyw qb h2) z
    · rw [List.nodup_append]
      refine ⟨G.nd, hQn, fun a ha b hb e => ?_⟩
      obtain ⟨r, hr, rfl⟩ := List.mem_map.mp ha
      have := hRQ r hr b hb
      rw [← e] at this
      have := G.pos r hr
      omega
    · obtain ⟨i, hi, rfl⟩ := List.mem_map.mp h
      obtain ⟨q, hq, rfl⟩ := List.mem_map.mp hi
      have hiw := keyw q hq
      by_cases c : s q.1 ∈ Q
      · exact List.mem_append_right _ c
      · refine List.mem_append_left _ ?_
        obtain ⟨y, hy, ey⟩ := hback q.2 (X.sp.sub q.2 (List.mem_map.mpr ⟨q, hq, rfl⟩))
        have l := X.sp.ech.ld q hq
        rw [ey] at l
        have nq : ¬ q.1 < Q.length := fun z => c ((hsQ q.1 hiw).mp z)
        have yz : ∀ j, j < wd → j < q.1 → y (s j) = 0 := fun j hj hlt => by
          have := l.2 j hlt
          rwa [hf y j hj] at this
        have yQ : ∀ c ∈ Q, y c = 0 := fun c hc => by
          obtain ⟨j, hj, e⟩ := hsur c (hQw c hc)
          rw [← e]
          refine yz j hj ?_
          have := (hsQ j hj).mpr (e ▸ hc)
          omega
        have lead : Lead y (s q.1) := ⟨by have := l.1; rwa [hf y _ hiw] at this, fun c hc => by
          have hcw : c < wd := by have := hsw q.1 hiw; omega
          by_cases cq : c ∈ Q
          · exact yQ c cq
          · obtain ⟨j, hj, e⟩ := hsur c hcw
            rw [← e]
            exact yz j hj (hup j q.1 hj hiw (e ▸ cq) (by assumption) (by omega))⟩
        have := inq_lead G.isE (by rw [echOf_snd]; exact hker y hy yQ) lead
        rwa [echOf_fst] at this
    · have hin : ∀ y c, InQ (rows.map ent) y → c < wd → y c ≠ 0 → (∀ j, j < wd → s j ≠ c → (∀ i, i < wd → s i = c → j < i) → y (s j) = 0) → c ∈ (F.map (·.1)).map s := fun y c hy hc h0 hz => by
        obtain ⟨i, hi, e⟩ := hsur c hc
        have := inq_lead X.sp.ech (v := f y) (c := i) (inq_trans (inq_lin hfl hy) X.sp.sup) ⟨by rw [hf y i hi, e]; exact h0, fun j hj => by
          have hjw : j < wd := by omega
          rw [hf y j hjw]
          refine hz j hjw (fun z => ?_) fun i' hi' e' => ?_
          · have := hsi j i hjw hi (z.trans e.symm)
            omega
          · have := hsi i' i hi' hi (e'.trans e.symm)
            omega⟩
        exact List.mem_map.mpr ⟨i, this, e⟩
      rcases List.mem_append.mp h with h | h
      · obtain ⟨r, hr, rfl⟩ := List.mem_map.mp h
        have hrw := (G.len r hr).2
        obtain ⟨_, l1, l2⟩ := piv_some (G.pv r hr)
        refine hin (ent r.2) r.1 (h1 _ (List.mem_map.mpr ⟨r, hr, rfl⟩)) hrw l1 fun j hj hne hlt => ?_
        by_cases cq : s j ∈ Q
        · exact hRQ r hr _ cq
        · refine l2 (s j) (Nat.lt_of_le_of_ne (Nat.le_of_not_lt fun z => ?_) hne)
          obtain ⟨i, hi, e⟩ := hsur r.1 hrw
          have hiq : s i ∉ Q := fun z2 => by
            have := hRQ r hr _ z2
            rw [e] at this
            exact l1 this
          have h3 := hup i j hi hj hiq cq (by rw [e]; exact z)
          have h4 := hlt i hi e
          omega
      · obtain ⟨y, hy, h0, hz⟩ := hQ x h
        refine hin y x hy (hQw x h) h0 fun j hj hne hlt => ?_
        obtain ⟨i, hi, e⟩ := hsur x (hQw x h)
        have h4 := hlt i hi e
        have h5 := (hsQ i hi).mpr (e ▸ h)
        exact hz _ ((hsQ j hj).mp (by omega)) hne
  have hPl : P.length = R.length + Q.length := by
    have h3 := X.len
    rw [List.length_map] at h3
    have := perm.length_eq
    rw [List.length_map, List.length_map, List.length_append, List.length_map] at this
    omega
  have hab := perm_abs perm (minor P) (swap_minor P)
  have hD0 : 0 < (minor P (R.map (·.1) ++ Q)).natAbs := by
    have := X.nz
    rw [minor_to (s := s) (w := wd) P (fun p _ j hj => hf p j hj) _ fun c hc => by
      obtain ⟨q, hq, rfl⟩ := List.mem_map.mp hc
      exact keyw q hq] at this
    omega
  have hpb : ∀ p ∈ P, ∀ j, (p j).natAbs ≤ B := fun p hp j => by
    obtain ⟨r, hr, e⟩ := List.mem_map.mp (ps p hp)
    subst e
    exact hB r hr j
  have hK : (R.map (·.1) ++ Q).length ≤ wd := by
    have h3 := perm.length_eq
    rw [← h3]
    have := nd_le _ (List.range wd) (perm.nodup_iff.mpr (by
      rw [List.nodup_append]
      refine ⟨G.nd, hQn, fun a ha b hb e => ?_⟩
      obtain ⟨r, hr, rfl⟩ := List.mem_map.mp ha
      have := hRQ r hr b hb
      rw [← e] at this
      have := G.pos r hr
      omega)) fun x hx => by
        obtain ⟨i, hi, rfl⟩ := List.mem_map.mp hx
        obtain ⟨q, hq, rfl⟩ := List.mem_map.mp hi
        exact List.mem_range.mpr (hsw _ (keyw q hq))
    rwa [List.length_range] at this
  have bd : ∀ C : List Nat, C.length ≤ wd → (minor P C).natAbs < 2 ^ e := fun C hC => Nat.lt_of_le_of_lt (minor_bd P hpb C hC) (by rw [hPl]; exact he)
  refine ⟨((minor P (R.map (·.1) ++ Q)).natAbs : Nat), { len := G.len, nd := G.nd, pv := G.pv, pos := G.pos, zero := G.zero, dpos := by omega, dlt := by rw [Int.natAbs_natCast]; exact bd _ hK, mul := fun q hq => ?_ }⟩
  obtain ⟨RA, RB, hR⟩ := List.append_of_mem hq
  have hkeys : R.map (·.1) ++ Q = RA.map (·.1) ++ q.1 :: (RB.map (·.1) ++ Q) := by rw [hR, List.map_append, List.map_cons, List.append_assoc]; rfl
  have hfr := swap_front (RA.map (·.1)) (minor P) (swap_minor P) q.1 (RB.map (·.1) ++ Q)
  rw [← hkeys] at hfr
  have hlen : (RA.map (·.1) ++ (RB.map (·.1) ++ Q)).length + 1 ≤ wd := by
    have := hK
    rw [hkeys, List.length_append, List.length_cons] at this
    rw [List.length_append]
    omega
  have hw0 : InQ (rows.map ent) fun j => minor P (j :: (RA.map (·.1) ++ (RB.map (·.1) ++ Q))) := comb_inq (minor_comb P _) fun p hp => inq_mem (ps p hp)
  have hw : InQ (rws R) fun j => minor P (j :: (RA.map (·.1) ++ (RB.map (·.1) ++ Q))) := hker _ hw0 fun c hc => swap_rep (swap_minor P) (List.mem_append_right _ (List.mem_append_right _ hc))
  have hz : ∀ t ∈ R, t.1 ≠ q.1 → minor P (t.1 :: (RA.map (·.1) ++ (RB.map (·.1) ++ Q))) = 0 := fun t ht hne => by
    refine swap_rep (swap_minor P) ?_
    have : t.1 ∈ R.map (·.1) ++ Q := List.mem_append_left _ (List.mem_map.mpr ⟨t, ht, rfl⟩)
    rw [hkeys] at this
    rcases List.mem_append.mp this with y | y
    · exact List.mem_append_left _ y
    · rcases List.mem_cons.mp y with y | y
      · exact absurd y hne
      · exact List.mem_append_right _ y
  have key := only_row G hw hq hz
  have up := G.pos q hq
  have keyA : ∀ j, (ent q.2 q.1).natAbs * (minor P (j :: (RA.map (·.1) ++ (RB.map (·.1) ++ Q)))).natAbs = (minor P (R.map (·.1) ++ Q)).natAbs * (ent q.2 j).natAbs := fun j => by
    rw [hfr, ← Int.natAbs_mul, ← Int.natAbs_mul, key j]
  have hdv : (ent q.2 q.1).natAbs ∣ (minor P (R.map (·.1) ++ Q)).natAbs := prm_dvd (by omega) (hP q hq) fun j => ⟨_, (keyA j).symm⟩
  obtain ⟨m, hm⟩ := hdv
  have m0 : 0 < m := Nat.pos_of_ne_zero fun z => by rw [z, Nat.mul_zero] at hm; omega
  refine ⟨(m : Int), by omega, ?_, fun j => ?_⟩
  · have e1 : ((ent q.2 q.1).natAbs : Int) = ent q.2 q.1 := by omega
    rw [hm, Int.natCast_mul, e1, Int.mul_comm]
  · rw [Int.natAbs_mul, Int.natAbs_natCast]
    have e2 : m * (ent q.2 j).natAbs = (minor P (j :: (RA.map (·.1) ++ (RB.map (·.1) ++ Q)))).natAbs := by
      refine Nat.eq_of_mul_eq_mul_left (show 0 < (ent q.2 q.1).natAbs by omega) ?_
      rw [keyA j, hm, Nat.mul_assoc]
    rw [e2]
    exact bd _ (by rw [List.length_cons]; exact hlen)
end
end Sp

/-! part SpC -/
/-! The dual of a list of rows: as the program makes it, by reversed rows. -/
namespace Sp
theorem ent_rev {v : List Int} {j : Nat} : ent v.reverse j = if j < v.length then ent v (v.length - 1 - j) else 0 := by
  by_cases c : j < v.length
  · rw [if_pos c]
    unfold ent
    rw [List.getD_eq_getElem?_getD, List.getD_eq_getElem?_getD, List.getElem?_reverse c]
  · rw [if_neg c]
    exact ent_out (by rw [List.length_reverse]; omega)
theorem filt2 (p : Nat → Bool) : ∀ l : List Nat, (l.filter fun j => !p j).length + (l.filter p).length = l.length
  | [] => rfl
  | j :: l => by
    have ih := filt2 p l
    by_cases c : p j = true
    · rw [List.filter_cons_of_neg (by simp [c]), List.filter_cons_of_pos c, List.length_cons, List.length_cons]
      omega
    · rw [List.filter_cons_of_pos (by simp [c]), List.filter_cons_of_neg c, List.length_cons, List.length_cons]
      omega
def rvF (w : Nat) (x : Fun) : Fun := fun j => if j < w then x (w - 1 - j) else 0
theorem ent_rvF {v : List Int} {w : Nat} (h : v.length = w) : ent v.reverse = rvF w (ent v) := funext fun j => by rw [ent_rev, h]; rfl
theorem rv_sup {w : Nat} {x : Fun} : Sup w (rvF w x) := fun j hj => if_neg (by omega)
theorem rv_rv {w : Nat} {x : Fun} (h : Sup w x) : rvF w (rvF w x) = x := funext fun j => by
  unfold rvF
  by_cases c : j < w
  · rw [if_pos c, if_pos (by omega)]
    congr 1
    omega
  · rw [if_neg c, h j (by omega)]
theorem lin_rv {w : Nat} : Lin (rvF w) := ⟨fun u v => funext fun j => by unfold rvF; by_cases c : j < w <;> simp [c], fun k u => funext fun j => by unfold rvF; by_cases c : j < w <;> simp [c]⟩
theorem dot_congr : ∀ {n : Nat} {x y x' y' : Fun}, (∀ j, j < n → x j * y j = x' j * y' j) → dot n x y = dot n x' y'
  | 0, _, _, _, _, _ => rfl
  | n + 1, x, y, x', y', h => by
    show dot n x y + x n * y n = dot n x' y' + x' n * y' n
    rw [dot_congr (fun j hj => h j (by omega)), h n (by omega)]
theorem dot_front : ∀ {n : Nat} {x y : Fun}, dot (n + 1) x y = x 0 * y 0 + dot n (fun j => x (j + 1)) (fun j => y (j + 1))
  | 0, x, y => by show 0 + x 0 * y 0 = x 0 * y 0 + 0; omega
  | n + 1, x, y => by
    show dot (n + 1) x y + x (n + 1) * y (n + 1) = x 0 * y 0 + (dot n (fun j => x (j + 1)) (fun j => y (j + 1)) + x (n + 1) * y (n + 1))
    rw [dot_front]
    omega
theorem dot_rv : ∀ {n : Nat} {x y : Fun}, dot n (rvF n x) (rvF n y) = dot n x y
  | 0, _, _ => rfl
  | n + 1, x, y => by
    rw [dot_front (x := x)]
    show dot n (rvF (n + 1) x) (rvF (n + 1) y) + rvF (n + 1) x n * rvF (n + 1) y n = _
    rw [dot_congr (x' := rvF n fun j => x (j + 1)) (y' := rvF n fun j => y (j + 1)) (fun j hj => by
      unfold rvF
      rw [if_pos (by omega), if_pos (by omega), if_pos hj, if_pos hj]
      have : n + 1 - 1 - j = n - 1 - j + 1 := by omega
      rw [this]), dot_rv]
    unfold rvF
    rw [if_pos (by omega), if_pos (by omega)]
    have : n + 1 - 1 - n = 0 := by omega
    rw [this]
    omega
theorem rv_inq {w : Nat} {S : List Fun} {x : Fun} (h : InQ S x) : InQ (S.map (rvF w)) (rvF w x) := inq_lin lin_rv h
theorem ent_sup {v : List Int} {w : Nat} (h : v.length = w) : Sup w (ent v) := fun j hj => ent_out (by omega)
theorem revs_map {w : Nat} {b : List (List Int)} (h : ∀ v ∈ b, v.length = w) : (b.map List.reverse).map ent = (b.map ent).map (rvF w) := by
  rw [List.map_map, List.map_map]
  exact List.map_congr_left fun v hv => ent_rvF (h v hv)
theorem rv_back {w : Nat} {S : List Fun} {x : Fun} (hS : ∀ s ∈ S, Sup w s) (hx : Sup w x) : InQ (S.map (rvF w)) (rvF w x) ↔ InQ S x := by
  constructor
  · intro h
    have h2 := rv_inq (w := w) h
    rw [rv_rv hx, List.map_map] at h2
    have e : S.map (rvF w ∘ rvF w) = S := by
      conv => rhs; rw [← List.map_id S]
      exact List.map_congr_left fun s hs => rv_rv (hS s hs)
    rwa [e] at h2
  · exact rv_inq
/-! ### the rows of the dual -/
def cRow (R : Rows) (w f : Nat) : Nat × List Int := (w - 1 - f, (sol R f w).reverse)
def cRows (R : Rows) (w : Nat) : Rows := (free R w).reverse.map (cRow R w)
def dualR (R : Rows) (w : Nat) : List (List Int) := (free R w).reverse.map fun f => (sol R f w).reverse
theorem cRows_snd {R : Rows} {w : Nat} : (cRows R w).map (·.2) = dualR R w := by unfold cRows dualR; rw [List.map_map]; rfl
theorem mem_cRows {R : Rows} {w : Nat} {q : Nat × List Int} (h : q ∈ cRows R w) : ∃ f, f ∈ free R w ∧ q = cRow R w f := by
  obtain ⟨f, hf, e⟩ := List.mem_map.mp h
  exact ⟨f, List.mem_reverse.mp hf, e.symm⟩
theorem crow_ent {R : Rows} {w f j : Nat} : ent (cRow R w f).2 j = if j < w then ent (sol R f w) (w - 1 - j) else 0 := by
  show ent (sol R f w).reverse j = _
  rw [ent_rev, sol_len]
theorem free_lt {R : Rows} {w : Nat} : (free R w).Pairwise (· < ·) := List.Pairwise.filter _ List.pairwise_lt_range
section
variable {wd d : Nat} {R : Rows} {D : Int}
theorem Good.sol_above (G : Good wd R D d) {f j : Nat} (hf : f ∈ free R wd) (h : f < j) : ent (sol R f wd) j = 0 := by
  have hf2 := mem_free.mp hf
  rw [sol_ent]
  by_cases c : j < wd
  · rw [if_pos c]
    by_cases hm : j ∈ R.map (·.1)
    · obtain ⟨r, hr, rfl⟩ := List.mem_map.mp hm
      have h3 := G.solAt_piv hr hf2.2
      obtain ⟨_, _, l⟩ := piv_some (G.pv r hr)
      rw [l f h] at h3
      have := G.pos r hr
      have h4 : solAt R f r.1 * ent r.2 r.1 = 0 := by rw [h3]; exact (by rw [Int.neg_zero, Int.zero_mul])
      exact (Int.mul_eq_zero.mp h4).resolve_right (by omega)
    · exact solAt_free (by omega) hm
  · rw [if_neg c]
theorem Good.crows (G : Good wd R D d) : Good wd (cRows R wd) D d where
  len := fun q hq => by
    obtain ⟨f, hf, rfl⟩ := mem_cRows hq
    have := (mem_free.mp hf).1
    exact ⟨by show (sol R f wd).reverse.length = wd; rw [List.length_reverse, sol_len], by show wd - 1 - f < wd; omega⟩
  nd := by
    unfold cRows
    rw [List.map_map]
    refine List.pairwise_map.mpr (List.Pairwise.imp_of_mem (fun {a b} ha hb h z => ?_) (List.pairwise_reverse.mpr (List.Pairwise.imp (S := fun a b => b ≠ a) (fun {a b} h => by omega) free_lt)))
    have h1 := (mem_free.mp (List.mem_reverse.mp ha)).1
    have h2 := (mem_free.mp (List.mem_reverse.mp hb)).1
    have z : wd - 1 - a = wd - 1 - b := z
    exact h (by omega)
  pv := fun q hq => by
    obtain ⟨f, hf, rfl⟩ := mem_cRows hq
    have hf2 := mem_free.mp hf
    obtain ⟨t, t0, s0, e⟩ := G.scl_D (f := f)
    refine piv_at _ (wd - 1 - f) (fun j hj => ?_) (by show wd - 1 - f < (sol R f wd).reverse.length; rw [List.length_reverse, sol_len]; omega) ?_
    · rw [crow_ent, if_pos (by omega)]
      exact G.sol_above hf (by omega)
    · rw [crow_ent, if_pos (by omega), show wd - 1 - (wd - 1 - f) = f by omega, sol_ent, if_pos hf2.1, solAt_f]
      omega
  pos := fun q hq => by
    obtain ⟨f, hf, rfl⟩ := mem_cRows hq
    have hf2 := mem_free.mp hf
    obtain ⟨t, t0, s0, e⟩ := G.scl_D (f := f)
    show 0 < ent (cRow R wd f).2 (wd - 1 - f)
    rw [crow_ent, if_pos (by omega), show wd - 1 - (wd - 1 - f) = f by omega, sol_ent, if_pos hf2.1, solAt_f]
    exact s0
  zero := fun q hq r hr hne => by
    obtain ⟨f, hf, rfl⟩ := mem_cRows hq
    obtain ⟨g, hg, rfl⟩ := mem_cRows hr
    have hf2 := mem_free.mp hf
    have hg2 := mem_free.mp hg
    have hne : wd - 1 - f ≠ wd - 1 - g := hne
    show ent (cRow R wd f).2 (wd - 1 - g) = 0
    rw [crow_ent, if_pos (by omega), show wd - 1 - (wd - 1 - g) = g by omega, sol_ent, if_pos hg2.1]
    exact solAt_free (by omega) hg2.2
  dpos := G.dpos
  dlt := G.dlt
  mul := fun q hq => by
    obtain ⟨f, hf, rfl⟩ := mem_cRows hq
    have hf2 := mem_free.mp hf
    obtain ⟨t, t0, e, hb⟩ := G.sol_mul hf2.2 hf2.1
    refine ⟨t, t0, ?_, fun j => ?_⟩
    · show t * ent (cRow R wd f).2 (wd - 1 - f) = D
      rw [crow_ent, if_pos (by omega), show wd - 1 - (wd - 1 - f) = f by omega]
      exact e
    · rw [crow_ent]
      by_cases c : j < wd
      · rw [if_pos c]; exact hb _
      · rw [if_neg c, Int.mul_zero]; exact Nat.pow_pos (by decide)
theorem Good.cprm (G : Good wd R D d) : PrmR (cRows R wd) := fun q hq => by
  obtain ⟨f, hf, rfl⟩ := mem_cRows hq
  have hf2 := mem_free.mp hf
  intro g hg
  refine G.sol_prm hf2.2 hf2.1 g fun j => ?_
  by_cases c : j < wd
  · have := hg (wd - 1 - j)
    rwa [crow_ent, if_pos (by omega), show wd - 1 - (wd - 1 - j) = j by omega] at this
  · rw [sol_ent, if_neg c]
    exact Int.dvd_zero _
theorem Good.csrt (G : Good wd R D d) : srtR (cRows R wd) = cRows R wd := by
  have hk : ((cRows R wd).map fun q => (q.1 : Int)) = keysUp (cRows R wd) := keysUp_same (List.Perm.refl _) (by
    unfold cRows
    rw [List.map_map]
    refine List.pairwise_map.mpr (List.Pairwise.imp_of_mem (fun {a b} ha hb h => ?_) (List.pairwise_reverse.mpr (List.Pairwise.imp (S := fun a b => a < b) (fun {a b} h => h) free_lt)))
    have h1 := (mem_free.mp (List.mem_reverse.mp ha)).1
    have h2 := (mem_free.mp (List.mem_reverse.mp hb)).1
    show ((wd - 1 - a : Nat) : Int) ≤ ((wd - 1 - b : Nat) : Int)
    omega)
  unfold srtR
  rw [← hk, List.map_map]
  conv => rhs; rw [← List.map_id (cRows R wd)]
  refine List.map_congr_left fun q hq => ?_
  show (((q.1 : Int)).toNat, rowAt (cRows R wd) ((q.1 : Int)).toNat) = q
  rw [Int.toNat_natCast, rowAt_mem G.crows.nd (show (q.1, q.2) ∈ cRows R wd from hq)]
theorem free_len (G : Good wd R D d) : (free R wd).length + R.length = wd := by
  have h1 : ((List.range wd).filter fun j => !decide (j ∈ R.map (·.1))).length + ((List.range wd).filter fun j => decide (j ∈ R.map (·.1))).length = wd := by
    have := filt2 (fun j => decide (j ∈ R.map (·.1))) (List.range wd)
    rw [List.length_range] at this
    exact this
  have h2 : ((List.range wd).filter fun j => decide (j ∈ R.map (·.1))).Perm (R.map (·.1)) := perm_of_mem (List.Nodup.sublist List.filter_sublist List.nodup_range) G.nd fun x => by
    rw [List.mem_filter, List.mem_range]
    constructor
    · intro h; exact of_decide_eq_true h.2
    · intro h
      obtain ⟨r, hr, rfl⟩ := List.mem_map.mp h
      exact ⟨(G.len r hr).2, decide_eq_true h⟩
  have := h2.length_eq
  rw [List.length_map] at this
  unfold free
  omega
theorem dualR_len (G : Good wd R D d) : (dualR R wd).length + R.length = wd := by
  unfold dualR
  rw [List.length_map, List.length_reverse]
  exact free_len G
theorem dualR_wid {v : List Int} (h : v ∈ dualR R wd) : v.length = wd := by
  obtain ⟨f, hf, rfl⟩ := List.mem_map.mp h
  rw [List.length_reverse, sol_len]
/-- R: a reduced system of the reversed rows b -/
structure Rev (wd : Nat) (b : List (List Int)) (R : Rows) : Prop where
  len : ∀ v ∈ b, v.length = wd
  sub : ∀ r ∈ rws R, InQ ((b.map List.reverse).map ent) r
  sup : ∀ s ∈ (b.map List.reverse).map ent, InQ (rws R) s
/-- the dual's rows span what is orthogonal to b -/
theorem Good.dualR_iff (G : Good wd R D d) {b : List (List Int)} (V : Rev wd b R) {x : Fun} (sx : Sup wd x) : InQ ((dualR R wd).map ent) x ↔ ∀ v ∈ b, dot wd (ent v) x = 0 := by
  have e : (dualR R wd).map ent = ((free R wd).reverse.map fun f => ent (sol R f wd)).map (rvF wd) := by
    unfold dualR
    rw [List.map_map, List.map_map]
    exact List.map_congr_left fun f _ => ent_rvF sol_len
  have ss : ∀ s ∈ (free R wd).reverse.map fun f => ent (sol R f wd), Sup wd s := fun s hs => by
    obtain ⟨f, _, rfl⟩ := List.mem_map.mp hs
    exact ent_sup sol_len
  have h1 : InQ ((dualR R wd).map ent) x ↔ InQ (sols R wd) (rvF wd x) := by
    rw [e]
    conv => lhs; rw [← rv_rv sx]
    rw [rv_back ss rv_sup]
    exact ⟨inq_mono fun s hs => by
      obtain ⟨f, hf, e⟩ := List.mem_map.mp hs
      exact List.mem_map.mpr ⟨f, List.mem_reverse.mp hf, e⟩, inq_mono fun s hs => by
      obtain ⟨f, hf, e⟩ := List.mem_map.mp hs
      exact List.mem_map.mpr ⟨f, List.mem_reverse.mpr hf, e⟩⟩
  rw [h1, G.dual rv_sup]
  constructor
  · intro h v hv
    have h2 : dot wd (rvF wd x) (ent v.reverse) = 0 := dot_inq (fun s hs => by
      obtain ⟨r, hr, rfl⟩ := List.mem_map.mp hs
      rw [dot_comm]
      exact h r hr) (V.sup _ (List.mem_map.mpr ⟨_, List.mem_map.mpr ⟨v, hv, rfl⟩, rfl⟩))
    rw [ent_rvF (V.len v hv), dot_rv, dot_comm] at h2
    exact h2
  · intro h r hr
    rw [dot_comm]
    refine dot_inq (fun s hs => ?_) (V.sub _ (List.mem_map.mpr ⟨r, hr, rfl⟩))
    obtain ⟨u, hu, rfl⟩ := List.mem_map.mp hs
    obtain ⟨v, hv, rfl⟩ := List.mem_map.mp hu
    rw [ent_rvF (V.len v hv), dot_rv, dot_comm]
    exact h v hv
/-- b spans what is orthogonal to the dual's rows -/
theorem Good.dualR_dual (G : Good wd R D d) {b : List (List Int)} (V : Rev wd b R) {x : Fun} (sx : Sup wd x) : InQ (b.map ent) x ↔ ∀ c ∈ dualR R wd, dot wd (ent c) x = 0 := by
  have sb : ∀ s ∈ b.map ent, Sup wd s := fun s hs => by
    obtain ⟨v, hv, rfl⟩ := List.mem_map.mp hs
    exact ent_sup (V.len v hv)
  have h1 : InQ (b.map ent) x ↔ InQ (rws R) (rvF wd x) := by
    rw [← rv_back sb sx, ← revs_map V.len]
    exact ⟨fun h => inq_trans h V.sup, fun h => inq_trans h V.sub⟩
  rw [h1, G.dual_dual rv_sup]
  constructor
  · intro h c hc
    obtain ⟨f, hf, rfl⟩ := List.mem_map.mp hc
    have := h f (List.mem_reverse.mp hf)
    rw [ent_rvF sol_len]
    conv => lhs; rw [← rv_rv sx]
    rw [dot_rv]
    exact this
  · intro h f hf
    have := h _ (List.mem_map.mpr ⟨f, List.mem_reverse.mpr hf, rfl⟩)
    rw [ent_rvF sol_len] at this
    conv at this => lhs; rw [← rv_rv sx]
    rwa [dot_rv] at this
end
end Sp

/-! part KT -/
/-! The text by its places; what the top has left of names. -/
namespace Tx
open PySem PySem.Spec PyProof.Rows L2 Evl Jb
def top (i : Nat) : Stmt := PySem.Challenge.pw_retrysafe_k03_sums_meets_and_duals.main.body.getD i (.Pass ⟨0, 0, 0, 0⟩)
abbrev s_pivot : Stmt := top 3
abbrev s_primitive : Stmt := top 4
abbrev s_by_pivots : Stmt := top 5
abbrev s_remainder : Stmt := top 6
abbrev s_cleared : Stmt := top 7
abbrev s_reduced : Stmt := top 8
abbrev s_is_int : Stmt := top 18
abbrev s_is_vector : Stmt := top 19
abbrev s_check_vectors : Stmt := top 22
abbrev s_check_operands : Stmt := top 23
/-- built-ins that the text calls, and names of math -/
structure Bt (mg : Str → Option Value) : Prop where
  isinstance : mg "isinstance" = none
  len : mg "len" = none
  all : mg "all" = none
  sorted : mg "sorted" = none
  tuple : mg "tuple" = none
  zip : mg "zip" = none
  enumerate : mg "enumerate" = none
  int : mg "int" = none
  bool : mg "bool" = none
  list : mg "list" = none
  range : mg "range" = none
  abs : mg "abs" = none
  repr : mg "repr" = none
  max : mg "max" = none
  min : mg "min" = none
  gcd : mg "gcd" = some (.builtin "math.gcd")
  lcm : mg "lcm" = some (.builtin "math.lcm")
theorem boot_isi : bootBuiltins "isinstance" = some (.builtin "isinstance") := by decide +kernel
theorem boot_ti : bootBuiltins "int" = some (.type "int") := by decide +kernel
theorem boot_tb : bootBuiltins "bool" = some (.type "bool") := by decide +kernel
theorem boot_tt : bootBuiltins "tuple" = some (.type "tuple") := by decide +kernel
theorem boot_tl : bootBuiltins "list" = some (.type "list") := by decide +kernel
theorem boot_le : bootBuiltins "len" = some (.builtin "len") := by decide +kernel
theorem boot_al : bootBuiltins "all" = some (.builtin "all") := by decide +kernel
theorem boot_so : bootBuiltins "sorted" = some (.builtin "sorted") := by decide +kernel
end Tx

/-! part K1 -/
namespace Tx
open PySem PySem.Spec PyProof.Rows L2 Evl Jb
section
variable {P : Program} {w : World} {K : PySem.W.Frag} {mg : Str → Option Value} {base : Heap}
/-- a def's promise, as its callers see it, from its body -/
theorem cl_mk {x : Str} {st : Stmt} {N ps : List Str} {k : Nat} {sp : Sp} (F : Fd K mg x st ps) (S : FnScope N ps (defScope st)) (len : ∀ vs H Q E, sp vs H Q E → vs.length = ps.length)
    (hbody : ∀ (f : Addr) (cdv : Value) (A : Around) (outer : List Env) (s : Shared) (H : Hp) (vs : List V) (Q : VK) (E : XK), Room k (A.deeper (envOfC x (defScope st) s.heap.objs.size f cdv)) → sp vs H Q E →
      ∃ t, PSs (cxOf CX0 P w K mg base N x (defScope st) f cdv A outer s H E).nox (defBody st) t ∧ t { nx := fun _ H' => Q .non H', rt := Q } (start N vs) H) : Cl P w K mg base (k + 1) x ps sp := by
  obtain ⟨f, fd, F, hm, hb⟩ := F
  exact ⟨f, fd, F.ok S len (fun cdv A outer s H vs Q E hr h => hbody f cdv A outer s H vs Q E hr h), hm, F.kp, hb⟩
/-- pivot(vector) -/
def spPivot (K : PySem.W.Frag) : Sp := fun vs H Q _ => ∃ a ns, vs = [.ref a] ∧ SqT K H a (iVs ns) ∧ ∀ H', Ex H H' → Q (match Sp.piv ns with | some i => .int (i : Nat) | none => .non) H'
theorem sc_pivot : FnScope ["vector", "at", "entry"] ["vector"] (defScope s_pivot) := ⟨rfl, rfl, rfl, by decide +kernel, rfl, by decide +kernel, by decide +kernel⟩
theorem ok_pivot (B : Bt mg) (F : Fd K mg "pivot" s_pivot ["vector"]) : Cl P w K mg base 1 "pivot" ["vector"] (spPivot K) := by
  refine cl_mk F sc_pivot (fun vs H Q E ⟨a, ns, e, _⟩ => by rw [e] <;> rfl) fun f cdv A outer s H vs Q E hr ⟨a, ns, ev, hS, q⟩ => ?_
  subst ev
  refine ⟨_, pss_cons (ps_for PassesOwn.never rfl (piE false (by rfl) B.enumerate (pa_cons (pv 0) pa_nil)) (pg_tup rfl (pgs_cons (pg_name (i := 1) sc_pivot.nd rfl (Or.inl rfl)) (pgs_cons (pg_name (i := 2) sc_pivot.nd rfl (Or.inl rfl)) pgs_nil)))
    (pss_one (ps_if (pt_cmpR op_ne (pv 2) pe_int (nomark _)) (pss_one (ps_ret (pv 1))) pss_nil))) (pss_one (ps_ret pe_non)), ?_⟩
  refine ⟨_, rfl, a, iVs ns, rfl, hS, for_it walkE (fun i σ H' => (∃ u v, σ = [some (.ref a), u, v]) ∧ Ex H H' ∧ ∀ j, j < i → Sp.ent ns j = 0) ⟨⟨none, none, rfl⟩, Ex.refl H, fun j hj => absurd hj (Nat.not_lt_zero j)⟩ (fun i σ H' _ p => ex_t p.2.1 hS) ?_ ?_⟩
  · rintro i x σ H1 H2 hi ⟨⟨u, v, rfl⟩, e1, hz⟩ y
    have hi' : i < ns.length := by rw [← iVs_len ns]; exact hi
    obtain ⟨e2, py⟩ := ypair_at y
    refine g_pair py fun u v hu hv => ?_
    obtain rfl : V.int (i : Nat) = u := Option.some.inj hu
    obtain rfl : V.int (Sp.ent ns i) = v := Option.some.inj ((iVs_ent hi').symm.trans hv)
    refine ⟨_, rfl, rfl, _, rfl, ?_⟩
    by_cases c : Sp.ent ns i = 0
    · refine iteNS (by rw [c]) ?_
      refine ⟨⟨_, _, rfl⟩, e1.trans e2, fun j hj => ?_⟩
      by_cases hji : j < i
      · exact hz j hji
      · obtain rfl : j = i := by omega
        exact c
    · have hb : decide (V.int (Sp.ent ns i) = V.int 0) = false := decide_eq_false fun z => c (V.int.inj z)
      rw [hb]
      refine iteT ⟨_, rfl, ?_⟩
      have hp := Sp.piv_at ns i hz hi' c
      have q' := q H2 (e1.trans e2)
      rw [hp] at q'
      exact q'
  · rintro σ H1 ⟨_, e1, hz⟩
    have hp := Sp.piv_none ns fun j hj => hz j (by rw [iVs_len]; exact hj)
    have q' := q H1 e1
    rw [hp] at q'
    exact q'
end
end Tx

/-! part K2 -/
namespace Tx
open PySem PySem.Spec PyProof.Rows L2 Evl Jb
section
variable {P : Program} {w : World} {K : PySem.W.Frag} {mg : Str → Option Value} {base : Heap}
/-- a tuple with these ints comes back, new or one that stood -/
def GivesT (K : PySem.W.Frag) (ns : List Int) (H : Hp) (Q : VK) : Prop := ∀ H' p, Ex H H' → SqT K H' p (iVs ns) → Q (.ref p) H'
/-- primitive(vector) -/
def spPrim (K : PySem.W.Frag) : Sp := fun vs H Q _ => ∃ a ns, vs = [.ref a] ∧ SqT K H a (iVs ns) ∧ ns.length ≤ 128 ∧ (Sp.gcdL ns).log2 < 9000 ∧ GivesT K (Sp.prim ns) H Q
theorem sc_prim : FnScope ["vector", "divisor", "entry"] ["vector"] (defScope s_primitive) := ⟨rfl, rfl, rfl, by decide +kernel, rfl, by decide +kernel, by decide +kernel⟩
theorem ok_prim (B : Bt mg) (F : Fd K mg "primitive" s_primitive ["vector"]) : Cl P w K mg base 1 "primitive" ["vector"] (spPrim K) := by
  refine cl_mk F sc_prim (fun vs H Q E ⟨a, ns, e, _⟩ => by rw [e] <;> rfl) fun f cdv A outer s H vs Q E hr ⟨a, ns, ev, hS, hl, hg, q⟩ => ?_
  subst ev
  refine ⟨_, pss_cons (ps_set (i := 1) sc_prim.nd rfl (Or.inr rfl) pe_int)
    (pss_cons (ps_for PassesOwn.never rfl (pi_tup (pv 0)) (pg_name (i := 2) sc_prim.nd rfl (Or.inl rfl))
      (pss_cons (ps_set (i := 1) sc_prim.nd rfl (Or.inr rfl) (pe_callBfun cr_gcd (by rfl) B.gcd (pa_cons (pv 1) (pa_cons (pv 2) pa_nil))))
      (pss_one (ps_if (pt_cmpR op_eq (pv 1) pe_int (nomark _)) (pss_one (ps_ret (pv 0))) pss_nil))))
    (pss_cons (ps_if (pt_cmpR op_eq (pv 1) pe_int (nomark _)) (pss_one (ps_ret (pv 0))) pss_nil)
    (pss_one (ps_ret (pe_callTy call_tuple_of (by rfl) B.tuple boot_tt (pa_cons
      (pe_lc (own := [("entry", 2)]) (g := gName 2) (tt := tYes) rfl sc_prim.nd (pi_tup (pv 0)) (blkOk_by (N := ["vector", "divisor", "entry"]) (sc := defScope s_primitive) (by decide +kernel)) (fun _ _ _ _ _ => pg_name (i := 2) sc_prim.nd rfl (Or.inl rfl)) (fun _ _ _ _ _ => pts_nil)
        (fun _ _ _ _ _ => pe_op op_fdivW (pv 2) (pv 1))) pa_nil)))))), ?_⟩
  -- the loop
  refine ⟨_, rfl, a, rfl, ⟨_, hS⟩, for_it walk_tup (fun i σ H' => (∃ u, σ = [some (.ref a), some (.int (Sp.gcdL (ns.take i) : Nat)), u]) ∧ Ex H H' ∧ (0 < i → Sp.gcdL (ns.take i) ≠ 1)) ⟨⟨none, rfl⟩, Ex.refl H, fun z => absurd z (Nat.lt_irrefl _)⟩ (fun i σ H' _ p => ex_t p.2.1 hS) ?_ ?_⟩
  · rintro i x σ H1 H2 hi ⟨⟨u, rfl⟩, e1, hn⟩ ⟨rfl, hx⟩
    obtain ⟨n, hn', rfl⟩ := iVs_get hx
    have st := Sp.gcdL_take hn'
    refine ⟨_, rfl, _, rfl, _, _, rfl, ?_⟩
    refine ⟨_, rfl, rfl, _, rfl, ?_⟩
    have e3 : ((Nat.gcd (Int.natAbs ((Sp.gcdL (ns.take i) : Nat) : Int)) n.natAbs : Nat) : Int) = (Sp.gcdL (ns.take (i + 1)) : Nat) := by rw [st] <;> rfl
    rw [e3]
    by_cases c : Sp.gcdL (ns.take (i + 1)) = 1
    · have hb : decide (V.int (Sp.gcdL (ns.take (i + 1)) : Nat) = V.int 1) = true := decide_eq_true (by rw [c] <;> rfl)
      rw [hb]
      refine iteT ⟨_, rfl, ?_⟩
      have hp : Sp.prim ns = ns := by unfold Sp.prim; rw [if_pos (.inl (Sp.gcdL_one c))]
      refine q H2 a e1 ?_
      rw [hp]
      exact ex_t e1 hS
    · have hb : decide (V.int (Sp.gcdL (ns.take (i + 1)) : Nat) = V.int 1) = false := decide_eq_false fun z => c (by have := V.int.inj z; omega)
      rw [hb]
      exact iteF ⟨⟨_, rfl⟩, e1, fun _ => c⟩
  · rintro σ H1 ⟨⟨u, rfl⟩, e1, hn⟩
    have ht : ns.take (iVs ns).length = ns := by rw [iVs_len, List.take_length]
    rw [ht] at hn ⊢
    refine ⟨_, rfl, rfl, _, rfl, ?_⟩
    by_cases c : Sp.gcdL ns = 0
    · have hb : decide (V.int (Sp.gcdL ns : Nat) = V.int 0) = true := decide_eq_true (by rw [c] <;> rfl)
      rw [hb]
      refine iteT ⟨_, rfl, ?_⟩
      have hp : Sp.prim ns = ns := by unfold Sp.prim; rw [if_pos (.inr c)]
      refine q H1 a e1 ?_
      rw [hp]
      exact ex_t e1 hS
    · have hb : decide (V.int (Sp.gcdL ns : Nat) = V.int 0) = false := decide_eq_false fun z => c (by have := V.int.inj z; omega)
      rw [hb]
      refine iteF ?_
      have c1 : Sp.gcdL ns ≠ 1 := fun z => by
        by_cases hz : 0 < (iVs ns).length
        · exact hn hz z
        · have : ns = [] := List.eq_nil_of_length_eq_zero (by rw [iVs_len] at hz; omega)
          subst this
          cases z
      have hp : Sp.prim ns = ns.map fun x => x / (Sp.gcdL ns : Int) := by unfold Sp.prim; rw [if_neg fun z => z.elim c1 c]
      have L : EvL (tLc (iTup K (tVar 0)) (gName 2) tYes (tOp (rI CDivW fun i j => .int (i / j)) (tVar 2) (tVar 1)) [2]) [some (.ref a), some (.int (Sp.gcdL ns : Nat)), u] H1 (iVs (Sp.prim ns)) := by
        have g0 := el_lcG (t := tYes) (te := tOp (rI CDivW fun i j => .int (i / j)) (tVar 2) (tVar 1)) (g := gName 2) (σ := [some (.ref a), some (.int (Sp.gcdL ns : Nat)), u]) (vs := [2]) (fun _ => true) (fun i => .int (Sp.ent ns i / (Sp.gcdL ns : Int)))
          (fun i σ2 => σ2 = [some (.ref a), some (.int (Sp.gcdL ns : Nat)), some (.int (Sp.ent ns i))]) (ei_tup (tl := tVar 0) (ev_var rfl) (ex_t e1 hS)) (by rw [iVs_len]; omega)
          (fun i x H2 hi _ hx R hR => by
            rw [iVs_len] at hi
            obtain rfl : V.int (Sp.ent ns i) = x := Option.some.inj ((iVs_ent hi).symm.trans hx)
            exact hR _ rfl rfl)
          (fun i σ2 H2 _ _ _ => fun H3 _ Q q => q H3 (Ex.refl H3))
          (fun i σ2 H2 _ hs _ _ => by
            subst hs
            exact ev_op (ev_var rfl) (ev_var rfl) (rv_I ⟨by omega, hg⟩))
        rw [given_map (xs := iVs (Sp.prim ns)) (fun _ _ => rfl) (by rw [iVs_len, iVs_len, hp, List.length_map]) (fun i x hx => by
          obtain ⟨n, hn2, rfl⟩ := iVs_get hx
          rw [hp, List.getElem?_map] at hn2
          cases e : ns[i]? with
          | none => rw [e] at hn2; cases hn2
          | some m =>
            rw [e] at hn2
            have : Sp.ent ns i = m := by unfold Sp.ent; rw [List.getD_eq_getElem?_getD, e]; rfl
            show V.int (Sp.ent ns i / (Sp.gcdL ns : Int)) = V.int n
            rw [this]
            exact congrArg V.int (Option.some.inj hn2))] at g0
        exact g0
      exact s_retU (eu_tupL (K := K) L) fun p H2 hp2 e2 hd => q H2 p (e1.trans e2) (st_of hd)
end
end Tx

/-! part K3 -/
namespace Tx
open PySem PySem.Spec PyProof.Rows L2 Evl Jb
section
variable {P : Program} {w : World} {K : PySem.W.Frag} {mg : Str → Option Value} {base : Heap}
/-- tuples of ints -/
def Refs (K : PySem.W.Frag) (H : Hp) (rows : List (List Int)) (vs : List V) : Prop := Paired (fun (r : List Int) (v : V) => ∃ a, v = .ref a ∧ SqT K H a (iVs r)) rows vs
theorem Refs.mono {H H' : Hp} {rows : List (List Int)} {vs : List V} (e : Ex H H') (h : Refs K H rows vs) : Refs K H' rows vs := paired_mono (fun _ _ ⟨a, h1, h2⟩ => ⟨a, h1, ex_t e h2⟩) h
/-- a dict of these rows is made -/
def GivesD (K : PySem.W.Frag) (R : Sp.Rows) (H : Hp) (Q : VK) : Prop := ∀ H' D kvs, H D = none → Ex H H' → H' D = some (.dK kvs) → KvR K H' R kvs → Q (.ref D) H'
def spByPiv (K : PySem.W.Frag) : Sp := fun vs H Q _ => ∃ a us R, vs = [.ref a] ∧ SqT K H a us ∧ Refs K H (R.map (·.2)) us ∧ (∀ p ∈ R, Sp.piv p.2 = some p.1) ∧ (R.map (·.1)).Nodup ∧ R.length ≤ 1000 ∧ GivesD K R H Q
theorem sc_byp : FnScope ["basis", "row"] ["basis"] (defScope s_by_pivots) := ⟨rfl, rfl, rfl, by decide +kernel, rfl, by decide +kernel, by decide +kernel⟩
theorem ok_byp (B : Bt mg) (F : Fd K mg "by_pivots" s_by_pivots ["basis"]) (Fp : Fd K mg "pivot" s_pivot ["vector"]) : Cl P w K mg base 2 "by_pivots" ["basis"] (spByPiv K) := by
  have Cp : Cl P w K mg base 1 "pivot" ["vector"] (spPivot K) := ok_pivot B Fp
  refine cl_mk F sc_byp (fun vs H Q E ⟨a, us, R, e, _⟩ => by rw [e] <;> rfl) fun f cdv A outer s H vs Q E hr ⟨a, us, R, ev, hS, hR, hp, hn, hl, q⟩ => ?_
  subst ev
  refine ⟨_, pss_one (ps_ret (pe_dc (own := [("row", 1)]) (g := gName 1) (tt := tYes) rfl sc_byp.nd (pi_tup (pv 0)) (blkOk_by (N := ["basis", "row"]) (sc := defScope s_by_pivots) (by decide +kernel)) (fun _ _ _ _ _ => pg_name (i := 1) sc_byp.nd rfl (Or.inl rfl)) (fun _ _ _ _ _ => pts_nil)
    (fun _ _ _ _ _ => pe_cl Cp hr (by rfl) (pa_cons (pv 1) pa_nil)) (fun _ _ _ _ _ => pv 1))), ?_⟩
  refine ⟨_, rfl, a, rfl, ⟨_, hS⟩, fun D hD => dc_it walk_tup (fun i H' => Ex H H' ∧ ∃ kvs, H' D = some (.dK kvs) ∧ KvR K H' (R.take i) kvs) ⟨Ex.new hD, [], upd_same, .nil⟩ (fun i H' _ p => ex_t p.1 hS) ?_ fun H' ⟨e1, kvs, hd, hk⟩ => ?_⟩
  · rintro i x H1 H2 hi ⟨e1, kvs, hd, hk⟩ ⟨rfl, hx⟩
    obtain ⟨r, hr', b, rfl, hb⟩ := paired_get hR hx
    rw [List.getElem?_map] at hr'
    cases e : R[i]? with
    | none => rw [e] at hr'; cases hr'
    | some pr =>
      rw [e] at hr'
      obtain rfl : pr.2 = r := Option.some.inj hr'
      have hil : i < R.length := (List.getElem?_eq_some_iff.mp e).1
      have hmem : pr ∈ R := List.mem_of_getElem? e
      refine ⟨rfl, ?_⟩
      refine ⟨_, rfl, b, pr.2, rfl, ex_t e1 hb, fun H3 e3 => ?_⟩
      rw [hp pr hmem]
      refine ⟨_, rfl, kvs, Sum.inl (pr.1 : Int), rfl, e3 _ _ hd, ?_, ?_⟩
      · have h1 := hk.length
        rw [List.length_take] at h1
        exact small1000 (by omega)
      · have hd3 := e3 _ _ hd
        have hns : pr.1 ∉ (R.take i).map (·.1) := fun hm => by
          obtain ⟨y, hy, ey⟩ := List.mem_map.mp hm
          obtain ⟨j, hj⟩ := List.mem_iff_getElem?.mp hy
          rw [List.getElem?_take] at hj
          split at hj
          · rename_i hji
            have a1 : (R.map (·.1))[j]? = some pr.1 := by rw [List.getElem?_map, hj, ← ey] <;> rfl
            have a2 : (R.map (·.1))[i]? = some pr.1 := by rw [List.getElem?_map, e] <;> rfl
            have := nd_ix hn a1 a2
            omega
          · cases hj
        refine ⟨Ex.mut (e1.trans e3) hD, _, upd_same, ?_⟩
        have hk3 := (hk.mono e3).put hns (ex_t (e1.trans e3) hb)
        rw [List.take_add_one, e]
        exact hk3.upd hd3
  · have hlen : R.take us.length = R := by
      have := hR.length
      rw [List.length_map] at this
      rw [← this, List.take_length]
    rw [hlen] at hk
    exact q H' D kvs hD e1 hd hk
end
end Tx

/-! part K4 -/
namespace Tx
open PySem PySem.Spec PyProof.Rows L2 Evl Jb
theorem given_filter {α : Type} {xs : List α} {f : Nat → Bool} {v : Nat → V} {p : α → Bool} {h : α → V} (hf : ∀ i x, xs[i]? = some x → f i = p x ∧ v i = h x) : given xs.length f v = (xs.filter p).map h := by
  have key : ∀ n, n ≤ xs.length → given n f v = ((xs.take n).filter p).map h := by
    intro n
    induction n with
    | zero => intro _; rfl
    | succ n ih =>
      intro hn
      have e : xs[n]? = some (xs[n]'(by omega)) := List.getElem?_eq_getElem _
      obtain ⟨h1, h2⟩ := hf n _ e
      rw [List.take_add_one, e, Option.toList_some, List.filter_append, List.map_append, ← ih (by omega)]
      cases c : f n with
      | true => rw [given_yes c, h2, List.filter_cons, if_pos (by rw [← h1]; exact c)] <;> rfl
      | false =>
        rw [given_no c, List.filter_cons, if_neg (by rw [← h1, c]; decide)]
        show _ = _ ++ []
        rw [List.append_nil]
  have := key xs.length (Nat.le_refl _)
  rwa [List.take_length] at this
/-- all numbers keep within what the machine's operations take -/
structure FitR (v : List Int) (R : Sp.Rows) : Prop where
  len : ∀ q ∈ R, q.2.length = v.length ∧ q.1 < v.length
  pos : ∀ q ∈ R, 0 < Sp.ent q.2 q.1
  nd : (R.map (·.1)).Nodup
  bv : ∀ j, (Sp.ent v j).natAbs < 2 ^ 8000
  br : ∀ q ∈ R, ∀ j, (Sp.ent q.2 j).natAbs < 2 ^ 8000
  sc : ∀ i, (((Sp.hits v R).take i).foldl (Sp.scaleStep v R) 1).natAbs < 2 ^ 12000
  sz : v.length ≤ 128
  sr : R.length ≤ 128
theorem FitR.mem {v : List Int} {R : Sp.Rows} (W : FitR v R) {p : Nat} (h : p ∈ Sp.hits v R) : ∃ row, R.lookup p = some row ∧ (p, row) ∈ R ∧ Sp.ent v p ≠ 0 := by
  unfold Sp.hits at h
  obtain ⟨h1, h2⟩ := List.mem_filter.mp h
  obtain ⟨⟨p', row⟩, h3, h4⟩ := List.mem_map.mp h1
  have h4 : p' = p := h4
  subst h4
  refine ⟨row, ?_, h3, of_decide_eq_true h2⟩
  have key : ∀ (R : Sp.Rows), (R.map (·.1)).Nodup → (p', row) ∈ R → R.lookup p' = some row := by
    intro R
    induction R with
    | nil => intro _ h; cases h
    | cons q R ih =>
      intro nd hm
      obtain ⟨q1, q2⟩ := q
      rcases List.mem_cons.mp hm with e | e
      · cases e; simp [List.lookup]
      · have hne : p' ≠ q1 := fun z => (List.nodup_cons.mp nd).1 (List.mem_map.mpr ⟨_, e, by exact z⟩)
        have : (p' == q1) = false := by simpa using hne
        simp only [List.lookup, this]
        exact ih (List.nodup_cons.mp nd).2 e
  exact key R W.nd h3
theorem fold_take {α β : Type} {g : β → α → β} {b : β} {l : List α} {i : Nat} {x : α} (h : l[i]? = some x) : (l.take (i + 1)).foldl g b = g ((l.take i).foldl g b) x := by
  rw [List.take_add_one, h, Option.toList_some, List.foldl_append]
  rfl
theorem FitR.row {v : List Int} {R : Sp.Rows} (W : FitR v R) {p : Nat} (h : p ∈ Sp.hits v R) : ∃ row, R.lookup p = some row ∧ Sp.rowAt R p = row ∧ row.length = v.length ∧ p < v.length ∧ 0 < Sp.ent row p ∧ (∀ j, (Sp.ent row j).natAbs < 2 ^ 8000) ∧ Sp.hd R p = Sp.ent row p := by
  obtain ⟨row, h1, h2, h3⟩ := W.mem h
  have e : Sp.rowAt R p = row := by unfold Sp.rowAt; rw [h1] <;> rfl
  refine ⟨row, h1, e, (W.len _ h2).1, (W.len _ h2).2, W.pos _ h2, W.br _ h2, ?_⟩
  unfold Sp.hd
  rw [e]
theorem sub_len (v : List Int) (R : Sp.Rows) (s : Int) (W : FitR v R) : ∀ (l : List Nat) (r : List Int), (∀ p ∈ l, p ∈ Sp.hits v R) → r.length = v.length → (l.foldl (Sp.subStep v R s) r).length = v.length
  | [], r, _, h => h
  | p :: l, r, hm, h => by
    obtain ⟨row, _, e, hl, _⟩ := W.row (hm p (by simp))
    refine sub_len v R s W l _ (fun x hx => hm x (by simp [hx])) ?_
    unfold Sp.subStep
    rw [List.length_zipWith, e, hl, h, Nat.min_self]
theorem nat_div_le (a : Int) (b : Nat) : (a / (b : Int)).natAbs ≤ a.natAbs := by
  exact Int.natAbs_ediv_le_natAbs a b
theorem int_div_le (a b : Int) : (a / b).natAbs ≤ a.natAbs := Int.natAbs_ediv_le_natAbs a b
theorem log_small {z : Int} {n k : Nat} (h : z.natAbs < 2 ^ n) (h0 : 0 < n) (hk : n ≤ k) : z.natAbs.log2 < k := Nat.lt_of_lt_of_le (PySem.Flt.log2_lt_of h0 h) hk
theorem pow_lt {n m : Nat} {z : Nat} (h : z < 2 ^ n) (hm : n ≤ m) : z < 2 ^ m := Nat.lt_of_lt_of_le h (Nat.pow_le_pow_right (by decide) hm)
section
variable {P : Program} {w : World} {K : PySem.W.Frag} {mg : Str → Option Value} {base : Heap}
/-- remainder(vector, rows) -/
def spRem (K : PySem.W.Frag) : Sp := fun vs H Q _ => ∃ a d v R kvs, vs = [.ref a, .ref d] ∧ SqT K H a (iVs v) ∧ H d = some (.dK kvs) ∧ KvR K H R kvs ∧ FitR v R ∧ GivesT K (Sp.rem v R) H Q
abbrev nRem : List Str := ["vector", "rows", "hit", "scale", "head", "rest", "row", "factor", "at", "entry", "ours", "theirs"]
theorem sc_rem : FnScope nRem ["vector", "rows"] (defScope s_remainder) := ⟨rfl, rfl, rfl, by decide +kernel, rfl, by decide +kernel, by decide +kernel⟩
/-- head, what scale is to hold: the numbers of one turn -/
theorem ok_rem (B : Bt mg) (F : Fd K mg "remainder" s_remainder ["vector", "rows"]) : Cl P w K mg base 1 "remainder" ["vector", "rows"] (spRem K) := by
  refine cl_mk F sc_rem (fun vs H Q E ⟨a, d, v, R, kvs, e, _⟩ => by rw [e] <;> rfl) fun f cdv A outer s H vs Q E hr ⟨a, d, v, R, kvs, ev, hS, hD, hK, W, q⟩ => ?_
  subst ev
  have hu := hu_of hr
  refine ⟨_, pss_cons (ps_lock (ps_setLc (i := 2) (own := [("at", 8)]) (g := gName 8) (tt := tTest (tOp rNe (tOp (rIxT K) (tVar 0) (tVar 8)) (tC (.int 0)))) rfl sc_rem.nd rfl rfl (sw_true rfl rfl rfl (by decide +kernel)) (pi_keys (pv 1)) (blkOk_by (N := nRem) (sc := defScope s_remainder) (by decide +kernel)) (fun _ _ _ _ _ => pg_name (i := 8) sc_rem.nd rfl (Or.inl rfl))
      (fun _ _ _ _ _ => pts_one (pt_cmpR op_ne (pe_ix ix_tup (pv 0) (pv 8) (fun _ _ => rfl)) pe_int (nomark _))) (fun _ _ _ _ _ => pv 8)))
    (pss_cons (ps_set (i := 3) sc_rem.nd rfl (Or.inr rfl) pe_int)
    (pss_cons (ps_for PassesOwn.never rfl (pi_list (pv 2)) (pg_name (i := 8) sc_rem.nd rfl (Or.inl rfl))
      (pss_cons (ps_set (i := 4) sc_rem.nd rfl (Or.inl rfl) (pe_ix ix_tup (pe_dget hu (pv 1) (pv 8) (fun _ _ => rfl)) (pv 8) (fun _ _ => rfl)))
      (pss_one (ps_set (i := 3) sc_rem.nd rfl (Or.inr rfl) (pe_callBfun cr_lcm (by rfl) B.lcm (pa_cons (pv 3) (pa_cons (pe_op op_fdivW (pv 4) (pe_callBfun cr_gcd (by rfl) B.gcd (pa_cons (pv 4) (pa_cons (pe_ix ix_tup (pv 0) (pv 8) (fun _ _ => rfl)) pa_nil)))) pa_nil)))))))
    (pss_cons (ps_setLc (i := 5) (own := [("entry", 9)]) (g := gName 9) (tt := tYes) rfl sc_rem.nd rfl rfl (sw_true rfl rfl rfl (by decide +kernel)) (pi_tup (pv 0)) (blkOk_by (N := nRem) (sc := defScope s_remainder) (by decide +kernel)) (fun _ _ _ _ _ => pg_name (i := 9) sc_rem.nd rfl (Or.inl rfl)) (fun _ _ _ _ _ => pts_nil)
      (fun _ _ _ _ _ => pe_op op_mulW (pv 3) (pv 9)))
    (pss_cons (ps_for PassesOwn.never rfl (pi_list (pv 2)) (pg_name (i := 8) sc_rem.nd rfl (Or.inl rfl))
      (pss_cons (ps_set (i := 6) sc_rem.nd rfl (Or.inl rfl) (pe_dget hu (pv 1) (pv 8) (fun _ _ => rfl)))
      (pss_cons (ps_set (i := 7) sc_rem.nd rfl (Or.inr rfl) (pe_op op_fdivW (pe_op op_mulW (pv 3) (pe_ix ix_tup (pv 0) (pv 8) (fun _ _ => rfl))) (pe_ix ix_tup (pv 6) (pv 8) (fun _ _ => rfl))))
      (pss_one (ps_setLc (i := 5) (own := [("ours", 10), ("theirs", 11)]) (g := gTup K 2 (gCons (gName 10) (gCons (gName 11) gNil))) (tt := tYes) rfl sc_rem.nd rfl rfl (sw_true rfl rfl rfl (by decide +kernel)) (piZ true false (by rfl) B.zip (pa_cons (pv 5) (pa_cons (pv 6) pa_nil))) (blkOk_by (N := nRem) (sc := defScope s_remainder) (by decide +kernel))
        (fun _ _ _ _ _ => pg_tup rfl (pgs_cons (pg_name (i := 10) sc_rem.nd rfl (Or.inl rfl)) (pgs_cons (pg_name (i := 11) sc_rem.nd rfl (Or.inl rfl)) pgs_nil))) (fun _ _ _ _ _ => pts_nil)
        (fun _ _ _ _ _ => pe_op op_sub (pv 10) (pe_op op_mulW (pv 7) (pv 11))))))))
    (pss_one (ps_ret (pe_callTy call_tuple_of (by rfl) B.tuple boot_tt (pa_cons (pv 5) pa_nil)))))))), ?_⟩
  have key : ∀ (i : Nat) (k : Key) (u : V), kvs[i]? = some (k, u) → ∃ q, R[i]? = some q ∧ k = Sum.inl (q.1 : Int) := fun i k u e => by
    obtain ⟨q, h1, h2, _⟩ := paired_get hK e
    exact ⟨q, h1, h2⟩
  have hlk : kvs.length = R.length := hK.length.symm
  refine ⟨d, _, hD, trivial, fun od => ?_⟩
  have hSl : ∀ o, SqT K (upd H d o) a (iVs v) := fun o => sqt_updD hS hD
  have L : EvL (tLc (iKeys (tVar 1)) (gName 8) (tTest (tOp rNe (tOp (rIxT K) (tVar 0) (tVar 8)) (tC (.int 0)))) (tVar 8) [8]) (L2.start nRem [.ref a, .ref d]) (upd H d (.frz od (.dK kvs))) ((Sp.hits v R).map fun (p : Nat) => V.int (p : Int)) := by
    have g0 := el_lcG (t := tTest (tOp rNe (tOp (rIxT K) (tVar 0) (tVar 8)) (tC (.int 0)))) (te := tVar 8) (g := gName 8) (σ := L2.start nRem [.ref a, .ref d]) (vs := [8]) (fun i => match R[i]? with | some q => decide (Sp.ent v q.1 ≠ 0) | none => false) (fun i => match R[i]? with | some q => .int (q.1 : Int) | none => .non)
      (fun i σ2 => ∃ q, R[i]? = some q ∧ q.1 < v.length ∧ σ2[0]? = some (some (.ref a)) ∧ σ2[8]? = some (some (.int (q.1 : Int)))) (ei_keys (tl := tVar 1) (d := d) (o := od) (kvs := kvs) (ev_var rfl) upd_same) (by rw [hlk]; have := W.sr; omega)
      (fun i x H2 hi _ ⟨k, u, hk, hx⟩ Q hQ => by
        obtain ⟨q, h1, h2⟩ := key i k u hk
        subst hx h2
        exact hQ _ ⟨q, h1, (W.len q (List.mem_of_getElem? h1)).2, rfl, rfl⟩ rfl)
      (fun i σ2 H2 hi ⟨q, h1, h2, h3, h4⟩ e2 => by
        rw [h1]
        have ev := et_test (ev_op (ev_ixV (K := K) (ev_var h3) (ev_var h4) (ex_t e2 (hSl _)) h2) (ev_c (v := .int 0)) (rv_ne rfl) : Ev (tOp rNe (tOp (rIxT K) (tVar 0) (tVar 8)) (tC (.int 0))) σ2 H2 _)
        refine et_is ev ?_
        show (!decide (V.int (Sp.ent v q.1) = V.int 0)) = decide (Sp.ent v q.1 ≠ 0)
        by_cases c : Sp.ent v q.1 = 0 <;> simp [c])
      (fun i σ2 H2 hi ⟨q, h1, h2, h3, h4⟩ _ _ => by
        rw [h1]
        exact ev_var h4)
    rw [hlk, given_filter (xs := R) (p := fun q => decide (Sp.ent v q.1 ≠ 0)) (h := fun q => .int (q.1 : Int)) (fun i q e => by simp only [e]; exact ⟨trivial, trivial⟩)] at g0
    have e3 : (R.filter fun q => decide (Sp.ent v q.1 ≠ 0)).map (fun q => V.int (q.1 : Int)) = (Sp.hits v R).map fun (p : Nat) => V.int (p : Int) := by
      unfold Sp.hits
      rw [List.filter_map, List.map_map]
      rfl
    rw [e3] at g0
    exact g0
  refine s_asgL L fun h H1 hh0 e1 hh => ⟨e1 _ _ upd_same, ?_⟩
  have e2 : Ex H (upd H1 d (.dK kvs)) := ex_back hD e1
  have hne : h ≠ d := fun z => by rw [z, upd_same] at hh0; cases hh0
  have hl : (upd H1 d (.dK kvs)) h = some (.lst ((Sp.hits v R).map fun (p : Nat) => V.int (p : Int))) := by rw [upd_ne hne]; exact hh
  generalize (upd H1 d (.dK kvs)) = H2 at e2 hl ⊢
  refine q_asg (v := .int 1) ev_c fun H3 e3 => ?_
  have hS3 : SqT K H3 a (iVs v) := ex_t (e2.trans e3) hS
  have hD3 : H3 d = some (.dK kvs) := e3 _ _ (e2 _ _ hD)
  have hK3 : KvR K H3 R kvs := hK.mono (e2.trans e3)
  have hl3 := e3 _ _ hl
  have item : ∀ {i : Nat} {x : V}, ((Sp.hits v R).map fun (p : Nat) => V.int (p : Int))[i]? = some x → ∃ p : Nat, (Sp.hits v R)[i]? = some p ∧ x = .int (p : Int) := fun {i x} hx => by
    rw [List.getElem?_map] at hx
    cases e : (Sp.hits v R)[i]? with
    | none => rw [e] at hx; cases hx
    | some p => rw [e] at hx; exact ⟨p, rfl, (Option.some.inj hx).symm⟩
  refine ⟨_, rfl, h, rfl, ⟨_, sq_of hl3⟩, for_it walk_list (fun i σ H' => (∃ u4 u8, σ = [some (.ref a), some (.ref d), some (.ref h), some (.int (((Sp.hits v R).take i).foldl (Sp.scaleStep v R) 1)), u4, none, none, none, u8, none, none, none]) ∧ Ex H3 H')
    ⟨⟨none, none, rfl⟩, Ex.refl H3⟩ (fun i σ H' _ p => sq_of (p.2 _ _ hl3)) ?_ ?_⟩
  · rintro i x σ H4 H5 hi ⟨⟨u4, u8, rfl⟩, e4⟩ ⟨rfl, hx⟩
    obtain ⟨p, hp, rfl⟩ := item hx
    obtain ⟨row, r1, r2, r3, r4, r5, r6, r7⟩ := W.row (List.mem_of_getElem? hp)
    obtain ⟨b, b1, b2⟩ := (hK3.mono e4).look r1
    refine q_asg (v := .int (Sp.ent row p)) (ev_ixV (K := K) (ev_dget (ev_var rfl) (ev_var rfl) (.inl (e4 _ _ hD3)) b1) (ev_var rfl) b2 (by omega)) fun H6 e6 => ?_
    have gl : (Nat.gcd (Sp.ent row p).natAbs (Sp.ent v p).natAbs) ≤ (Sp.ent row p).natAbs := Nat.gcd_le_left _ (by omega)
    have gp : 0 < Nat.gcd (Sp.ent row p).natAbs (Sp.ent v p).natAbs := Nat.gcd_pos_of_pos_left _ (by omega)
    have eg : Ev (tCB rGcd (tCons (tVar 4) (tCons (tOp (rIxT K) (tVar 0) (tVar 8)) tNil))) [some (.ref a), some (.ref d), some (.ref h), some (.int (((Sp.hits v R).take i).foldl (Sp.scaleStep v R) 1)), some (.int (Sp.ent row p)), none, none, none, some (.int (p : Int)), none, none, none] H6 (.int (Nat.gcd (Sp.ent row p).natAbs (Sp.ent v p).natAbs : Nat)) :=
      ev_gcd (ea_cons (ev_var rfl) (ea_cons (ev_ixV (K := K) (ev_var rfl) (ev_var rfl) (ex_t (e4.trans e6) hS3) r4) ea_nil))
    have ed := ev_div (ta := tVar 4) (ev_var rfl) eg ⟨by omega, log_small (z := ((Nat.gcd (Sp.ent row p).natAbs (Sp.ent v p).natAbs : Nat) : Int)) (n := 8000) (Nat.lt_of_le_of_lt gl (r6 p)) (by decide) (by decide)⟩
    refine s_asg (ev_lcm (ea_cons (ev_var rfl) (ea_cons ed ea_nil)) (pow_lt (W.sc i) (by decide)) (Nat.lt_of_le_of_lt (nat_div_le _ _) (pow_lt (r6 p) (by decide)))) fun H7 e7 => ⟨⟨some (.int (Sp.ent row p)), some (.int (p : Int)), ?_⟩, (e4.trans e6).trans e7⟩
    rw [fold_take hp]
    unfold Sp.scaleStep Sp.need
    rw [r7]
    rfl
  · rintro σ H4 ⟨⟨u4, u8, rfl⟩, e4⟩
    have hs : ((Sp.hits v R).take ((Sp.hits v R).map fun (p : Nat) => V.int (p : Int)).length).foldl (Sp.scaleStep v R) 1 = Sp.scaleOf v R := by
      rw [List.length_map, List.take_length]
      rfl
    rw [hs]
    have bs : (Sp.scaleOf v R).natAbs < 2 ^ 12000 := by
      have := W.sc (Sp.hits v R).length
      rwa [List.take_length] at this
    refine q_asgL (el_mapT (K := K) (fun x => Sp.scaleOf v R * x) (ev_var rfl) (ex_t e4 hS3) (by have := W.sz; omega) (fun _ => rfl) fun i H5 hi e5 => ev_mul (ev_var rfl) (ev_var rfl) (wide_mul bs (W.bv i) (by decide) (by decide) (by decide))) fun r0 H5 _ e5 hr0 => ?_
    have e45 := e4.trans e5
    refine ⟨_, rfl, h, rfl, ⟨_, sq_of (e45 _ _ hl3)⟩, for_it walk_list (fun i σ H' => (∃ r u6 u7 u8, σ = [some (.ref a), some (.ref d), some (.ref h), some (.int (Sp.scaleOf v R)), u4, some (.ref r), u6, u7, u8, none, none, none] ∧ H' r = some (.lst (iVs (((Sp.hits v R).take i).foldl (Sp.subStep v R (Sp.scaleOf v R)) (v.map (Sp.scaleOf v R * ·)))))) ∧ Ex H5 H')
      ⟨⟨r0, none, none, u8, rfl, hr0⟩, Ex.refl H5⟩ (fun i σ H' _ p => sq_of (p.2 _ _ (e45 _ _ hl3))) ?_ ?_⟩
    · rintro i x σ H6 H7 hi ⟨⟨r, u6, u7, u8, rfl, hr6⟩, e6⟩ ⟨rfl, hx⟩
      obtain ⟨p, hp, rfl⟩ := item hx
      obtain ⟨row, r1, r2, r3, r4, r5, r6, r7⟩ := W.row (List.mem_of_getElem? hp)
      have e36 := e45.trans e6
      obtain ⟨b, b1, b2⟩ := (hK3.mono e36).look r1
      refine q_asg (v := .ref b) (ev_dget (ev_var rfl) (ev_var rfl) (.inl (e36 _ _ hD3)) b1) fun H8 e8 => ?_
      have em := ev_mul (H := H8) (ta := tVar 3) (tb := tOp (rIxT K) (tVar 0) (tVar 8)) (σ := [some (.ref a), some (.ref d), some (.ref h), some (.int (Sp.scaleOf v R)), u4, some (.ref r), some (.ref b), u7, some (.int (p : Int)), none, none, none]) (ev_var rfl) (ev_ixV (K := K) (ev_var rfl) (ev_var rfl) (ex_t (e36.trans e8) hS3) r4) (wide_mul bs (W.bv p) (by decide) (by decide) (by decide))
      refine q_asg (ev_div em (ev_ixV (K := K) (ev_var rfl) (ev_var rfl) (ex_t e8 b2) (by omega)) ⟨r5, log_small (r6 p) (by decide) (by decide)⟩) fun H9 e9 => ?_
      have hlen : (((Sp.hits v R).take i).foldl (Sp.subStep v R (Sp.scaleOf v R)) (v.map (Sp.scaleOf v R * ·))).length = v.length := sub_len v R _ W _ _ (fun x hx => List.mem_of_mem_take hx) (by rw [List.length_map])
      have bf : (Sp.scaleOf v R * Sp.ent v p / Sp.ent row p).natAbs < 2 ^ 20000 := Nat.lt_of_le_of_lt (int_div_le _ _) (wide_lt bs (W.bv p))
      refine s_asgL (el_zipI (K := K) (b := true) (c := false) (fun o t => o - Sp.scaleOf v R * Sp.ent v p / Sp.ent row p * t) (ea_cons (ev_var rfl) (ea_cons (ev_var rfl) ea_nil)) (sq_of ((e8.trans e9) _ _ hr6)) (ex_t (e8.trans e9) b2) (by rw [hlen, r3]) (by rw [hlen]; have := W.sz; omega) (fun _ _ => rfl)
        fun j H10 hj e10 => ev_op (ev_var rfl) (ev_mul (ev_var rfl) (ev_var rfl) (wide_mul bf (r6 j) (by decide) (by decide) (by decide))) rv_I0) fun r' H10 _ e10 hr' => ⟨⟨r', some (.ref b), some (.int (Sp.scaleOf v R * Sp.ent v p / Sp.ent row p)), some (.int (p : Int)), rfl, ?_⟩, ((e6.trans e8).trans e9).trans e10⟩
      rw [fold_take hp]
      unfold Sp.subStep Sp.fac
      rw [r7, r2]
      exact hr'
    · rintro σ H6 ⟨⟨r, u6, u7, u8, rfl, hr6⟩, e6⟩
      refine s_retU (eu_tupA (K := K) (ev_var rfl) (sq_of hr6)) fun p H7 _ e7 hp => q H7 p ((((e2.trans e3).trans e45).trans e6).trans e7) (st_of ?_)
      rw [hp, List.length_map, List.take_length]
      rfl
end
end Tx

/-! part K5 -/
namespace Tx
open PySem PySem.Spec PyProof.Rows L2 Evl Jb
/-- the numbers of cleared(row, vector, at) -/
structure FitC (row v : List Int) (p : Nat) : Prop where
  len : row.length = v.length
  lt : p < v.length
  pos : 0 < Sp.ent v p
  br : ∀ j, (Sp.ent row j).natAbs < 2 ^ 8000
  bv : ∀ j, (Sp.ent v j).natAbs < 2 ^ 8000
  lg : (Sp.gcdL (Sp.cross row v p)).log2 < 9000
  sz : v.length ≤ 128
section
variable {P : Program} {w : World} {K : PySem.W.Frag} {mg : Str → Option Value} {base : Heap}
/-- cleared(row, vector, at) -/
def spClr (K : PySem.W.Frag) : Sp := fun vs H Q _ => ∃ a b row v p, vs = [.ref a, .ref b, .int ((p : Nat) : Int)] ∧ SqT K H a (iVs row) ∧ SqT K H b (iVs v) ∧ FitC row v p ∧ GivesT K (Sp.clr row v p) H Q
abbrev nClr : List Str := ["row", "vector", "at", "common", "keep", "less", "ours", "theirs"]
theorem sc_clr : FnScope nClr ["row", "vector", "at"] (defScope s_cleared) := ⟨rfl, rfl, rfl, by decide +kernel, rfl, by decide +kernel, by decide +kernel⟩
theorem ok_clr (B : Bt mg) (F : Fd K mg "cleared" s_cleared ["row", "vector", "at"]) (Fp : Fd K mg "primitive" s_primitive ["vector"]) : Cl P w K mg base 2 "cleared" ["row", "vector", "at"] (spClr K) := by
  have Cp : Cl P w K mg base 1 "primitive" ["vector"] (spPrim K) := ok_prim B Fp
  refine cl_mk F sc_clr (fun vs H Q E ⟨a, b, row, v, p, e, _⟩ => by rw [e] <;> rfl) fun f cdv A outer s H vs Q E hr ⟨a, b, row, v, p, ev, hA, hB, W, q⟩ => ?_
  subst ev
  refine ⟨_, pss_cons (ps_if (pt_cmpR op_eq (pe_ix ix_tup (pv 0) (pv 2) (fun _ _ => rfl)) pe_int (nomark _)) (pss_one (ps_ret (pv 0))) pss_nil)
    (pss_cons (ps_set (i := 3) sc_clr.nd rfl (Or.inl rfl) (pe_callBfun cr_gcd (by rfl) B.gcd (pa_cons (pe_ix ix_tup (pv 0) (pv 2) (fun _ _ => rfl)) (pa_cons (pe_ix ix_tup (pv 1) (pv 2) (fun _ _ => rfl)) pa_nil))))
    (pss_cons (ps_set (i := 4) sc_clr.nd rfl (Or.inr rfl) (pe_op op_fdivW (pe_ix ix_tup (pv 1) (pv 2) (fun _ _ => rfl)) (pv 3)))
    (pss_cons (ps_set (i := 5) sc_clr.nd rfl (Or.inr rfl) (pe_op op_fdivW (pe_ix ix_tup (pv 0) (pv 2) (fun _ _ => rfl)) (pv 3)))
    (pss_one (ps_ret (pe_cl Cp hr (by rfl) (pa_cons (pe_callTy call_tuple_of (by rfl) B.tuple boot_tt (pa_cons
      (pe_lc (own := [("ours", 6), ("theirs", 7)]) (g := gTup K 2 (gCons (gName 6) (gCons (gName 7) gNil))) (tt := tYes) rfl sc_clr.nd (piZ false false (by rfl) B.zip (pa_cons (pv 0) (pa_cons (pv 1) pa_nil))) (blkOk_by (N := nClr) (sc := defScope s_cleared) (by decide +kernel))
        (fun _ _ _ _ _ => pg_tup rfl (pgs_cons (pg_name (i := 6) sc_clr.nd rfl (Or.inl rfl)) (pgs_cons (pg_name (i := 7) sc_clr.nd rfl (Or.inl rfl)) pgs_nil))) (fun _ _ _ _ _ => pts_nil)
        (fun _ _ _ _ _ => pe_op op_sub (pe_op op_mulW (pv 4) (pv 6)) (pe_op op_mulW (pv 5) (pv 7)))) pa_nil)) pa_nil))))))), ?_⟩
  have lr : p < row.length := by rw [W.len]; exact W.lt
  have e0 : EvT (tTest (tOp rEq (tOp (rIxT K) (tVar 0) (tVar 2)) (tC (.int 0)))) (L2.start nClr [.ref a, .ref b, .int (p : Int)]) H (decide (V.int (Sp.ent row p) = V.int 0)) := et_test (ev_op (ev_ixV (K := K) (ev_var rfl) (ev_var rfl) hA lr) ev_c (rv_eq rfl))
  refine q_when e0 (fun hb H1 e1 => ?_) fun hb H1 e1 => ?_
  · have z : Sp.ent row p = 0 := V.int.inj (of_decide_eq_true hb)
    have hc : Sp.clr row v p = row := by unfold Sp.clr; rw [if_pos z]
    rw [hc] at q
    exact ⟨_, rfl, q H1 a e1 (ex_t e1 hA)⟩
  · have z : Sp.ent row p ≠ 0 := fun z => (of_decide_eq_false hb) (congrArg V.int z)
    have hc : Sp.clr row v p = Sp.prim (Sp.cross row v p) := by unfold Sp.clr; rw [if_neg z]
    have gp : 0 < Nat.gcd (Sp.ent row p).natAbs (Sp.ent v p).natAbs := Nat.gcd_pos_of_pos_left _ (by omega)
    have gl : Nat.gcd (Sp.ent row p).natAbs (Sp.ent v p).natAbs ≤ (Sp.ent row p).natAbs := Nat.gcd_le_left _ (by omega)
    refine q_asg (ev_gcd (ea_cons (ev_ixV (K := K) (ev_var rfl) (ev_var rfl) (ex_t e1 hA) lr) (ea_cons (ev_ixV (K := K) (ev_var rfl) (ev_var rfl) (ex_t e1 hB) W.lt) ea_nil))) fun H2 e2 => ?_
    have dv : ∀ z : Int, CDivW z ((Nat.gcd (Sp.ent row p).natAbs (Sp.ent v p).natAbs : Nat) : Int) := fun _ => ⟨by omega, log_small (z := ((Nat.gcd (Sp.ent row p).natAbs (Sp.ent v p).natAbs : Nat) : Int)) (n := 8000) (Nat.lt_of_le_of_lt gl (W.br p)) (by decide) (by decide)⟩
    refine q_asg (ev_div (ev_ixV (K := K) (ev_var rfl) (ev_var rfl) (ex_t (e1.trans e2) hB) W.lt) (ev_var rfl) (dv _)) fun H3 e3 => ?_
    refine q_asg (ev_div (ev_ixV (K := K) (ev_var rfl) (ev_var rfl) (ex_t ((e1.trans e2).trans e3) hA) lr) (ev_var rfl) (dv _)) fun H4 e4 => ?_
    have e14 := ((e1.trans e2).trans e3).trans e4
    have bk : (Sp.ent v p / ((Nat.gcd (Sp.ent row p).natAbs (Sp.ent v p).natAbs : Nat) : Int)).natAbs < 2 ^ 8000 := Nat.lt_of_le_of_lt (int_div_le _ _) (W.bv p)
    have bl : (Sp.ent row p / ((Nat.gcd (Sp.ent row p).natAbs (Sp.ent v p).natAbs : Nat) : Int)).natAbs < 2 ^ 8000 := Nat.lt_of_le_of_lt (int_div_le _ _) (W.br p)
    refine s_retCallU (eu_tupL (K := K) (el_zipI (K := K) (b := false) (c := false) (j := 6) (k := 7) (vs := [6, 7]) (ta := tCons (tVar 0) (tCons (tVar 1) tNil)) (te := tOp (rI0 fun i j => .int (i - j)) (tOp (rI CMulW fun i j => .int (i * j)) (tVar 4) (tVar 6)) (tOp (rI CMulW fun i j => .int (i * j)) (tVar 5) (tVar 7))) (σ := [some (.ref a), some (.ref b), some (.int (p : Int)), some (.int (Nat.gcd (Sp.ent row p).natAbs (Sp.ent v p).natAbs : Nat)), some (.int (Sp.ent v p / ((Nat.gcd (Sp.ent row p).natAbs (Sp.ent v p).natAbs : Nat) : Int))), some (.int (Sp.ent row p / ((Nat.gcd (Sp.ent row p).natAbs (Sp.ent v p).natAbs : Nat) : Int))), none, none])
      (fun o t => Sp.ent v p / ((Nat.gcd (Sp.ent row p).natAbs (Sp.ent v p).natAbs : Nat) : Int) * o - Sp.ent row p / ((Nat.gcd (Sp.ent row p).natAbs (Sp.ent v p).natAbs : Nat) : Int) * t) (ea_cons (ev_var rfl) (ea_cons (ev_var rfl) ea_nil)) (ex_t e14 hA) (ex_t e14 hB) W.len.symm (by rw [W.len]; have := W.sz; omega) (fun _ _ => rfl)
      fun j H5 hj e5 => ev_sub (ev_mul (ev_var rfl) (ev_var rfl) (wide_mul bk (W.br j) (by decide) (by decide) (by decide))) (ev_mul (ev_var rfl) (ev_var rfl) (wide_mul bl (W.bv j) (by decide) (by decide) (by decide))))) fun x H5 e5 hd => ?_
    refine ⟨x, Sp.cross row v p, rfl, st_of hd, ?_, W.lg, fun H' y e6 hy => ?_⟩
    · unfold Sp.cross
      rw [List.length_zipWith, W.len, Nat.min_self]
      exact W.sz
    · rw [hc] at q
      exact q H' y ((e14.trans e5).trans e6) hy
end
end Tx

/-! part K6 -/
namespace Tx
open PySem PySem.Spec PyProof.Rows L2 Evl Jb
/-- one turn of reduced -/
structure FitStep (R : Sp.Rows) (v : List Int) : Prop where
  fr : FitR v R
  lg : (Sp.gcdL (Sp.rem v R)).log2 < 9000
  nx : ∀ p, Sp.piv (Sp.prim (Sp.rem v R)) = some p → p ∉ R.map (·.1) ∧ ∀ q ∈ R, FitC q.2 (Sp.up (Sp.prim (Sp.rem v R)) p) p
def FitGo : Sp.Rows → List (List Int) → Prop
  | _, [] => True
  | R, v :: vs => R.length = v.length ∨ (R.length ≠ v.length ∧ FitStep R v ∧ FitGo (Sp.addRow R v) vs)
theorem rem_len {v : List Int} {R : Sp.Rows} (W : FitR v R) : (Sp.rem v R).length = v.length := sub_len v R _ W _ _ (fun _ h => h) (by rw [List.length_map])
theorem look_nd {p : Nat} {row : List Int} : ∀ {R : Sp.Rows}, (R.map (·.1)).Nodup → (p, row) ∈ R → R.lookup p = some row
  | [], _, h => by cases h
  | (q1, q2) :: R, nd, hm => by
    rcases List.mem_cons.mp hm with e | e
    · cases e; simp [List.lookup]
    · have hne : p ≠ q1 := fun z => (List.nodup_cons.mp nd).1 (List.mem_map.mpr ⟨_, e, by exact z⟩)
      have : (p == q1) = false := by simpa using hne
      simp only [List.lookup, this]
      exact look_nd (List.nodup_cons.mp nd).2 e
theorem addRow_len (R : Sp.Rows) (v : List Int) : (Sp.addRow R v).length ≤ R.length + 1 := by
  unfold Sp.addRow
  split
  · omega
  · rw [List.length_append, List.length_map]
    exact Nat.le_refl _
theorem redGo_len : ∀ (vs : List (List Int)) (R : Sp.Rows), (Sp.redGo R vs).length ≤ R.length + vs.length
  | [], R => Nat.le_refl _
  | v :: vs, R => by
    unfold Sp.redGo
    split
    · omega
    · have h1 := redGo_len vs (Sp.addRow R v)
      have h2 := addRow_len R v
      rw [List.length_cons]
      omega
theorem paired_of {α β : Type} {r : α → β → Prop} : ∀ {xs : List α} {ys : List β}, xs.length = ys.length → (∀ (i : Nat) (x : α) (y : β), xs[i]? = some x → ys[i]? = some y → r x y) → Paired r xs ys
  | [], [], _, _ => .nil
  | [], _ :: _, h, _ => by simp at h
  | _ :: _, [], h, _ => by simp at h
  | x :: xs, y :: ys, h, k => .cons (k 0 x y rfl rfl) (paired_of (by simpa using h) fun i a b h1 h2 => k (i + 1) a b (by simpa using h1) (by simpa using h2))
section
variable {P : Program} {w : World} {K : PySem.W.Frag} {mg : Str → Option Value} {base : Heap}
/-- the rows by their ascending keys, read off the dict -/
theorem el_sorted {H : Hp} {d : Addr} {R : Sp.Rows} {kvs : List (Key × V)} {σ : L2.St} {tl : TE} (h : Ev tl σ H (.ref d)) (hd : H d = some (.dK kvs)) (hk : KvR K H R kvs) (hl : R.length < 64) :
    EvL (tCB (fun xs H Q => ∃ (a : Addr) (kvs : List (Key × V)) (ks : List Int), xs = [.ref a] ∧ Rd H a (.dK kvs) ∧ kvs.map (·.1) = ks.map Sum.inl ∧ ks.length < 64 ∧ ∀ (ys : List Int) (p : Addr), ys.Perm ks → ys.Pairwise (· ≤ ·) → H p = none → Q (.ref p) (upd H p (.lst (ys.map V.int)))) (tCons tl tNil)) σ H ((Sp.keysUp R).map V.int) := fun H1 e1 Q q =>
  h H1 e1 _ fun H2 e2 => ⟨d, kvs, R.map fun q => (q.1 : Int), rfl, .inl (e2 _ _ (e1 _ _ hd)), by rw [hk.keys, List.map_map]; rfl, by rw [List.length_map]; exact hl, fun ys p h1 h2 hp => by
    rw [Sp.keysUp_same h1 h2]
    exact q p _ (fresh_back e2 hp) (e2.trans (Ex.new hp)) upd_same⟩
theorem el_rows {H : Hp} {a d : Addr} {R : Sp.Rows} {kvs : List (Key × V)} {u2 u3 u4 : Option V} (hd : H d = some (.dK kvs)) (hk : KvR K H R kvs) (hn : (R.map (·.1)).Nodup) (hl : R.length < 64) {tl : TE} (hs : EvL tl [some (.ref a), some (.ref d), u2, u3, u4, none, none] H ((Sp.keysUp R).map V.int)) :
    ∃ ws, Refs K H ((Sp.srtR R).map (·.2)) ws ∧ EvL (tLc (iList K tl) (gName 4) tYes (tDGet (tVar 1) (tVar 4)) [4]) [some (.ref a), some (.ref d), u2, u3, u4, none, none] H ws := by
  have key : ∀ (i : Nat) (y : Int), (Sp.keysUp R)[i]? = some y → ∃ b, valV kvs (Sum.inl y) = some (.ref b) ∧ SqT K H b (iVs (Sp.rowAt R y.toNat)) := fun i y hy => by
    have hm : y ∈ R.map fun q => (q.1 : Int) := (Sp.keysUp_perm R).mem_iff.mp (List.mem_of_getElem? hy)
    obtain ⟨⟨q1, q2⟩, h1, h2⟩ := List.mem_map.mp hm
    have h2 : ((q1 : Nat) : Int) = y := h2
    subst h2
    have lk := look_nd hn h1
    obtain ⟨b, b1, b2⟩ := hk.look lk
    refine ⟨b, b1, ?_⟩
    have : Sp.rowAt R ((q1 : Int)).toNat = q2 := by unfold Sp.rowAt; rw [Int.toNat_natCast, lk]; rfl
    rw [this]
    exact b2
  have klen : (Sp.keysUp R).length = R.length := by rw [(Sp.keysUp_perm R).length_eq, List.length_map]
  refine ⟨_, ?_, el_lcG (t := tYes) (te := tDGet (tVar 1) (tVar 4)) (g := gName 4) (σ := [some (.ref a), some (.ref d), u2, u3, u4, none, none]) (vs := [4]) (fun _ => true) (fun i => (valV kvs (Sum.inl ((Sp.keysUp R).getD i 0))).getD .non)
    (fun i σ2 => ∃ y, (Sp.keysUp R)[i]? = some y ∧ σ2[1]? = some (some (.ref d)) ∧ σ2[4]? = some (some (.int y))) (ei_listN hs) (by rw [List.length_map, klen]; omega)
    (fun i x H2 hi _ hx Q hQ => by
      rw [List.getElem?_map] at hx
      cases e : (Sp.keysUp R)[i]? with
      | none => rw [e] at hx; cases hx
      | some y =>
        rw [e] at hx
        obtain rfl := Option.some.inj hx
        exact hQ _ ⟨y, e, rfl, rfl⟩ rfl)
    (fun i σ2 H2 _ _ _ => yes_ev)
    (fun i σ2 H2 _ ⟨y, h1, h2, h3⟩ _ e => by
      obtain ⟨b, b1, _⟩ := key i y h1
      have e2 : (Sp.keysUp R).getD i 0 = y := by rw [List.getD_eq_getElem?_getD, h1] <;> rfl
      rw [e2, b1]
      exact ev_dget (k := Sum.inl y) (ev_var h2) (ev_var h3) (.inl (e _ _ hd)) b1)⟩
  rw [given_all fun _ _ => rfl]
  refine paired_of (by unfold Sp.srtR; simp) fun i x y hx hy => ?_
  unfold Sp.srtR at hx
  rw [List.map_map, List.getElem?_map] at hx
  cases e : (Sp.keysUp R)[i]? with
  | none => rw [e] at hx; cases hx
  | some z =>
    rw [e] at hx
    obtain rfl := Option.some.inj hx
    have hi : i < (Sp.keysUp R).length := (List.getElem?_eq_some_iff.mp e).1
    rw [List.getElem?_map, List.getElem?_range (by rw [List.length_map]; exact hi)] at hy
    obtain rfl := Option.some.inj hy
    obtain ⟨b, b1, b2⟩ := key i z e
    have e2 : (Sp.keysUp R).getD i 0 = z := by rw [List.getD_eq_getElem?_getD, e] <;> rfl
    refine ⟨b, ?_, b2⟩
    show (valV kvs (Sum.inl ((Sp.keysUp R).getD i 0))).getD .non = .ref b
    rw [e2, b1]
    rfl
/-- reduced(vectors): the rows in the order of their pivots -/
def spRed (K : PySem.W.Frag) : Sp := fun vs H Q _ => ∃ b a us rows, vs = [.ref a] ∧ SqB K H b a us ∧ Refs K H rows us ∧ rows.length ≤ 60 ∧ FitGo [] rows ∧ ((Sp.red rows).map (·.1)).Nodup ∧
  ∀ H' p ws, Ex H H' → SqT K H' p ws → Refs K H' ((Sp.srtR (Sp.red rows)).map (·.2)) ws → Q (.ref p) H'
abbrev nRed : List Str := ["vectors", "rows", "vector", "rest", "at", "entry", "other"]
theorem sc_red : FnScope nRed ["vectors"] (defScope s_reduced) := ⟨rfl, rfl, rfl, by decide +kernel, rfl, by decide +kernel, by decide +kernel⟩
theorem ok_red (B : Bt mg) (F : Fd K mg "reduced" s_reduced ["vectors"]) (F1 : Fd K mg "pivot" s_pivot ["vector"]) (F2 : Fd K mg "primitive" s_primitive ["vector"]) (F4 : Fd K mg "remainder" s_remainder ["vector", "rows"])
    (F5 : Fd K mg "cleared" s_cleared ["row", "vector", "at"]) : Cl P w K mg base 3 "reduced" ["vectors"] (spRed K) := by
  have C1 : Cl P w K mg base 1 "pivot" ["vector"] (spPivot K) := ok_pivot B F1
  have C2 : Cl P w K mg base 1 "primitive" ["vector"] (spPrim K) := ok_prim B F2
  have C4 : Cl P w K mg base 1 "remainder" ["vector", "rows"] (spRem K) := ok_rem B F4
  have C5 : Cl P w K mg base 2 "cleared" ["row", "vector", "at"] (spClr K) := ok_clr B F5 F2
  refine cl_mk F sc_red (fun vs H Q E ⟨b, a, us, rows, e, _⟩ => by rw [e] <;> rfl) fun f cdv A outer s H vs Q E hr ⟨b, a, us, rows, ev, hS, hR, hl, W, hnd, q⟩ => ?_
  subst ev
  have hu := hu_of hr
  have h1 : Room 1 _ := hr.mono (by decide)
  refine ⟨_, pss_cons (ps_set (i := 1) sc_red.nd rfl (Or.inr rfl) pe_dnewK)
    (pss_cut (ps_for PassesOwn.never rfl (pi_both (pv 0)) (pg_name (i := 2) sc_red.nd rfl (Or.inl rfl))
      (pss_cons (ps_if (pt_cmpR op_eq (pe_callB call_lenD (by rfl) B.len boot_le (pa_cons (pv 1) pa_nil)) (pe_callB call_len (by rfl) B.len boot_le (pa_cons (pv 2) pa_nil)) (nomark _)) (pss_one ps_break) pss_nil)
      (pss_cons (ps_set (i := 3) sc_red.nd rfl (Or.inr rfl) (pe_cl C2 h1 (by rfl) (pa_cons (pe_cl C4 h1 (by rfl) (pa_cons (pv 2) (pa_cons (pv 1) pa_nil))) pa_nil)))
      (pss_cons (ps_set (i := 4) sc_red.nd rfl (Or.inr rfl) (pe_cl C1 h1 (by rfl) (pa_cons (pv 3) pa_nil)))
      (pss_one (ps_if (pt_cmpR op_notN (pv 4) pe_non (nomark _))
        (pss_cut (ps_if (pt_cmpR op_lt (pe_ix ix_tup (pv 3) (pv 4) (fun _ _ => rfl)) pe_int (nomark _))
          (pss_one (ps_set (i := 3) sc_red.nd rfl (Or.inr rfl) (pe_callTy call_tuple_of (by rfl) B.tuple boot_tt (pa_cons
            (pe_lc (own := [("entry", 5)]) (g := gName 5) (tt := tYes) rfl sc_red.nd (pi_tup (pv 3)) (blkOk_by (N := nRed) (sc := defScope s_reduced) (by decide +kernel)) (fun _ _ _ _ _ => pg_name (i := 5) sc_red.nd rfl (Or.inl rfl)) (fun _ _ _ _ _ => pts_nil) (fun _ _ _ _ _ => pe_un un_neg (pv 5))) pa_nil)))) pss_nil)
        (pss_cons (ps_set (i := 1) sc_red.nd rfl (Or.inr rfl) (pe_lock (pe_dc (own := [("other", 6)]) (g := gName 6) (tt := tYes) rfl sc_red.nd (pi_keys (pv 1)) (blkOk_by (N := nRed) (sc := defScope s_reduced) (by decide +kernel)) (fun _ _ _ _ _ => pg_name (i := 6) sc_red.nd rfl (Or.inl rfl)) (fun _ _ _ _ _ => pts_nil)
            (fun _ _ _ _ _ => pv 6) (fun _ _ _ _ _ => pe_cl C5 hr (by rfl) (pa_cons (pe_dget hu (pv 1) (pv 6) (fun _ _ => rfl)) (pa_cons (pv 3) (pa_cons (pv 4) pa_nil)))))))
        (pss_one (ps_dput hu (pv 1) (pv 4) (pv 3) rfl)))) pss_nil))))))
    (pss_one (ps_ret (pe_callTy call_tuple_of (by rfl) B.tuple boot_tt (pa_cons
      (pe_lc (own := [("at", 4)]) (g := gName 4) (tt := tYes) rfl sc_red.nd (pi_list (pe_callB (call_sortedDI rfl) (by rfl) B.sorted boot_so (pa_cons (pv 1) pa_nil))) (blkOk_by (N := nRed) (sc := defScope s_reduced) (by decide +kernel)) (fun _ _ _ _ _ => pg_name (i := 4) sc_red.nd rfl (Or.inl rfl)) (fun _ _ _ _ _ => pts_nil)
        (fun _ _ _ _ _ => pe_dget hu (pv 1) (pv 4) (fun _ _ => rfl))) pa_nil))))), ?_⟩
  intro d0 hd0
  refine ⟨fun σ' H' => ∃ d kvs u2 u3 u4, σ' = [some (.ref a), some (.ref d), u2, u3, u4, none, none] ∧ Ex H H' ∧ H' d = some (.dK kvs) ∧ KvR K H' (Sp.red rows) kvs, ?_, ?_⟩
  · refine s_forI (ei_both (K := K) (tl := tVar 0) (b := b) (ev_var rfl) (sqb_mono (Ex.new hd0) hS)) (fun H2 i σ' H' => ∃ d R kvs u2 u3 u4, σ' = [some (.ref a), some (.ref d), u2, u3, u4, none, none] ∧ Ex H2 H' ∧ H' d = some (.dK kvs) ∧ KvR K H' R kvs ∧ Sp.redGo R (rows.drop i) = Sp.red rows ∧ FitGo R (rows.drop i))
      (fun H2 e2 => ⟨d0, [], [], none, none, none, rfl, Ex.refl H2, e2 _ _ upd_same, .nil, rfl, W⟩) (fun H2 i σ' H' ⟨d, R, kvs, u2, u3, u4, _, e, _⟩ => e) ?_ ?_
    · rintro H2 i x σ' H3 H4 hi e2 ⟨d, R, kvs, u2, u3, u4, rfl, e3, hd, hk, hg, hw⟩ e4 hx
      have eH : Ex H H4 := (((Ex.new hd0).trans e2).trans e3).trans e4
      obtain ⟨v, hv, bv, rfl, hb⟩ := paired_get hR hx
      have hb4 : SqT K H4 bv (iVs v) := ex_t eH hb
      have hd4 := e4 _ _ hd
      have hk4 := hk.mono e4
      have hdrop : rows.drop i = v :: rows.drop (i + 1) := by
        have hil : i < rows.length := (List.getElem?_eq_some_iff.mp hv).1
        rw [List.drop_eq_getElem_cons hil]
        rw [List.getElem?_eq_getElem hil] at hv
        rw [Option.some.inj hv]
      rw [hdrop] at hg hw
      have lk : kvs.length = R.length := hk.length.symm
      have ec : EvT (tTest (tOp rEq (tCB (fun xs H Q => ∃ a kvs, xs = [V.ref a] ∧ H a = some (HO.dK kvs) ∧ Q (V.int (kvs.length : Nat)) H) (tCons (tVar 1) tNil)) (tCB (rLenA K) (tCons (tVar 2) tNil)))) [some (.ref a), some (.ref d), some (.ref bv), u3, u4, none, none] H4 (decide (V.int (kvs.length : Nat) = V.int ((iVs v).length : Nat))) :=
        et_test (ev_op (ev_lenD (ev_var rfl) hd4) (ev_lenB (K := K) (b := false) (ev_var rfl) hb4) (rv_eq rfl))
      refine q_when ec (fun hc H5 e5 => ?_) fun hc H5 e5 => ?_
      · -- break
        have z : R.length = v.length := by
          have := V.int.inj (of_decide_eq_true hc)
          rw [iVs_len, lk] at this
          omega
        refine ⟨d, kvs, _, _, _, rfl, eH.trans e5, e5 _ _ hd4, ?_⟩
        have : R = Sp.red rows := by rw [← hg]; unfold Sp.redGo; rw [if_pos z]
        rw [← this]
        exact hk4.mono e5
      · have z : R.length ≠ v.length := fun z => (of_decide_eq_false hc) (by rw [iVs_len, lk, z])
        have hs : FitStep R v ∧ FitGo (Sp.addRow R v) (rows.drop (i + 1)) := by
          rcases hw with hw | ⟨_, hw⟩
          · exact absurd hw z
          · exact hw
        have hg2 : Sp.redGo (Sp.addRow R v) (rows.drop (i + 1)) = Sp.red rows := by rw [← hg]; conv => rhs; unfold Sp.redGo; rw [if_neg z]
        obtain ⟨S, hw2⟩ := hs
        have lrem := rem_len S.fr
        have lpr : (Sp.prim (Sp.rem v R)).length = v.length := by rw [Sp.prim_len, lrem]
        refine ⟨_, rfl, _, rfl, bv, d, v, R, kvs, rfl, ex_t e5 hb4, e5 _ _ hd4, hk4.mono e5, S.fr, fun H6 y6 e6 hy6 => ⟨y6, Sp.rem v R, rfl, hy6, by rw [lrem]; exact S.fr.sz, S.lg, fun H7 y e7 hy => ?_⟩⟩
        refine ⟨_, rfl, y, Sp.prim (Sp.rem v R), rfl, hy, fun H8 e8 => ?_⟩
        have e48 : Ex H4 H8 := ((e5.trans e6).trans e7).trans e8
        cases hpv : Sp.piv (Sp.prim (Sp.rem v R)) with
        | none =>
          have hadd : Sp.addRow R v = R := by unfold Sp.addRow; rw [hpv]
          rw [hadd] at hg2 hw2
          refine ⟨_, rfl, rfl, _, rfl, ?_⟩
          refine iteF ?_
          exact ⟨d, R, kvs, _, _, _, rfl, (e3.trans e4).trans e48, e48 _ _ hd4, hk4.mono e48, hg2, hw2⟩
        | some p =>
          obtain ⟨hnk, hfc⟩ := S.nx p hpv
          have plt : p < (Sp.prim (Sp.rem v R)).length := (Sp.piv_some hpv).1
          refine ⟨_, rfl, rfl, _, rfl, ?_⟩
          refine iteT ?_
          refine ⟨fun σ' H' => ∃ y', σ' = [some (.ref a), some (.ref d), some (.ref bv), some (.ref y'), some (.int (p : Nat)), none, none] ∧ Ex H8 H' ∧ SqT K H' y' (iVs (Sp.up (Sp.prim (Sp.rem v R)) p)), ?_, ?_⟩
          · have et : EvT (tTest (tOp (rI0 fun i j => .bl (decide (i < j))) (tOp (rIxT K) (tVar 3) (tVar 4)) (tC (.int 0)))) [some (.ref a), some (.ref d), some (.ref bv), some (.ref y), some (.int (p : Nat)), none, none] H8 (decide (Sp.ent (Sp.prim (Sp.rem v R)) p < 0)) :=
              et_test (ev_op (ev_ixV (K := K) (ev_var rfl) (ev_var rfl) (ex_t e8 hy) plt) ev_c rv_I0)
            refine s_when et (fun hb H9 e9 => ?_) fun hb H9 e9 => ?_
            · have hup : Sp.up (Sp.prim (Sp.rem v R)) p = (Sp.prim (Sp.rem v R)).map fun x => -x := by unfold Sp.up; rw [if_pos (of_decide_eq_true hb)]
              refine s_asgU (eu_tupL (K := K) (el_mapT (K := K) (tl := tVar 3) (j := 5) (vs := [5]) (te := tUn (rU fun i => .int (-i)) (tVar 5)) (fun x => -x) (ev_var rfl) (ex_t (e8.trans e9) hy) (by rw [lpr]; have := S.fr.sz; omega) (fun _ => rfl) fun j H10 hj e10 => ev_un (ev_var rfl) ru_neg)) fun y2 H10 _ e10 hy2 => ⟨y2, rfl, e9.trans e10, ?_⟩
              rw [hup]
              exact st_of hy2
            · have hup : Sp.up (Sp.prim (Sp.rem v R)) p = Sp.prim (Sp.rem v R) := by unfold Sp.up; rw [if_neg (of_decide_eq_false hb)]
              refine ⟨y, rfl, e9, ?_⟩
              rw [hup]
              exact ex_t (e8.trans e9) hy
          · rintro σ' H9 ⟨y', rfl, e9, hy'⟩
            have e49 := e48.trans e9
            have hd9 := e49 _ _ hd4
            have hk9 := hk4.mono e49
            refine ⟨d, _, hd9, trivial, fun od => ⟨_, rfl, d, od, rfl, .inl ⟨kvs, upd_same, fun Dn hDn => dc_it (walk_keys (d := d) (o := od)) (fun j H' => Ex (upd H9 d (.frz od (.dK kvs))) H' ∧ ∃ ks, H' Dn = some (.dK ks) ∧ KvR K H' ((R.take j).map fun q => (q.1, Sp.clr q.2 (Sp.up (Sp.prim (Sp.rem v R)) p) p)) ks)
              ⟨Ex.new hDn, [], upd_same, .nil⟩ (fun j H' _ pr => pr.1 _ _ upd_same) ?_ ?_⟩⟩⟩
            · rintro j x H10 H11 hj ⟨e10, ks, hks, hkr⟩ ⟨rfl, k, u, hku, rfl⟩
              obtain ⟨⟨q1, q2⟩, hq, hqk, bq, rfl, hbq⟩ := paired_get hk9 hku
              have hqk : k = Sum.inl (q1 : Int) := hqk
              subst hqk
              have hbq : SqT K H9 bq (iVs q2) := hbq
              have hmem : (q1, q2) ∈ R := List.mem_of_getElem? hq
              have hlk := look_nd S.fr.nd hmem
              obtain ⟨bq2, v1, v2⟩ := hk9.look hlk
              have vq : valV kvs (Sum.inl (q1 : Int)) = some (.ref bq2) := v1
              refine ⟨rfl, ?_⟩
              refine ⟨_, rfl, ?_⟩
              have rd : Rd H11 d (.dK kvs) := .inr ⟨od, e10 _ _ upd_same⟩
              refine ev_dget (k := Sum.inl (q1 : Int)) (ev_var rfl) (ev_var rfl) rd vq H11 (Ex.refl H11) _ fun H12 e12 => ?_
              have eL := e10.trans e12
              refine ⟨_, rfl, _, rfl, bq2, y', q2, _, p, rfl, ex_t eL (sqt_updD v2 hd9), ex_t eL (sqt_updD hy' hd9), hfc _ hmem, fun H13 z e13 hz => ?_⟩
              have hks13 := (e12.trans e13) _ _ hks
              refine ⟨ks, Sum.inl (q1 : Int), rfl, hks13, ?_, Ex.mut (eL.trans e13) hDn, _, upd_same, ?_⟩
              · have l1 := hkr.length
                rw [List.length_map, List.length_take] at l1
                have := S.fr.sr
                exact small1000 (by omega)
              · have hns : q1 ∉ ((R.take j).map fun q => (q.1, Sp.clr q.2 (Sp.up (Sp.prim (Sp.rem v R)) p) p)).map (·.1) := fun hm => by
                  rw [List.map_map] at hm
                  obtain ⟨y0, hy0, ey0⟩ := List.mem_map.mp hm
                  have ey0 : y0.1 = q1 := ey0
                  obtain ⟨j', hj'⟩ := List.mem_iff_getElem?.mp hy0
                  rw [List.getElem?_take] at hj'
                  split at hj'
                  · rename_i hjj
                    have a1 : (R.map (·.1))[j']? = some q1 := by rw [List.getElem?_map, hj', ← ey0] <;> rfl
                    have a2 : (R.map (·.1))[j]? = some q1 := by rw [List.getElem?_map, hq] <;> rfl
                    have := nd_ix S.fr.nd a1 a2
                    omega
                  · cases hj'
                have hput := (hkr.mono (e12.trans e13)).put hns hz
                rw [List.take_add_one, hq, Option.toList_some, List.map_append]
                exact hput.upd hks13
            · rintro H10 ⟨e10, ks, hks, hkr⟩
              have htk : R.take kvs.length = R := by rw [lk, List.take_length]
              rw [htk] at hkr
              refine ⟨e10 _ _ upd_same, ?_⟩
              have hne : Dn ≠ d := fun z => by rw [z, upd_same] at hDn; cases hDn
              have hd10 : H10 d = some (.frz od (.dK kvs)) := e10 _ _ upd_same
              have eb : Ex H9 (upd H10 d (.dK kvs)) := ex_back hd9 e10
              have hks2 : (upd H10 d (.dK kvs)) Dn = some (.dK ks) := by rw [upd_ne hne]; exact hks
              have hDn9 : H9 Dn = none := by rw [upd_ne hne] at hDn; exact hDn
              have hkr2 : KvR K (upd H10 d (.dK kvs)) (R.map fun q => (q.1, Sp.clr q.2 (Sp.up (Sp.prim (Sp.rem v R)) p) p)) ks :=
                paired_mono (fun _ _ ⟨g1, g2, g3, g4⟩ => ⟨g1, g2, g3, sqt_upd g4 hd10 (fun _ z => nomatch z) (fun _ _ z => nomatch z)⟩) hkr
              generalize upd H10 d (.dK kvs) = H11 at eb hks2 hkr2 ⊢
              have lks : ks.length = R.length := by rw [← hkr2.length, List.length_map]
              refine ⟨_, rfl, _, rfl, _, rfl, Dn, _, rfl, DPut.k (k := Sum.inl (p : Int)) hks2 (small1000 (by rw [lks]; have := S.fr.sr; omega)), ?_⟩
              have hns : p ∉ (R.map fun q => (q.1, Sp.clr q.2 (Sp.up (Sp.prim (Sp.rem v R)) p) p)).map (·.1) := by rw [List.map_map]; exact hnk
              have hput := hkr2.put hns (ex_t eb hy')
              have hadd : Sp.addRow R v = (R.map fun q => (q.1, Sp.clr q.2 (Sp.up (Sp.prim (Sp.rem v R)) p) p)) ++ [(p, Sp.up (Sp.prim (Sp.rem v R)) p)] := by unfold Sp.addRow; rw [hpv]
              rw [hadd] at hg2 hw2
              exact ⟨Dn, _, _, _, _, _, rfl, ((e3.trans e4).trans e49).trans (Ex.mut eb hDn9), upd_same, hput.upd hks2, hg2, hw2⟩
    · rintro H2 σ' H' e2 ⟨d, R, kvs, u2, u3, u4, rfl, e3, hd, hk, hg, _⟩
      have hz : rows.drop us.length = [] := by rw [← hR.length, List.drop_length]
      rw [hz] at hg
      have hg : R = Sp.red rows := hg
      exact ⟨d, kvs, u2, u3, u4, rfl, ((Ex.new hd0).trans e2).trans e3, hd, hg ▸ hk⟩
  · rintro σ' H1 ⟨d, kvs, u2, u3, u4, rfl, e1, hd, hk⟩
    have hlt : (Sp.red rows).length < 64 := by
      have h := redGo_len rows []
      have h2 : (Sp.red rows).length ≤ 0 + rows.length := h
      omega
    obtain ⟨ws, hw, L⟩ := el_rows (K := K) (u2 := u2) (u3 := u3) (u4 := u4) (a := a) hd hk hnd hlt (el_sorted (K := K) (tl := tVar 1) (ev_var rfl) hd hk hlt)
    exact s_retU (eu_tupL (K := K) L) fun p H2 _ e2 hp => q H2 p ws (e1.trans e2) (st_of hp) (hw.mono e2)
end
end Tx

/-! part K7 -/
/-! is_int, is_vector over plain data. -/
namespace Tx
open PySem PySem.Spec PyProof.Rows L2 Evl Jb
def isIntD : Dt → Bool | .int _ => true | _ => false
def isTupD : Dt → Bool | .tup _ => true | _ => false
theorem kit_int1 (d : Dt) : kitB (tyD d) "int" = some (match d with | .int _ => true | .bl _ => true | _ => false) := by cases d <;> (dsimp only [tyD]; decide +kernel)
theorem kit_bool (d : Dt) : kitB (tyD d) "bool" = some (match d with | .bl _ => true | _ => false) := by cases d <;> (dsimp only [tyD]; decide +kernel)
theorem kit_tup (d : Dt) : kitB (tyD d) "tuple" = some (isTupD d) := by cases d <;> (dsimp only [tyD, isTupD]; decide +kernel)
theorem ev_allL {K : PySem.W.Frag} {σ : L2.St} {H : Hp} {te : TE} {bs : List Bool} (h : EvL te σ H (bs.map V.bl)) : Ev (tCB (rAll K) (tCons te tNil)) σ H (.bl (bs.all id)) := fun H1 e Q q =>
  h H1 e _ fun p H2 hp e2 hd => ⟨p, bs, rfl, sq_of hd, q H2 e2⟩
/-- a vector of a width -/
def isVecD (w : Int) : Dt → Bool | .tup l => decide ((l.length : Int) = w) && l.all isIntD | _ => false
section
variable {P : Program} {w : World} {K : PySem.W.Frag} {mg : Str → Option Value} {base : Heap}
abbrev spIsI (K : PySem.W.Frag) : Sp := spD K 1 (fun _ => True) fun ds => match ds with | [d] => .bl (isIntD d) | _ => .non
theorem sc_is_int : FnScope ["value"] ["value"] (defScope s_is_int) := ⟨rfl, rfl, rfl, by decide +kernel, rfl, by decide +kernel, by decide +kernel⟩
theorem ok_is_int (B : Bt mg) (F : Fd K mg "is_int" s_is_int ["value"]) : Cl P w K mg base 1 "is_int" ["value"] (spIsI K) := by
  refine cl_of F sc_is_int rfl fun f cdv A outer s H vs Q E ds hr _ hl r q => ?_
  match ds, hl, vs, r with
  | [d], _, [v], .cons r .nil =>
  refine ⟨_, pss_one (ps_ret (pe_and (pe_callB call_isi (by rfl) B.isinstance boot_isi (pa_cons (pv 0) (pa_cons (pe_bltn (v := .ty "int") (by rfl) B.int boot_ti rfl) pa_nil)))
    (pe_one (pe_not (pe_callB call_isi (by rfl) B.isinstance boot_isi (pa_cons (pv 0) (pa_cons (pe_bltn (v := .ty "bool") (by rfl) B.bool boot_tb rfl) pa_nil))))))), ?_⟩
  refine s_retD (evd_is (evd_ev (d := .bl _) (ev_andV (ev_isi (evd_var rfl r) (kit_int1 d)) fun _ => ev_notV (ev_isi (evd_var rfl r) (kit_bool d))) rfl) ?_) fun H1 v e r => q H1 v e r
  cases d <;> rfl
def spIsV (K : PySem.W.Frag) : Sp := fun vs H Q _ => ∃ v d wd, vs = [v, .int wd] ∧ Rep K H d v ∧ (∀ l, d = .tup l → l.length ≤ 1000) ∧ ∀ H', Ex H H' → Q (.bl (isVecD wd d)) H'
abbrev nIsV : List Str := ["value", "width", "entry"]
theorem sc_is_vector : FnScope nIsV ["value", "width"] (defScope s_is_vector) := ⟨rfl, rfl, rfl, by decide +kernel, rfl, by decide +kernel, by decide +kernel⟩
theorem ok_is_vector (B : Bt mg) (F : Fd K mg "is_vector" s_is_vector ["value", "width"]) (F1 : Fd K mg "is_int" s_is_int ["value"]) : Cl P w K mg base 2 "is_vector" ["value", "width"] (spIsV K) := by
  have C1 : Cl P w K mg base 1 "is_int" ["value"] (spIsI K) := ok_is_int B F1
  refine cl_mk F sc_is_vector (fun vs H Q E ⟨v, d, wd, e, _⟩ => by rw [e] <;> rfl) fun f cdv A outer s H vs Q E hr ⟨v, d, wd, ev, r, hl, q⟩ => ?_
  subst ev
  refine ⟨_, pss_one (ps_ret (pe_and (pe_callB call_isi (by rfl) B.isinstance boot_isi (pa_cons (pv 0) (pa_cons (pe_bltn (v := .ty "tuple") (by rfl) B.tuple boot_tt rfl) pa_nil)))
    (pe_and (pe_cmpR op_eq (pe_callB call_len (by rfl) B.len boot_le (pa_cons (pv 0) pa_nil)) (pv 1) (nomark _))
      (pe_one (pe_callB (cr_all rfl) (by rfl) B.all boot_al (pa_cons
        (pe_lc (own := [("entry", 2)]) (g := gName 2) (tt := tYes) rfl sc_is_vector.nd (pi_tup (pv 0)) (blkOk_by (N := nIsV) (sc := defScope s_is_vector) (by decide +kernel)) (fun _ _ _ _ _ => pg_name (i := 2) sc_is_vector.nd rfl (Or.inl rfl)) (fun _ _ _ _ _ => pts_nil)
          (fun _ _ _ _ _ => pe_cl C1 hr (by rfl) (pa_cons (pv 2) pa_nil))) pa_nil)))))), ?_⟩
  refine s_ret (v := .bl (isVecD wd d)) (ev_is (ev_andV (b := isVecD wd d) (ev_isi (evd_var rfl r) (kit_tup d)) fun ht => ?_) (by cases d <;> rfl)) fun H1 e => q H1 e
  cases d with
  | tup l =>
    cases r with
    | @tup a _ vs hS rs =>
    have hlen := hl l rfl
    refine ev_is (ev_andV (a := decide ((l.length : Int) = wd)) (b := l.all isIntD) (ev_is (ev_op (ev_lenB (K := K) (b := false) (ev_var rfl) hS) (ev_var rfl) (rv_eq rfl)) ?_) fun _ => ?_) rfl
    · rw [← rs.length]
      show V.bl (decide (V.int _ = V.int _)) = _
      congr 1
      exact decide_eq_decide.mpr ⟨fun z => V.int.inj z, fun z => congrArg _ z⟩
    · have hg := el_lcG (t := tYes) (te := tCall (spIsI K) [] E0 (tCons (tVar 2) tNil)) (g := gName 2) (σ := [some (.ref a), some (.int wd), none]) (H := H) (vs := [2]) (fun _ => true) (fun i => .bl ((l.map isIntD).getD i false))
        (fun i σ2 => ∃ x, vs[i]? = some x ∧ σ2 = [some (.ref a), some (.int wd), some x]) (ei_tup (K := K) (tl := tVar 0) (ev_var rfl) hS) (by rw [← rs.length]; omega)
        (fun i x H2 hi _ hx Q hQ => hQ _ ⟨x, hx, rfl⟩ rfl)
        (fun i σ2 H2 _ _ _ => yes_ev)
        (fun i σ2 H2 _ ⟨x, hx, e2⟩ _ e => by
          subst e2
          obtain ⟨dx, h1, h2⟩ := rs.get hx
          have h3 : (l.map isIntD).getD i false = isIntD dx := by rw [List.getD_eq_getElem?_getD, List.getElem?_map, h1] <;> rfl
          rw [h3]
          exact EvD.ev (d := .bl (isIntD dx)) (evd_call (n := 1) (ds := [dx]) (pre := fun _ => True) (m := fun ds => match ds with | [d] => .bl (isIntD d) | _ => .non) (eds_cons (evd_var rfl (h2.mono e)) fun H1 e1 => eds_nil) True.intro rfl) rfl)
      rw [given_all fun _ _ => rfl] at hg
      have e2 : (List.range vs.length).map (fun i => V.bl ((l.map isIntD).getD i false)) = (l.map isIntD).map V.bl := by
        rw [← rs.length]
        apply List.ext_getElem?
        intro i
        rw [List.getElem?_map, List.getElem?_map, List.getElem?_map]
        by_cases hi : i < l.length
        · rw [List.getElem?_range hi, List.getElem?_eq_getElem hi]
          show some (V.bl ((l.map isIntD).getD i false)) = some (V.bl (isIntD l[i]))
          rw [List.getD_eq_getElem?_getD, List.getElem?_map, List.getElem?_eq_getElem hi] <;> rfl
        · rw [List.getElem?_eq_none (by simp; omega), List.getElem?_eq_none (by omega)] <;> rfl
      rw [e2] at hg
      refine ev_is (ev_allL hg) ?_
      rw [List.all_map] <;> rfl
  | _ => cases ht
end
end Tx

/-! part K8 -/
/-! The errors of the text: how they are made. -/
namespace Tx
open PySem PySem.Spec PyProof.Rows L2 Evl Jb
abbrev s_iw : Stmt := inClass (top 13) 0
abbrev s_iv : Stmt := inClass (top 14) 0
abbrev s_is : Stmt := inClass (top 15) 0
abbrev s_dw : Stmt := inClass (top 16) 0
section
variable {P : Program} {w : World} {K : PySem.W.Frag} {mg : Str → Option Value} {base : Heap}
/-- an error class with one field f that its __init__ sets -/
def spI1 (C : Addr) (f : Str) : Sp := fun vs H Q _ => ∃ a v, vs = [.ref a, v] ∧ H a = some (exo a C none) ∧ ∀ dx, H dx = none → dx ≠ a → Q .non (upd (upd H dx (exd dx [(f, v)])) a (exo a C (some dx)))
/-- two fields -/
def spI2 (C : Addr) (f g : Str) : Sp := fun vs H Q _ => ∃ a v u, vs = [.ref a, v, u] ∧ H a = some (exo a C none) ∧ ∀ dx, H dx = none → dx ≠ a → Q .non (upd (upd (upd H dx (exd dx [(f, v)])) a (exo a C (some dx))) dx (exd dx [(g, u), (f, v)]))
/-- what the top has written of such a class -/
structure ErC (P : Program) (w : World) (K : PySem.W.Frag) (mg : Str → Option Value) (base : Heap) (x : Str) (C : Addr) (ps : List Str) (sp : Sp) : Prop where
  ex : OexC K C
  g : mg x = some (.ref C)
  init : ∃ fI fd, PySem.W.findIn K (.ref C) "__init__" = some (some (.ref fI)) ∧ PySem.W.typeIn K (.ref fI) = some (.type "function") ∧ FnOk P w K mg base CX0 1 fI fd ps sp ∧ Binds K fd ps []
theorem pmk_er {X : Cx} {x : Str} {C : Addr} {ps : List Str} {sp : Sp} {e : Expr} {es : List Expr} {ta : TA} {p pos : Pos} (T : ErC X.prog X.w X.K X.mg X.base x C ps sp) (hr : Room 2 X.A) (hg : Gl X x) (ha : PA X (e :: es) ta)
    (hdb : (x == ("__debug__" : Str)) = false := by decide)
    (he : starEach (e :: es) X.env = (false, eval e X.env) :: starEach es X.env := by rfl)
    (hpl : (backTo pos (starEach es X.env)).any (·.1) = false := by rfl) : PMk X (.Call (.Name x p) (e :: es) [] pos) (tMkO C sp [] ta) := by
  obtain ⟨fI, fd, iC, tI, F, hb⟩ := T.init
  exact pmk_oex T.ex iC tI F hr hb .nil pass0 hg T.g ha hdb he hpl
theorem del_new {H : Hp} {a d : Addr} {o u : HO} (ha : H a = none) (hd : d ≠ a) : upd (del (upd (upd H d o) a u) a) d (.xd []) d = some (.xd []) := upd_same
theorem heap_back {H : Hp} {a d : Addr} {o u v : HO} (ha : H a = none) (hd : d ≠ a) : upd (del (upd (upd H d o) a u) a) d v = upd H d v := by
  funext b
  by_cases h1 : b = d
  · subst h1
    rw [upd_same, upd_same]
  · rw [upd_ne h1, upd_ne h1]
    by_cases h2 : b = a
    · subst h2
      rw [del_same, ha]
    · rw [del_ne h2, upd_ne h2, upd_ne h1]
theorem upd_twice {H : Hp} {a : Addr} {o u : HO} : upd (upd H a o) a u = upd H a u := by
  funext b
  by_cases h : b = a
  · subst h
    rw [upd_same, upd_same]
  · rw [upd_ne h, upd_ne h, upd_ne h]
theorem upd_swap {H : Hp} {a d : Addr} {o u : HO} (h : d ≠ a) : upd (upd H a o) d u = upd (upd H d u) a o := by
  funext b
  by_cases h1 : b = d
  · subst h1
    rw [upd_same, upd_ne h, upd_same]
  · rw [upd_ne h1]
    by_cases h2 : b = a
    · subst h2
      rw [upd_same, upd_same]
    · rw [upd_ne h2, upd_ne h2, upd_ne h1]
theorem small3 {n : Nat} (h : n ≤ 3) : n ≤ 1000 := by omega
theorem mkO1 {te : TE} {σ : L2.St} {H : Hp} {v : V} {C : Addr} {f : Str} {Q : XK} (h : Ev te σ H v) (q : ∀ H1 d, Ex H H1 → H1 d = none → Q (.ref C) (some d) (upd H1 d (.xd [(f, v)]))) : tMkO C (spI1 C f) [] (tCons te tNil) σ H Q :=
  h H (Ex.refl H) _ fun H1 e => ⟨small3 (by simp), fun a ha => ⟨a, v, rfl, upd_same, fun dx hd hne => ⟨rfl, dx, [(f, v)], upd_same, by rw [upd_ne hne, upd_same], by rw [upd_ne hne] at hd; exact hd, by
    rw [upd_ne hne] at hd
    have z : upd (del (upd (upd (upd H1 a (exo a C none)) dx (exd dx [(f, v)])) a (exo a C (some dx))) a) dx (.xd [(f, v)]) = upd H1 dx (.xd [(f, v)]) := by
      rw [upd_swap hne, upd_twice, heap_back ha hne]
    rw [z]
    exact q H1 dx e hd⟩⟩⟩
theorem mkO2 {te tu : TE} {σ : L2.St} {H : Hp} {v u : V} {C : Addr} {f g : Str} {Q : XK} (h : Ev te σ H v) (h2 : ∀ H1, Ex H H1 → Ev tu σ H1 u) (q : ∀ H1 d, Ex H H1 → H1 d = none → Q (.ref C) (some d) (upd H1 d (.xd [(g, u), (f, v)]))) : tMkO C (spI2 C f g) [] (tCons te (tCons tu tNil)) σ H Q :=
  h H (Ex.refl H) _ fun H0 e0 => h2 H0 e0 H0 (Ex.refl H0) _ fun H1 e1 => ⟨small3 (by simp), fun a ha => ⟨a, v, u, rfl, upd_same, fun dx hd hne => ⟨rfl, dx, [(g, u), (f, v)], by rw [upd_ne (Ne.symm hne), upd_same], upd_same, by rw [upd_ne hne] at hd; exact hd, by
    rw [upd_ne hne] at hd
    have z : upd (del (upd (upd (upd (upd H1 a (exo a C none)) dx (exd dx [(f, v)])) a (exo a C (some dx))) dx (exd dx [(g, u), (f, v)])) a) dx (.xd [(g, u), (f, v)]) = upd H1 dx (.xd [(g, u), (f, v)]) := by
      rw [upd_swap hne, upd_twice, upd_swap hne, upd_twice, heap_back ha hne]
    rw [z]
    exact q H1 dx (e0.trans e1) hd⟩⟩⟩
theorem sc_iw : FnScope ["self", "value"] ["self", "value"] (defScope s_iw) := ⟨rfl, rfl, rfl, by decide +kernel, rfl, by decide +kernel, by decide +kernel⟩
theorem ini_iw {C f : Addr} {fd : FuncData} {q : Str} (F : L2.Fun K "__init__" q s_iw f fd) (T : OexC K C) (hn : PySem.W.findIn K (.ref C) "value" = some none) : FnOk P w K mg base CX0 1 f fd ["self", "value"] (spI1 C "value") := by
  refine F.ok sc_iw (fun vs H Q E ⟨a, v, e, _⟩ => by rw [e] <;> rfl) (fun cdv A outer s H vs Q E hr ⟨a, v, e, ha, k⟩ => ⟨tOst K "value" (tVar 0) (tVar 1), pss_one (ps_ost (L2.pv 0) (L2.pv 1)), ?_⟩)
  subst e
  exact ⟨_, rfl, _, rfl, a, C, rfl, T, hn, .inl ⟨ha, fun dx h1 h2 => k dx h1 h2⟩⟩
theorem sc_iv : FnScope ["self", "position"] ["self", "position"] (defScope s_iv) := ⟨rfl, rfl, rfl, by decide +kernel, rfl, by decide +kernel, by decide +kernel⟩
theorem ini_iv {C f : Addr} {fd : FuncData} {q : Str} (F : L2.Fun K "__init__" q s_iv f fd) (T : OexC K C) (hn : PySem.W.findIn K (.ref C) "position" = some none) : FnOk P w K mg base CX0 1 f fd ["self", "position"] (spI1 C "position") := by
  refine F.ok sc_iv (fun vs H Q E ⟨a, v, e, _⟩ => by rw [e] <;> rfl) (fun cdv A outer s H vs Q E hr ⟨a, v, e, ha, k⟩ => ⟨tOst K "position" (tVar 0) (tVar 1), pss_one (ps_ost (L2.pv 0) (L2.pv 1)), ?_⟩)
  subst e
  exact ⟨_, rfl, _, rfl, a, C, rfl, T, hn, .inl ⟨ha, fun dx h1 h2 => k dx h1 h2⟩⟩
theorem sc_is : FnScope ["self", "value"] ["self", "value"] (defScope s_is) := ⟨rfl, rfl, rfl, by decide +kernel, rfl, by decide +kernel, by decide +kernel⟩
theorem ini_is {C f : Addr} {fd : FuncData} {q : Str} (F : L2.Fun K "__init__" q s_is f fd) (T : OexC K C) (hn : PySem.W.findIn K (.ref C) "value" = some none) : FnOk P w K mg base CX0 1 f fd ["self", "value"] (spI1 C "value") := by
  refine F.ok sc_is (fun vs H Q E ⟨a, v, e, _⟩ => by rw [e] <;> rfl) (fun cdv A outer s H vs Q E hr ⟨a, v, e, ha, k⟩ => ⟨tOst K "value" (tVar 0) (tVar 1), pss_one (ps_ost (L2.pv 0) (L2.pv 1)), ?_⟩)
  subst e
  exact ⟨_, rfl, _, rfl, a, C, rfl, T, hn, .inl ⟨ha, fun dx h1 h2 => k dx h1 h2⟩⟩
theorem sc_dw : FnScope ["self", "one", "other"] ["self", "one", "other"] (defScope s_dw) := ⟨rfl, rfl, rfl, by decide +kernel, rfl, by decide +kernel, by decide +kernel⟩
theorem ini_dw {C f : Addr} {fd : FuncData} {q : Str} (F : L2.Fun K "__init__" q s_dw f fd) (T : OexC K C) (hn : PySem.W.findIn K (.ref C) "one" = some none) (hn2 : PySem.W.findIn K (.ref C) "other" = some none) :
    FnOk P w K mg base CX0 1 f fd ["self", "one", "other"] (spI2 C "one" "other") := by
  refine F.ok sc_dw (fun vs H Q E ⟨a, v, u, e, _⟩ => by rw [e] <;> rfl) (fun cdv A outer s H vs Q E hr ⟨a, v, u, e, ha, k⟩ => ⟨tSeq (tOst K "one" (tVar 0) (tVar 1)) (tOst K "other" (tVar 0) (tVar 2)), pss_cons (ps_ost (L2.pv 0) (L2.pv 1)) (pss_one (ps_ost (L2.pv 0) (L2.pv 2))), ?_⟩)
  subst e
  refine ⟨_, rfl, _, rfl, a, C, rfl, T, hn, .inl ⟨ha, fun dx h1 h2 => ?_⟩⟩
  refine ⟨_, rfl, _, rfl, a, C, rfl, T, hn2, .inr ⟨dx, [("one", v)], upd_same, by rw [upd_ne h2, upd_same], by show 1 ≤ 900; decide, ?_⟩⟩
  exact k dx h1 h2
end
end Tx

/-! part K9 -/
/-! check_vectors, check_operands: what they raise. -/
namespace Tx
open PySem PySem.Spec PyProof.Rows L2 Evl Jb
def firstBad (w : Int) (l : List Dt) : Option Nat := l.findIdx? fun d => !isVecD w d
/-- what is wrong with vectors -/
def badD (w : Int) : Dt → Option V
  | .tup l => (firstBad w l).map fun i => .int (i : Nat)
  | .lst l => (firstBad w l).map fun i => .int (i : Nat)
  | _ => some .non
def SmallT (d : Dt) : Prop := ∀ l, d = .tup l → l.length ≤ 1000
def SmallV (d : Dt) : Prop := ∀ l, (d = .tup l ∨ d = .lst l) → ∀ m ∈ l, SmallT m
def isLT : Dt → Bool | .lst _ => true | .tup _ => true | _ => false
theorem kit_lt {K : PySem.W.Frag} (d : Dt) : PySem.W.kitAny K (.type (tyD d)) [.type "list", .type "tuple"] = some (isLT d) := by
  cases d <;> (dsimp only [tyD, isLT]; first
    | exact kitAny_cons (kit_ty (b := "list") (by decide +kernel : kitB _ "list" = some false)) (fun _ => kitAny_cons (kit_ty (by decide +kernel : kitB _ "tuple" = some false)) (fun _ => kitAny_nil) fun z => nomatch z) fun z => nomatch z
    | exact kitAny_cons (kit_ty (b := "list") (by decide +kernel : kitB _ "list" = some false)) (fun _ => kitAny_cons (kit_ty (by decide +kernel : kitB _ "tuple" = some true)) (fun z => nomatch z) fun _ => rfl) fun z => nomatch z
    | exact kitAny_cons (kit_ty (b := "list") (by decide +kernel : kitB _ "list" = some true)) (fun z => nomatch z) fun _ => rfl)
section
variable {P : Program} {w : World} {K : PySem.W.Frag} {mg : Str → Option Value} {base : Heap}
def iEBoth (K : PySem.W.Frag) (ta : TA) : TI := fun σ H R => iE K true ta σ H R ∨ iE K false ta σ H R
theorem pi_eboth {X : Cx} {e : Expr} {ta : TA} {p pos tpos : Pos} {elts : List Expr} {kk : Nat} (hg : Gl X "enumerate") (hm : X.mg "enumerate" = none) (ha : PA X [e] ta) (hs : starEach [e] X.env = [(false, eval e X.env)] := by rfl) :
    PI X (.Tuple elts kk tpos) (.Call (.Name "enumerate" p) [e] [] pos) (iEBoth X.K ta) := ⟨fun pins s σ H R I q => q.elim (fun q => (piE true hg hm ha hs).run pins s σ H R I q) fun q => (piE false hg hm ha hs).run pins s σ H R I q⟩
theorem ei_eboth {σ : L2.St} {H : Hp} {b : Bool} {ta : TA} {a : Addr} {xs : List V} (h : EvA ta σ H [.ref a]) (hx : SqB K H b a xs) :
    EvI (iEBoth K ta) σ H xs.length (PairAt (fun i => some (.int (i : Nat))) (fun i => xs[i]?)) := by
  cases b with
  | true => exact fun H1 e R q => .inl (ei_enum (K := K) h hx H1 e R q)
  | false => exact fun H1 e R q => .inr (ei_enum (K := K) h hx H1 e R q)
def spCv (K : PySem.W.Frag) (C : Addr) : Sp := fun vs H Q E => ∃ v d wd, vs = [v, .int wd] ∧ Rep K H d v ∧ SmallV d ∧
  match badD wd d with
  | none => ∀ H', Ex H H' → Q .non H'
  | some p => ∀ H' dx, Ex H H' → H' dx = none → E (.ref C) (some dx) (upd H' dx (.xd [("position", p)]))
abbrev nCv : List Str := ["vectors", "width", "position", "vector"]
theorem sc_cv : FnScope nCv ["vectors", "width"] (defScope s_check_vectors) := ⟨rfl, rfl, rfl, by decide +kernel, rfl, by decide +kernel, by decide +kernel⟩
/-- a def that may raise, as its callers see it -/
def ClX (P : Program) (w : World) (K : PySem.W.Frag) (mg : Str → Option Value) (base : Heap) (k : Nat) (x : Str) (ps : List Str) (sp : Sp) : Prop :=
  ∃ f fd, FnOk P w K mg base (L2.CX P w) k f fd ps sp ∧ mg x = some (.ref f) ∧ PySem.W.keepIn K (.ref f) = true ∧ L2.Binds K fd ps []
theorem clx_mk {x : Str} {st : Stmt} {N ps : List Str} {k : Nat} {sp : Sp} (F : Fd K mg x st ps) (S : FnScope N ps (defScope st)) (len : ∀ vs H Q E, sp vs H Q E → vs.length = ps.length)
    (hbody : ∀ (f : Addr) (cdv : Value) (A : Around) (outer : List Env) (s : Shared) (H : Hp) (vs : List V) (Q : VK) (E : XK), Room k (A.deeper (envOfC x (defScope st) s.heap.objs.size f cdv)) → sp vs H Q E →
      ∃ t, PSs (cxOf (L2.CX P w) P w K mg base N x (defScope st) f cdv A outer s H E) (defBody st) t ∧ t { nx := fun _ H' => Q .non H', rt := Q } (start N vs) H) : ClX P w K mg base (k + 1) x ps sp := by
  obtain ⟨f, fd, F, hm, hb⟩ := F
  exact ⟨f, fd, F.okX S len (fun cdv A outer s H vs Q E hr h => hbody f cdv A outer s H vs Q E hr h), hm, F.kp, hb⟩
theorem pe_clx {X : Cx} {k : Nat} {x : Str} {ps : List Str} {sp : Sp} {E : L2.St → XK} {e : Expr} {es : List Expr} {t : TA} {p pos : Pos} (C : ClX X.prog X.w X.K X.mg X.base k x ps sp) (hr : Room k X.A) (hg : Gl X x) (hx : ∀ σ, PassesAt (L2.CX X.prog X.w) X σ (E σ)) (ha : PA X (e :: es) t)
    (hdb : (x == ("__debug__" : Str)) = false := by decide)
    (he : starEach (e :: es) X.env = (false, eval e X.env) :: starEach es X.env := by rfl)
    (hpl : (backTo pos (starEach es X.env)).any (·.1) = false := by rfl) :
    PE X (.Call (.Name x p) (e :: es) [] pos) (tCallS sp E t) := by
  obtain ⟨f, fd, F, hm, hk, hb⟩ := C
  exact pe_callS F hr hg hm hk hb hx ha hdb he hpl
theorem findIdx_lt {α : Type} {p : α → Bool} : ∀ {l : List α} {i : Nat}, l.findIdx? p = some i → (∃ x, l[i]? = some x ∧ p x = true) ∧ ∀ j x, j < i → l[j]? = some x → p x = false := by
  intro l
  induction l with
  | nil => intro i h; simp at h
  | cons a l ih =>
    intro i h
    rw [List.findIdx?_cons] at h
    by_cases c : p a = true
    · rw [if_pos c] at h
      cases h
      exact ⟨⟨a, rfl, c⟩, fun j x hj => absurd hj (Nat.not_lt_zero j)⟩
    · rw [if_neg c] at h
      cases e : l.findIdx? p with
      | none => rw [e] at h; cases h
      | some k =>
        rw [e] at h
        cases h
        obtain ⟨⟨x, h1, h2⟩, h3⟩ := ih e
        refine ⟨⟨x, h1, h2⟩, fun j y hj hy => ?_⟩
        cases j with
        | zero => cases hy; exact Bool.eq_false_iff.mpr c
        | succ j => exact h3 j y (Nat.lt_of_succ_lt_succ hj) hy
theorem firstBad_at {w : Int} {l : List Dt} {i : Nat} {d : Dt} (h : ∀ (j : Nat) (x : Dt), j < i → l[j]? = some x → isVecD w x = true) (hd : l[i]? = some d) (hb : isVecD w d = false) : firstBad w l = some i := by
  unfold firstBad
  cases e : l.findIdx? (fun d => !isVecD w d) with
  | none =>
    have := List.findIdx?_eq_none_iff.mp e d (List.mem_of_getElem? hd)
    rw [hb] at this
    cases this
  | some k =>
    obtain ⟨⟨x, h1, h2⟩, h3⟩ := findIdx_lt e
    rcases Nat.lt_trichotomy k i with c | c | c
    · have := h k x c h1
      rw [this] at h2
      cases h2
    · rw [c]
    · have := h3 i d c hd
      rw [hb] at this
      cases this
theorem firstBad_no {w : Int} {l : List Dt} (h : ∀ (j : Nat) (x : Dt), l[j]? = some x → isVecD w x = true) : firstBad w l = none := by
  unfold firstBad
  rw [List.findIdx?_eq_none_iff]
  intro x hx
  obtain ⟨j, hj⟩ := List.mem_iff_getElem?.mp hx
  rw [h j x hj]
  rfl
theorem ev_isiLT {te : TE} {σ : L2.St} {H : Hp} {d : Dt} (h : EvD K te σ H d) : Ev (tCB (rIsiT K) (tCons te (tCons (tTup (tCons (tC (.ty "list")) (tCons (tC (.ty "tuple")) tNil))) tNil))) σ H (.bl (isLT d)) := fun H1 e Q q =>
  h H1 e _ fun H2 v e2 r => ⟨by show 2 ≤ sizeLine; decide, fun p hp => ⟨v, p, [.ty "list", .ty "tuple"], _, _, isLT d, rfl, upd_same, .cons (.ty _) (.cons (.ty _) .nil), (r.mono (Ex.new hp)).ty, kit_lt d, q _ (e2.trans (Ex.new hp))⟩⟩
theorem ev_isv {te tw : TE} {σ : L2.St} {H : Hp} {d : Dt} {wd : Int} (h : EvD K te σ H d) (h2 : ∀ H1, Ex H H1 → Ev tw σ H1 (.int wd)) (hs : SmallT d) : Ev (tCall (spIsV K) [] E0 (tCons te (tCons tw tNil))) σ H (.bl (isVecD wd d)) := fun H1 e Q q =>
  h H1 e _ fun H2 v e2 r => h2 H2 (e.trans e2) H2 (Ex.refl H2) _ fun H3 e3 => ⟨v, d, wd, rfl, r.mono e3, hs, fun H' e4 => q H' ((e2.trans e3).trans e4)⟩
theorem ok_cv {C : Addr} (B : Bt mg) (F : Fd K mg "check_vectors" s_check_vectors ["vectors", "width"]) (T : ErC P w K mg base "InvalidVectors" C ["self", "position"] (spI1 C "position"))
    (F2 : Fd K mg "is_vector" s_is_vector ["value", "width"]) (F1 : Fd K mg "is_int" s_is_int ["value"]) : ClX P w K mg base 3 "check_vectors" ["vectors", "width"] (spCv K C) := by
  have C2 : Cl P w K mg base 2 "is_vector" ["value", "width"] (spIsV K) := ok_is_vector B F2 F1
  refine clx_mk F sc_cv (fun vs H Q E ⟨v, d, wd, e, _⟩ => by rw [e] <;> rfl) fun f cdv A outer s H vs Q E hr ⟨v, d, wd, ev, r, hs, q⟩ => ?_
  subst ev
  refine ⟨_, pss_cons (ps_if (pt_not (pt_val (pe_callB call_isiT (by rfl) B.isinstance boot_isi (pa_cons (pv 0) (pa_cons (pe_tup (pa_cons (pe_bltn (v := .ty "list") (by rfl) B.list boot_tl rfl) (pa_cons (pe_bltn (v := .ty "tuple") (by rfl) B.tuple boot_tt rfl) pa_nil))) pa_nil)))))
      (pss_one (ps_raise rfl (takes_of rfl rfl rfl rfl) (pmk_er T hr (by rfl) (pa_cons pe_non pa_nil)))) pss_nil)
    (pss_one (ps_for (passes_of rfl) rfl (pi_eboth (by rfl) B.enumerate (pa_cons (pv 0) pa_nil)) (pg_tup rfl (pgs_cons (pg_name (i := 2) sc_cv.nd rfl (Or.inl rfl)) (pgs_cons (pg_name (i := 3) sc_cv.nd rfl (Or.inl rfl)) pgs_nil)))
      (pss_one (ps_if (pt_not (pt_val (pe_cl C2 hr (by rfl) (pa_cons (pv 3) (pa_cons (pv 1) pa_nil)))))
        (pss_one (ps_raise rfl (takes_of rfl rfl rfl rfl) (pmk_er T hr (by rfl) (pa_cons (pv 2) pa_nil)))) pss_nil)))), ?_⟩
  refine q_when (et_not (et_B (ev_isiLT (evd_var rfl r)))) (fun hb H1 e1 => ?_) fun hb H1 e1 => ?_
  · refine mkO1 ev_c fun H2 dx e2 hdx => ?_
    cases d <;> first | exact q H2 dx (e1.trans e2) hdx | cases hb
  · have hx : ∃ (b : Bool) (a : Addr) (us : List V) (l : List Dt), v = .ref a ∧ SqB K H b a us ∧ Reps K H l us ∧ badD wd d = (firstBad wd l).map (fun i => V.int (i : Nat)) ∧ ∀ m ∈ l, SmallT m := by
      cases r with
      | @tup a l us hS rs => exact ⟨false, a, us, l, rfl, hS, rs, rfl, hs l (.inl rfl)⟩
      | @lst a l us hS rs => exact ⟨true, a, us, l, rfl, sq_of hS, rs, rfl, hs l (.inr rfl)⟩
      | _ => cases hb
    obtain ⟨b, a, us, l, rfl, hS, rs, hbd, hsm⟩ := hx
    refine s_forI (σ := [some (.ref a), some (.int wd), none, none]) (ei_eboth (K := K) (b := b) (ta := tCons (tVar 0) tNil) (ea_cons (ev_var rfl) ea_nil) (sqb_mono e1 hS)) (fun H2 i σ' H' => (∃ u2 u3, σ' = [some (.ref a), some (.int wd), u2, u3]) ∧ Ex H2 H' ∧ ∀ (j : Nat) (x : Dt), j < i → l[j]? = some x → isVecD wd x = true)
      (fun H2 e2 => ⟨⟨none, none, rfl⟩, Ex.refl H2, fun j x hj => absurd hj (Nat.not_lt_zero j)⟩) (fun H2 i σ' H' p => p.2.1) ?_ ?_
    · rintro H2 i x σ' H3 H4 hi e2 ⟨⟨u2, u3, rfl⟩, e3, hz⟩ e4 hx
      refine g_pair hx fun u y hu hy => ?_
      obtain rfl : V.int (i : Nat) = u := Option.some.inj hu
      obtain ⟨dx, hdx, rx⟩ := rs.get hy
      have eH : Ex H H4 := ((e1.trans e2).trans e3).trans e4
      refine s_when (et_not (et_B (ev_isv (d := dx) (wd := wd) (evd_var rfl (rx.mono eH)) (fun _ _ => ev_var rfl) (hsm dx (List.mem_of_getElem? hdx))))) (fun hb2 H5 e5 => ?_) fun hb2 H5 e5 => ?_
      · refine mkO1 (ev_var rfl) fun H6 d6 e6 hd6 => ?_
        rw [hbd, firstBad_at hz hdx (by simpa using hb2)] at q
        exact q H6 d6 ((eH.trans e5).trans e6) hd6
      · refine ⟨⟨_, _, rfl⟩, (e3.trans e4).trans e5, fun j z hj hjz => ?_⟩
        by_cases hji : j < i
        · exact hz j z hji hjz
        · obtain rfl : j = i := by omega
          rw [hdx] at hjz
          cases hjz
          simpa using hb2
    · rintro H2 σ' H' e2 ⟨_, e3, hz⟩
      rw [hbd, firstBad_no fun j x hx => hz j x (by rw [← rs.length]; exact (List.getElem?_eq_some_iff.mp hx).1) hx] at q
      exact q H' ((e1.trans e2).trans e3)
end
end Tx

/-! part K10 -/
/-! Space.__init__. -/
namespace Tx
open PySem PySem.Spec PyProof.Rows L2 Evl Jb
abbrev s_init : Stmt := inClass (top 24) 0
def okW : Dt → Option Int | .int i => if 1 ≤ i ∧ i ≤ 128 then some i else none | _ => none
def intD : Dt → Int | .int i => i | _ => 0
def rowD : Dt → List Int | .tup l => l.map intD | _ => []
/-- the rows may be reduced -/
structure FitV (l : List Dt) : Prop where
  len : l.length ≤ 60
  go : FitGo [] (l.map rowD)
  nd : ((Sp.red (l.map rowD)).map (·.1)).Nodup
  pv : ∀ q ∈ Sp.srtR (Sp.red (l.map rowD)), Sp.piv q.2 = some q.1
def spF (wd : Int) (b r : Addr) : List (Str × V) := [("_width", .int wd), ("_basis", .ref b), ("_rows", .ref r)]
def spInit (K : PySem.W.Frag) (CS CW CV : Addr) : Sp := fun vs H Q E => ∃ p dx v d u d2, vs = [.ref p, v, u] ∧ H p = some (.ins CS dx []) ∧ Rep K H d v ∧ Rep K H d2 u ∧ SmallV d2 ∧
  match okW d with
  | none => ∀ H' e, Ex H H' → H' e = none → E (.ref CW) (some e) (upd H' e (.xd [("value", v)]))
  | some wd => match badD wd d2 with
    | some pos => ∀ H' e, Ex H H' → H' e = none → E (.ref CV) (some e) (upd H' e (.xd [("position", pos)]))
    | none => ∃ l, FitV l ∧ (d2 = .lst l ∨ d2 = .tup l) ∧ ∀ H' b r ws kvs, (∀ c o, H c = some o → c ≠ p → H' c = some o) → H' p = some (.ins CS dx (spF wd b r)) → SqT K H' b ws → Refs K H' ((Sp.srtR (Sp.red (l.map rowD))).map (·.2)) ws → H' r = some (.dK kvs) → KvR K H' (Sp.srtR (Sp.red (l.map rowD))) kvs → Q .non H'
/-- what the top has written of the class -/
structure SpT (K : PySem.W.Frag) (mg : Str → Option Value) (CS : Addr) : Prop where
  cl : Cls K CS
  nw : NoAttr K CS "_width"
  nb : NoAttr K CS "_basis"
  nr : NoAttr K CS "_rows"
  g : mg "Space" = some (.ref CS)
  mw : ∃ t, mg "_MOST_WIDTH" = some (.int 128 t)
abbrev nIni : List Str := ["self", "width", "vectors"]
theorem sc_ini : FnScope nIni nIni (defScope s_init) := ⟨rfl, rfl, rfl, by decide +kernel, rfl, by decide +kernel, by decide +kernel⟩
section
variable {P : Program} {w : World} {K : PySem.W.Frag} {mg : Str → Option Value} {base : Heap}
theorem sqb_upd {H : Hp} {D a : Addr} {b : Bool} {o : HO} {C dx : Addr} {fs : List (Str × V)} {xs : List V} (h : SqB K H b a xs) (hD : H D = some (.ins C dx fs)) : SqB K (upd H D o) b a xs := by
  cases b with
  | false => exact sqt_upd h hD (fun _ z => nomatch z) (fun _ _ z => nomatch z)
  | true =>
    rcases h with (h | ⟨ob, h⟩) | h
    · exact .inl (.inl (by rw [upd_ne fun z => by rw [z, hD] at h; cases Option.some.inj h]; exact h))
    · exact .inl (.inr ⟨ob, by rw [upd_ne fun z => by rw [z, hD] at h; cases Option.some.inj h]; exact h⟩)
    · exact .inr h
theorem refs_upd {H : Hp} {D : Addr} {o : HO} {C dx : Addr} {fs : List (Str × V)} {rows : List (List Int)} {us : List V} (h : Refs K H rows us) (hD : H D = some (.ins C dx fs)) : Refs K (upd H D o) rows us :=
  paired_mono (fun _ _ ⟨a, h1, h2⟩ => ⟨a, h1, sqt_upd h2 hD (fun _ z => nomatch z) (fun _ _ z => nomatch z)⟩) h
theorem reps_ints {H : Hp} : ∀ {l : List Dt} {us : List V}, Reps K H l us → l.all isIntD = true → us = iVs (l.map intD)
  | _, _, .nil, _ => rfl
  | _, _, .cons h t, e => by
    rw [List.all_cons, Bool.and_eq_true] at e
    have ih := reps_ints t e.2
    cases h with
    | int i => rw [ih] <;> rfl
    | _ => cases e.1
theorem refs_of {H : Hp} {wd : Int} : ∀ {l : List Dt} {us : List V}, Reps K H l us → (∀ m ∈ l, isVecD wd m = true) → Refs K H (l.map rowD) us
  | _, _, .nil, _ => .nil
  | _, _, .cons (d := d) h t, e => by
    refine .cons ?_ (refs_of t fun m hm => e m (List.mem_cons_of_mem _ hm))
    have h1 := e d List.mem_cons_self
    cases h with
    | tup hs rs =>
      have h2 := (Bool.and_eq_true _ _).mp h1
      rw [reps_ints rs h2.2] at hs
      exact ⟨_, rfl, hs⟩
    | _ => cases h1
theorem bad_none {wd : Int} {l : List Dt} (h : (firstBad wd l).map (fun i => V.int (i : Nat)) = none) : ∀ m ∈ l, isVecD wd m = true := fun m hm => by
  have h1 : firstBad wd l = none := by
    cases e : firstBad wd l with
    | none => rfl
    | some i => rw [e] at h; cases h
  have := List.findIdx?_eq_none_iff.mp h1 m hm
  simpa using this
theorem et_width {σ : L2.St} {H : Hp} {v : V} {d : Dt} (hv : σ[1]? = some (some v)) (r : Rep K H d v) :
    EvT (tOr (tNot (tB (tCall (spIsI K) [] E0 (tCons (tVar 1) tNil)))) (tNot (tTest (tChain (rI0 fun i j => .bl (decide (i ≤ j))) (rI0 fun i j => .bl (decide (i ≤ j))) (tC (.int 1)) (tVar 1) (tC (.int 128)))))) σ H (okW d).isNone := by
  refine et_is (et_or (a := !isIntD d) (b := (okW d).isNone) (et_not (et_B (EvD.ev (d := .bl (isIntD d)) (evd_call (n := 1) (ds := [d]) (pre := fun _ => True) (m := fun ds => match ds with | [d] => .bl (isIntD d) | _ => .non) (eds_cons (evd_var hv r) fun H1 e1 => eds_nil) True.intro rfl) rfl))) fun hi => ?_) ?_
  · cases r with
    | int i =>
      refine et_is (et_not (a := decide (1 ≤ i ∧ i ≤ 128)) (et_test fun H1 e Q q => ⟨_, hv, 1, i, rfl, rfl, _, rfl, ?_⟩)) ?_
      · by_cases c : 1 ≤ i
        · rw [decide_eq_true c]
          refine if_pos rfl ▸ ⟨i, 128, rfl, rfl, ?_⟩
          have z : decide (1 ≤ i ∧ i ≤ 128) = decide (i ≤ 128) := decide_eq_decide.mpr ⟨fun y => y.2, fun y => ⟨c, y⟩⟩
          rw [z] at q
          exact q H1 (Ex.refl H1)
        · rw [decide_eq_false c]
          have z : decide (1 ≤ i ∧ i ≤ 128) = false := decide_eq_false fun y => c y.1
          rw [z] at q
          exact q H1 (Ex.refl H1)
      · show _ = (if 1 ≤ i ∧ i ≤ 128 then some i else none).isNone
        by_cases c : 1 ≤ i ∧ i ≤ 128
        · rw [if_pos c, decide_eq_true c] <;> rfl
        · rw [if_neg c, decide_eq_false c] <;> rfl
    | _ => cases hi
  · cases d <;> rfl
theorem srt_len {R : Sp.Rows} : (Sp.srtR R).length = R.length := by
  unfold Sp.srtR
  rw [List.length_map, (Sp.keysUp_perm R).length_eq, List.length_map]
theorem srt_keys {R : Sp.Rows} : ((Sp.srtR R).map (·.1)).Perm (R.map (·.1)) := by
  have h := (Sp.keysUp_perm R).map Int.toNat
  unfold Sp.srtR
  rw [List.map_map]
  rw [List.map_map] at h
  exact h
theorem srt_nd {R : Sp.Rows} (h : (R.map (·.1)).Nodup) : ((Sp.srtR R).map (·.1)).Nodup := srt_keys.nodup_iff.mpr h
theorem small_b {n m : Nat} (h : n ≤ m) (hm : m ≤ 60) : n ≤ 1000 := by omega
theorem ok_init {CS CW CV f : Addr} {fd : FuncData} {dvs : List V} (B : Bt mg) (S : SpT K mg CS) (Ff : L2.FunD K "__init__" "Space.__init__" (defArgs s_init) (defBody s_init) (defScope s_init) dvs [] f fd) (TW : ErC P w K mg base "InvalidWidth" CW ["self", "value"] (spI1 CW "value"))
    (C1 : Cl P w K mg base 1 "is_int" ["value"] (spIsI K)) (C3 : ClX P w K mg base 3 "check_vectors" ["vectors", "width"] (spCv K CV)) (C6 : Cl P w K mg base 3 "reduced" ["vectors"] (spRed K)) (C2 : Cl P w K mg base 2 "by_pivots" ["basis"] (spByPiv K)) :
    FnOk P w K mg base (L2.CX P w) 4 f fd nIni (spInit K CS CW CV) := by
  obtain ⟨tm, hmw⟩ := S.mw
  refine L2.FunD.ok Ff sc_ini (fun vs H Q E ⟨p, dx, v, d, u, d2, e, _⟩ => by rw [e] <;> rfl) (fun cdv A outer s H vs Q E hr ⟨p, dx, v, d, u, d2, ev, hp, r, r2, hsm, q⟩ => ?_)
  subst ev
  have h1 : Room 1 _ := hr.mono (by decide)
  have h2 : Room 2 _ := hr.mono (by decide)
  refine ⟨_, pss_cons (ps_if (PW.pt (pw_or (pt_not (pt_val (pe_cl C1 h1 (by rfl) (pa_cons (pv 1) pa_nil)))) (pw_or1 (pt_not (pt_chain op_le op_le pe_int (pv 1) (pe_glob (v := .int 128) (by rfl) hmw ⟨tm, rfl⟩))))))
      (pss_one (ps_raise rfl (takes_of rfl rfl rfl rfl) (pmk_er TW h2 (by rfl) (pa_cons (pv 1) pa_nil)))) pss_nil)
    (pss_cons (ps_expr (pe_clx (E := WE fun cls d _ H => E cls d H) C3 hr (by rfl) (fun σ => L2.passAt (takes_of rfl rfl rfl rfl) σ) (pa_cons (pv 2) (pa_cons (pv 1) pa_nil))))
    (pss_cons (ps_fld (pv 0) (pv 1) rfl)
    (pss_cons (ps_fld (pv 0) (pe_cl C6 hr (by rfl) (pa_cons (pv 2) pa_nil)) rfl)
    (pss_one (ps_fld (pv 0) (pe_cl C2 h2 (by rfl) (pa_cons (pe_fld (pv 0) rfl) pa_nil)) rfl))))), ?_⟩
  refine q_when (et_width (v := v) (d := d) rfl r) (fun hb H1 e1 => ?_) fun hb H1 e1 => ?_
  · refine mkO1 (ev_var rfl) fun H2 e e2 he => ?_
    cases ho : okW d with
    | none =>
      rw [ho] at q
      exact q H2 e (e1.trans e2) he
    | some wd => rw [ho] at hb; cases hb
  · cases ho : okW d with
    | none => rw [ho] at hb; cases hb
    | some wd =>
      rw [ho] at q
      have hd : d = .int wd ∧ v = .int wd := by
        cases r with
        | int i =>
          have ho : (if 1 ≤ i ∧ i ≤ 128 then some i else none) = some wd := ho
          by_cases c : 1 ≤ i ∧ i ≤ 128
          · rw [if_pos c] at ho; cases ho; exact ⟨rfl, rfl⟩
          · rw [if_neg c] at ho; cases ho
        | _ => cases ho
      obtain ⟨rfl, rfl⟩ := hd
      refine ⟨_, rfl, _, rfl, u, d2, wd, rfl, r2.mono e1, hsm, ?_⟩
      cases hbd : badD wd d2 with
      | some pos =>
        dsimp only at q
        rw [hbd] at q
        exact fun H2 e e2 he => q H2 e (e1.trans e2) he
      | none =>
        dsimp only at q
        rw [hbd] at q
        obtain ⟨l, W, hl, q⟩ := q
        intro H2 e2
        have e12 : Ex H H2 := e1.trans e2
        have hx : ∃ (b : Bool) (a : Addr) (us : List V), u = .ref a ∧ SqB K H b a us ∧ Reps K H l us ∧ (firstBad wd l).map (fun i => V.int (i : Nat)) = none := by
          rcases hl with rfl | rfl
          · cases r2 with
            | @lst a _ us hS rs => exact ⟨true, a, us, rfl, sq_of hS, rs, hbd⟩
          · cases r2 with
            | @tup a _ us hS rs => exact ⟨false, a, us, rfl, hS, rs, hbd⟩
        obtain ⟨b, a, us, rfl, hS, rs, hfb⟩ := hx
        have hR := refs_of rs (bad_none hfb)
        -- self._width
        refine ⟨_, rfl, _, rfl, p, CS, dx, [], rfl, e12 _ _ hp, S.cl, S.nw, by show 0 < 1000; decide, ?_⟩
        have hp2 := e12 _ _ hp
        -- self._basis
        refine ⟨_, rfl, b, a, us, _, rfl, sqb_upd (sqb_mono e12 hS) hp2, refs_upd (hR.mono e12) hp2, by rw [List.length_map]; exact W.len, W.go, W.nd, fun H3 t ws e3 ht hws => ?_⟩
        have hp3 : H3 p = some (.ins CS dx [("_width", .int wd)]) := e3 _ _ upd_same
        refine ⟨_, rfl, p, CS, dx, _, rfl, hp3, S.cl, S.nb, by show 1 < 1000; decide, ?_⟩
        have e13 : ∀ c o, H c = some o → c ≠ p → H3 c = some o := fun c o hc hn => e3 _ _ (by rw [upd_ne hn]; exact e12 _ _ hc)
        generalize hH4 : upd H3 p _ = H4
        have hp4 : H4 p = some (.ins CS dx [("_width", .int wd), ("_basis", .ref t)]) := by rw [← hH4]; exact upd_same
        have ht4 : SqT K H4 t ws := by rw [← hH4]; exact sqt_upd ht hp3 (fun _ z => nomatch z) (fun _ _ z => nomatch z)
        have hw4 : Refs K H4 ((Sp.srtR (Sp.red (l.map rowD))).map (·.2)) ws := by rw [← hH4]; exact refs_upd hws hp3
        have e14 : ∀ c o, H c = some o → c ≠ p → H4 c = some o := fun c o hc hn => by rw [← hH4, upd_ne hn]; exact e13 c o hc hn
        -- self._rows
        have hnd := srt_nd W.nd
        have hlen : (Sp.srtR (Sp.red (l.map rowD))).length ≤ 1000 := by
          have h := redGo_len (l.map rowD) []
          have h2 : (Sp.red (l.map rowD)).length ≤ 0 + (l.map rowD).length := h
          rw [List.length_map] at h2
          rw [srt_len]
          exact small_b (by omega) W.len
        refine ⟨_, rfl, p, CS, dx, _, _, rfl, hp4, S.cl, S.nb, rfl, t, ws, _, rfl, ht4, hw4, W.pv, hnd, hlen, fun H5 r kvs hr0 e5 hr5 hk5 => ?_⟩
        have hp5 := e5 _ _ hp4
        refine ⟨_, rfl, p, CS, dx, _, rfl, hp5, S.cl, S.nr, by show 2 < 1000; decide, ?_⟩
        refine q _ t r ws kvs (fun c o hc hn => by rw [upd_ne hn]; exact e5 _ _ (e14 c o hc hn)) upd_same ?_ ?_ ?_ ?_
        · exact sqt_upd (ex_t e5 ht4) hp5 (fun _ z => nomatch z) (fun _ _ z => nomatch z)
        · exact refs_upd (hw4.mono e5) hp5
        · rw [upd_ne fun z => by rw [z, hp5] at hr5; cases hr5]
          exact hr5
        · exact paired_mono (fun _ _ ⟨g1, g2, g3, g4⟩ => ⟨g1, g2, g3, sqt_upd g4 hp5 (fun _ z => nomatch z) (fun _ _ z => nomatch z)⟩) hk5
end
end Tx

/-! part K11 -/
/-! An operator of an own class that raises. -/
namespace Tx
open PySem PySem.Spec PySem.Calls PySem.W PyProof.Rows
section
variable {prog : Program} {w : World} {A : Around} {E : Value → Shared → Prop} {s : Shared} {K : PySem.W.Frag} {x C f : Addr} {ox : Obj} {od : Option Obj} {T : String}
/-- the method of the left operand raises: nothing comes back of it -/
theorem try_out {name : Str} {b : Value} {Q : Option Value → Shared → Prop} (X : K.In s.heap) (I : InstAt s.heap x ox C od) (hs : findIn K (.ref C) name = some (some (.ref f))) (hf : isFn K (.ref f) = true)
    (h : wpAny (model prog w) A (call (.ref f) [.ref x, b]) (fun _ _ => False) E s) : wpAny (model prog w) A (tryMethod (.ref x) name b) Q E s := by
  unfold tryMethod
  exact wpAny_bind (special_fn X I hs (beq_iff_eq.mp hf) (wpAny_mono h (fun _ _ z => z.elim) fun _ _ e => e))
theorem bin_outT {op : Operator} {b : Value} {fo ro rc : Option Value} {Q : Value → Shared → Prop} (X : K.In s.heap) (I : InstAt s.heap x ox C od) (hb : Looks (model prog w) s.heap (typeOf b) (.type T)) (hc : selfFirst K C = true)
    (hs : findIn K (.ref C) (PySem.dunder op.info.2) = some (some (.ref f))) (hf : isFn K (.ref f) = true)
    (hr : findIn K (.ref C) (dunderR op.info.2) = some rc) (hp : rc = none ∨ ∃ g : Addr, rc = some (.ref g))
    (hl : findIn K (.type T) (PySem.dunder op.info.2) = some fo) (hl2 : findIn K (.type T) (dunderR op.info.2) = some ro) (hsub : subIn K (.type T) (.ref C) = some false)
    (h : wpAny (model prog w) A (call (.ref f) [.ref x, b]) (fun _ _ => False) E s) : wpAny (model prog w) A (binaryOp op (.ref x) b) Q E s := by
  obtain ⟨cd, rest, hcd, hm⟩ := ksp_first hc
  rcases e0 : op.info with ⟨sg, nn⟩
  rw [e0] at hs hr hl hl2
  dsimp only at hs hr hl hl2
  have out : ∀ {Q : Option Value → Shared → Prop}, wpAny (model prog w) A (tryMethod (.ref x) (PySem.dunder nn) b) Q E s := fun {Q} => try_out X I hs hf h
  obtain ⟨hh, gn, dr, tk, os⟩ := s
  have T1 : Looks (model prog w) hh (typeOf (.ref x)) (.ref C) := I.type
  have T2 : Looks (model prog w) hh (typeOf b) (.type T) := hb
  have S1 : Looks (model prog w) hh (fillsNumberSlot (.ref C) nn) true := fills_K X hcd hm hs
  have S2 : Looks (model prog w) hh (fillsNumberSlot (.type T) nn) ((fo.isSome && !isSeqSlot fo) || (ro.isSome && !isSeqSlot ro)) := ksp_fillsT X hl hl2
  have S3 : Looks (model prog w) hh (isSubtype (.type T) (.ref C)) false := looks_subIn X hsub
  have S4 : Looks (model prog w) hh (numberSlotInPython (.ref C) nn) true := ksp_inPy X hs hr hp
  have S5 : Looks (model prog w) hh (numberSlotInPython (.type T) nn) false := Looks.of_pure rfl
  have S6 : Looks (model prog w) hh (typeLookup (.type T) (dunderR nn)) ro := looks_findIn X hl2
  generalize ((fo.isSome && !isSeqSlot fo) || (ro.isSome && !isSeqSlot ro)) = rgt at S2
  have dif : (Value.ref C == Value.type T) = false := Bool.eq_false_iff.mpr fun q => by cases beq_iff_eq.mp q
  simp only [binaryOp, e0]
  refine wpAny_holding (wpAny_bind ?_)
  unfold binaryOp1
  refine wpAny_bind (T1.at (wpAny_bind (T2.at (wpAny_bind (S1.at ?_)))))
  simp only [dif, Bool.false_eq_true, if_false]
  cases rgt <;> (ksp_lk; exact out)
theorem bin_outC {op : Operator} {b : Value} {Q : Value → Shared → Prop} (X : K.In s.heap) (I : InstAt s.heap x ox C od) (hb : Looks (model prog w) s.heap (typeOf b) (.ref C)) (hc : selfFirst K C = true)
    (hs : findIn K (.ref C) (PySem.dunder op.info.2) = some (some (.ref f))) (hf : isFn K (.ref f) = true)
    (h : wpAny (model prog w) A (call (.ref f) [.ref x, b]) (fun _ _ => False) E s) : wpAny (model prog w) A (binaryOp op (.ref x) b) Q E s := by
  obtain ⟨cd, rest, hcd, hm⟩ := ksp_first hc
  rcases e0 : op.info with ⟨sg, nn⟩
  rw [e0] at hs
  dsimp only at hs
  have out : ∀ {Q : Option Value → Shared → Prop}, wpAny (model prog w) A (tryMethod (.ref x) (PySem.dunder nn) b) Q E s := fun {Q} => try_out X I hs hf h
  obtain ⟨hh, gn, dr, tk, os⟩ := s
  have T1 : Looks (model prog w) hh (typeOf (.ref x)) (.ref C) := I.type
  have T2 : Looks (model prog w) hh (typeOf b) (.ref C) := hb
  have S1 : Looks (model prog w) hh (fillsNumberSlot (.ref C) nn) true := fills_K X hcd hm hs
  simp only [binaryOp, e0]
  refine wpAny_holding (wpAny_bind ?_)
  unfold binaryOp1
  refine wpAny_bind (T1.at (wpAny_bind (T2.at (wpAny_bind (S1.at ?_)))))
  simp only [beq_self_eq_true, if_true]
  ksp_lk
  exact out
end
end Tx

/-! part K12 -/
/-! check_operands, and the operators that raise by it. -/
namespace Tx
open PySem PySem.Spec PyProof.Rows L2 Evl Jb
def tyL : List String := ["NoneType", "int", "tuple", "str", "list"]
/-- what the top has written of an operator of the class -/
structure OpC (K : PySem.W.Frag) (C : Addr) (op : Operator) (f : Addr) : Prop where
  first : PySem.W.selfFirst K C = true
  at_ : PySem.W.findIn K (.ref C) (PySem.dunder op.info.2) = some (some (.ref f))
  fn : PySem.W.isFn K (.ref f) = true
  rev : ∃ rc, PySem.W.findIn K (.ref C) (dunderR op.info.2) = some rc ∧ (rc = none ∨ ∃ g : Addr, rc = some (.ref g))
  ty : ∀ T ∈ tyL, (∃ fo, PySem.W.findIn K (.type T) (PySem.dunder op.info.2) = some fo) ∧ (∃ ro, PySem.W.findIn K (.type T) (dunderR op.info.2) = some ro) ∧ PySem.W.subIn K (.type T) (.ref C) = some false
def tBinO (K : PySem.W.Frag) (C : Addr) (sp : Sp) (E : L2.St → XK) (ta tb : TE) : TE := fun σ H _ => ta σ H fun x H1 => tb σ H1 fun y H2 => ∃ a dx fs t, x = .ref a ∧ H2 a = some (.ins C dx fs) ∧ TyX K H2 y t ∧ (t = .ref C ∨ ∃ T ∈ tyL, t = .type T) ∧ sp [x, y] H2 (fun _ _ => False) (E σ)
section
variable {P : Program} {w : World} {K : PySem.W.Frag} {mg : Str → Option Value} {base : Heap}
theorem pe_binO {X : Cx} {k : Nat} {f C : Addr} {fd : FuncData} {ps : List Str} {sp : Sp} {E : L2.St → XK} {op : Operator} {a b : Expr} {ta tb : TE} {pos : Pos} (O : OpC X.K C op f) (F : FnOk X.prog X.w X.K X.mg X.base (L2.CX X.prog X.w) k f fd ps sp) (hr : Room k X.A) (hb : Binds X.K fd ps [])
    (hx : ∀ σ, PassesAt (L2.CX X.prog X.w) X σ (E σ)) (ha : PE X a ta) (hb2 : PE X b tb) : PE X (.BinOp a op b pos) (tBinO X.K C sp E ta tb) := by
  refine ⟨fun pins s σ H Q I h => ?_⟩
  refine wpAny_BinOp (binT ha hb2 I h fun v u s2 x y H2 I2 rx ry ⟨p, dx, fs, t, ex, ea, ty, ht, q⟩ => ?_)
  subst ex
  obtain rfl : v = Value.ref p := rx
  obtain ⟨mA, Oi, _⟩ := ins_get I2.hok ea
  obtain ⟨od, J, _⟩ := Oi.look
  obtain ⟨Pz, Z, pz, _⟩ := kit_of I2 ry ty
  have run : wpAny (model X.prog X.w) X.A (call (.ref f) [.ref p, u]) (fun _ _ => False) X.xe s2 :=
    wpAny_mono (run_fnS (us := [.ref p, u]) (vs := [.ref p, y]) (Q := fun _ _ => False) F hr hb (hx σ) I2 (.cons rfl (.cons ry .nil)) q) (fun _ _ z => by obtain ⟨_, _, _, _, z⟩ := z; exact z.elim) fun _ _ e => e
  rcases ht with rfl | ⟨T, hT, rfl⟩
  · exact bin_outC I2.kIn J (Z.ty _ _ I2.kIn pz) O.first O.at_ O.fn run
  · obtain ⟨rc, h1, h2⟩ := O.rev
    obtain ⟨⟨fo, h3⟩, ⟨ro, h4⟩, h5⟩ := O.ty T hT
    exact bin_outT I2.kIn J (Z.ty _ _ I2.kIn pz) O.first O.at_ O.fn h1 h2 h3 h4 h5 run
theorem tyx_mono {H H' : Hp} {v : V} {t : Value} (e : Ex H H') (h : TyX K H v t) : TyX K H' v t := by
  cases h with
  | base b =>
    cases b with
    | non => exact .base .non
    | bl x => exact .base (.bl x)
    | int i => exact .base (.int i)
    | str x => exact .base (.str x)
    | flt x => exact .base (.flt x)
    | lst h => exact .base (.lst (e _ _ h))
    | frz h => exact .base (.frz (e _ _ h))
    | tup h => exact .base (.tup (e _ _ h))
    | dK h => exact .base (.dK (e _ _ h))
    | dT h => exact .base (.dT (e _ _ h))
    | ins h a b c d g => exact .base (.ins (e _ _ h) a b c d g)
  | byt b => exact .byt b
  | set h => exact .set (e _ _ h)
  | kList h c => exact .kList h c
  | kTuple h c => exact .kTuple h c
  | kDict h c => exact .kDict h c
  | fTuple h => exact .fTuple (e _ _ h)
  | fDict h => exact .fDict (e _ _ h)
/-- what the top has written of the property width -/
def Wid (P : Program) (w : World) (K : PySem.W.Frag) (mg : Str → Option Value) (base : Heap) (CS : Addr) (y f : Str) : Prop := ∃ p g fd, PropOf K CS y p g ∧ FnOk P w K mg base CX0 1 g fd ["self"] (getSp CS f) ∧ Binds K fd ["self"] []
theorem pe_wid {X : Cx} {CS : Addr} {y f : Str} {e : Expr} {ta : TE} {pos : Pos} (W : Wid X.prog X.w X.K X.mg X.base CS y f) (c : Cls X.K CS) (hr : Room 2 X.A) (he : PE X e ta) (hab : attributeBase e y X.env (eval e X.env) = eval e X.env) :
    PE X (.Attribute e y pos) (tProp CS (getSp CS f) [] E0 ta) := by
  obtain ⟨p, g, fd, h1, h2, h3⟩ := W
  exact pe_prop he c h1 h2 hr h3 .nil pass0 hab
theorem ev_wid {σ : L2.St} {H : Hp} {te : TE} {CS a dx : Addr} {fs : List (Str × V)} {f : Str} {v : V} (h : Ev te σ H (.ref a)) (ha : H a = some (.ins CS dx fs)) (hl : fs.lookup f = some v) : Ev (tProp CS (getSp CS f) [] E0 te) σ H v := fun H1 e Q q =>
  h H1 e _ fun H2 e2 => ⟨a, dx, fs, rfl, e2 _ _ (e _ _ ha), a, dx, fs, v, rfl, e2 _ _ (e _ _ ha), hl, q H2 e2⟩
theorem spF_w {wd : Int} {b r : Addr} : (spF wd b r).lookup ("_width" : Str) = some (.int wd) := rfl
theorem spF_b {wd : Int} {b r : Addr} : (spF wd b r).lookup ("_basis" : Str) = some (.ref b) := rfl
def spCo (K : PySem.W.Frag) (CS CI CD : Addr) : Sp := fun vs H Q E => ∃ a dx wd b r v, vs = [.ref a, v] ∧ H a = some (.ins CS dx (spF wd b r)) ∧
  ((∃ t, TyX K H v t ∧ PySem.W.kitOne K t (.ref CS) = some false ∧ ∀ H' e, Ex H H' → H' e = none → E (.ref CI) (some e) (upd H' e (.xd [("value", v)]))) ∨
   (∃ a2 dx2 wd2 b2 r2, v = .ref a2 ∧ TyX K H v (.ref CS) ∧ H a2 = some (.ins CS dx2 (spF wd2 b2 r2)) ∧
      (wd = wd2 → ∀ H', Ex H H' → Q .non H') ∧ (wd ≠ wd2 → ∀ H' e, Ex H H' → H' e = none → E (.ref CD) (some e) (upd H' e (.xd [("other", .int wd2), ("one", .int wd)])))))
abbrev nCo : List Str := ["one", "other"]
theorem sc_co : FnScope nCo nCo (defScope s_check_operands) := ⟨rfl, rfl, rfl, by decide +kernel, rfl, by decide +kernel, by decide +kernel⟩
theorem ev_isiC {σ : L2.St} {H : Hp} {te : TE} {v : V} {t : Value} {CS : Addr} {b : Bool} (h : Ev te σ H v) (ht : TyX K H v t) (hb : PySem.W.kitOne K t (.ref CS) = some b) : Ev (tCB (rIsi K) (tCons te (tCons (tC (.ref CS)) tNil))) σ H (.bl b) := fun H1 e Q q =>
  h H1 e _ fun H2 e2 => ⟨v, .ref CS, t, .ref CS, b, rfl, .own CS, tyx_mono (e.trans e2) ht, hb, q H2 e2⟩
theorem ok_co {CS CI CD : Addr} (B : Bt mg) (S : SpT K mg CS) (W : Wid P w K mg base CS "width" "_width") (F : Fd K mg "check_operands" s_check_operands nCo) (TI : ErC P w K mg base "InvalidSpace" CI ["self", "value"] (spI1 CI "value"))
    (TD : ErC P w K mg base "DifferentWidths" CD ["self", "one", "other"] (spI2 CD "one" "other")) : ClX P w K mg base 3 "check_operands" nCo (spCo K CS CI CD) := by
  refine clx_mk F sc_co (fun vs H Q E ⟨a, dx, wd, b, r, v, e, _⟩ => by rw [e] <;> rfl) fun f cdv A outer s H vs Q E hr ⟨a, dx, wd, b, r, v, ev, ha, q⟩ => ?_
  subst ev
  refine ⟨_, pss_cons (ps_if (pt_not (pt_val (pe_callB call_isi (by rfl) B.isinstance boot_isi (pa_cons (pv 1) (pa_cons (pe_glob (v := .ref CS) (by rfl) S.g rfl) pa_nil)))))
      (pss_one (ps_raise rfl (takes_of rfl rfl rfl rfl) (pmk_er TI hr (by rfl) (pa_cons (pv 1) pa_nil)))) pss_nil)
    (pss_one (ps_if (pt_cmpR op_ne (pe_wid W S.cl hr (pv 0) rfl) (pe_wid W S.cl hr (pv 1) rfl) (nomark _))
      (pss_one (ps_raise rfl (takes_of rfl rfl rfl rfl) (pmk_er TD hr (by rfl) (pa_cons (pe_wid W S.cl hr (pv 0) rfl) (pa_cons (pe_wid W S.cl hr (pv 1) rfl) pa_nil))))) pss_nil)), ?_⟩
  rcases q with ⟨t, ty, hk, q⟩ | ⟨a2, dx2, wd2, b2, r2, rfl, ty, ha2, q1, q2⟩
  · refine q_when (et_not (et_B (ev_isiC (ev_var rfl) ty hk))) (fun _ H1 e1 => ?_) fun hb => by cases hb
    exact mkO1 (ev_var rfl) fun H2 e e2 he => q H2 e (e1.trans e2) he
  · refine q_when (et_not (et_B (ev_isiC (b := true) (ev_var rfl) ty (by unfold PySem.W.kitOne; rw [if_pos (beq_self_eq_true _)])))) (fun hb => by cases hb) fun _ H1 e1 => ?_
    have w1 : ∀ {H2 : Hp}, Ex H H2 → Ev (tProp CS (getSp CS "_width") [] E0 (tVar 0)) [some (.ref a), some (.ref a2)] H2 (.int wd) := fun e => ev_wid (ev_var rfl) (e _ _ ha) spF_w
    have w2 : ∀ {H2 : Hp}, Ex H H2 → Ev (tProp CS (getSp CS "_width") [] E0 (tVar 1)) [some (.ref a), some (.ref a2)] H2 (.int wd2) := fun e => ev_wid (ev_var rfl) (e _ _ ha2) spF_w
    refine s_when (et_test (ev_op (w1 e1) (w2 e1) (rv_ne rfl))) (fun hb H2 e2 => ?_) fun hb H2 e2 => ?_
    · have hne : wd ≠ wd2 := fun z => by subst z; simp at hb
      exact mkO2 (w1 (e1.trans e2)) (fun H3 e3 => w2 ((e1.trans e2).trans e3)) fun H3 d e3 hd => q2 hne H3 d ((e1.trans e2).trans e3) hd
    · have heq : wd = wd2 := by simpa using hb
      exact q1 heq H2 (e1.trans e2)
end
end Tx

/-! part K13 -/
/-! The pool of draws. -/
namespace Tx
open PySem PySem.Spec PyProof.Rows L2 Evl Jb
abbrev s_pool : Stmt := top 26
abbrev s_draw : Stmt := top 27
abbrev s_vector : Stmt := top 28
abbrev s_vectors : Stmt := top 29
abbrev s_made : Stmt := top 30
abbrev s_both : Stmt := top 31
abbrev s_law : Stmt := top 32
/-- all that stood stands but the pool -/
def ExB (p : Addr) (H H' : Hp) : Prop := ∀ b o, H b = some o → b ≠ p → H' b = some o
theorem ExB.of {p : Addr} {H H' : Hp} (e : Ex H H') : ExB p H H' := fun b o h _ => e b o h
theorem ExB.trans {p : Addr} {H H1 H2 : Hp} (a : ExB p H H1) (b : ExB p H1 H2) : ExB p H H2 := fun c o h n => b c o (a c o h n) n
theorem ExB.upd {p : Addr} {H H' : Hp} {o : HO} (a : ExB p H H') : ExB p H (upd H' p o) := fun c u h n => by rw [upd_ne n]; exact a c u h n
def PoolAt (H : Hp) (p : Addr) : Prop := ∃ x y : Int, H p = some (.lst [.int x, .int y]) ∧ 0 ≤ x ∧ Builtin.Int.intBits x ≤ 1048577 ∧ 0 ≤ y ∧ y < 2147483648
section
variable {P : Program} {w : World} {K : PySem.W.Frag} {mg : Str → Option Value} {base : Heap}
theorem bits_mono {x y : Int} (h : x.natAbs ≤ y.natAbs) : Builtin.Int.intBits x ≤ Builtin.Int.intBits y := by
  unfold Builtin.Int.intBits
  split
  · omega
  · rename_i hx
    split
    · rename_i hy
      simp at hx hy
      omega
    · have : x.natAbs.log2 ≤ y.natAbs.log2 := by
        rcases Nat.eq_zero_or_pos x.natAbs with z | z
        · rw [z]; exact Nat.zero_le _
        · exact (Nat.le_log2 (by omega)).mpr (Nat.le_trans (Nat.log2_self_le (by omega)) h)
      omega
theorem bits_small {x : Int} {n : Nat} (h : x.natAbs < 2 ^ n) : Builtin.Int.intBits x ≤ n := by
  unfold Builtin.Int.intBits
  split
  · omega
  · rename_i hx
    have : x.natAbs ≠ 0 := by
      intro z
      apply hx
      simp at z ⊢
      exact z
    have := (Nat.log2_lt this).mpr h
    omega
def spDraw : Sp := fun vs H Q _ => ∃ p c, vs = [.ref p, .int c] ∧ PoolAt H p ∧ 0 < c ∧ c.natAbs < 2 ^ 100 ∧ ∀ v H', 0 ≤ v → v < c → ExB p H H' → PoolAt H' p → Q (.int v) H'
abbrev nDraw : List Str := ["_law_pool_here", "_law_count", "_law_found"]
theorem sc_draw : FnScope nDraw ["_law_pool_here", "_law_count"] (defScope s_draw) := ⟨rfl, rfl, rfl, by decide +kernel, rfl, by decide +kernel, by decide +kernel⟩
theorem ev_ixP {σ : L2.St} {H : Hp} {ta tb : TE} {p : Addr} {xs : List V} {j : Nat} {v : V} (ha : Ev ta σ H (.ref p)) (hb : Ev tb σ H (.int (j : Int))) (hs : H p = some (.lst xs)) (hv : xs[j]? = some v) : Ev (tOp (rIxL K) ta tb) σ H v := ev_op ha hb (rv_ixL (sq_of hs) (atI_nat hv))
theorem ok_draw (F : Fd K mg "_law_draw" s_draw ["_law_pool_here", "_law_count"]) : Cl P w K mg base 1 "_law_draw" ["_law_pool_here", "_law_count"] spDraw := by
  refine cl_mk F sc_draw (fun vs H Q E ⟨p, c, e, _⟩ => by rw [e] <;> rfl) fun f cdv A outer s H vs Q E hr ⟨p, c, ev, ⟨x, y, hp, hx, bx, hy, hy2⟩, hc, hc2, q⟩ => ?_
  subst ev
  refine ⟨_, pss_cons (ps_if (pt_cmpR op_gt (pe_ix ix_list (pv 0) pe_int (fun _ _ => rfl)) pe_int (nomark _))
      (pss_cons (ps_set (i := 2) sc_draw.nd rfl (Or.inl rfl) (pe_op op_mod (pe_ix ix_list (pv 0) pe_int (fun _ _ => rfl)) (pv 1)))
      (pss_cons (ps_asg (pe_op op_fdivW (pe_ix ix_list (pv 0) pe_int (fun _ _ => rfl)) (pv 1)) (pg_sub (pv 0) pe_int set_list))
      (pss_one (ps_ret (pv 2))))) pss_nil)
    (pss_cons (ps_asg (pe_op op_mod (pe_op op_add (pe_op op_mulX (pe_ix ix_list (pv 0) pe_int (fun _ _ => rfl)) pe_int) pe_int) pe_int) (pg_sub (pv 0) pe_int set_list))
    (pss_one (ps_ret (pe_op op_mod (pe_op op_fdivW (pe_op op_mod (pe_op op_mulX (pe_ix ix_list (pv 0) pe_int (fun _ _ => rfl)) (pe_ix ix_list (pv 0) pe_int (fun _ _ => rfl))) pe_int) pe_int) (pv 1))))), ?_⟩
  have gx : ∀ {H1 : Hp} {u : Option V}, Ex H H1 → Ev (tOp (rIxL K) (tVar 0) (tC (.int 0))) [some (.ref p), some (.int c), u] H1 (.int x) := fun e => ev_ixP (j := 0) (ev_var rfl) ev_c (e _ _ hp) rfl
  have gy : ∀ {H1 : Hp} {u : Option V}, Ex H H1 → Ev (tOp (rIxL K) (tVar 0) (tC (.int 1))) [some (.ref p), some (.int c), u] H1 (.int y) := fun e => ev_ixP (j := 1) (ev_var rfl) ev_c (e _ _ hp) rfl
  refine q_if (b := decide (0 < x)) (et_test (ev_op (gx (Ex.refl H)) ev_c rv_I0)) (fun hb H1 e1 => ?_) fun hb H1 e1 => ?_
  · refine q_asg (i := 2) (ev_op (gx e1) (ev_var rfl) (rv_I hc)) fun H2 e2 => ?_
    have e12 := e1.trans e2
    refine q_setL (l := p) (xs := [.int x, .int y]) (j := 0) (e12 _ _ hp) (ev_op (gx e12) (ev_var rfl) (rv_I (wide_div hc hc2 (by decide) (by decide)))) (ev_var rfl) ev_c (by show 0 < 2; decide) fun H3 e3 => ?_
    refine s_ret (ev_var rfl) fun H4 e4 => ?_
    have hz := Int.ediv_nonneg hx (Int.le_of_lt hc)
    have hle : x / c ≤ x := Int.ediv_le_self _ hx
    refine q _ H4 (Int.emod_nonneg _ (by omega)) (Int.emod_lt_of_pos _ hc) ((ExB.of (e12.trans e3)).upd.trans (ExB.of e4)) ⟨x / c, y, e4 _ _ upd_same, hz, Nat.le_trans (bits_mono (by omega)) bx, hy, hy2⟩
  · refine q_setL (l := p) (xs := [.int x, .int y]) (j := 1) (e1 _ _ hp) (ev_op (ev_op (ev_op (gy e1) ev_c (rv_I (mulx_ok (a := 31) (b := 16) (by omega) (by decide) (by decide)))) ev_c rv_I0) ev_c (rv_I (by decide))) (ev_var rfl) ev_c (by show 1 < 2; decide) fun H2 e2 => ?_
    have h0 : 0 ≤ (y * 48271 + 11) % 2147483647 := Int.emod_nonneg _ (by decide)
    have h1 : (y * 48271 + 11) % 2147483647 < 2147483647 := Int.emod_lt_of_pos _ (by decide)
    generalize (y * 48271 + 11) % 2147483647 = z at h0 h1
    have hp2 : (upd H2 p (.lst ([V.int x, .int y].set 1 (.int z)))) p = some (.lst [.int x, .int z]) := upd_same
    have gz : Ev (tOp (rIxL K) (tVar 0) (tC (.int 1))) [some (.ref p), some (.int c), none] (upd H2 p (.lst ([V.int x, .int y].set 1 (.int z)))) (.int z) := ev_ixP (j := 1) (ev_var rfl) ev_c hp2 rfl
    refine s_ret (ev_op (ev_op (ev_op (ev_op gz gz (rv_I (mulx_ok (a := 31) (b := 31) (by omega) (by omega) (by decide)))) ev_c (rv_I (by decide))) ev_c (rv_I (wide_div (b := 7) (by decide) (by decide) (by decide) (by decide)))) (ev_var rfl) (rv_I hc)) fun H3 e3 => ?_
    exact q _ H3 (Int.emod_nonneg _ (by omega)) (Int.emod_lt_of_pos _ hc) ((ExB.of (e1.trans e2)).upd.trans (ExB.of e3)) ⟨x, z, e3 _ _ hp2, hx, bx, h0, by omega⟩
/-- _law_pool(script, k) -/
def spPool (K : PySem.W.Frag) : Sp := fun vs H Q _ => ∃ a ns k, vs = [.ref a, .int (k : Nat)] ∧ SqL K H a (iVs ns) ∧ k ≤ 1000 ∧ (∀ z ∈ ns, Builtin.Int.intBits z ≤ 1048576) ∧ ∀ H' p, Ex H H' → H p = none → PoolAt H' p → Q (.ref p) H'
abbrev nPool : List Str := ["_law_script", "_law_k", "_law_cell", "_law_size", "_law_seed"]
theorem sc_pool : FnScope nPool ["_law_script", "_law_k"] (defScope s_pool) := ⟨rfl, rfl, rfl, by decide +kernel, rfl, by decide +kernel, by decide +kernel⟩
theorem boot_abs : bootBuiltins "abs" = some (.builtin "abs") := by decide +kernel
theorem ev_abs {σ : L2.St} {H : Hp} {te : TE} {i : Int} (h : Ev te σ H (.int i)) : Ev (tCB (fun xs H Q => ∃ i, xs = [V.int i] ∧ Q (V.int (if i < 0 then -i else i)) H) (tCons te tNil)) σ H (.int (i.natAbs : Nat)) := fun H1 e Q q =>
  h H1 e _ fun H2 e2 => ⟨i, rfl, by
    have : (if i < 0 then -i else i) = (i.natAbs : Nat) := by split <;> omega
    rw [this]
    exact q H2 e2⟩
theorem ev_intB {σ : L2.St} {H : Hp} {te : TE} {b : Bool} (h : Ev te σ H (.bl b)) : Ev (tCB (fun xs H Q => (∃ i, xs = [V.int i] ∧ Q (V.int i) H) ∨ ∃ k, xs = [V.bl k] ∧ Q (V.int (if k then 1 else 0)) H) (tCons te tNil)) σ H (.int (if b then 1 else 0)) := fun H1 e Q q =>
  h H1 e _ fun H2 e2 => .inr ⟨b, rfl, q H2 e2⟩
theorem ok_pool (B : Bt mg) (F : Fd K mg "_law_pool" s_pool ["_law_script", "_law_k"]) : Cl P w K mg base 1 "_law_pool" ["_law_script", "_law_k"] (spPool K) := by
  refine cl_mk F sc_pool (fun vs H Q E ⟨a, ns, k, e, _⟩ => by rw [e] <;> rfl) fun f cdv A outer s H vs Q E hr ⟨a, ns, k, ev, hS, hk, hbt, q⟩ => ?_
  subst ev
  refine ⟨_, pss_cons (ps_set (i := 2) sc_pool.nd rfl (Or.inl rfl) pe_int)
    (pss_cut (ps_if (pt_cmpR op_lt (pv 1) (pe_callB call_len (by rfl) B.len boot_le (pa_cons (pv 0) pa_nil)) (nomark _)) (pss_one (ps_set (i := 2) sc_pool.nd rfl (Or.inl rfl) (pe_ix ix_list (pv 0) (pv 1) (fun _ _ => rfl)))) pss_nil)
    (pss_cons (ps_set (i := 3) sc_pool.nd rfl (Or.inl rfl) (pe_callB call_abs (by rfl) B.abs boot_abs (pa_cons (pv 2) pa_nil)))
    (pss_cons (ps_set (i := 4) sc_pool.nd rfl (Or.inl rfl) (pe_op op_mod (pe_op op_mulX (pe_op op_add (pe_op op_add (pe_op op_mod (pv 3) pe_int) (pe_op op_mulX pe_int (pv 1))) pe_int) pe_int) pe_int))
    (pss_one (ps_ret (pe_lst (pa_cons (pe_op op_mulX (pv 3) (pe_callTy call_int1 (by rfl) B.int boot_ti (pa_cons (pe_cmpR op_ge (pv 3) (pe_op op_pow pe_int pe_int) (nomark _)) pa_nil))) (pa_cons (pv 4) pa_nil)))))))), ?_⟩
  refine q_asg (i := 2) ev_c fun H1 e1 => ?_
  refine q_cut (M := fun σ' H' => ∃ z : Int, Builtin.Int.intBits z ≤ 1048576 ∧ σ' = [some (.ref a), some (.int (k : Nat)), some (.int z), none, none] ∧ Ex H H') ?_ ?_
  · refine s_when (b := decide ((k : Int) < ((iVs ns).length : Nat))) (et_test (ev_op (ev_var rfl) (ev_lenB (K := K) (b := true) (ev_var rfl) (ex_l e1 hS)) rv_I0)) (fun hb H2 e2 => ?_) fun hb H2 e2 => ?_
    · have hlt : k < ns.length := by
        have := of_decide_eq_true hb
        rw [iVs_len] at this
        omega
      refine s_asg (i := 2) (ev_op (ev_var rfl) (ev_var rfl) (rv_ixL (ex_l (e1.trans e2) hS) (atI_nat (iVs_ent hlt)))) fun H3 e3 => ⟨Sp.ent ns k, ?_, rfl, (e1.trans e2).trans e3⟩
      refine hbt _ ?_
      unfold Sp.ent
      rw [List.getD_eq_getElem?_getD, List.getElem?_eq_getElem hlt]
      exact List.getElem_mem hlt
    · exact ⟨0, by decide, rfl, e1.trans e2⟩
  · rintro σ' H2 ⟨z, hz, rfl, e2⟩
    have hza : Builtin.Int.intBits ((z.natAbs : Nat) : Int) ≤ 1048576 := Nat.le_trans (bits_mono (by omega)) hz
    refine q_asg (i := 3) (ev_abs (ev_var rfl)) fun H3 e3 => ?_
    have h0 : (0 : Int) ≤ (z.natAbs : Nat) := by omega
    generalize ((z.natAbs : Nat) : Int) = m at hza h0
    have m1 : 0 ≤ m % 2147483629 := Int.emod_nonneg _ (by decide)
    have m2 : m % 2147483629 < 2147483629 := Int.emod_lt_of_pos _ (by decide)
    refine q_asg (i := 4) (ev_op (ev_op (ev_op (ev_op (ev_op (ev_var rfl) ev_c (rv_I (by decide))) (ev_op ev_c (ev_var rfl) (rv_I (mulx_ok (a := 13) (b := 10) (by decide) (by omega) (by decide)))) rv_I0) ev_c rv_I0) ev_c (rv_I (mulx_ok (a := 33) (b := 16) (by omega) (by decide) (by decide)))) ev_c (rv_I (by decide))) fun H4 e4 => ?_
    have y1 : 0 ≤ (m % 2147483629 + 7919 * (k : Int) + 31) * 48271 % 2147483647 := Int.emod_nonneg _ (by decide)
    have y2 : (m % 2147483629 + 7919 * (k : Int) + 31) * 48271 % 2147483647 < 2147483647 := Int.emod_lt_of_pos _ (by decide)
    generalize (m % 2147483629 + 7919 * (k : Int) + 31) * 48271 % 2147483647 = y at y1 y2
    have bb : Builtin.Int.intBits (if decide ((10 : Int) ^ (18 : Int).toNat ≤ m) = true then (1 : Int) else 0) ≤ 1 := by split <;> decide
    have hc : CMulX m (if decide ((10 : Int) ^ (18 : Int).toNat ≤ m) = true then 1 else 0) := by
      unfold CMulX
      omega
    have ex : Ev (tOp (rI CMulX fun i j => V.int (i * j)) (tVar 3) (tCB (fun xs H Q => (∃ i, xs = [V.int i] ∧ Q (V.int i) H) ∨ ∃ k, xs = [V.bl k] ∧ Q (V.int (if k = true then 1 else 0)) H)
        (tCons (tOp (rI0 fun i j => V.bl (decide (j ≤ i))) (tVar 3) (tOp (rI CPow fun i j => V.int (i ^ j.toNat)) (tC (V.int 10)) (tC (V.int 18)))) tNil))) [some (.ref a), some (.int (k : Nat)), some (.int z), some (.int m), some (.int y)] H4 (.int (m * (if decide ((10 : Int) ^ (18 : Int).toNat ≤ m) = true then 1 else 0))) :=
      ev_op (ev_var rfl) (ev_intB (ev_op (ev_var rfl) (ev_op ev_c ev_c (rv_I ⟨by decide, by decide, by decide⟩)) rv_I0)) (rv_I hc)
    refine s_retL (el_lst (ea_cons ex (ea_cons (ev_var rfl) ea_nil)) (by show 2 ≤ 100000; decide)) fun p H5 hp e5 hd => q H5 p (((e2.trans e3).trans e4).trans e5) (fresh_back ((e2.trans e3).trans e4) hp) ⟨_, _, hd, ?_, ?_, y1, by omega⟩
    · split <;> omega
    · split
      · rw [Int.mul_one]; omega
      · rw [Int.mul_zero]; decide
end
end Tx

/-! part K14 -/
/-! Drawn vectors. -/
namespace Tx
open PySem PySem.Spec PyProof.Rows L2 Evl Jb
section
variable {P : Program} {w : World} {K : PySem.W.Frag} {mg : Str → Option Value} {base : Heap}
theorem d_draw {σ : L2.St} {H : Hp} {p : Addr} {c : Int} {ta tb : TE} {Q : VK} (hp : PoolAt H p) (h1 : Ev ta σ H (.ref p)) (h2 : ∀ H1, Ex H H1 → Ev tb σ H1 (.int c)) (hc : 0 < c) (hc2 : c.natAbs < 2 ^ 100)
    (q : ∀ i H', 0 ≤ i → i < c → ExB p H H' → PoolAt H' p → Q (.int i) H') : tCall spDraw [] E0 (tCons ta (tCons tb tNil)) σ H Q :=
  h1 H (Ex.refl H) _ fun H1 e1 => h2 H1 e1 H1 (Ex.refl H1) _ fun H2 e2 => by
    obtain ⟨x, y, a, b⟩ := hp
    exact ⟨p, c, rfl, ⟨x, y, (e1.trans e2) _ _ a, b⟩, hc, hc2, fun v H' v0 v1 e3 pl => q v H' v0 v1 ((ExB.of (e1.trans e2)).trans e3) pl⟩
theorem ExB.fresh {p l : Addr} {H H' : Hp} {o : HO} (a : ExB p H H') (hl : H l = none) : ExB p H (L2.upd H' l o) := fun c u h n => by
  rw [upd_ne fun z => by rw [z, hl] at h; cases h]
  exact a c u h n
theorem PoolAt.ne {p l : Addr} {H : Hp} (h : PoolAt H p) (hl : H l = none) : l ≠ p := fun z => by
  obtain ⟨x, y, a, _⟩ := h
  rw [← z, hl] at a
  cases a
theorem PoolAt.upd {p l : Addr} {H : Hp} {o : HO} (h : PoolAt H p) (n : l ≠ p) : PoolAt (L2.upd H l o) p := by
  obtain ⟨x, y, a, b⟩ := h
  exact ⟨x, y, by rw [upd_ne (Ne.symm n)]; exact a, b⟩
theorem PoolAt.ex {p : Addr} {H H' : Hp} (h : PoolAt H p) (e : Ex H H') : PoolAt H' p := by
  obtain ⟨x, y, a, b⟩ := h
  exact ⟨x, y, e _ _ a, b⟩
theorem d_or0 {σ : L2.St} {H : Hp} {p : Addr} {sp : Int} {Q : VK} (hp : PoolAt H p) (h0 : σ[0]? = some (some (.ref p))) (h3 : σ[3]? = some (some (.int sp))) (q : ∀ b H', ExB p H H' → PoolAt H' p → Q (.bl b) H') :
    tOrV (tOp rEq (tVar 3) (tC (.int 0))) (tOp rEq (tCall spDraw [] E0 (tCons (tVar 0) (tCons (tC (.int 2)) tNil))) (tC (.int 0))) σ H Q := by
  refine ⟨_, h3, rfl, _, rfl, ?_⟩
  by_cases c : V.int sp = V.int 0
  · rw [decide_eq_true c]
    exact iteT (q true H (ExB.of (Ex.refl H)) hp)
  · rw [decide_eq_false c]
    exact iteF (d_draw hp (ev_var h0) (fun _ _ => ev_c) (by decide) (by decide) fun i H' _ _ x' p' => ⟨rfl, q _ H' x' p'⟩)
theorem v10 {σ : L2.St} {H : Hp} : Ev (tOp (rI CPow fun i j => V.int (i ^ j.toNat)) (tC (V.int 10)) (tC (V.int 20))) σ H (.int (10 ^ 20)) := ev_is (ev_op ev_c ev_c (rv_I (C := CPow) ⟨by decide, by decide, by decide⟩)) (by decide)
section
variable {σ : L2.St} {H : Hp} {D : Ends} {tz : TS} {tl ta tb tc : TE} {i : Nat}
/-- x = [..][draw] -/
theorem q_ixL {xs : List V} (h : EvL tl σ H xs) (q : ∀ l H1, H l = none → Ex H H1 → H1 l = some (.lst xs) → tb σ H1 fun y H2 => rIxL K (.ref l) y H2 fun v H3 => tz D (σ.set i (some v)) H3) : tSeq (tAsg (tOp (rIxL K) tl tb) (gName i)) tz D σ H :=
  h H (Ex.refl H) _ fun l H1 hl e hd => q l H1 hl e hd
/-- x = draw(..) -/
theorem q_dr {p : Addr} {c : Int} (hp : PoolAt H p) (h1 : Ev ta σ H (.ref p)) (h2 : ∀ H1, Ex H H1 → Ev tb σ H1 (.int c)) (hc : 0 < c) (hc2 : c.natAbs < 2 ^ 100) (q : ∀ n H', 0 ≤ n → n < c → ExB p H H' → PoolAt H' p → tz D (σ.set i (some (.int n))) H') :
    tSeq (tAsg (tCall spDraw [] E0 (tCons ta (tCons tb tNil))) (gName i)) tz D σ H := d_draw (Q := fun v H' => tz D (σ.set i (some v)) H') hp h1 h2 hc hc2 q
/-- x = draw(..) op e -/
theorem q_drOp {p : Addr} {c : Int} {r : R2} (hp : PoolAt H p) (h1 : Ev ta σ H (.ref p)) (h2 : ∀ H1, Ex H H1 → Ev tb σ H1 (.int c)) (hc : 0 < c) (hc2 : c.natAbs < 2 ^ 100)
    (q : ∀ n H', 0 ≤ n → n < c → ExB p H H' → PoolAt H' p → tc σ H' fun y H2 => r (.int n) y H2 fun v H3 => tz D (σ.set i (some v)) H3) :
    tSeq (tAsg (tOp r (tCall spDraw [] E0 (tCons ta (tCons tb tNil))) tc) (gName i)) tz D σ H := d_draw (Q := fun x H1 => tc σ H1 fun y H2 => r x y H2 fun v H3 => tz D (σ.set i (some v)) H3) hp h1 h2 hc hc2 q
/-- found.append(entry * int(sparse == 0 or draw(pool, 2) == 0)) -/
theorem s_appD {p l : Addr} {e sp : Int} {xs : List V} (hp : PoolAt H p) (h0 : σ[0]? = some (some (.ref p))) (h3 : σ[3]? = some (some (.int sp))) (h4 : σ[4]? = some (some (.ref l))) (h6 : σ[6]? = some (some (.int e))) (hl : H l = some (.lst xs)) (hne : l ≠ p) (hz : xs.length < 100000) (he : e.natAbs < 2 ^ 70)
    (q : ∀ (b : Bool) H', ExB p H H' → PoolAt H' p → D.nx σ (upd H' l (.lst (xs ++ [.int (e * (if b = true then 1 else 0))])))) :
    tDrop (tBM K "list" rAppend (tVar 4) (tCons (tOp (rI CMulX fun i j => V.int (i * j)) (tVar 6) (tCB (fun xs H Q => (∃ i, xs = [V.int i] ∧ Q (V.int i) H) ∨ ∃ k, xs = [V.bl k] ∧ Q (V.int (if k = true then 1 else 0)) H)
      (tCons (tOrV (tOp rEq (tVar 3) (tC (.int 0))) (tOp rEq (tCall spDraw [] E0 (tCons (tVar 0) (tCons (tC (.int 2)) tNil))) (tC (.int 0)))) tNil))) tNil)) D σ H := by
  refine ⟨_, h4, Or.inl ⟨rfl, _, sq_of hl⟩, _, h6, ?_⟩
  have := d_or0 (Q := fun v H3 => (fun vs H4 => ((∃ i, vs = [V.int i] ∧ rI CMulX (fun i j => V.int (i * j)) (.int e) (V.int i) H4 fun z H5 => rAppend (.ref l) [z] H5 fun _ H6 => D.nx σ H6) ∨
    ∃ k, vs = [V.bl k] ∧ rI CMulX (fun i j => V.int (i * j)) (.int e) (V.int (if k = true then 1 else 0)) H4 fun z H5 => rAppend (.ref l) [z] H5 fun _ H6 => D.nx σ H6)) [v] H3) hp h0 h3 fun b H' x' p' => by
      refine .inr ⟨b, rfl, e, (if b = true then 1 else 0), rfl, rfl, mulx_ok (a := 70) (b := 1) he (by split <;> decide) (by decide), ?_⟩
      exact ⟨l, xs, _, rfl, rfl, x' _ _ hl hne, sz_lt hz, q b H' x' p'⟩
  exact this
end
/-- entries of a drawn vector -/
def Small (l : List Int) : Prop := ∀ z ∈ l, z.natAbs ≤ 10 ^ 20
def spVec (K : PySem.W.Frag) : Sp := fun vs H Q _ => ∃ p wd, vs = [.ref p, .int (wd : Nat)] ∧ PoolAt H p ∧ wd ≤ 100 ∧ ∀ H' t l, ExB p H H' → PoolAt H' p → l.length = wd → Small l → SqT K H' t (iVs l) → Q (.ref t) H'
abbrev nVec : List Str := ["_law_pool_here", "_law_width", "_law_size", "_law_sparse", "_law_found", "_law_at", "_law_entry"]
theorem sc_vec : FnScope nVec ["_law_pool_here", "_law_width"] (defScope s_vector) := ⟨rfl, rfl, rfl, by decide +kernel, rfl, by decide +kernel, by decide +kernel⟩
theorem ok_vec (B : Bt mg) (F : Fd K mg "_law_vector" s_vector ["_law_pool_here", "_law_width"]) (Fd_ : Fd K mg "_law_draw" s_draw ["_law_pool_here", "_law_count"]) : Cl P w K mg base 2 "_law_vector" ["_law_pool_here", "_law_width"] (spVec K) := by
  have Cd : Cl P w K mg base 1 "_law_draw" ["_law_pool_here", "_law_count"] spDraw := ok_draw Fd_
  refine cl_mk F sc_vec (fun vs H Q E ⟨p, wd, e, _⟩ => by rw [e] <;> rfl) fun f cdv A outer s H vs Q E hr ⟨p, wd, ev, hp, hw, q⟩ => ?_
  subst ev
  refine ⟨_, pss_cons (ps_set (i := 2) sc_vec.nd rfl (Or.inl rfl) (pe_ix ix_list (pe_lst (pa_cons pe_int (pa_cons pe_int (pa_cons pe_int (pa_cons (pe_op op_pow pe_int pe_int) pa_nil))))) (pe_cl Cd hr (by rfl) (pa_cons (pv 0) (pa_cons pe_int pa_nil))) (fun _ _ => rfl)))
    (pss_cons (ps_set (i := 3) sc_vec.nd rfl (Or.inl rfl) (pe_cl Cd hr (by rfl) (pa_cons (pv 0) (pa_cons pe_int pa_nil))))
    (pss_cons (ps_set (i := 4) sc_vec.nd rfl (Or.inl rfl) (pe_lst pa_nil))
    (pss_cons (ps_for PassesOwn.never rfl (pi_range1 (by rfl) B.range (pa_cons (pv 1) pa_nil)) (pg_name (i := 5) sc_vec.nd rfl (Or.inl rfl))
      (pss_cons (ps_set (i := 6) sc_vec.nd rfl (Or.inl rfl) (pe_op op_sub (pe_cl Cd hr (by rfl) (pa_cons (pv 0) (pa_cons (pe_op op_add (pe_op op_mulX pe_int (pv 2)) pe_int) pa_nil))) (pv 2)))
      (pss_one (ps_expr (pe_bm PySem.F.plainAttrs_list PySem.F.slot_list_append PySem.F.type_list_append mt_append (pv 4) (pa_cons (pe_op op_mulX (pv 6) (pe_callTy call_int1 (by rfl) B.int boot_ti
        (pa_cons (pe_or (pe_cmpR op_eq (pv 3) pe_int (nomark _)) (pe_one (pe_cmpR op_eq (pe_cl Cd hr (by rfl) (pa_cons (pv 0) (pa_cons pe_int pa_nil))) pe_int (nomark _)))) pa_nil))) pa_nil))))))
    (pss_one (ps_ret (pe_callTy call_tuple_of (by rfl) B.tuple boot_tt (pa_cons (pv 4) pa_nil))))))), ?_⟩
  refine q_ixL (xs := iVs [2, 4, 9, 10 ^ 20]) (el_lst (ea_cons ev_c (ea_cons ev_c (ea_cons ev_c (ea_cons v10 ea_nil)))) (by show 4 ≤ 100000; decide)) fun l1 H1 hl1 e1 hd1 => ?_
  refine d_draw (hp.ex e1) (ev_var rfl) (fun _ _ => ev_c) (by decide) (by decide) fun i H2 i0 i1 x2 p2 => ?_
  obtain ⟨k, rfl⟩ : ∃ k : Nat, i = (k : Int) := ⟨i.toNat, by omega⟩
  have hk : k < 4 := by omega
  refine ⟨l1, iVs [2, 4, 9, 10 ^ 20], k, .int (Sp.ent [2, 4, 9, 10 ^ 20] k), rfl, rfl, sq_of (x2 _ _ hd1 (hp.ne hl1)), atI_nat (iVs_ent (by simpa using hk)), ?_⟩
  have hsz : 0 < Sp.ent [2, 4, 9, 10 ^ 20] k ∧ Sp.ent [2, 4, 9, 10 ^ 20] k ≤ 10 ^ 20 := by
    match k, hk with
    | 0, _ => decide
    | 1, _ => decide
    | 2, _ => decide
    | 3, _ => decide
  generalize Sp.ent [2, 4, 9, 10 ^ 20] k = sz at hsz
  refine q_dr (i := 3) p2 (ev_var rfl) (fun _ _ => ev_c) (by decide) (by decide) fun sp H3 _ _ x3 p3 => ?_
  have xH3 : ExB p H H3 := ((ExB.of e1).trans x2).trans x3
  refine q_asgL (i := 4) (xs := iVs []) (el_lst ea_nil (by decide)) fun l H4 hl e4 hd4 => ?_
  have hlH : H l = none := by
    cases e : H l with
    | none => rfl
    | some o => exact absurd (xH3 l o e (p3.ne hl)) (by rw [hl]; exact nofun)
  have hne : l ≠ p := p3.ne hl
  refine q_forR1 (n := (wd : Int)) (ea_cons (ev_var rfl) ea_nil) ⟨by omega, by omega⟩ (fun i σ' H' => ∃ u5 u6 xs, σ' = [some (.ref p), some (.int (wd : Nat)), some (.int sz), some (.int sp), some (.ref l), u5, u6] ∧ ExB p H H' ∧ PoolAt H' p ∧ H' l = some (.lst (iVs xs)) ∧ xs.length = i ∧ Small xs)
    (fun H5 e5 => ⟨none, none, [], rfl, (xH3.trans (ExB.of e4)).trans (ExB.of e5), (p3.ex e4).ex e5, e5 _ _ hd4, rfl, fun z hz => by cases hz⟩) ?_ ?_
  · rintro i σ' H' hi ⟨u5, u6, xs, rfl, x5, p5, hx, hlen, hsm⟩
    refine q_drOp (i := 6) (c := 2 * sz + 1) p5 (ev_var rfl) (fun _ _ => ev_op (ev_op ev_c (ev_var rfl) (rv_I (mulx_ok (a := 2) (b := 70) (by decide) (by omega) (by decide)))) ev_c rv_I0) (by omega) (by omega) fun e H6 e0 e1 x6 p6 => ?_
    refine ⟨_, rfl, _, _, rfl, rfl, ?_⟩
    have h6 : H6 l = some (.lst (iVs xs)) := x6 _ _ hx hne
    refine s_appD (e := e - sz) p6 rfl rfl rfl rfl h6 hne (by rw [iVs_len]; omega) (by omega) fun b H7 x7 p7 => ?_
    refine ⟨_, _, xs ++ [(e - sz) * (if b = true then 1 else 0)], rfl, ((x5.trans x6).trans x7).fresh hlH, p7.upd hne, ?_, by rw [List.length_append, hlen]; rfl, fun z hz => ?_⟩
    · rw [upd_same]
      unfold iVs
      rw [List.map_append]
      rfl
    · rcases List.mem_append.mp hz with hz | hz
      · exact hsm z hz
      · obtain rfl := List.mem_singleton.mp hz
        split
        · rw [Int.mul_one]; omega
        · rw [Int.mul_zero]; decide
  · rintro σ' H' ⟨u5, u6, xs, rfl, x5, p5, hx, hlen, hsm⟩
    refine ⟨_, rfl, l, iVs xs, rfl, .inl ⟨sq_of hx, fun t ht => ?_⟩⟩
    exact q _ t xs (x5.trans (ExB.of (Ex.new ht))) (p5.ex (Ex.new ht)) (by rw [hlen]; omega) hsm (st_of upd_same)
end
end Tx

/-! part K15 -/
/-! Lists of drawn vectors. -/
namespace Tx
open PySem PySem.Spec PyProof.Rows L2 Evl Jb
def pyR (rows : List (List Int)) : List PyData := rows.map fun r => .tuple (r.map PyData.int)
theorem lay_ints : ∀ r : List Int, PyData.canLayAll0 (r.map PyData.int) = true ∧ PyData.depthAll (r.map PyData.int) ≤ 1
  | [] => ⟨rfl, Nat.zero_le _⟩
  | i :: r => by
    obtain ⟨h1, h2⟩ := lay_ints r
    refine ⟨by simp only [List.map_cons, PyData.canLayAll0, PyData.canLay0, h1, Bool.and_self], ?_⟩
    simp only [List.map_cons, PyData.depthAll, PyData.depth]
    omega
theorem lay_rows : ∀ rows : List (List Int), PyData.canLayAll0 (pyR rows) = true ∧ PyData.depthAll (pyR rows) ≤ 3
  | [] => ⟨rfl, Nat.zero_le _⟩
  | r :: rows => by
    obtain ⟨h1, h2⟩ := lay_rows rows
    obtain ⟨g1, g2⟩ := lay_ints r
    unfold pyR at h1 h2 ⊢
    refine ⟨by simp only [List.map_cons, PyData.canLayAll0, PyData.canLay0, g1, h1, Bool.and_self], ?_⟩
    simp only [List.map_cons, PyData.depthAll, PyData.depth]
    omega
theorem shaped_rows (rows : List (List Int)) : SeqAt.shaped (.list (pyR rows)) = true := by
  obtain ⟨h1, h2⟩ := lay_rows rows
  unfold SeqAt.shaped
  rw [Bool.and_eq_true]
  refine ⟨by simp only [PyData.canLay0, h1], decide_eq_true ?_⟩
  simp only [PyData.depth]
  omega
section
variable {P : Program} {w : World} {K : PySem.W.Frag} {mg : Str → Option Value} {base : Heap}
theorem dp_ints {H : Hp} : ∀ r : List Int, DpAll K H (iVs r) (r.map PyData.int)
  | [] => .nil
  | i :: r => .cons (.int i) (dp_ints r)
theorem dp_rows {H : Hp} : ∀ {rows : List (List Int)} {us : List V}, Refs K H rows us → DpAll K H us (pyR rows)
  | _, _, .nil => .nil
  | _, _, .cons ⟨a, h1, h2⟩ t => by
    subst h1
    exact .cons (.tup h2 (dp_ints _)) (dp_rows t)
def tLin (K : PySem.W.Frag) : TE := tOp (rI0 fun i j => V.int (i - j)) (tOp (rI CMulX fun i j => V.int (i * j)) (tC (.int 2)) (tVar 9)) (tOp (rI CMulX fun i j => V.int (i * j)) (tC (.int 3)) (tOp (rIxT K) (tVar 7) (tVar 8)))
section
variable {σ : L2.St} {H : Hp} {D : Ends} {p l : Addr} {us : List V} {rows : List (List Int)}
theorem iRng1_draw {c : Int} {ta tb : TE} {R : It → Hp → Prop} (hp : PoolAt H p) (h1 : Ev ta σ H (.ref p)) (h2 : ∀ H1, Ex H H1 → Ev tb σ H1 (.int c)) (hc : 0 < c) (hc2 : c ≤ 1000) (q : ∀ (n : Nat) H1, (n : Int) < c → ExB p H H1 → PoolAt H1 p → R (Itr 0 n) H1) :
    iRng1 (tCons (tCall spDraw [] E0 (tCons ta (tCons tb tNil))) tNil) σ H R :=
  d_draw (Q := fun v H1 => ∃ j : Int, [v] = [V.int j] ∧ -(2 ^ 62) ≤ j ∧ j < 2 ^ 62 ∧ R (Itr 0 j.toNat) H1) hp h1 h2 hc (by omega) fun n H1 n0 n1 x1 p1 => ⟨n, rfl, by omega, by omega, q n.toNat H1 (by omega) x1 p1⟩
theorem q_forRD {c : Int} {ta tb : TE} {j : Nat} {tu tz : TS} (hp : PoolAt H p) (h1 : Ev ta σ H (.ref p)) (h2 : ∀ H1, Ex H H1 → Ev tb σ H1 (.int c)) (hc : 0 < c) (hc2 : c ≤ 1000) (Pv : Nat → L2.St → Hp → Prop) (h0 : ∀ H1, ExB p H H1 → PoolAt H1 p → Pv 0 σ H1)
    (hs : ∀ (i : Nat) σ' H', (i : Int) + 1 < c → Pv i σ' H' → tu { D with nx := Pv (i + 1), ct := Pv (i + 1), bk := tz D } (σ'.set j (some (.int (i : Int)))) H') (hd : ∀ (n : Nat) σ' H', (n : Int) < c → Pv n σ' H' → tz D σ' H') :
    tSeq (tFor (iRng1 (tCons (tCall spDraw [] E0 (tCons ta (tCons tb tNil))) tNil)) (gName j) tu) tz D σ H := by
  show tFor _ _ _ { D with nx := tz D } σ H
  unfold tFor
  refine iRng1_draw hp h1 h2 hc hc2 fun n H1 hn x1 p1 => ?_
  refine for_range (g := gName j) (tb := tu) (D := { D with nx := tz D }) (lo := 0) (n := n) Pv (h0 H1 x1 p1) (fun i σ' H' hi pv => ?_) (fun σ' H' pv => hd n σ' H' hn pv)
  have e0 : (0 : Int) + (i : Int) = (i : Int) := Int.zero_add _
  show tu { D with nx := Pv (i + 1), ct := Pv (i + 1), bk := tz D } (σ'.set j (some (.int ((0 : Int) + (i : Int))))) H'
  rw [e0]
  exact hs i σ' H' (by omega) pv
theorem sqt_B {H' : Hp} {a : Addr} {xs : List V} (hp : PoolAt H p) (h : SqT K H a xs) (x : ExB p H H') : SqT K H' a xs := by
  obtain ⟨i, j, hl, _⟩ := hp
  rcases h with (h | ⟨b, h⟩) | h
  · exact .inl (.inl (x _ _ h fun z => by rw [z, hl] at h; cases Option.some.inj h))
  · exact .inl (.inr ⟨b, x _ _ h fun z => by rw [z, hl] at h; cases Option.some.inj h⟩)
  · exact .inr h
theorem refs_B {H' : Hp} (hp : PoolAt H p) (h : Refs K H rows us) (x : ExB p H H') : Refs K H' rows us := paired_mono (fun _ _ ⟨a, h1, h2⟩ => ⟨a, h1, sqt_B hp h2 x⟩) h
theorem refs_L {o : HO} {xs : List V} (h : Refs K H rows us) (hl : H l = some (.lst xs)) : Refs K (upd H l o) rows us := paired_mono (fun _ _ ⟨a, h1, h2⟩ => ⟨a, h1, sqt_upd h2 hl (fun _ z => nomatch z) (fun _ _ z => nomatch z)⟩) h
theorem eqv_nil (rows : List (List Int)) : PyData.eqv (.list (pyR rows)) (.list []) = decide (rows = []) := by
  cases rows with
  | nil => rfl
  | cons r rows => rw [decide_eq_false (by simp)] <;> rfl
theorem t_ne0 {Q : Bool → Hp → Prop} (hp : PoolAt H p) (h0 : σ[0]? = some (some (.ref p))) (h3 : σ[3]? = some (some (.ref l))) (hl : H l = some (.lst us)) (hR : Refs K H rows us) (q : ∀ b H', (b = true → rows ≠ []) → ExB p H H' → PoolAt H' p → Q b H') :
    tAnd (tTest (tOp (rNeD K) (tVar 3) (tLst tNil))) (tTest (tOp rEq (tCall spDraw [] E0 (tCons (tVar 0) (tCons (tC (.int 4)) tNil))) (tC (.int 0)))) σ H Q := by
  refine ⟨_, h3, by show 0 ≤ sizeLine; exact Nat.zero_le _, fun e he => ?_⟩
  have en := Ex.new (o := .lst []) he
  refine ⟨_, _, .lst (sq_of (en _ _ hl)) (dp_rows (hR.mono en)), .lst (sq_of upd_same) .nil, shaped_rows rows, rfl, _, rfl, ?_⟩
  rw [eqv_nil]
  by_cases c : rows = []
  · rw [decide_eq_true c]
    exact iteF (q false _ (fun z => by cases z) (ExB.of en) (hp.ex en))
  · rw [decide_eq_false c]
    refine iteT ?_
    exact d_draw (Q := fun x H1 => rEq x (.int 0) H1 fun z H2 => ∃ k, z = .bl k ∧ Q k H2) (hp.ex en) (ev_var h0) (fun _ _ => ev_c) (by decide) (by decide) fun i H' _ _ x' p' => ⟨rfl, _, rfl, q _ H' (fun _ => c) ((ExB.of en).trans x') p'⟩
theorem d_pick {Q : VK} (hp : PoolAt H p) (h0 : σ[0]? = some (some (.ref p))) (h3 : σ[3]? = some (some (.ref l))) (hl : H l = some (.lst us)) (hne : l ≠ p) (hR : Refs K H rows us) (hn : rows ≠ []) (hz : rows.length ≤ 1000) (hkeep : ∀ H', ExB p H H' → Refs K H' rows us)
    (q : ∀ a r H', r ∈ rows → SqT K H' a (iVs r) → ExB p H H' → PoolAt H' p → Q (.ref a) H') :
    tOp (rIxL K) (tVar 3) (tCall spDraw [] E0 (tCons (tVar 0) (tCons (tCB (rLenA K) (tCons (tVar 3) tNil)) tNil))) σ H Q := by
  have hlen : us.length = rows.length := hR.length.symm
  have hpos : 0 < rows.length := List.length_pos_iff.mpr hn
  refine ⟨_, h3, d_draw (c := ((us.length : Nat) : Int)) (Q := fun y H2 => rIxL K (.ref l) y H2 Q) hp (ev_var h0) (fun H1 e1 => ev_lenB (K := K) (b := true) (ev_var h3) (sq_of (e1 _ _ hl))) (by omega) (by rw [Int.natAbs_natCast]; omega) fun n H' n0 n1 x' p' => ?_⟩
  obtain ⟨k, rfl⟩ : ∃ k : Nat, n = (k : Int) := ⟨n.toNat, by omega⟩
  have hk : k < us.length := by omega
  have hR' := hkeep H' x'
  obtain ⟨r, hr, a, ha, hs⟩ := paired_get hR' (List.getElem?_eq_getElem hk)
  refine ⟨l, us, k, us[k], rfl, rfl, sq_of (x' _ _ hl hne), atI_nat (List.getElem?_eq_getElem hk), ?_⟩
  rw [ha]
  exact q a r H' (List.mem_of_getElem? hr) hs x' p'
def lin (r1 r2 : List Int) : List Int := List.zipWith (fun x y => 2 * x - 3 * y) r1 r2
theorem eu_lin {r1 r2 : List Int} {a1 a2 : Addr} (h6 : σ[6]? = some (some (.ref a1))) (h7 : σ[7]? = some (some (.ref a2))) (hlen : σ.length = 10) (hs1 : SqT K H a1 (iVs r1)) (hs2 : SqT K H a2 (iVs r2)) (he : r1.length = r2.length) (hl : r1.length ≤ 1000)
    (hb1 : ∀ z ∈ r1, z.natAbs < 2 ^ 100) (hb2 : ∀ z ∈ r2, z.natAbs < 2 ^ 100) :
    EvU (tCB (rTup K) (tCons (tLc (iE K false (tCons (tVar 6) tNil)) (gTup K 2 (gCons (gName 8) (gCons (gName 9) gNil))) tYes (tLin K) [8, 9]) tNil)) σ H (iVs (lin r1 r2)) := by
  have hb : ∀ (r : List Int), (∀ z ∈ r, z.natAbs < 2 ^ 100) → ∀ i, (Sp.ent r i).natAbs < 2 ^ 100 := fun r h i => by
    unfold Sp.ent
    rw [List.getD_eq_getElem?_getD]
    cases e : r[i]? with
    | none => exact (by decide : (0 : Int).natAbs < 2 ^ 100)
    | some z => exact h z (List.mem_of_getElem? e)
  have hg := el_lcG (t := tYes) (te := tLin K) (g := gTup K 2 (gCons (gName 8) (gCons (gName 9) gNil))) (σ := σ) (H := H) (vs := [8, 9]) (fun _ => true) (fun i => .int (2 * Sp.ent r1 i - 3 * Sp.ent r2 i))
    (fun i σ2 => i < r1.length ∧ σ2[7]? = some (some (.ref a2)) ∧ σ2[8]? = some (some (.int (i : Nat))) ∧ σ2[9]? = some (some (.int (Sp.ent r1 i)))) (ei_enum (K := K) (b := false) (ta := tCons (tVar 6) tNil) (ea_cons (ev_var h6) ea_nil) hs1) (by rw [iVs_len]; omega)
    (fun i x H2 hi _ hx Q hQ => by
      rw [iVs_len] at hi
      refine g_pair hx fun u v hu hv => ?_
      obtain rfl : V.int (i : Nat) = u := Option.some.inj hu
      obtain rfl : V.int (Sp.ent r1 i) = v := Option.some.inj ((iVs_ent hi).symm.trans hv)
      match σ, hlen with
      | [s0, s1, s2, s3, s4, s5, s6, s7, s8, s9], _ =>
        exact hQ _ ⟨hi, by simpa [wipe] using h7, rfl, rfl⟩ rfl)
    (fun i σ2 H2 _ _ _ => yes_ev)
    (fun i σ2 H2 _ ⟨hi, g7, g8, g9⟩ _ e => ev_op (ev_op ev_c (ev_var g9) (rv_I (mulx_ok (a := 2) (b := 100) (by decide) (hb r1 hb1 i) (by decide)))) (ev_op ev_c (ev_ixV (ev_var g7) (ev_var g8) (ex_t e hs2) (by omega)) (rv_I (mulx_ok (a := 2) (b := 100) (by decide) (hb r2 hb2 i) (by decide)))) rv_I0)
  rw [iVs_len, given_map (xs := iVs (lin r1 r2)) (fun _ _ => rfl) (by rw [iVs_len]; unfold lin; rw [List.length_zipWith, he, Nat.min_self]) (fun i x hx => by
    obtain ⟨n, hn, rfl⟩ := iVs_get hx
    unfold lin at hn
    rw [List.getElem?_zipWith] at hn
    cases e : r1[i]? with
    | none => rw [e] at hn; cases hn
    | some m =>
      cases e2 : r2[i]? with
      | none => rw [e, e2] at hn; cases hn
      | some m2 =>
        rw [e, e2] at hn
        have g1 : Sp.ent r1 i = m := by unfold Sp.ent; rw [List.getD_eq_getElem?_getD, e]; rfl
        have g2 : Sp.ent r2 i = m2 := by unfold Sp.ent; rw [List.getD_eq_getElem?_getD, e2]; rfl
        show V.int (2 * Sp.ent r1 i - 3 * Sp.ent r2 i) = V.int n
        rw [g1, g2]
        exact congrArg V.int (Option.some.inj hn))] at hg
  exact eu_tupL hg
theorem lin_len {r1 r2 : List Int} (h : r1.length = r2.length) : (lin r1 r2).length = r1.length := by unfold lin; rw [List.length_zipWith, h, Nat.min_self]
theorem lin_bd {r1 r2 : List Int} {B : Nat} (h1 : ∀ z ∈ r1, z.natAbs ≤ B) (h2 : ∀ z ∈ r2, z.natAbs ≤ B) : ∀ z ∈ lin r1 r2, z.natAbs ≤ 5 * B := fun z hz => by
  obtain ⟨i, hi⟩ := List.mem_iff_getElem?.mp hz
  unfold lin at hi
  rw [List.getElem?_zipWith] at hi
  cases e : r1[i]? with
  | none => rw [e] at hi; cases hi
  | some m =>
    cases e2 : r2[i]? with
    | none => rw [e, e2] at hi; cases hi
    | some m2 =>
      rw [e, e2] at hi
      have g1 := h1 m (List.mem_of_getElem? e)
      have g2 := h2 m2 (List.mem_of_getElem? e2)
      have : 2 * m - 3 * m2 = z := Option.some.inj hi
      omega
end
/-- vectors of a width, bounded -/
def Vecs (wd : Nat) (B : Nat) (rows : List (List Int)) : Prop := ∀ r ∈ rows, r.length = wd ∧ ∀ z ∈ r, z.natAbs ≤ B
theorem Vecs.mono {wd B C : Nat} {rows : List (List Int)} (h : Vecs wd B rows) (hc : B ≤ C) : Vecs wd C rows := fun r hr => ⟨(h r hr).1, fun z hz => Nat.le_trans ((h r hr).2 z hz) hc⟩
def big (n : Nat) : Nat := 10 ^ 20 * 5 ^ n
theorem big_up {n m : Nat} (h : n ≤ m) : big n ≤ big m := Nat.mul_le_mul_left _ (Nat.pow_le_pow_right (by decide) h)
theorem big_s (n : Nat) : big (n + 1) = 5 * big n := by unfold big; rw [Nat.pow_succ]; omega
theorem big_10 {n : Nat} (h : n ≤ 10) : big n < 2 ^ 100 := Nat.lt_of_le_of_lt (big_up h) (by decide)
def spVecs (K : PySem.W.Frag) : Sp := fun vs H Q _ => ∃ p wd m, vs = [.ref p, .int (wd : Nat), .int (m : Nat)] ∧ PoolAt H p ∧ wd ≤ 100 ∧ m ≤ 9 ∧
  ∀ H' t us rows, ExB p H H' → PoolAt H' p → H t = none → H' t = some (.lst us) → Refs K H' rows us → rows.length ≤ m → Vecs wd (big rows.length) rows → Q (.ref t) H'
abbrev nVecs : List Str := ["_law_pool_here", "_law_width", "_law_most", "_law_found", "_law_turn", "_law_vector_here", "_law_one", "_law_other", "_law_at", "_law_entry"]
theorem sc_vecs : FnScope nVecs ["_law_pool_here", "_law_width", "_law_most"] (defScope s_vectors) := ⟨rfl, rfl, rfl, by decide +kernel, rfl, by decide +kernel, by decide +kernel⟩
theorem ok_vecs (B : Bt mg) (F : Fd K mg "_law_vectors" s_vectors ["_law_pool_here", "_law_width", "_law_most"]) (Fv : Fd K mg "_law_vector" s_vector ["_law_pool_here", "_law_width"]) (Fd_ : Fd K mg "_law_draw" s_draw ["_law_pool_here", "_law_count"]) :
    Cl P w K mg base 3 "_law_vectors" ["_law_pool_here", "_law_width", "_law_most"] (spVecs K) := by
  have Cd : Cl P w K mg base 1 "_law_draw" ["_law_pool_here", "_law_count"] spDraw := ok_draw Fd_
  have Cv : Cl P w K mg base 2 "_law_vector" ["_law_pool_here", "_law_width"] (spVec K) := ok_vec B Fv Fd_
  refine cl_mk F sc_vecs (fun vs H Q E ⟨p, wd, m, e, _⟩ => by rw [e] <;> rfl) fun f cdv A outer s H vs Q E hr ⟨p, wd, m, ev, hp, hw, hm, q⟩ => ?_
  subst ev
  have h1 : Room 1 _ := hr.mono (by decide)
  have hu := hr.units
  refine ⟨_, pss_cons (ps_set (i := 3) sc_vecs.nd rfl (Or.inl rfl) (pe_lst pa_nil))
    (pss_cons (ps_for PassesOwn.never rfl (pi_range1 (by rfl) B.range (pa_cons (pe_cl Cd h1 (by rfl) (pa_cons (pv 0) (pa_cons (pe_op op_add (pv 2) pe_int) pa_nil))) pa_nil)) (pg_name (i := 4) sc_vecs.nd rfl (Or.inl rfl))
      (pss_cons (ps_set (i := 5) sc_vecs.nd rfl (Or.inl rfl) (pe_cl Cv hr (by rfl) (pa_cons (pv 0) (pa_cons (pv 1) pa_nil))))
      (pss_cut (ps_if (PW.pt (pw_and (pt_cmpR (op_neD hu) (pv 3) (pe_lst pa_nil) (nomark _)) (pw_and1 (pt_cmpR op_eq (pe_cl Cd h1 (by rfl) (pa_cons (pv 0) (pa_cons pe_int pa_nil))) pe_int (nomark _)))))
        (pss_cons (ps_asg (pe_tup (pa_cons (pe_ix ix_list (pv 3) (pe_cl Cd h1 (by rfl) (pa_cons (pv 0) (pa_cons (pe_callB call_len (by rfl) B.len boot_le (pa_cons (pv 3) pa_nil)) pa_nil))) (fun _ _ => rfl))
              (pa_cons (pe_ix ix_list (pv 3) (pe_cl Cd h1 (by rfl) (pa_cons (pv 0) (pa_cons (pe_callB call_len (by rfl) B.len boot_le (pa_cons (pv 3) pa_nil)) pa_nil))) (fun _ _ => rfl)) pa_nil)))
            (pg_tup rfl (pgs_cons (pg_name (i := 6) sc_vecs.nd rfl (Or.inl rfl)) (pgs_cons (pg_name (i := 7) sc_vecs.nd rfl (Or.inr rfl)) pgs_nil))))
        (pss_one (ps_set (i := 5) sc_vecs.nd rfl (Or.inl rfl) (pe_callTy call_tuple_of (by rfl) B.tuple boot_tt (pa_cons
          (pe_lc (own := [("_law_at", 8), ("_law_entry", 9)]) (g := gTup K 2 (gCons (gName 8) (gCons (gName 9) gNil))) (tt := tYes) (te := tLin K) rfl sc_vecs.nd (piE false (by rfl) B.enumerate (pa_cons (pv 6) pa_nil)) (blkOk_by (N := nVecs) (sc := defScope s_vectors) (by decide +kernel))
            (fun _ _ _ _ _ => pg_tup rfl (pgs_cons (pg_name (i := 8) sc_vecs.nd rfl (Or.inl rfl)) (pgs_cons (pg_name (i := 9) sc_vecs.nd rfl (Or.inl rfl)) pgs_nil))) (fun _ _ _ _ _ => pts_nil)
            (fun _ _ _ _ _ => pe_op op_sub (pe_op op_mulX pe_int (pv 9)) (pe_op op_mulX pe_int (pe_ix ix_tup (pv 7) (pv 8) (fun _ _ => rfl))))) pa_nil))))) pss_nil)
      (pss_one (ps_expr (pe_bm PySem.F.plainAttrs_list PySem.F.slot_list_append PySem.F.type_list_append mt_append (pv 3) (pa_cons (pv 5) pa_nil)))))))
    (pss_one (ps_ret (pv 3)))), ?_⟩
  refine q_asgL (i := 3) (xs := []) (el_lst ea_nil (by decide)) fun l H1 hl e1 hd1 => ?_
  have hne : l ≠ p := hp.ne hl
  refine q_forRD (c := (m : Int) + 1) (hp.ex e1) (ev_var rfl) (fun _ _ => ev_op (ev_var rfl) ev_c rv_I0) (by omega) (by omega) (fun i σ' H' => ∃ u4 u5 u6 u7 u8 u9 us rows, σ' = [some (.ref p), some (.int (wd : Nat)), some (.int (m : Nat)), some (.ref l), u4, u5, u6, u7, u8, u9] ∧ ExB p H H' ∧ PoolAt H' p ∧ H' l = some (.lst us) ∧ Refs K H' rows us ∧ rows.length = i ∧ Vecs wd (big i) rows)
    (fun H2 x2 p2 => ⟨none, none, none, none, none, none, [], [], rfl, (ExB.of e1).trans x2, p2, x2 _ _ hd1 hne, .nil, rfl, fun r hr => by cases hr⟩) ?_ ?_
  · rintro i σ' H2 hi ⟨u4, u5, u6, u7, u8, u9, us, rows, rfl, x2, p2, hl2, hR, hlen, hV⟩
    have hi9 : i + 1 ≤ 9 := by omega
    refine ⟨_, rfl, _, rfl, p, wd, rfl, p2, hw, fun H3 t r x3 p3 hr hsm ht => ?_⟩
    have hl3 := x3 _ _ hl2 hne
    have hR3 := refs_B p2 hR x3
    refine q_cut (M := fun σ' H' => ∃ u6 u7 u8 u9 t r, σ' = [some (.ref p), some (.int (wd : Nat)), some (.int (m : Nat)), some (.ref l), some (.int (i : Int)), some (.ref t), u6, u7, u8, u9] ∧ ExB p H3 H' ∧ PoolAt H' p ∧ SqT K H' t (iVs r) ∧ r.length = wd ∧ ∀ z ∈ r, z.natAbs ≤ big (i + 1)) ?_ ?_
    · refine t_ne0 (K := K) (l := l) (us := us) (rows := rows) p3 rfl rfl hl3 hR3 fun b H4 hb x4 p4 => ?_
      cases b with
      | false => exact iteF ⟨_, _, _, _, t, r, rfl, x4, p4, sqt_B p3 ht x4, hr, fun z hz => Nat.le_trans (hsm z hz) (by unfold big; exact Nat.le_mul_of_pos_right _ (Nat.pow_pos (by decide)))⟩
      | true =>
        refine iteT ?_
        have hn := hb rfl
        have hl4 := x4 _ _ hl3 hne
        have hR4 := refs_B p3 hR3 x4
        refine d_pick (K := K) (l := l) (us := us) (rows := rows) p4 rfl rfl hl4 hne hR4 hn (by omega) (fun H' x' => refs_B p4 hR4 x') fun a1 r1 H5 m1 s1 x5 p5 => ?_
        have hl5 := x5 _ _ hl4 hne
        have hR5 := refs_B p4 hR4 x5
        refine d_pick (K := K) (l := l) (us := us) (rows := rows) p5 rfl rfl hl5 hne hR5 hn (by omega) (fun H' x' => refs_B p5 hR5 x') fun a2 r2 H6 m2 s2 x6 p6 => ?_
        refine ⟨by show 2 ≤ sizeLine; decide, fun T hT => ?_⟩
        have eT := Ex.new (o := .tup [.ref a1, .ref a2]) hT
        refine ⟨T, [.ref a1, .ref a2], rfl, st_of upd_same, rfl, _, _, rfl, _, _, rfl, rfl, ?_⟩
        have s1' := ex_t eT (sqt_B p5 s1 x6)
        have s2' := ex_t eT s2
        have b1 := hV r1 m1
        have b2 := hV r2 m2
        have hB : big i < 2 ^ 100 := big_10 (by omega)
        refine s_asgU (i := 5) (eu_lin (K := K) rfl rfl rfl s1' s2' (b1.1.trans b2.1.symm) (by rw [b1.1]; omega) (fun z hz => Nat.lt_of_le_of_lt (b1.2 z hz) hB) (fun z hz => Nat.lt_of_le_of_lt (b2.2 z hz) hB)) fun t2 H7 _ e7 ht2 => ?_
        refine ⟨_, _, _, _, t2, lin r1 r2, rfl, (((x4.trans x5).trans x6).trans (ExB.of eT)).trans (ExB.of e7), (p6.ex eT).ex e7, st_of ht2, (lin_len (b1.1.trans b2.1.symm)).trans b1.1, ?_⟩
        rw [big_s]
        exact lin_bd b1.2 b2.2
    · rintro σ' H4 ⟨u6, u7, u8, u9, t4, r4, rfl, x4, p4, ht4, hr4, hb4⟩
      have hl4 := x4 _ _ hl3 hne
      have hlus : us.length = rows.length := hR.length.symm
      refine s_app (l := l) (xs := us) hl4 (ev_var rfl) (ev_var rfl) (by omega) fun H5 e5 => ?_
      have hl5 := e5 _ _ hl4
      have hR5 := (refs_B p3 hR3 x4).mono e5
      have xx : ExB p H H5 := ((x2.trans x3).trans x4).trans (ExB.of e5)
      refine ⟨_, _, _, _, _, _, us ++ [.ref t4], rows ++ [r4], rfl, xx.fresh hl, (p4.ex e5).upd hne, upd_same, ?_, by rw [List.length_append, hlen]; rfl, ?_⟩
      · exact paired_app (refs_L hR5 hl5) (.cons ⟨t4, rfl, sqt_upd (ex_t e5 ht4) hl5 (fun _ z => nomatch z) (fun _ _ z => nomatch z)⟩ .nil)
      · intro r hr
        rcases List.mem_append.mp hr with hr | hr
        · exact ⟨(hV r hr).1, fun z hz => Nat.le_trans ((hV r hr).2 z hz) (big_up (by omega))⟩
        · obtain rfl := List.mem_singleton.mp hr
          exact ⟨hr4, hb4⟩
  · rintro n σ' H' hn ⟨u4, u5, u6, u7, u8, u9, us, rows, rfl, x', p', hl', hR, hlen, hV⟩
    exact ⟨_, rfl, q H' l us rows x' p' hl hl' hR (by omega) (by rw [hlen]; exact hV)⟩
end
end Tx

/-! part K16 -/
/-! Drawn vectors may be reduced. -/
namespace Tx
open PySem PySem.Spec PyProof.Rows L2 Evl Jb
def Budget (c : Nat) : Nat → Nat → Prop
  | 0, _ => True
  | n + 1, d => d + (d + c + 3) + 1 < 8000 ∧ Budget c n (d + (d + c + 3) + 1)
theorem pow_up {a b x : Nat} (h : x < 2 ^ a) (hab : a ≤ b) : x < 2 ^ b := Nat.lt_of_lt_of_le h (Nat.pow_le_pow_right (by decide) hab)
theorem fitR_of {wd d c : Nat} {R : Sp.Rows} {D : Int} {v : List Int} (G : Sp.Good wd R D d) (hv : v.length = wd) (hw : wd ≤ 128) (hb : ∀ j, (Sp.ent v j).natAbs < 2 ^ c) (hn : R.length ≤ 7) (hd : d + (d + c + 3) + 1 < 8000) : FitR v R where
  len := fun q hq => ⟨by rw [(G.len q hq).1, hv], by rw [hv]; exact (G.len q hq).2⟩
  pos := G.pos
  nd := G.nd
  bv := fun j => pow_up (hb j) (by omega)
  br := fun q hq j => pow_up (G.row_bd hq j) (by omega)
  sc := fun i => pow_up (G.pre i) (by omega)
  sz := by rw [hv]; exact hw
  sr := by omega
theorem fitStep_of {wd d c : Nat} {R : Sp.Rows} {D : Int} {v : List Int} (G : Sp.Good wd R D d) (hv : v.length = wd) (hw : wd ≤ 128) (hb : ∀ j, (Sp.ent v j).natAbs < 2 ^ c) (hn : R.length ≤ 7) (hd : d + (d + c + 3) + 1 < 8000) : FitStep R v where
  fr := fitR_of G hv hw hb hn hd
  lg := Nat.lt_of_lt_of_le (Sp.gcdL_lt (by omega) (G.rem_lt hv hb hn)) (by omega)
  nx := fun p hp => by
    have N := G.new hv hb hn hp
    refine ⟨fun z => ?_, fun q hq => ?_⟩
    · obtain ⟨q, hq, e⟩ := List.mem_map.mp z
      have h1 := N.zero q hq
      have e : q.1 = p := e
      rw [e] at h1
      have := N.pos
      omega
    · exact {
        len := by rw [(G.len q hq).1, N.len]
        lt := by rw [N.len]; exact N.lt
        pos := N.pos
        br := fun j => pow_up (G.row_bd hq j) (by omega)
        bv := fun j => pow_up (N.bd j) (by omega)
        lg := Nat.lt_of_lt_of_le (Sp.gcdL_lt (by omega) (Sp.cross_bd G N hq)) (by omega)
        sz := by rw [N.len]; exact hw }
theorem fitGo_of {wd c : Nat} (hw : wd ≤ 128) : ∀ (vs : List (List Int)) (R : Sp.Rows) (D : Int) (d : Nat), Sp.Good wd R D d → (∀ v ∈ vs, v.length = wd ∧ ∀ j, (Sp.ent v j).natAbs < 2 ^ c) → R.length + vs.length ≤ 8 → Budget c vs.length d →
    FitGo R vs ∧ ∃ D' d', Sp.Good wd (Sp.redGo R vs) D' d'
  | [], R, D, d, G, _, _, _ => ⟨True.intro, D, d, G⟩
  | v :: vs, R, D, d, G, h, hn, hb => by
    obtain ⟨hv, hbd⟩ := h v List.mem_cons_self
    rw [List.length_cons] at hn hb
    obtain ⟨b1, b2⟩ := hb
    by_cases z : R.length = v.length
    · refine ⟨.inl z, D, d, ?_⟩
      unfold Sp.redGo
      rw [if_pos z]
      exact G
    · obtain ⟨D', G'⟩ := G.add hv hbd (by omega)
      have al := Sp.add_len (v := v) (R := R)
      obtain ⟨f, D2, d2, G2⟩ := fitGo_of hw vs (Sp.addRow R v) D' _ G' (fun u hu => h u (List.mem_cons_of_mem _ hu)) (by omega) b2
      refine ⟨.inr ⟨z, fitStep_of G hv hw hbd (by omega) b1, f⟩, D2, d2, ?_⟩
      unfold Sp.redGo
      rw [if_neg z]
      exact G2
theorem good_nil {wd : Nat} : Sp.Good wd [] 1 1 where
  len := fun q hq => by cases hq
  nd := List.nodup_nil
  pv := fun q hq => by cases hq
  pos := fun q hq => by cases hq
  zero := fun q hq => by cases hq
  dpos := by decide
  dlt := by decide
  mul := fun q hq => by cases hq
theorem fitV_of {wd c : Nat} {l : List Dt} (hw : wd ≤ 128) (h : ∀ v ∈ l.map rowD, v.length = wd ∧ ∀ j, (Sp.ent v j).natAbs < 2 ^ c) (hn : l.length ≤ 8) (hb : Budget c l.length 1) : FitV l := by
  obtain ⟨f, D, d, G⟩ := fitGo_of hw (l.map rowD) [] 1 1 good_nil h (by rw [List.length_map]; show 0 + _ ≤ 8; omega) (by rw [List.length_map]; exact hb)
  have G : Sp.Good wd (Sp.red (l.map rowD)) D d := G
  refine ⟨by omega, f, G.nd, fun q hq => ?_⟩
  unfold Sp.srtR at hq
  obtain ⟨y, hy, e⟩ := List.mem_map.mp hq
  subst e
  have hm := (Sp.keysUp_perm _).mem_iff.mp hy
  obtain ⟨r, hr, e⟩ := List.mem_map.mp hm
  have e : (r.1 : Int) = y := e
  subst e
  have : Sp.rowAt (Sp.red (l.map rowD)) ((r.1 : Int)).toNat = r.2 := by
    rw [Int.toNat_natCast]
    exact Sp.rowAt_mem G.nd hr
  show Sp.piv (Sp.rowAt _ _) = some _
  rw [this, Int.toNat_natCast]
  exact G.pv r hr
theorem ent_bd {v : List Int} {B : Nat} (h : ∀ z ∈ v, z.natAbs ≤ B) (j : Nat) : (Sp.ent v j).natAbs ≤ B := by
  unfold Sp.ent
  rw [List.getD_eq_getElem?_getD]
  cases e : v[j]? with
  | none => exact Nat.zero_le _
  | some z => exact h z (List.mem_of_getElem? e)
/-- five drawn vectors -/
theorem budget5 : ∀ n, n ≤ 5 → Budget 80 n 1
  | 0, _ => trivial
  | 1, _ => by repeat (first | exact True.intro | refine ⟨by decide, ?_⟩)
  | 2, _ => by repeat (first | exact True.intro | refine ⟨by decide, ?_⟩)
  | 3, _ => by repeat (first | exact True.intro | refine ⟨by decide, ?_⟩)
  | 4, _ => by repeat (first | exact True.intro | refine ⟨by decide, ?_⟩)
  | 5, _ => by repeat (first | exact True.intro | refine ⟨by decide, ?_⟩)
  | n + 6, h => by omega
def rowsD (rows : List (List Int)) : List Dt := rows.map fun r => .tup (r.map Dt.int)
theorem rowsD_row (rows : List (List Int)) : (rowsD rows).map rowD = rows := by
  unfold rowsD
  rw [List.map_map]
  conv => rhs; rw [← List.map_id rows]
  refine List.map_congr_left fun r _ => ?_
  show (r.map Dt.int).map intD = r
  rw [List.map_map]
  conv => rhs; rw [← List.map_id r]
  exact List.map_congr_left fun i _ => rfl
theorem fitV_vecs {wd : Nat} {rows : List (List Int)} (hw : wd ≤ 128) (hn : rows.length ≤ 5) (h : Vecs wd (big rows.length) rows) : FitV (rowsD rows) := by
  refine fitV_of (c := 80) (wd := wd) hw ?_ (by unfold rowsD; rw [List.length_map]; omega) (by unfold rowsD; rw [List.length_map]; exact budget5 _ hn)
  rw [rowsD_row]
  intro v hv
  refine ⟨(h v hv).1, fun j => Nat.lt_of_le_of_lt (ent_bd (h v hv).2 j) ?_⟩
  exact Nat.lt_of_le_of_lt (big_up hn) (by decide)
theorem fitV_nil : FitV [] := fitV_vecs (wd := 1) (rows := []) (by decide) (by decide) (fun r hr => by cases hr)
end Tx

/-! part R0 -/
/-! A list of lists of ints: how it is made, read, written. -/
namespace Tx
open PySem PySem.Spec PyProof.Rows L2 Evl Jb
section
variable {K : PySem.W.Frag} {H : Hp} {σ : L2.St} {te : TE} {g : TG} {wi : TI}
/-- a comprehension whose items are new things -/
theorem el_lcP {vs : List Nat} {n : Nat} {Pt : Nat → V → Hp → Prop} (R : Addr → Nat → V → Hp → Prop) (hR : ∀ D i y G G', R D i y G → ExB D G G' → R D i y G') (S : Nat → L2.St → Prop) (hw : EvI wi σ H n Pt) (hn : n ≤ 40000)
    (hg : ∀ i x H2, i < n → Ex H H2 → Pt i x H2 → ∀ Q : L2.St → Hp → Prop, (∀ σ2, S i σ2 → wipe σ2 vs = wipe σ vs → Q σ2 H2) → g x (wipe σ vs) H2 Q)
    (he : ∀ i σ2 H2 D, i < n → S i σ2 → Ex H H2 → H D = none → H2 D ≠ none → ∀ Q : VK, (∀ H3 y, Ex H2 H3 → R D i y H3 → Q y H3) → te σ2 H2 Q) :
    ∀ H0, Ex H H0 → ∀ Q : VK, (∀ D H', Ex H0 H' → H0 D = none → (∃ acc, H' D = some (.lst acc) ∧ acc.length = n ∧ ∀ i y, acc[i]? = some y → R D i y H') → Q (.ref D) H') → tLc wi g tYes te vs σ H0 Q := fun H0 e0 Q q =>
  hw H0 e0 _ fun J H1 e1 ⟨G, Y, W, hG, hY⟩ Dl hD => by
    refine lc_it W (fun i H' => Ex H1 H' ∧ ∃ acc, H' Dl = some (.lst acc) ∧ acc.length = i ∧ ∀ k y, acc[k]? = some y → R Dl k y H') ⟨Ex.new hD, [], upd_same, rfl, fun k y hk => by simp at hk⟩ (fun i H2 _ p => hG H2 p.1) ?_ ?_
    · rintro i x H2 H3 hi ⟨p1, acc, p2, p3, p4⟩ y
      obtain ⟨e3, pt⟩ := hY i H2 x H3 hi p1 y
      have e4 : Ex H1 H3 := p1.trans e3
      refine hg i x H3 hi ((e0.trans e1).trans e4) pt _ fun σ2 s2 hwp => ⟨hwp, ?_⟩
      have hD3 : H3 Dl = some (.lst acc) := e3 _ _ p2
      have hDH : H Dl = none := by
        cases e : H Dl with
        | none => rfl
        | some o => rw [e1 _ _ (e0 _ _ e)] at hD; cases hD
      have key : te σ2 H3 (fun y H4 => ∃ ac, H4 Dl = some (.lst ac) ∧ ac.length < sizeLine ∧ (Ex H1 (upd H4 Dl (.lst (ac ++ [y]))) ∧ ∃ acc, (upd H4 Dl (.lst (ac ++ [y]))) Dl = some (.lst acc) ∧ acc.length = i + 1 ∧ ∀ k z, acc[k]? = some z → R Dl k z (upd H4 Dl (.lst (ac ++ [y]))))) := by
       refine he i σ2 H3 Dl hi s2 ((e0.trans e1).trans e4) hDH (by rw [hD3]; exact nofun) _ fun H4 z e5 rz => ?_
       have hD4 : H4 Dl = some (.lst acc) := e5 _ _ hD3
       refine ⟨acc, hD4, Nat.lt_of_lt_of_le (by omega : acc.length < 40001) (by decide), Ex.mut (e4.trans e5) hD, acc ++ [z], upd_same, by rw [List.length_append, p3]; rfl, fun k y hk => ?_⟩
       have xb : ExB Dl H2 (upd H4 Dl (.lst (acc ++ [z]))) := fun c o hc hne => by rw [upd_ne hne]; exact e5 _ _ (e3 _ _ hc)
       have xb4 : ExB Dl H4 (upd H4 Dl (.lst (acc ++ [z]))) := fun c o hc hne => by rw [upd_ne hne]; exact hc
       by_cases hk2 : k < acc.length
       · rw [List.getElem?_append_left hk2] at hk
         exact hR _ _ _ _ _ (p4 k y hk) xb
       · have hke : k = acc.length := by
           have := (List.getElem?_eq_some_iff.mp hk).1
           rw [List.length_append] at this
           have h1 : [z].length = 1 := rfl
           omega
         subst hke
         rw [List.getElem?_append_right (Nat.le_refl _), Nat.sub_self] at hk
         obtain rfl : z = y := Option.some.inj hk
         rw [p3]
         exact hR _ _ _ _ _ rz xb4
      exact key
    · rintro H2 ⟨p1, acc, p2, p3, p4⟩
      exact q Dl H2 (e1.trans p1) (fresh_back e1 hD) ⟨acc, p2, p3, p4⟩
/-- rows that stand as lists of their own -/
def RowsL (H : Hp) (L : Addr) (rows : List (List Int)) : Prop := ∃ us, H L = some (.lst us) ∧ us.length = rows.length ∧ ∀ (i : Nat) (y : V), us[i]? = some y → ∃ b r, y = .ref b ∧ b ≠ L ∧ rows[i]? = some r ∧ H b = some (.lst (iVs r))
theorem RowsL.mono {H H' : Hp} {L : Addr} {rows : List (List Int)} (e : Ex H H') (h : RowsL H L rows) : RowsL H' L rows := by
  obtain ⟨us, h1, h2, h3⟩ := h
  refine ⟨us, e _ _ h1, h2, fun i y hy => ?_⟩
  obtain ⟨b, r, a1, a2, a3, a4⟩ := h3 i y hy
  exact ⟨b, r, a1, a2, a3, e _ _ a4⟩
/-- one row -/
theorem RowsL.at_ {H : Hp} {L : Addr} {rows : List (List Int)} (h : RowsL H L rows) {i : Nat} (hi : i < rows.length) : ∃ us b, H L = some (.lst us) ∧ us[i]? = some (.ref b) ∧ b ≠ L ∧ H b = some (.lst (iVs rows[i])) := by
  obtain ⟨us, h1, h2, h3⟩ := h
  obtain ⟨b, r, a1, a2, a3, a4⟩ := h3 i us[i] (List.getElem?_eq_getElem (by omega))
  rw [List.getElem?_eq_getElem hi] at a3
  obtain rfl := Option.some.inj a3
  exact ⟨us, b, h1, by rw [List.getElem?_eq_getElem (by omega), a1], a2, a4⟩
/-- a row is written -/
theorem RowsL.set {H : Hp} {L p : Addr} {rows : List (List Int)} {us : List V} {r : List Int} {i : Nat} (h : RowsL H L rows) (hL : H L = some (.lst us)) (hi : i < rows.length) (hp : H p = some (.lst (iVs r))) (hne : p ≠ L) : RowsL (upd H L (.lst (us.set i (.ref p)))) L (rows.set i r) := by
  obtain ⟨us', h1, h2, h3⟩ := h
  rw [hL] at h1
  obtain rfl : us = us' := HO.lst.inj (Option.some.inj h1)
  refine ⟨us.set i (.ref p), upd_same, by rw [List.length_set, List.length_set, h2], fun k y hk => ?_⟩
  by_cases c : i = k
  · subst c
    rw [List.getElem?_set_self (by omega)] at hk
    obtain rfl := Option.some.inj hk
    exact ⟨p, r, rfl, hne, by rw [List.getElem?_set_self hi], by rw [upd_ne hne]; exact hp⟩
  · rw [List.getElem?_set_ne c] at hk
    obtain ⟨b, r', a1, a2, a3, a4⟩ := h3 k y hk
    exact ⟨b, r', a1, a2, by rw [List.getElem?_set_ne c]; exact a3, by rw [upd_ne a2]; exact a4⟩
end
end Tx

/-! part R2 -/
/-! The readings of the law's own rank, piece by piece. -/
namespace Tx
open PySem PySem.Spec PyProof.Rows L2 Evl Jb
def tA1 (K : PySem.W.Frag) : TE := tCB (rListS K) (tCons (tVar 11) tNil)
def tA2 (K : PySem.W.Frag) : TE := tCB (rLenA K) (tCons (tVar 11) tNil)
def tA3 (K : PySem.W.Frag) : TT := tTest (tOp rNe (tOp (rIxL K) (tOp (rIxL K) (tVar 1) (tVar 6)) (tVar 5)) (tC (.int 0)))
def tA4 (K : PySem.W.Frag) : TE := tOp (rI0 fun i j => V.int (i - j)) (tOp (rI CMulX fun i j => V.int (i * j)) (tOp (rIxL K) (tVar 8) (tVar 5)) (tVar 13)) (tOp (rI CMulX fun i j => V.int (i * j)) (tVar 9) (tOp (rIxL K) (tVar 8) (tVar 12)))
def tA5 : TE := tOp (rI (fun _ j => j ≠ 0 ∧ j.natAbs.log2 < 9000) fun i j => V.int (i.fdiv j)) (tVar 13) (tVar 3)
section
variable {K : PySem.W.Frag} {H : Hp} {σ : L2.St} {te ta tb : TE} {D : Ends} {tz : TS} {i : Nat}
theorem q_asgE (h : te σ H fun v H1 => tz D (σ.set i (some v)) H1) : tSeq (tAsg te (gName i)) tz D σ H := h
/-- [list(v) for v in vectors] -/
theorem el_copy {a : Addr} {us : List V} {rows : List (List Int)} (h0 : σ[0]? = some (some (.ref a))) (hl : σ.length = 14) (hS : SqL K H a us) (hR : Refs K H rows us) (hz : rows.length ≤ 1000) (Q : VK) (q : ∀ L H', Ex H H' → H L = none → RowsL H' L rows → Q (.ref L) H') : tLc (iList K (tVar 0)) (gName 11) tYes (tA1 K) [11] σ H Q := by
  have hlen : us.length = rows.length := hR.length.symm
  refine el_lcP (H := H) (σ := σ) (te := tA1 K) (g := gName 11) (wi := iList K (tVar 0)) (vs := [11]) (n := us.length) (fun D i y G => ∃ b r, y = .ref b ∧ b ≠ D ∧ rows[i]? = some r ∧ G b = some (.lst (iVs r))) (fun D i y G G' ⟨b, r, h1, h2, h3, h4⟩ x => ⟨b, r, h1, h2, h3, x _ _ h4 h2⟩)
    (fun i σ2 => ∃ b r, rows[i]? = some r ∧ SqT K H b (iVs r) ∧ σ2[11]? = some (some (.ref b))) (ei_list (K := K) (tl := tVar 0) (ev_var h0) hS) (by omega)
    (fun i x H2 hi _ hx Q hQ => ?_) (fun i σ2 H2 D hi ⟨b, r, h1, h2, h3⟩ e hD hD2 Q q => ?_) H (Ex.refl H) Q (fun L H' e hL ⟨acc, g1, g2, g3⟩ => q L H' e hL ⟨acc, g1, by omega, g3⟩)
  · obtain ⟨r, hr, b, rfl, hb⟩ := paired_get hR hx
    match σ, hl, hQ with
    | [s0, s1, s2, s3, s4, s5, s6, s7, s8, s9, s10, s11, s12, s13], _, hQ => exact hQ _ ⟨b, r, hr, hb, rfl⟩ rfl
  · refine ⟨_, h3, b, iVs r, rfl, .inr (ex_t e h2), fun l hln => q _ (.ref l) (Ex.new hln) ⟨l, r, rfl, fun z => hD2 (z ▸ hln), h1, upd_same⟩⟩
/-- [first[column] * entry - factor * first[k] for k, entry in enumerate(rows[at])] -/
theorem el_cross {b1 b2 : Addr} {first row : List Int} {c : Nat} {fac : Int} (hb : Ev te σ H (.ref b2)) (h5 : σ[5]? = some (some (.int (c : Nat)))) (h8 : σ[8]? = some (some (.ref b1))) (h9 : σ[9]? = some (some (.int fac))) (hl : σ.length = 14) (s1 : H b1 = some (.lst (iVs first))) (s2 : H b2 = some (.lst (iVs row)))
    (he : row.length = first.length) (hc : c < first.length) (hz : row.length ≤ 1000) (bf : ∀ j, (Sp.ent first j).natAbs < 2 ^ 1000) (br : ∀ j, (Sp.ent row j).natAbs < 2 ^ 1000) (bc : fac.natAbs < 2 ^ 1000) :
    EvL (tLc (iE K true (tCons te tNil)) (gTup K 2 (gCons (gName 12) (gCons (gName 13) gNil))) tYes (tA4 K) [12, 13]) σ H (iVs (List.zipWith (fun e f => Sp.ent first c * e - fac * f) row first)) := by
  have hg := el_lcG (t := tYes) (te := tA4 K) (g := gTup K 2 (gCons (gName 12) (gCons (gName 13) gNil))) (σ := σ) (H := H) (vs := [12, 13]) (fun _ => true) (fun i => .int (Sp.ent first c * Sp.ent row i - fac * Sp.ent first i))
    (fun i σ2 => i < row.length ∧ σ2[5]? = some (some (.int (c : Nat))) ∧ σ2[8]? = some (some (.ref b1)) ∧ σ2[9]? = some (some (.int fac)) ∧ σ2[12]? = some (some (.int (i : Nat))) ∧ σ2[13]? = some (some (.int (Sp.ent row i)))) (ei_enum (K := K) (b := true) (ta := tCons te tNil) (ea_cons hb ea_nil) (sq_of s2)) (by rw [iVs_len]; omega)
    (fun i x H2 hi _ hx Q hQ => by
      rw [iVs_len] at hi
      refine g_pair hx fun u v hu hv => ?_
      obtain rfl : V.int (i : Nat) = u := Option.some.inj hu
      obtain rfl : V.int (Sp.ent row i) = v := Option.some.inj ((iVs_ent hi).symm.trans hv)
      match σ, hl with
      | [t0, t1, t2, t3, t4, t5, t6, t7, t8, t9, t10, t11, t12, t13], _ =>
        exact hQ _ ⟨hi, h5, h8, h9, rfl, rfl⟩ rfl)
    (fun i σ2 H2 _ _ _ => yes_ev)
    (fun i σ2 H2 _ ⟨hi, g5, g8, g9, g12, g13⟩ _ e => ev_op (ev_op (ev_op (ev_var g8) (ev_var g5) (rv_ixL (sq_of (e _ _ s1)) (atI_nat (iVs_ent hc)))) (ev_var g13) (rv_I (mulx_ok (a := 1000) (b := 1000) (bf c) (br i) (by decide)))) (ev_op (ev_var g9) (ev_op (ev_var g8) (ev_var g12) (rv_ixL (sq_of (e _ _ s1)) (atI_nat (iVs_ent (by omega))))) (rv_I (mulx_ok (a := 1000) (b := 1000) bc (bf i) (by decide)))) rv_I0)
  rw [iVs_len, given_map (xs := iVs (List.zipWith (fun e f => Sp.ent first c * e - fac * f) row first)) (fun _ _ => rfl) (by rw [iVs_len, List.length_zipWith, he, Nat.min_self]) (fun i x hx => by
    have hi : i < (List.zipWith (fun e f => Sp.ent first c * e - fac * f) row first).length := by
      have := (List.getElem?_eq_some_iff.mp hx).1
      rwa [iVs_len] at this
    rw [iVs_ent hi, Sp.ent_zip (fun e f => Sp.ent first c * e - fac * f) (by simp) he] at hx
    exact Option.some.inj hx)] at hg
  exact hg
/-- [entry // before for entry in crossed] -/
theorem el_div {b : Addr} {cr : List Int} {bef : Int} (h10 : σ[10]? = some (some (.ref b))) (h3 : σ[3]? = some (some (.int bef))) (hl : σ.length = 14) (s : H b = some (.lst (iVs cr))) (hz : cr.length ≤ 1000) (b0 : bef ≠ 0) (bb : bef.natAbs.log2 < 9000) :
    EvL (tLc (iList K (tVar 10)) (gName 13) tYes tA5 [13]) σ H (iVs (cr.map fun e => e.fdiv bef)) := by
  have hg := el_lcG (t := tYes) (te := tA5) (g := gName 13) (wi := iList K (tVar 10)) (σ := σ) (H := H) (vs := [13]) (fun _ => true) (fun i => .int ((Sp.ent cr i).fdiv bef)) (fun i σ2 => σ2[3]? = some (some (.int bef)) ∧ σ2[13]? = some (some (.int (Sp.ent cr i)))) (ei_list (K := K) (tl := tVar 10) (ev_var h10) (sq_of s)) (by rw [iVs_len]; omega)
    (fun i x H2 hi _ hx Q hQ => by
      rw [iVs_len] at hi
      obtain rfl : V.int (Sp.ent cr i) = x := Option.some.inj ((iVs_ent hi).symm.trans hx)
      match σ, hl with
      | [t0, t1, t2, t3, t4, t5, t6, t7, t8, t9, t10, t11, t12, t13], _ => exact hQ _ ⟨h3, rfl⟩ rfl)
    (fun i σ2 H2 _ _ _ => yes_ev)
    (fun i σ2 H2 _ ⟨g3, g13⟩ _ e => ev_op (ev_var g13) (ev_var g3) (rv_I ⟨b0, bb⟩))
  rw [iVs_len, given_map (xs := iVs (cr.map fun e => e.fdiv bef)) (fun _ _ => rfl) (by rw [iVs_len, List.length_map]) (fun i x hx => by
    have hi : i < (cr.map fun e => e.fdiv bef).length := by
      have := (List.getElem?_eq_some_iff.mp hx).1
      rwa [iVs_len] at this
    rw [iVs_ent hi, Sp.ent_map (fun e => e.fdiv bef) (Int.zero_fdiv bef)] at hx
    exact Option.some.inj hx)] at hg
  exact hg
/-- the new row in one -/
theorem newRow_eq {first row : List Int} {c : Nat} {bef : Int} (he : row.length = first.length) : (List.zipWith (fun e f => Sp.ent first c * e - Sp.ent row c * f) row first).map (fun e => e.fdiv bef) = Sp.newRow first c bef row := by
  unfold Sp.newRow
  rw [List.map_zipWith]
end
end Tx

/-! part R3 -/
namespace Tx
open PySem PySem.Spec PyProof.Rows L2 Evl Jb
section
variable {K : PySem.W.Frag} {H : Hp} {σ : L2.St} {te ta tb : TE} {D : Ends} {tz : TS} {i : Nat}
theorem ei_range2 {tr : TA} {lo hi : Int} (h : EvA tr σ H [.int lo, .int hi]) (hb : -1000 ≤ lo ∧ lo ≤ 1000 ∧ -1000 ≤ hi ∧ hi ≤ 1000) : EvI (iRng2 tr) σ H (hi - lo).toNat (fun i x _ => x = .int (lo + (i : Nat))) := fun H1 e R q =>
  h H1 e _ fun H2 e2 => ⟨lo, hi, rfl, ⟨by omega, by omega, by omega, by omega⟩, q _ H2 e2 ⟨_, _, walk_range, fun _ _ => True.intro, fun i H3 x H4 _ e3 y => ⟨y.1 ▸ Ex.refl _, y.2⟩⟩⟩
/-- rows[at][column] -/
theorem ev_cell {L : Addr} {rs : List (List Int)} {k c n : Nat} (h1 : Ev ta σ H (.ref L)) (hk : Ev tb σ H (.int (k : Nat))) (h5 : Ev te σ H (.int (c : Nat))) (hR : RowsL H L rs) (hlt : k < rs.length) (hn : ∀ r ∈ rs, r.length = n) (hc : c < n) :
    Ev (tOp (rIxL K) (tOp (rIxL K) ta tb) te) σ H (.int (Sp.ent rs[k] c)) := by
  obtain ⟨us, b, g1, g2, _, g4⟩ := hR.at_ hlt
  exact ev_op (ev_op h1 hk (rv_ixL (sq_of g1) (atI_nat g2))) h5 (rv_ixL (sq_of g4) (atI_nat (iVs_ent (by rw [hn _ (List.getElem_mem hlt)]; exact hc))))
/-- the places at which the column is not 0 -/
theorem el_able {L : Addr} {rs : List (List Int)} {fd c n : Nat} (h1 : σ[1]? = some (some (.ref L))) (h2 : σ[2]? = some (some (.int (fd : Nat)))) (h5 : σ[5]? = some (some (.int (c : Nat)))) (hl : σ.length = 14) (hR : RowsL H L rs) (hz : rs.length ≤ 1000) (hfd : fd ≤ rs.length) (hn : ∀ r ∈ rs, r.length = n) (hc : c < n) :
    EvL (tLc (iRng2 (tCons (tVar 2) (tCons (tCB (rLenA K) (tCons (tVar 1) tNil)) tNil))) (gName 6) (tA3 K) (tVar 6) [6]) σ H (given (rs.length - fd) (fun i => Sp.nz c ((rs.drop fd).getD i [])) (fun i => .int ((fd + i : Nat)))) := by
  obtain ⟨us, g1, g2, _⟩ := id hR
  have hm : (((us.length : Nat) : Int) - ((fd : Nat) : Int)).toNat = rs.length - fd := by omega
  have hw := ei_range2 (lo := (fd : Nat)) (hi := (us.length : Nat)) (tr := tCons (tVar 2) (tCons (tCB (rLenA K) (tCons (tVar 1) tNil)) tNil)) (ea_cons (ev_var h2) (ea_cons (ev_lenB (K := K) (b := true) (ev_var h1) (sq_of g1)) ea_nil)) (by omega)
  rw [hm] at hw
  refine el_lcG (t := tA3 K) (te := tVar 6) (g := gName 6) (vs := [6]) (fun i => Sp.nz c ((rs.drop fd).getD i [])) (fun i => .int ((fd + i : Nat))) (fun i σ2 => i < rs.length - fd ∧ σ2[1]? = some (some (.ref L)) ∧ σ2[5]? = some (some (.int (c : Nat))) ∧ σ2[6]? = some (some (.int ((fd + i : Nat))))) hw (by omega) ?_ ?_ ?_
  · intro i x H2 hi _ hx Q hQ
    subst hx
    match σ, hl, hQ with
    | [t0, t1, t2, t3, t4, t5, t6, t7, t8, t9, t10, t11, t12, t13], _, hQ => exact hQ _ ⟨hi, h1, h5, rfl⟩ rfl
  · rintro i σ2 H2 hi ⟨_, s1, s5, s6⟩ e
    have hlt : fd + i < rs.length := by omega
    have eg : (rs.drop fd).getD i [] = rs[fd + i] := by rw [List.getD_eq_getElem?_getD, List.getElem?_drop, List.getElem?_eq_getElem hlt] <;> rfl
    rw [eg]
    refine et_is (et_test (ev_op (ev_cell (K := K) (ev_var s1) (ev_var s6) (ev_var s5) (hR.mono e) hlt hn hc) ev_c (rv_ne rfl))) ?_
    unfold Sp.nz
    by_cases z : Sp.ent rs[fd + i] c = 0
    · rw [z]; rfl
    · rw [decide_eq_true z, decide_eq_false fun y => z (V.int.inj y)]; rfl
  · rintro i σ2 H2 hi ⟨_, s1, s5, s6⟩ _ e
    exact ev_var s6
theorem el_cat {xs ys : List V} (hA : EvL ta σ H xs) (hB : ∀ H1, Ex H H1 → EvL tb σ H1 ys) (hz : xs.length + ys.length ≤ 1000) : EvL (tOp rCat ta tb) σ H (xs ++ ys) := fun H1 e Q q =>
  hA H1 e _ fun p0 H2 hp0 e2 hd0 => hB H2 (e.trans e2) H2 (Ex.refl H2) _ fun p1 H3 hp1 e3 hd1 => ⟨p0, p1, xs, ys, rfl, rfl, e3 _ _ hd0, hd1, Nat.le_of_lt (small1000 hz), fun p hp => q p _ (fresh_back (e2.trans e3) hp) ((e2.trans e3).trans (Ex.new hp)) upd_same⟩
theorem ev_maxN {ns : List Int} {m : Int} (h : EvL te σ H (ns.map V.int)) (hm : m ∈ ns) (hmax : ∀ y ∈ ns, y ≤ m) : Ev (tCB (rMax K) (tCons te tNil)) σ H (.int m) := fun H1 e Q q =>
  h H1 e _ fun p H2 hp e2 hd => ⟨p, ns, rfl, sq_of hd, List.length_pos_of_mem hm, fun k hk hkm => by
    have : k = m := Int.le_antisymm (hmax k hk) (hkm m hm)
    rw [this]
    exact q H2 e2⟩
/-- max([0] + [len(v) for v in vectors]) -/
theorem ev_width {a : Addr} {us : List V} {rows : List (List Int)} {n : Nat} (h0 : σ[0]? = some (some (.ref a))) (hl : σ.length = 14) (hS : SqL K H a us) (hR : Refs K H rows us) (hz : rows.length ≤ 900) (hn : ∀ r ∈ rows, r.length = n) :
    Ev (tCB (rMax K) (tCons (tOp rCat (tLst (tCons (tC (.int 0)) tNil)) (tLc (iList K (tVar 0)) (gName 11) tYes (tA2 K) [11])) tNil)) σ H (.int ((if rows = [] then 0 else n : Nat))) := by
  have hlen : us.length = rows.length := hR.length.symm
  have elc : ∀ H2, Ex H H2 → EvL (tLc (iList K (tVar 0)) (gName 11) tYes (tA2 K) [11]) σ H2 ((List.range us.length).map fun _ => V.int (n : Nat)) := fun H2 e2 => by
    have hg := el_lcG (t := tYes) (te := tA2 K) (g := gName 11) (wi := iList K (tVar 0)) (σ := σ) (H := H2) (vs := [11]) (fun _ => true) (fun _ => .int (n : Nat)) (fun i σ2 => ∃ b r, r ∈ rows ∧ SqT K H2 b (iVs r) ∧ σ2[11]? = some (some (.ref b))) (ei_list (K := K) (tl := tVar 0) (ev_var h0) (ex_l e2 hS)) (by omega)
      (fun i x H3 hi _ hx Q hQ => by
        obtain ⟨r, hr, b, rfl, hb⟩ := paired_get (hR.mono e2) hx
        match σ, hl, hQ with
        | [t0, t1, t2, t3, t4, t5, t6, t7, t8, t9, t10, t11, t12, t13], _, hQ => exact hQ _ ⟨b, r, List.mem_of_getElem? hr, hb, rfl⟩ rfl)
      (fun i σ2 H3 _ _ _ => yes_ev)
      (fun i σ2 H3 _ ⟨b, r, hr, hb, h11⟩ _ e3 => by
        have := ev_lenB (K := K) (b := false) (ev_var h11) (ex_t e3 hb)
        rw [iVs_len, hn r hr] at this
        exact this)
    rw [given_all fun _ _ => rfl] at hg
    exact hg
  have ev : [V.int 0] ++ (List.range us.length).map (fun _ => V.int (n : Nat)) = (0 :: List.replicate rows.length ((n : Nat) : Int)).map V.int := by
    rw [List.map_cons, List.map_replicate, hlen]
    have : (List.range rows.length).map (fun _ => V.int (n : Nat)) = List.replicate rows.length (V.int (n : Nat)) := by
      rw [List.map_const', List.length_range]
    rw [this]
    rfl
  have hc := el_cat (el_lst (σ := σ) (H := H) (vs := [.int 0]) (ea_cons ev_c ea_nil) (by decide)) elc (by rw [List.length_map, List.length_range, hlen]; show 1 + rows.length ≤ 1000; omega)
  rw [ev] at hc
  refine ev_maxN hc ?_ fun y hy => ?_
  · by_cases hr : rows = []
    · rw [if_pos hr]; exact List.mem_cons_self
    · rw [if_neg hr]
      exact List.mem_cons_of_mem _ (List.mem_replicate.mpr ⟨fun y => hr (List.length_eq_zero_iff.mp y), rfl⟩)
  · rcases List.mem_cons.mp hy with z | z
    · rw [z]; exact Int.natCast_nonneg _
    · obtain ⟨z1, z2⟩ := List.mem_replicate.mp z
      rw [if_neg fun y => z1 (by rw [y]; rfl), z2]
      exact Int.le_refl _
end
end Tx

/-! part R4 -/
/-! The state of the law's own rank, column by column, in plain Lean. -/
namespace Tx
open PySem PySem.Spec PyProof.Rows L2 Evl Jb
structure RankAt (n : Nat) (rows : List (List Int)) (c fd : Nat) (bf : Int) (rs : List (List Int)) : Prop where
  st : ∃ (Lq : List (List Int × Sp.Fun)) (P : List Sp.Fun) (C : List Nat) (E : Sp.Ech), Sp.Elim n (rows.map Sp.ent) c Lq P C E bf ∧ P.length = fd ∧ C.length = fd ∧ rs.drop fd = Lq.map (·.1)
  fl : fd ≤ rs.length
  fc : fd ≤ c
  rl : rs.length = rows.length
  rn : ∀ r ∈ rs, r.length = n
  go : c ≤ n → Sp.bar (n - c) c (rs.drop fd) fd bf = Sp.rank n rows
theorem rankAt_start {n : Nat} {rows : List (List Int)} (h : ∀ r ∈ rows, r.length = n) : RankAt n rows 0 0 1 rows where
  st := ⟨_, [], [], [], Sp.elim_start h, rfl, rfl, by rw [List.drop_zero, List.map_map]; exact (List.map_id rows).symm⟩
  fl := Nat.zero_le _
  fc := Nat.le_refl _
  rl := rfl
  rn := h
  go := fun _ => rfl
theorem RankAt.bd {n c fd B : Nat} {rows rs : List (List Int)} {bf : Int} (A : RankAt n rows c fd bf rs) (hn : n ≤ 7) (hc : c < n) (hB : ∀ r ∈ rows, ∀ z ∈ r, z.natAbs ≤ B) (hB2 : B < 2 ^ 100) : (∀ r ∈ rs.drop fd, ∀ j, (Sp.ent r j).natAbs < 2 ^ 1000) ∧ bf.natAbs < 2 ^ 1000 ∧ bf ≠ 0 := by
  obtain ⟨Lq, P, C, E, I, hP, hC, hd⟩ := A.st
  have fb : ∀ s ∈ rows.map Sp.ent, ∀ j, (s j).natAbs ≤ B := fun s hs j => by
    obtain ⟨r, hr, e⟩ := List.mem_map.mp hs
    subst e
    exact ent_bd (hB r hr) j
  have big : ∀ k, k ≤ 8 → (8 * B) ^ k < 2 ^ 1000 := fun k hk => by
    have h1 : 8 * B ≤ 2 ^ 103 := by omega
    calc (8 * B) ^ k ≤ (2 ^ 103) ^ k := Nat.pow_le_pow_left h1 k
      _ ≤ (2 ^ 103) ^ 8 := Nat.pow_le_pow_right (by decide) hk
      _ < 2 ^ 1000 := by decide
  have := A.fc
  refine ⟨fun r hr j => ?_, ?_, I.b0⟩
  · rw [hd] at hr
    obtain ⟨q, hq, e⟩ := List.mem_map.mp hr
    subst e
    rw [(I.low q hq).2.1 j]
    have h := Sp.minor_bd (B := B) (m := 8) (q.2 :: P) (fun p hp => by
      rcases List.mem_cons.mp hp with z | z
      · rw [z]; exact fb _ (I.ls q hq)
      · exact fb _ (I.ps p z)) (j :: C) (by rw [List.length_cons, hC]; omega)
    exact Nat.lt_of_le_of_lt h (big _ (by rw [List.length_cons, hP]; omega))
  · rw [I.bf]
    have h := Sp.minor_bd (B := B) (m := 8) P (fun p hp => fb _ (I.ps p hp)) C (by omega)
    exact Nat.lt_of_le_of_lt h (big _ (by omega))
theorem RankAt.skip {n c fd : Nat} {rows rs : List (List Int)} {bf : Int} (A : RankAt n rows c fd bf rs) (hc : c < n) (hf : (rs.drop fd).findIdx? (Sp.nz c) = none) : RankAt n rows (c + 1) fd bf rs where
  st := by
    obtain ⟨Lq, P, C, E, I, hP, hC, hd⟩ := A.st
    refine ⟨Lq, P, C, E, I.skip fun q hq => ?_, hP, hC, hd⟩
    have := List.findIdx?_eq_none_iff.mp hf q.1 (by rw [hd]; exact List.mem_map.mpr ⟨q, hq, rfl⟩)
    unfold Sp.nz at this
    simpa using this
  fl := A.fl
  fc := Nat.le_succ_of_le A.fc
  rl := A.rl
  rn := A.rn
  go := fun h => by
    have := A.go (by omega)
    have e : n - c = (n - (c + 1)) + 1 := by omega
    rw [e] at this
    unfold Sp.bar at this
    rw [hf] at this
    exact this
/-- the rows behind a pivot at place fd + i -/
def nextRows (rs : List (List Int)) (fd i c : Nat) (bf : Int) : List (List Int) :=
  (rs.set fd (rs.getD (fd + i) [])).take (fd + 1) ++ (Sp.restOf (rs.drop fd) i (rs.getD fd [])).map (Sp.newRow (rs.getD (fd + i) []) c bf)
theorem drop_getD {rs : List (List Int)} {fd i : Nat} : (rs.drop fd).getD i [] = rs.getD (fd + i) [] := by
  rw [List.getD_eq_getElem?_getD, List.getD_eq_getElem?_getD, List.getElem?_drop]
theorem next_drop {rs : List (List Int)} {fd i c : Nat} {bf : Int} (h : fd < rs.length) : (nextRows rs fd i c bf).drop (fd + 1) = (Sp.restOf (rs.drop fd) i (rs.getD fd [])).map (Sp.newRow (rs.getD (fd + i) []) c bf) := by
  unfold nextRows
  have hl : ((rs.set fd (rs.getD (fd + i) [])).take (fd + 1)).length = fd + 1 := by rw [List.length_take, List.length_set]; omega
  rw [List.drop_append_of_le_length (by omega), List.drop_of_length_le (by omega), List.nil_append]
theorem next_len {rs : List (List Int)} {fd i c : Nat} {bf : Int} (h : fd < rs.length) : (nextRows rs fd i c bf).length = rs.length := by
  unfold nextRows Sp.restOf
  rw [List.length_append, List.length_take, List.length_set, List.length_map, List.length_drop, List.length_set, List.length_drop]
  omega
theorem RankAt.pick {n c fd i : Nat} {rows rs : List (List Int)} {bf : Int} (A : RankAt n rows c fd bf rs) (hc : c < n) (hf : (rs.drop fd).findIdx? (Sp.nz c) = some i) :
    fd + i < rs.length ∧ Sp.ent (rs.getD (fd + i) []) c ≠ 0 ∧ RankAt n rows (c + 1) (fd + 1) (Sp.ent (rs.getD (fd + i) []) c) (nextRows rs fd i c bf) := by
  obtain ⟨hi, hnz, _⟩ := List.findIdx?_eq_some_iff_getElem.mp hf
  rw [List.length_drop] at hi
  have hlt : fd + i < rs.length := by omega
  have hg : (rs.drop fd)[i]'(by rw [List.length_drop]; exact hi) = rs.getD (fd + i) [] := by
    rw [← drop_getD, List.getD_eq_getElem?_getD, List.getElem?_eq_getElem (by rw [List.length_drop]; exact hi)] <;> rfl
  rw [hg] at hnz
  have ac : Sp.ent (rs.getD (fd + i) []) c ≠ 0 := by unfold Sp.nz at hnz; simpa using hnz
  obtain ⟨Lq, P, C, E, I, hP, hC, hd⟩ := A.st
  refine ⟨hlt, ac, ?_⟩
  cases Lq with
  | nil =>
    rw [List.map_nil] at hd
    have := congrArg List.length hd
    rw [List.length_drop] at this
    exact absurd this (by show ¬ rs.length - fd = 0; omega)
  | cons h t =>
    have hil : i < (h :: t).length := by
      have := congrArg List.length hd
      rw [List.length_drop, List.length_map] at this
      omega
    have e0 : rs.getD fd [] = h.1 := by
      have := drop_getD (rs := rs) (fd := fd) (i := 0)
      rw [hd] at this
      exact this.symm
    have ei : rs.getD (fd + i) [] = (h :: t)[i].1 := by
      rw [← drop_getD, hd, List.getD_eq_getElem?_getD, List.getElem?_map, List.getElem?_eq_getElem hil] <;> rfl
    have J := I.pick hil rfl (by rw [← ei]; exact ac)
    have key : (nextRows rs fd i c bf).drop (fd + 1) = (((Sp.restOf (h :: t) i h).map fun q => (Sp.newRow (h :: t)[i].1 c bf q.1, q.2)).map (·.1)) := by
      rw [next_drop (by omega), ei, e0, hd, ← Sp.rest_map (·.1) (h :: t) i h, List.map_map, List.map_map]
      rfl
    exact {
      st := ⟨_, _, _, _, by rw [ei]; exact J, by rw [List.length_cons, hP], by rw [List.length_cons, hC], key⟩
      fl := by rw [next_len (by omega)]; omega
      fc := Nat.succ_le_succ A.fc
      rl := by rw [next_len (by omega)]; exact A.rl
      rn := fun r hr => by
        rcases List.mem_append.mp hr with z | z
        · have z := List.mem_of_mem_take z
          rcases List.mem_or_eq_of_mem_set z with y | y
          · exact A.rn r y
          · rw [y, List.getD_eq_getElem?_getD, List.getElem?_eq_getElem hlt]
            exact A.rn _ (List.getElem_mem hlt)
        · have z2 : r ∈ (nextRows rs fd i c bf).drop (fd + 1) := by rw [next_drop (by omega)]; exact z
          rw [key] at z2
          obtain ⟨q, hq, e⟩ := List.mem_map.mp z2
          subst e
          exact (J.low q hq).1
      go := fun h' => by
        have hgo := A.go (by omega)
        have e : n - c = (n - (c + 1)) + 1 := by omega
        rw [e] at hgo
        unfold Sp.bar at hgo
        rw [hf] at hgo
        dsimp only at hgo
        have f0 : (rs.drop fd).getD 0 [] = rs.getD fd [] := drop_getD
        have f1 : (rs.drop fd).getD i [] = rs.getD (fd + i) [] := drop_getD
        rw [f0, f1] at hgo
        rw [next_drop (by omega)]
        exact hgo }
end Tx

/-! part R5 -/
/-! One turn of the law's own rank. -/
namespace Tx
open PySem PySem.Spec PyProof.Rows L2 Evl Jb
section
variable {K : PySem.W.Frag} {H : Hp} {σ : L2.St} {te ta tb : TE} {D : Ends} {tz : TS}
/-- xs[i] = a new list -/
theorem s_setNL {l : Addr} {xs ys : List V} {j : Nat} (hl : H l = some (.lst xs)) (h : EvL te σ H ys) (ho : Ev ta σ H (.ref l)) (hi : Ev tb σ H (.int (j : Int))) (hj : j < xs.length) (k : ∀ p H1, H p = none → Ex H H1 → H1 p = some (.lst ys) → D.nx σ (upd H1 l (.lst (xs.set j (.ref p))))) :
    tAsg te (gSub ta tb rSetL) D σ H := h H (Ex.refl H) _ fun p H1 hp e1 h1 => ho H1 e1 _ fun H2 e2 => hi H2 (e1.trans e2) _ fun H3 e3 =>
  ⟨l, xs, (j : Int), j, rfl, rfl, ((e1.trans e2).trans e3) l _ hl, ixN_nat hj, k p H3 hp ((e1.trans e2).trans e3) ((e2.trans e3) _ _ h1)⟩
def tInB (K : PySem.W.Frag) : TS := tSeq (tAsg (tOp (rIxL K) (tOp (rIxL K) (tVar 1) (tVar 6)) (tVar 5)) (gName 9)) (tSeq (tAsg (tLc (iE K true (tCons (tOp (rIxL K) (tVar 1) (tVar 6)) tNil)) (gTup K 2 (gCons (gName 12) (gCons (gName 13) gNil))) tYes (tA4 K) [12, 13]) (gName 10))
  (tAsg (tLc (iList K (tVar 10)) (gName 13) tYes tA5 [13]) (gSub (tVar 1) (tVar 6) rSetL)))
def tIn (K : PySem.W.Frag) : TS := tFor (iRng2 (tCons (tOp (rI0 fun i j => V.int (i + j)) (tVar 2) (tC (.int 1))) (tCons (tCB (rLenA K) (tCons (tVar 1) tNil)) tNil))) (gName 6) (tInB K)
theorem newRow_len {first row : List Int} {c : Nat} {b : Int} (h : row.length = first.length) : (Sp.newRow first c b row).length = first.length := by
  unfold Sp.newRow
  rw [List.length_zipWith, h, Nat.min_self]
theorem s_in {a L b1 : Addr} {fd c n : Nat} {bf : Int} {first : List Int} {Bs : List (List Int)} {u4 u6 u7 u9 u10 u11 u12 u13 : Option V} (hR : RowsL H L Bs) (hz : Bs.length ≤ 1000) (hfd : fd < Bs.length) (hn : ∀ r ∈ Bs, r.length = n) (hn7 : n ≤ 7) (hc : c < n)
    (hb1 : H b1 = some (.lst (iVs first))) (hb1L : b1 ≠ L) (hf : first.length = n) (bfst : ∀ j, (Sp.ent first j).natAbs < 2 ^ 1000) (brs : ∀ r ∈ Bs.drop (fd + 1), ∀ j, (Sp.ent r j).natAbs < 2 ^ 1000) (b0 : bf ≠ 0) (bb : bf.natAbs < 2 ^ 1000)
    (k : ∀ v6 v9 v10 v11 v12 v13 H', ExB L H H' → RowsL H' L (Bs.take (fd + 1) ++ (Bs.drop (fd + 1)).map (Sp.newRow first c bf)) → D.nx [some (.ref a), some (.ref L), some (.int (fd : Nat)), some (.int bf), u4, some (.int (c : Nat)), v6, u7, some (.ref b1), v9, v10, v11, v12, v13] H') :
    tIn K D [some (.ref a), some (.ref L), some (.int (fd : Nat)), some (.int bf), u4, some (.int (c : Nat)), u6, u7, some (.ref b1), u9, u10, u11, u12, u13] H := by
  obtain ⟨us, g1, g2, _⟩ := id hR
  refine s_forR2 (lo := (fd : Int) + 1) (n := (us.length : Nat)) (ea_cons (ev_op (ev_var rfl) ev_c rv_I0) (ea_cons (ev_lenB (K := K) (b := true) (ev_var rfl) (sq_of g1)) ea_nil)) (by omega)
    (fun i σ' H' => ∃ v6 v9 v10 v11 v12 v13 rs, σ' = [some (.ref a), some (.ref L), some (.int (fd : Nat)), some (.int bf), u4, some (.int (c : Nat)), v6, u7, some (.ref b1), v9, v10, v11, v12, v13] ∧ ExB L H H' ∧ RowsL H' L rs ∧ rs.length = Bs.length ∧ (∀ r ∈ rs, r.length = n) ∧ ∀ k, rs[k]? = if fd + 1 ≤ k ∧ k < fd + 1 + i then (Bs[k]?).map (Sp.newRow first c bf) else Bs[k]?)
    (fun H1 e => ⟨_, _, _, _, _, _, Bs, rfl, ExB.of e, hR.mono e, rfl, hn, fun k => by rw [if_neg (by omega)]⟩) ?_ ?_
  · rintro i σ' H' hi ⟨v6, v9, v10, v11, v12, v13, rs, rfl, e, hr, hl, hrn, hg⟩
    have ek : ((fd : Int) + 1 + (i : Int)) = ((fd + 1 + i : Nat) : Int) := by omega
    rw [ek]
    generalize hk : fd + 1 + i = k
    have hlt : k < rs.length := by omega
    have hB : rs[k] = Bs[k]'(by omega) := by
      have := hg k
      rw [if_neg (by omega), List.getElem?_eq_getElem hlt, List.getElem?_eq_getElem (by omega)] at this
      exact Option.some.inj this
    have hrl : rs[k].length = n := hrn _ (List.getElem_mem hlt)
    have hrb : ∀ j, (Sp.ent rs[k] j).natAbs < 2 ^ 1000 := by
      rw [hB]
      exact brs _ (List.mem_iff_getElem.mpr ⟨k - (fd + 1), by rw [List.length_drop]; omega, by rw [List.getElem_drop]; congr 1; omega⟩)
    show tInB K _ [some (.ref a), some (.ref L), some (.int (fd : Nat)), some (.int bf), u4, some (.int (c : Nat)), some (.int (k : Nat)), u7, some (.ref b1), v9, v10, v11, v12, v13] H'
    unfold tInB
    refine q_asg (v := .int (Sp.ent rs[k] c)) (ev_cell (K := K) (ev_var rfl) (ev_var rfl) (ev_var rfl) hr hlt hrn hc) fun H2 e2 => ?_
    have hr2 := hr.mono e2
    obtain ⟨us2, b2, a1, a2, a3, a4⟩ := hr2.at_ hlt
    have hb2 : H2 b1 = some (.lst (iVs first)) := e2 _ _ (e _ _ hb1 hb1L)
    refine q_asgL (el_cross (K := K) (b1 := b1) (b2 := b2) (first := first) (row := rs[k]) (c := c) (fac := Sp.ent rs[k] c) (ev_op (ev_var rfl) (ev_var rfl) (rv_ixL (sq_of a1) (atI_nat a2))) rfl rfl rfl rfl hb2 a4 (by omega) (by omega) (by omega) bfst hrb (hrb c)) fun p H3 hp e3 h3 => ?_
    have hus : us2.length = rs.length := by
      obtain ⟨us', z1, z2, _⟩ := hr2
      rw [a1] at z1
      rw [HO.lst.inj (Option.some.inj z1)]
      exact z2
    refine s_setNL (l := L) (xs := us2) (j := k) (e3 _ _ a1) (el_div (b := p) (cr := List.zipWith (fun e f => Sp.ent first c * e - Sp.ent rs[k] c * f) rs[k] first) (bef := bf) rfl rfl rfl h3 (by rw [List.length_zipWith]; omega) b0 (log_small (z := bf) (n := 1000) bb (by decide) (by decide))) (ev_var rfl) (ev_var rfl) (by omega) fun p2 H4 hp2 e4 h4 => ?_
    rw [newRow_eq (by omega)] at h4
    have hpL : p2 ≠ L := fun z => by
      rw [z, e3 _ _ a1] at hp2
      cases hp2
    refine ⟨_, _, _, _, _, _, rs.set k (Sp.newRow first c bf rs[k]), rfl, ExB.upd (e.trans (ExB.of ((e2.trans e3).trans e4))), (hr2.mono (e3.trans e4)).set (e4 _ _ (e3 _ _ a1)) hlt h4 hpL, by rw [List.length_set, hl], fun r hr' => ?_, fun m => ?_⟩
    · rcases List.mem_or_eq_of_mem_set hr' with y | y
      · exact hrn r y
      · rw [y, newRow_len (by omega)]; exact hf
    · by_cases y : k = m
      · subst y
        rw [List.getElem?_set_self hlt, if_pos (by omega), List.getElem?_eq_getElem (by omega), Option.map_some, hB]
      · rw [List.getElem?_set_ne y, hg m]
        by_cases w : fd + 1 ≤ m ∧ m < fd + 1 + i
        · rw [if_pos w, if_pos (by omega)]
        · rw [if_neg w, if_neg (by omega)]
  · rintro σ' H' ⟨v6, v9, v10, v11, v12, v13, rs, rfl, e, hr, hl, hrn, hg⟩
    have hm : ((us.length : Nat) : Int) - ((fd : Int) + 1) = ((Bs.length - (fd + 1) : Nat) : Int) := by omega
    have key : rs = Bs.take (fd + 1) ++ (Bs.drop (fd + 1)).map (Sp.newRow first c bf) := by
      refine List.ext_getElem? fun m => ?_
      rw [hg m, hm, Int.toNat_natCast]
      have hlt : (Bs.take (fd + 1)).length = fd + 1 := by rw [List.length_take]; omega
      by_cases y : m < fd + 1
      · rw [if_neg (by omega), List.getElem?_append_left (by omega), List.getElem?_take_of_lt y]
      · rw [List.getElem?_append_right (by omega), hlt, List.getElem?_map, List.getElem?_drop]
        have e' : fd + 1 + (m - (fd + 1)) = m := by omega
        rw [e']
        by_cases w : m < Bs.length
        · rw [if_pos (by omega)]
        · rw [if_neg (by omega), List.getElem?_eq_none (by omega)]
          rfl
    rw [key] at hr
    exact k _ _ _ _ _ _ H' e hr
end
end Tx

/-! part R6 -/
/-! A turn of the law's own rank: the places, the test, the swap. -/
namespace Tx
open PySem PySem.Spec PyProof.Rows L2 Evl Jb
theorem given_find0 {rs : List (List Int)} {fd c : Nat} {v : Nat → V} (h : (rs.drop fd).findIdx? (Sp.nz c) = none) : given (rs.length - fd) (fun i => Sp.nz c ((rs.drop fd).getD i [])) v = [] := by
  have hn := List.findIdx?_eq_none_iff.mp h
  unfold given
  rw [List.map_eq_nil_iff, List.filter_eq_nil_iff]
  intro i hi
  have hi := List.mem_range.mp hi
  rw [List.getD_eq_getElem?_getD, List.getElem?_eq_getElem (by rw [List.length_drop]; exact hi), Option.getD_some, hn _ (List.getElem_mem _)]
  exact nofun
theorem given_find1 {rs : List (List Int)} {fd c i : Nat} (h : (rs.drop fd).findIdx? (Sp.nz c) = some i) : ∃ t : List Int, given (rs.length - fd) (fun i => Sp.nz c ((rs.drop fd).getD i [])) (fun i => .int ((fd + i : Nat))) = iVs (((fd + i : Nat) : Int) :: t) := by
  obtain ⟨hi, hnz, hb⟩ := List.findIdx?_eq_some_iff_getElem.mp h
  have hl : rs.length - fd = i + ((rs.length - fd - i - 1) + 1) := by rw [List.length_drop] at hi; omega
  have hg : ∀ j (hj : j < (rs.drop fd).length), (rs.drop fd).getD j [] = (rs.drop fd)[j] := fun j hj => by
    rw [List.getD_eq_getElem?_getD, List.getElem?_eq_getElem hj, Option.getD_some]
  unfold given
  rw [hl, List.range_add, List.filter_append, List.range_succ_eq_map, List.map_cons, List.filter_cons, Nat.add_zero]
  have e0 : (List.range i).filter (fun i => Sp.nz c ((rs.drop fd).getD i [])) = [] := by
    rw [List.filter_eq_nil_iff]
    intro j hj
    have hj := List.mem_range.mp hj
    rw [hg j (by omega)]
    exact hb j hj
  rw [e0, List.nil_append, if_pos (by rw [hg i hi]; exact hnz), List.map_cons]
  refine ⟨(((List.map (fun x => i + x) (List.map Nat.succ (List.range (rs.length - fd - i - 1)))).filter fun i => Sp.nz c ((rs.drop fd).getD i [])).map fun i => ((fd + i : Nat) : Int)), ?_⟩
  unfold iVs
  rw [List.map_cons]
  refine congrArg (V.int ((fd + i : Nat) : Int) :: ·) ?_
  exact (List.map_map (f := fun i : Nat => ((fd + i : Nat) : Int)) (g := V.int)).symm
def swapped (rs : List (List Int)) (fd i : Nat) : List (List Int) := (rs.set fd (rs.getD (fd + i) [])).set (fd + i) (rs.getD fd [])
theorem getD_of {rs : List (List Int)} {k : Nat} (h : k < rs.length) : rs.getD k [] = rs[k] := by
  rw [List.getD_eq_getElem?_getD, List.getElem?_eq_getElem h, Option.getD_some]
theorem swap_rest {rs : List (List Int)} {fd i : Nat} (hi : fd + i < rs.length) : (swapped rs fd i).drop (fd + 1) = Sp.restOf (rs.drop fd) i (rs.getD fd []) := by
  unfold swapped Sp.restOf
  refine List.ext_getElem? fun m => ?_
  rw [List.getElem?_drop, List.getElem?_drop, List.getElem?_set, List.getElem?_set, List.getElem?_set, List.length_set, List.length_drop, List.getElem?_drop]
  have e : fd + (1 + m) = fd + 1 + m := by omega
  rw [e]
  by_cases y : i = 1 + m
  · rw [if_pos (by omega), if_pos (by omega), if_pos y, if_pos (by omega)]
  · rw [if_neg (by omega), if_neg (by omega), if_neg y]
theorem swap_take {rs : List (List Int)} {fd i : Nat} (hi : fd + i < rs.length) : (swapped rs fd i).take (fd + 1) = (rs.set fd (rs.getD (fd + i) [])).take (fd + 1) := by
  unfold swapped
  refine List.ext_getElem? fun m => ?_
  by_cases y : m < fd + 1
  · rw [List.getElem?_take_of_lt y, List.getElem?_take_of_lt y, List.getElem?_set, List.length_set]
    by_cases z : fd + i = m
    · rw [if_pos z, if_pos hi, List.getElem?_set]
      have hi0 : i = 0 := by omega
      subst hi0
      rw [if_pos (by omega), if_pos (by omega)]
      rfl
    · rw [if_neg z]
  · rw [List.getElem?_eq_none (by rw [List.length_take]; omega), List.getElem?_eq_none (by rw [List.length_take]; omega)]
theorem swap_next {rs : List (List Int)} {fd i c : Nat} {bf : Int} (hi : fd + i < rs.length) : (swapped rs fd i).take (fd + 1) ++ ((swapped rs fd i).drop (fd + 1)).map (Sp.newRow (rs.getD (fd + i) []) c bf) = nextRows rs fd i c bf := by
  unfold nextRows
  rw [swap_take hi, swap_rest hi]
theorem swap_len {rs : List (List Int)} {fd i : Nat} : (swapped rs fd i).length = rs.length := by
  unfold swapped
  rw [List.length_set, List.length_set]
theorem swap_at {rs : List (List Int)} {fd i : Nat} (hi : fd + i < rs.length) (h : fd < (swapped rs fd i).length) : (swapped rs fd i)[fd] = rs.getD (fd + i) [] := by
  have : (swapped rs fd i)[fd]? = some (rs.getD (fd + i) []) := by
    unfold swapped
    rw [List.getElem?_set, List.length_set, List.getElem?_set, if_pos rfl, if_pos (show fd < rs.length by omega)]
    by_cases z : fd + i = fd
    · rw [if_pos z, if_pos (by omega)]
      have hi0 : i = 0 := by omega
      subst hi0
      rfl
    · rw [if_neg z]
  rw [List.getElem?_eq_getElem h] at this
  exact Option.some.inj this
theorem swap_mem {rs : List (List Int)} {fd i : Nat} (hi : fd + i < rs.length) {r : List Int} (h : r ∈ swapped rs fd i) : r ∈ rs := by
  rcases List.mem_or_eq_of_mem_set h with z | z
  · rcases List.mem_or_eq_of_mem_set z with y | y
    · exact y
    · rw [y, getD_of hi]; exact List.getElem_mem _
  · rw [z, getD_of (by omega)]; exact List.getElem_mem _
theorem swap_low {rs : List (List Int)} {fd i : Nat} (hi : fd + i < rs.length) {r : List Int} (h : r ∈ (swapped rs fd i).drop (fd + 1)) : r ∈ rs.drop fd := by
  rw [swap_rest hi] at h
  have h := List.mem_of_mem_drop h
  rcases List.mem_or_eq_of_mem_set h with z | z
  · exact z
  · rw [z, getD_of (by omega)]
    exact List.mem_iff_getElem.mpr ⟨0, by rw [List.length_drop]; omega, by rw [List.getElem_drop]; rfl⟩
section
variable {K : PySem.W.Frag} {H : Hp} {σ : L2.St} {D : Ends} {tz : TS}
theorem eqv_nilI (r : List Int) : PyData.eqv (.list (r.map PyData.int)) (.list []) = decide (r = []) := by
  cases r with
  | nil => rfl
  | cons i r => rw [decide_eq_false (by simp)] <;> rfl
theorem shaped_ints (r : List Int) : SeqAt.shaped (.list (r.map PyData.int)) = true := by
  obtain ⟨h1, h2⟩ := lay_ints r
  unfold SeqAt.shaped
  rw [Bool.and_eq_true]
  refine ⟨by simp only [PyData.canLay0, h1], decide_eq_true ?_⟩
  simp only [PyData.depth]
  omega
/-- able != [] -/
theorem et_able {b : Addr} {ns : List Int} (h7 : σ[7]? = some (some (.ref b))) (hb : H b = some (.lst (iVs ns))) : EvT (tTest (tOp (rNeD K) (tVar 7) (tLst tNil))) σ H (!decide (ns = [])) := by
  refine et_test (ev_opL (xs := []) (ev_var h7) (el_lst ea_nil (by decide)) fun p H1 hp e H2 e2 Q q => ?_)
  refine ⟨_, _, .lst (sq_of ((e.trans e2) _ _ hb)) (dp_ints ns), .lst (sq_of (e2 _ _ hp)) .nil, shaped_ints ns, rfl, ?_⟩
  rw [eqv_nilI]
  exact q H2 (Ex.refl H2)
def tSwap (K : PySem.W.Frag) : TS := tAsg (tTup (tCons (tOp (rIxL K) (tVar 1) (tOp (rIxL K) (tVar 7) (tC (.int 0)))) (tCons (tOp (rIxL K) (tVar 1) (tVar 2)) tNil))) (gTup K 2 (gCons (gSub (tVar 1) (tVar 2) rSetL) (gCons (gSub (tVar 1) (tOp (rIxL K) (tVar 7) (tC (.int 0))) rSetL) gNil)))
theorem s_swap {L b : Addr} {rs : List (List Int)} {fd i : Nat} {t : List Int} (h1 : σ[1]? = some (some (.ref L))) (h2 : σ[2]? = some (some (.int (fd : Nat)))) (h7 : σ[7]? = some (some (.ref b))) (hb : H b = some (.lst (iVs (((fd + i : Nat) : Int) :: t)))) (hbL : b ≠ L) (hR : RowsL H L rs) (hi : fd + i < rs.length)
    (k : ∀ H', ExB L H H' → RowsL H' L (swapped rs fd i) → D.nx σ H') : tSwap K D σ H := by
  obtain ⟨us, b1, a1, a2, a3, a4⟩ := hR.at_ hi
  obtain ⟨us', b0, c1, c2, c3, c4⟩ := hR.at_ (show fd < rs.length by omega)
  rw [a1] at c1
  obtain rfl := HO.lst.inj (Option.some.inj c1)
  have hus : us.length = rs.length := by
    obtain ⟨us', z1, z2, _⟩ := hR
    rw [a1] at z1
    rw [HO.lst.inj (Option.some.inj z1)]
    exact z2
  have ix : ∀ H1, H1 b = some (.lst (iVs (((fd + i : Nat) : Int) :: t))) → Ev (tOp (rIxL K) (tVar 7) (tC (.int 0))) σ H1 (.int ((fd + i : Nat) : Int)) := fun H1 hh => ev_op (ev_var h7) ev_c (rv_ixL (sq_of hh) (atI_nat (j := 0) (List.getElem?_cons_zero (a := V.int ((fd + i : Nat) : Int)) (l := iVs t))))
  unfold tSwap tAsg
  refine eu_tup (ea_cons (ev_op (ev_var h1) (ix H hb) (rv_ixL (sq_of a1) (atI_nat a2))) (ea_cons (ev_op (ev_var h1) (ev_var h2) (rv_ixL (sq_of a1) (atI_nat c2))) ea_nil)) (by show 2 ≤ 100000; decide) H (Ex.refl H) _ fun p H1 hp e1 hp1 => ?_
  refine ⟨p, _, rfl, .inl (.inl hp1), rfl, _, _, rfl, ?_⟩
  have hL1 := e1 _ _ a1
  refine ev_var h1 H1 (Ex.refl H1) _ fun H2 e2 => ev_var h2 H2 (Ex.refl H2) _ fun H3 e3 => ?_
  have hL3 := e3 _ _ (e2 _ _ hL1)
  refine ⟨L, us, (fd : Nat), fd, rfl, rfl, hL3, ixN_nat (by omega), ?_⟩
  refine ⟨_, _, rfl, ?_⟩
  have hR3 : RowsL H3 L rs := hR.mono ((e1.trans e2).trans e3)
  have hR4 := hR3.set (r := rs[fd + i]) hL3 (show fd < rs.length by omega) (p := b1) (((e1.trans e2).trans e3) _ _ a4) a3
  have hb4 : (upd H3 L (.lst (us.set fd (.ref b1)))) b = some (.lst (iVs (((fd + i : Nat) : Int) :: t))) := by rw [upd_ne hbL]; exact ((e1.trans e2).trans e3) _ _ hb
  have hc4 : (upd H3 L (.lst (us.set fd (.ref b1)))) b0 = some (.lst (iVs rs[fd])) := by rw [upd_ne c3]; exact ((e1.trans e2).trans e3) _ _ c4
  have hx4 : ExB L H (upd H3 L (.lst (us.set fd (.ref b1)))) := ExB.upd (ExB.of ((e1.trans e2).trans e3))
  have hL4 : (upd H3 L (.lst (us.set fd (.ref b1)))) L = some (.lst (us.set fd (.ref b1))) := upd_same
  generalize upd H3 L (.lst (us.set fd (.ref b1))) = H4 at *
  refine ev_var h1 H4 (Ex.refl H4) _ fun H5 e5 => ix H5 (e5 _ _ hb4) H5 (Ex.refl H5) _ fun H6 e6 => ?_
  have e46 := e5.trans e6
  refine ⟨L, us.set fd (.ref b1), (fd + i : Nat), fd + i, rfl, rfl, e46 _ _ hL4, ixN_nat (by rw [List.length_set]; omega), rfl, ?_⟩
  have hR6 := (hR4.mono e46).set (r := rs[fd]) (e46 _ _ hL4) (show fd + i < _ by rw [List.length_set]; exact hi) (p := b0) (e46 _ _ hc4) c3
  refine k _ (ExB.upd (hx4.trans (ExB.of e46))) ?_
  unfold swapped
  rw [getD_of hi, getD_of (by omega)]
  exact hR6
end
end Tx

/-! part R7 -/
/-! A whole turn of the law's own rank, and the loop. -/
namespace Tx
open PySem PySem.Spec PyProof.Rows L2 Evl Jb
section
variable {K : PySem.W.Frag} {H : Hp} {σ : L2.St} {D : Ends} {tz : TS}
def tAble (K : PySem.W.Frag) : TE := tLc (iRng2 (tCons (tVar 2) (tCons (tCB (rLenA K) (tCons (tVar 1) tNil)) tNil))) (gName 6) (tA3 K) (tVar 6) [6]
def tLast (K : PySem.W.Frag) : TS := tAsg (tTup (tCons (tOp (rI0 fun i j => V.int (i + j)) (tVar 2) (tC (.int 1))) (tCons (tOp (rIxL K) (tVar 8) (tVar 5)) tNil))) (gTup K 2 (gCons (gName 2) (gCons (gName 3) gNil)))
def tTurn (K : PySem.W.Frag) : TS := tSeq (tAsg (tAble K) (gName 7)) (tIfS (tTest (tOp (rNeD K) (tVar 7) (tLst tNil))) (tSeq (tSwap K) (tSeq (tAsg (tOp (rIxL K) (tVar 1) (tVar 2)) (gName 8)) (tSeq (tIn K) (tLast K)))) tNext)
theorem s_last {b : Addr} {first : List Int} {fd c : Nat} (h2 : σ[2]? = some (some (.int (fd : Nat)))) (h8 : σ[8]? = some (some (.ref b))) (h5 : σ[5]? = some (some (.int (c : Nat)))) (hb : H b = some (.lst (iVs first))) (hc : c < first.length)
    (k : ∀ H', Ex H H' → D.nx ((σ.set 2 (some (.int ((fd + 1 : Nat))))).set 3 (some (.int (Sp.ent first c)))) H') : tLast K D σ H := by
  unfold tLast tAsg
  refine eu_tup (ea_cons (ev_op (ev_var h2) ev_c rv_I0) (ea_cons (ev_op (ev_var h8) (ev_var h5) (rv_ixL (sq_of hb) (atI_nat (iVs_ent hc)))) ea_nil)) (by show 2 ≤ 100000; decide) H (Ex.refl H) _ fun p H1 hp e1 hp1 => ?_
  refine ⟨p, _, rfl, .inl (.inl hp1), rfl, _, _, rfl, _, _, rfl, rfl, ?_⟩
  have e : ((fd : Int) + 1) = ((fd + 1 : Nat) : Int) := by omega
  rw [← e] at k
  exact k H1 e1
theorem s_turn {a L : Addr} {fd c n B : Nat} {bf : Int} {rows rs : List (List Int)} {u4 u6 u7 u8 u9 u10 u11 u12 u13 : Option V} (A : RankAt n rows c fd bf rs) (hn7 : n ≤ 7) (hc : c < n) (hz : rows.length ≤ 30) (hB : ∀ r ∈ rows, ∀ z ∈ r, z.natAbs ≤ B) (hB2 : B < 2 ^ 100) (hR : RowsL H L rs)
    (k : ∀ fd' bf' rs' v6 v7 v8 v9 v10 v11 v12 v13 H', RankAt n rows (c + 1) fd' bf' rs' → ExB L H H' → RowsL H' L rs' → D.nx [some (.ref a), some (.ref L), some (.int (fd' : Nat)), some (.int bf'), u4, some (.int (c : Nat)), v6, v7, v8, v9, v10, v11, v12, v13] H') :
    tTurn K D [some (.ref a), some (.ref L), some (.int (fd : Nat)), some (.int bf), u4, some (.int (c : Nat)), u6, u7, u8, u9, u10, u11, u12, u13] H := by
  have hl := A.rl
  obtain ⟨hb1, hb2, hb3⟩ := A.bd hn7 hc hB hB2
  unfold tTurn tAble
  refine q_asgL (el_able (K := K) (rs := rs) (fd := fd) (c := c) (n := n) rfl rfl rfl rfl hR (by omega) A.fl A.rn hc) fun p H1 hp e1 h1 => ?_
  have hR1 := hR.mono e1
  have hpL : p ≠ L := fun z => by
    obtain ⟨us, g, _⟩ := hR
    rw [z, g] at hp
    cases hp
  cases hf : (rs.drop fd).findIdx? (Sp.nz c) with
  | none =>
    rw [given_find0 hf] at h1
    exact s_when (b := false) (et_able (K := K) (b := p) (ns := []) rfl h1) (fun z => by cases z) fun _ H2 e2 => k fd bf rs _ _ _ _ _ _ _ _ H2 (A.skip hc hf) (ExB.of (e1.trans e2)) (hR1.mono e2)
  | some i =>
    obtain ⟨t, ht⟩ := given_find1 (rs := rs) hf
    rw [ht] at h1
    obtain ⟨hi, hnz, A2⟩ := A.pick hc hf
    refine s_when (b := true) (et_is (et_able (K := K) (b := p) (ns := _) rfl h1) rfl) (fun _ H2 e2 => ?_) (fun z => by cases z)
    refine s_swap (D := { D with nx := _ }) (K := K) (L := L) (b := p) (rs := rs) (fd := fd) (i := i) (t := t) rfl rfl rfl (e2 _ _ h1) hpL (hR1.mono e2) hi fun H3 x3 hR3 => ?_
    have hfd : fd < (swapped rs fd i).length := by rw [swap_len]; omega
    obtain ⟨us, b1, a1, a2, a3, a4⟩ := hR3.at_ hfd
    rw [swap_at hi hfd] at a4
    have fl : (rs.getD (fd + i) []).length = n := by rw [getD_of hi]; exact A.rn _ (List.getElem_mem _)
    have fb : ∀ j, (Sp.ent (rs.getD (fd + i) []) j).natAbs < 2 ^ 1000 := hb1 _ (by
      rw [getD_of hi]
      exact List.mem_iff_getElem.mpr ⟨i, by rw [List.length_drop]; omega, by rw [List.getElem_drop]⟩)
    refine q_asg (v := .ref b1) (ev_op (ev_var rfl) (ev_var rfl) (rv_ixL (sq_of a1) (atI_nat a2))) fun H4 e4 => ?_
    refine s_in (D := { D with nx := _ }) (K := K) (a := a) (L := L) (b1 := b1) (fd := fd) (c := c) (n := n) (bf := bf) (first := rs.getD (fd + i) []) (Bs := swapped rs fd i) (hR3.mono e4) (by rw [swap_len]; omega) hfd (fun r hr => A.rn r (swap_mem hi hr)) hn7 hc (e4 _ _ a4) a3 fl fb (fun r hr => hb1 r (swap_low hi hr)) hb3 hb2
      fun v6 v9 v10 v11 v12 v13 H5 x5 hR5 => ?_
    rw [swap_next hi] at hR5
    refine s_last (K := K) (b := b1) (first := rs.getD (fd + i) []) (fd := fd) (c := c) rfl rfl rfl (x5 _ _ (e4 _ _ a4) a3) (by omega) fun H6 e6 => ?_
    exact k (fd + 1) _ _ _ _ _ _ _ _ _ _ H6 A2 (((ExB.of (e1.trans e2)).trans x3).trans (((ExB.of e4).trans x5).trans (ExB.of e6))) (hR5.mono e6)
end
end Tx

/-! part R8 -/
/-! The law's own rank. -/
namespace Tx
open PySem PySem.Spec PyProof.Rows L2 Evl Jb
abbrev s_rank : Stmt := top 30
theorem boot_max : bootBuiltins "max" = some (.builtin "max") := by decide +kernel
abbrev nRank : List Str := ["_law_vectors_here", "_law_rows", "_law_found", "_law_before", "_law_width", "_law_column", "_law_at", "_law_able", "_law_first", "_law_factor", "_law_crossed", "_law_vector_here", "_law_k", "_law_entry"]
theorem sc_rank : FnScope nRank ["_law_vectors_here"] (defScope s_rank) := ⟨rfl, rfl, rfl, by decide +kernel, rfl, by decide +kernel, by decide +kernel⟩
theorem op_fdivZ {X : Cx} : OpR X (binaryOp .FloorDiv) (rI (fun _ j => j ≠ 0 ∧ j.natAbs.log2 < 9000) fun i j => .int (i.fdiv j)) := opI fun i j _ _ _ _ _ hc q => floordiv_int hc.1 q (.inl (PyProof.noPylong_of_log2 hc.2))
theorem q_two {K : PySem.W.Frag} {H : Hp} {σ : L2.St} {D : Ends} {tz : TS} {ta tb : TE} {i j n : Nat} {x y : V} (hn : n = 2) (h : EvA (tCons ta (tCons tb tNil)) σ H [x, y]) (k : ∀ H', Ex H H' → tz D ((σ.set i (some x)).set j (some y)) H') :
    tSeq (tAsg (tTup (tCons ta (tCons tb tNil))) (gTup K n (gCons (gName i) (gCons (gName j) gNil)))) tz D σ H := by
  subst hn
  unfold tSeq tAsg
  refine eu_tup h (by show 2 ≤ 100000; decide) H (Ex.refl H) _ fun p H1 hp e1 hp1 => ?_
  exact ⟨p, _, rfl, .inl (.inl hp1), rfl, _, _, rfl, _, _, rfl, rfl, k H1 e1⟩
theorem bar_nil : ∀ (k c f : Nat) (b : Int), Sp.bar k c [] f b = f
  | 0, _, _, _ => rfl
  | k + 1, c, f, b => bar_nil k (c + 1) f b
theorem exb_back {L : Addr} {H H1 H2 : Hp} (h : H L = none) (e : Ex H H1) (x : ExB L H1 H2) : Ex H H2 := fun b o hb => x b o (e b o hb) fun z => by rw [z, h] at hb; cases hb
section
variable {P : Program} {w : World} {K : PySem.W.Frag} {mg : Str → Option Value} {base : Heap}
/-- _law_rank(vectors) -/
def spRank (K : PySem.W.Frag) : Sp := fun vs H Q _ => ∃ a us rows n B, vs = [.ref a] ∧ SqL K H a us ∧ Refs K H rows us ∧ rows.length ≤ 30 ∧ n ≤ 7 ∧ (∀ r ∈ rows, r.length = n ∧ ∀ z ∈ r, z.natAbs ≤ B) ∧ B < 2 ^ 100 ∧ ∀ H', Ex H H' → Q (.int (Sp.rank n rows : Nat)) H'
theorem ok_rank (B : Bt mg) (F : Fd K mg "_law_rank" s_rank ["_law_vectors_here"]) : Cl P w K mg base 1 "_law_rank" ["_law_vectors_here"] (spRank K) := by
  refine cl_mk F sc_rank (fun vs H Q E ⟨a, us, rows, n, Bd, e, _⟩ => by rw [e] <;> rfl) fun f cdv A outer s H vs Q E hr ⟨a, us, rows, n, Bd, ev, hS, hR, hl, hn, hv, hB, q⟩ => ?_
  subst ev
  have hu := hr.units
  refine ⟨_, (pss_cons (ps_set (i := 1) sc_rank.nd rfl (Or.inr rfl) (pe_lc (own := [("_law_vector_here", 11)]) (g := gName 11) (tt := tYes) (te := tA1 K) rfl sc_rank.nd (pi_list (pv 0)) (blkOk_by (N := nRank) (sc := defScope s_rank) (by decide +kernel)) (fun _ _ _ _ _ => (pg_name (i := 11) sc_rank.nd rfl (Or.inl rfl))) (fun _ _ _ _ _ => pts_nil) (fun _ _ _ _ _ => (pe_callTy call_list_of (by rfl) B.list boot_tl (pa_cons (pv 11) pa_nil)))))
    (pss_cons (ps_asg (pe_tup (pa_cons pe_int (pa_cons pe_int pa_nil))) (pg_tup rfl (pgs_cons (pg_name (i := 2) sc_rank.nd rfl (Or.inl rfl)) (pgs_cons (pg_name (i := 3) sc_rank.nd rfl (Or.inr rfl)) pgs_nil))))
    (pss_cons (ps_set (i := 4) sc_rank.nd rfl (Or.inl rfl) (pe_callB (cr_max rfl) (by rfl) B.max boot_max (pa_cons (pe_op op_cat (pe_lst (pa_cons pe_int pa_nil)) (pe_lc (own := [("_law_vector_here", 11)]) (g := gName 11) (tt := tYes) (te := tA2 K) rfl sc_rank.nd (pi_list (pv 0)) (blkOk_by (N := nRank) (sc := defScope s_rank) (by decide +kernel)) (fun _ _ _ _ _ => (pg_name (i := 11) sc_rank.nd rfl (Or.inl rfl))) (fun _ _ _ _ _ => pts_nil) (fun _ _ _ _ _ => (pe_callB call_len (by rfl) B.len boot_le (pa_cons (pv 11) pa_nil))))) pa_nil)))
    (pss_cons (ps_for PassesOwn.never rfl (pi_range1 (by rfl) B.range (pa_cons (pv 4) pa_nil)) (pg_name (i := 5) sc_rank.nd rfl (Or.inr rfl)) (pss_cons (ps_setLc (i := 7) (own := [("_law_at", 6)]) (g := gName 6) (tt := tA3 K) (te := tVar 6) rfl sc_rank.nd rfl rfl (sw_true rfl rfl rfl (by decide +kernel)) (pi_range2 (by rfl) B.range (pa_cons (pv 2) (pa_cons (pe_callB call_len (by rfl) B.len boot_le (pa_cons (pv 1) pa_nil)) pa_nil))) (blkOk_by (N := nRank) (sc := defScope s_rank) (by decide +kernel)) (fun _ _ _ _ _ => (pg_name (i := 6) sc_rank.nd rfl (Or.inl rfl))) (fun _ _ _ _ _ => (pts_one (pt_cmpR op_ne (pe_ix ix_list (pe_ix ix_list (pv 1) (pv 6) (fun _ _ => rfl)) (pv 5) (fun _ _ => rfl)) pe_int (nomark _)))) (fun _ _ _ _ _ => (pv 6))) (pss_one (ps_if (pt_cmpR (op_neD hu) (pv 7) (pe_lst pa_nil) (nomark _)) (pss_cons (ps_asg (pe_tup (pa_cons (pe_ix ix_list (pv 1) (pe_ix ix_list (pv 7) pe_int (fun _ _ => rfl)) (fun _ _ => rfl)) (pa_cons (pe_ix ix_list (pv 1) (pv 2) (fun _ _ => rfl)) pa_nil))) (pg_tup rfl (pgs_cons (pg_sub (pv 1) (pv 2) set_list) (pgs_cons (pg_sub (pv 1) (pe_ix ix_list (pv 7) pe_int (fun _ _ => rfl)) set_list) pgs_nil))))
    (pss_cons (ps_set (i := 8) sc_rank.nd rfl (Or.inr rfl) (pe_ix ix_list (pv 1) (pv 2) (fun _ _ => rfl)))
    (pss_cons (ps_for PassesOwn.never rfl (pi_range2 (by rfl) B.range (pa_cons (pe_op op_add (pv 2) pe_int) (pa_cons (pe_callB call_len (by rfl) B.len boot_le (pa_cons (pv 1) pa_nil)) pa_nil))) (pg_name (i := 6) sc_rank.nd rfl (Or.inl rfl)) (pss_cons (ps_set (i := 9) sc_rank.nd rfl (Or.inr rfl) (pe_ix ix_list (pe_ix ix_list (pv 1) (pv 6) (fun _ _ => rfl)) (pv 5) (fun _ _ => rfl)))
    (pss_cons (ps_setLc (i := 10) (own := [("_law_k", 12), ("_law_entry", 13)]) (g := gTup K 2 (gCons (gName 12) (gCons (gName 13) gNil))) (tt := tYes) (te := tA4 K) rfl sc_rank.nd rfl rfl (sw_true rfl rfl rfl (by decide +kernel)) (piE true (by rfl) B.enumerate (pa_cons (pe_ix ix_list (pv 1) (pv 6) (fun _ _ => rfl)) pa_nil)) (blkOk_by (N := nRank) (sc := defScope s_rank) (by decide +kernel)) (fun _ _ _ _ _ => (pg_tup rfl (pgs_cons (pg_name (i := 12) sc_rank.nd rfl (Or.inl rfl)) (pgs_cons (pg_name (i := 13) sc_rank.nd rfl (Or.inl rfl)) pgs_nil)))) (fun _ _ _ _ _ => pts_nil) (fun _ _ _ _ _ => (pe_op op_sub (pe_op op_mulX (pe_ix ix_list (pv 8) (pv 5) (fun _ _ => rfl)) (pv 13)) (pe_op op_mulX (pv 9) (pe_ix ix_list (pv 8) (pv 12) (fun _ _ => rfl))))))
    (pss_one (ps_asg (pe_lc (own := [("_law_entry", 13)]) (g := gName 13) (tt := tYes) (te := tA5) rfl sc_rank.nd (pi_list (pv 10)) (blkOk_by (N := nRank) (sc := defScope s_rank) (by decide +kernel)) (fun _ _ _ _ _ => (pg_name (i := 13) sc_rank.nd rfl (Or.inl rfl))) (fun _ _ _ _ _ => pts_nil) (fun _ _ _ _ _ => (pe_op op_fdivZ (pv 13) (pv 3)))) (pg_sub (pv 1) (pv 6) set_list))))))
    (pss_one (ps_asg (pe_tup (pa_cons (pe_op op_add (pv 2) pe_int) (pa_cons (pe_ix ix_list (pv 8) (pv 5) (fun _ _ => rfl)) pa_nil))) (pg_tup rfl (pgs_cons (pg_name (i := 2) sc_rank.nd rfl (Or.inl rfl)) (pgs_cons (pg_name (i := 3) sc_rank.nd rfl (Or.inr rfl)) pgs_nil)))))))) pss_nil))))
    (pss_one (ps_ret (pv 2))))))), ?_⟩
  refine q_asgE (el_copy (K := K) (rows := rows) rfl rfl hS hR (by omega) _ fun L H1 e1 hL hRL => ?_)
  refine q_two (x := .int 0) (y := .int 1) rfl (ea_cons ev_c (ea_cons ev_c ea_nil)) fun H2 e2 => ?_
  refine q_asg (v := .int ((if rows = [] then 0 else n : Nat))) (ev_width (K := K) (rows := rows) (n := n) rfl rfl (ex_l (e1.trans e2) hS) (hR.mono (e1.trans e2)) (by omega) fun r hr => (hv r hr).1) fun H3 e3 => ?_
  have hm7 : (if rows = [] then 0 else n) ≤ 7 := by split <;> omega
  have hmr : ∀ r ∈ rows, r.length = if rows = [] then 0 else n := fun r hr => by
    rw [if_neg fun z => by rw [z] at hr; cases hr]
    exact (hv r hr).1
  have hme : Sp.rank (if rows = [] then 0 else n) rows = Sp.rank n rows := by
    by_cases z : rows = []
    · rw [z]
      exact (bar_nil _ _ _ _).trans (bar_nil _ _ _ _).symm
    · rw [if_neg z]
  rw [← hme] at q
  generalize (if rows = [] then 0 else n) = m at hm7 hmr q ⊢
  refine q_forR1 (n := ((m : Nat) : Int)) (ea_cons (ev_var rfl) ea_nil) ⟨by omega, by omega⟩ (fun i σ' H' => ∃ fd bf rs u4 v5 v6 v7 v8 v9 v10 v11 v12 v13, σ' = [some (.ref a), some (.ref L), some (.int (fd : Nat)), some (.int bf), u4, v5, v6, v7, v8, v9, v10, v11, v12, v13] ∧ RankAt m rows i fd bf rs ∧ Ex H H' ∧ RowsL H' L rs)
    (fun H4 e4 => ⟨0, 1, rows, _, _, _, _, _, _, _, _, _, _, rfl, rankAt_start hmr, ((e1.trans e2).trans e3).trans e4, hRL.mono ((e2.trans e3).trans e4)⟩) ?_ ?_
  · rintro i σ' H' hi ⟨fd, bf, rs, u4, v5, v6, v7, v8, v9, v10, v11, v12, v13, rfl, hA, eH, hRL'⟩
    exact s_turn (K := K) (D := { nx := _, ct := _, bk := _, rt := _ }) (a := a) (L := L) (B := Bd) hA hm7 (by omega) hl (fun r hr z hz => (hv r hr).2 z hz) hB hRL' fun fd' bf' rs' v6 v7 v8 v9 v10 v11 v12 v13 H5 hA' x5 hR5 =>
      ⟨fd', bf', rs', _, _, _, _, _, _, _, _, _, _, rfl, hA', exb_back hL eH x5, hR5⟩
  · rintro σ' H' ⟨fd, bf, rs, u4, v5, v6, v7, v8, v9, v10, v11, v12, v13, rfl, hA, eH, hRL'⟩
    have hg := hA.go (Nat.le_refl _)
    rw [Int.toNat_natCast, Nat.sub_self] at hg
    have hg : fd = Sp.rank m rows := hg
    rw [← hg] at q
    exact s_ret (ev_var rfl) fun H5 e5 => q H5 (eH.trans e5)
end
end Tx

/-! part R9 -/
/-! The law's own membership. -/
namespace Tx
open PySem PySem.Spec PyProof.Rows L2 Evl Jb
section
variable {P : Program} {w : World} {K : PySem.W.Frag} {mg : Str → Option Value} {base : Heap}
section
variable {H : Hp} {σ : L2.St} {te ta tb : TE}
theorem el_catV {l : Addr} {us ys : List V} (ha : Ev ta σ H (.ref l)) (hl : H l = some (.lst us)) (hB : ∀ H1, Ex H H1 → EvL tb σ H1 ys) (hz : us.length + ys.length ≤ 1000) : EvL (tOp rCat ta tb) σ H (us ++ ys) := fun H1 e Q q =>
  ha H1 e _ fun H2 e2 => hB H2 (e.trans e2) H2 (Ex.refl H2) _ fun p1 H3 hp1 e3 hd1 => ⟨l, p1, us, ys, rfl, rfl, ((e.trans e2).trans e3) _ _ hl, hd1, Nat.le_of_lt (small1000 hz), fun p hp => q p _ (fresh_back (e2.trans e3) hp) ((e2.trans e3).trans (Ex.new hp)) upd_same⟩
theorem ev_rankL {us : List V} {rows : List (List Int)} {n B : Nat} {E : XK} (h : EvL te σ H us) (hR : Refs K H rows us) (hl : rows.length ≤ 30) (hn : n ≤ 7) (hv : ∀ r ∈ rows, r.length = n ∧ ∀ z ∈ r, z.natAbs ≤ B) (hB : B < 2 ^ 100) :
    Ev (tCall (spRank K) [] E (tCons te tNil)) σ H (.int (Sp.rank n rows : Nat)) := fun H1 e Q q =>
  h H1 e _ fun p H2 hp e2 hd => ⟨p, us, rows, n, B, rfl, sq_of hd, hR.mono (e.trans e2), hl, hn, hv, hB, fun H3 e3 => q H3 (e2.trans e3)⟩
theorem ev_rankV {l : Addr} {us : List V} {rows : List (List Int)} {n B : Nat} {E : XK} (h : Ev te σ H (.ref l)) (hs : SqL K H l us) (hR : Refs K H rows us) (hl : rows.length ≤ 30) (hn : n ≤ 7) (hv : ∀ r ∈ rows, r.length = n ∧ ∀ z ∈ r, z.natAbs ≤ B) (hB : B < 2 ^ 100) :
    Ev (tCall (spRank K) [] E (tCons te tNil)) σ H (.int (Sp.rank n rows : Nat)) := fun H1 e Q q =>
  h H1 e _ fun H2 e2 => ⟨l, us, rows, n, B, rfl, ex_l (e.trans e2) hs, hR.mono (e.trans e2), hl, hn, hv, hB, fun H3 e3 => q H3 (e2.trans e3)⟩
end
theorem refs_snoc {H : Hp} {rows : List (List Int)} {us : List V} {r : List Int} {x : V} (h : Refs K H rows us) (hx : ∃ a, x = .ref a ∧ SqT K H a (iVs r)) : Refs K H (rows ++ [r]) (us ++ [x]) := by
  induction h with
  | nil => exact .cons hx .nil
  | cons h1 h2 ih => exact .cons h1 ih
end
end Tx

/-! part RA -/
/-! «in» on an own class. -/
namespace Tx
open PySem PySem.Spec PySem.Calls PySem.W PyProof.Rows
section
variable {prog : Program} {w : World} {A : Around} {E : Value → Shared → Prop} {s : Shared} {K : PySem.W.Frag} {x C f : Addr} {ox : Obj} {od : Option Obj}
theorem contains_own {y : Value} {Q : Bool → Shared → Prop} (X : K.In s.heap) (I : InstAt s.heap x ox C od) (hs : findIn K (.ref C) "__contains__" = some (some (.ref f))) (hf : typeIn K (.ref f) = some (.type "function"))
    (h : wpAny (model prog w) A (call (.ref f) [.ref x, y]) (fun v s => ∃ b, v = .bool b ∧ Q b s) E s) : wpAny (model prog w) A (contains (.ref x) y) Q E s := by
  unfold contains
  refine wpAny_holding ?_
  show wpAny _ _ (specialOf (.ref x) "__contains__" >>= fun r => _) _ _ s
  refine wpAny_bind (wpAny_bind (I.type.here ((looks_findIn X hs).here ?_)))
  have e : (some (Value.ref f) == some Value.none) = false := rfl
  simp only [e, Bool.false_eq_true, if_false]
  refine wpAny_bind (wpAny_bind (wpAny_bind (I.type.here ((looks_findIn X hs).here (wpAny_holding (wpAny_bind ((bind_fn X _ hf).here ?_)))))))
  have e2 : (Value.ref f == Value.none) = false := rfl
  simp only [e2, Bool.false_eq_true, if_false]
  refine wpAny_bind (wpAny_mono h (fun v s1 ⟨b, e, q⟩ => ?_) fun _ _ z => z)
  subst e
  exact wpAny_pure (wpAny_pure q)
end
end Tx

/-! part RB -/
/-! «in», «not in» on an own class, as readings. -/
namespace Tx
open PySem PySem.Spec PyProof.Rows L2 Evl Jb
def rInO (C : Addr) (sp : Sp) (neg : Bool) : R2 := fun x y H Q => ∃ a dx fs, y = .ref a ∧ H a = some (.ins C dx fs) ∧ sp [y, x] H (fun v H3 => ∃ b, v = .bl b ∧ Q (.bl (if neg then !b else b)) H3) E0
section
variable {X : Cx} {k : Nat} {f C : Addr} {fd : FuncData} {ps : List Str} {sp : Sp}
theorem op_inO (hs : PySem.W.findIn X.K (.ref C) "__contains__" = some (some (.ref f))) (hf : PySem.W.isFn X.K (.ref f) = true) (F : FnOk X.prog X.w X.K X.mg X.base CX0 k f fd ps sp) (hr : Room k X.A) (hb : Binds X.K fd ps []) : OpR X (compareOp .In) (rInO C sp false) := by
  rintro pins s σ H x y v u Q I rx ry ⟨a, dx, fs, ey, ea, q⟩
  subst ey
  obtain rfl : u = Value.ref a := ry
  obtain ⟨mA, Oi, _⟩ := ins_get I.hok ea
  obtain ⟨od, J, _⟩ := Oi.look
  show wpAny _ _ (contains (.ref a) v >>= fun b => pure (Value.bool b)) _ _ s
  refine wpAny_bind (contains_own I.kIn J hs (beq_iff_eq.mp hf) ?_)
  refine wpAny_mono (run_fn (us := [.ref a, v]) (vs := [.ref a, x]) (dvs := []) (ds := []) F hr hb .nil pass0 I (.cons rfl (.cons rx .nil)) q) (fun v s1 ⟨z, H3, I3, rz, b, e, q3⟩ => ?_) fun _ _ e => e
  subst e
  cases rz
  exact ⟨b, rfl, wpAny_pure ⟨.bl b, H3, I3, rfl, q3⟩⟩
theorem op_ninO (hs : PySem.W.findIn X.K (.ref C) "__contains__" = some (some (.ref f))) (hf : PySem.W.isFn X.K (.ref f) = true) (F : FnOk X.prog X.w X.K X.mg X.base CX0 k f fd ps sp) (hr : Room k X.A) (hb : Binds X.K fd ps []) : OpR X (compareOp .NotIn) (rInO C sp true) := by
  rintro pins s σ H x y v u Q I rx ry ⟨a, dx, fs, ey, ea, q⟩
  subst ey
  obtain rfl : u = Value.ref a := ry
  obtain ⟨mA, Oi, _⟩ := ins_get I.hok ea
  obtain ⟨od, J, _⟩ := Oi.look
  show wpAny _ _ (contains (.ref a) v >>= fun b => pure (Value.bool (!b))) _ _ s
  refine wpAny_bind (contains_own I.kIn J hs (beq_iff_eq.mp hf) ?_)
  refine wpAny_mono (run_fn (us := [.ref a, v]) (vs := [.ref a, x]) (dvs := []) (ds := []) F hr hb .nil pass0 I (.cons rfl (.cons rx .nil)) q) (fun v s1 ⟨z, H3, I3, rz, b, e, q3⟩ => ?_) fun _ _ e => e
  subst e
  cases rz
  exact ⟨b, rfl, wpAny_pure ⟨.bl (!b), H3, I3, rfl, q3⟩⟩
end
end Tx

/-! part RC -/
/-! Space.__contains__. -/
namespace Tx
open PySem PySem.Spec PyProof.Rows L2 Evl Jb
abbrev s_has : Stmt := inClass (top 24) 4
abbrev nHas : List Str := ["self", "vector"]
theorem sc_has : FnScope nHas nHas (defScope s_has) := ⟨rfl, rfl, rfl, by decide +kernel, rfl, by decide +kernel, by decide +kernel⟩
section
variable {P : Program} {w : World} {K : PySem.W.Frag} {mg : Str → Option Value} {base : Heap}
def hasD (wd : Int) (R : Sp.Rows) (d : Dt) : Bool := isVecD wd d && (Sp.piv (Sp.rem (rowD d) R)).isNone
def spHas (K : PySem.W.Frag) (CS : Addr) : Sp := fun vs H Q _ => ∃ p dx wd b r kvs R v d, vs = [.ref p, v] ∧ H p = some (.ins CS dx (spF wd b r)) ∧ Rep K H d v ∧ SmallT d ∧ H r = some (.dK kvs) ∧ KvR K H R kvs ∧ (isVecD wd d = true → FitR (rowD d) R) ∧ ∀ H', Ex H H' → Q (.bl (hasD wd R d)) H'
theorem ev_fldI {σ : L2.St} {H : Hp} {te : TE} {CS a dx : Addr} {fs : List (Str × V)} {f : Str} {v : V} (c : Cls K CS) (n : NoAttr K CS f) (h : Ev te σ H (.ref a)) (ha : H a = some (.ins CS dx fs)) (hl : fs.lookup f = some v) : Ev (tFld K te f) σ H v := fun H1 e Q q =>
  h H1 e _ fun H2 e2 => ⟨a, CS, dx, fs, v, rfl, e2 _ _ (e _ _ ha), c, n, hl, q H2 e2⟩
theorem ok_has {CS f : Addr} {fd : FuncData} (S : SpT K mg CS) (Ff : L2.Fun K "__contains__" "Space.__contains__" s_has f fd) (C2 : Cl P w K mg base 2 "is_vector" ["value", "width"] (spIsV K)) (C1 : Cl P w K mg base 1 "pivot" ["vector"] (spPivot K)) (Cr : Cl P w K mg base 1 "remainder" ["vector", "rows"] (spRem K)) :
    FnOk P w K mg base CX0 3 f fd nHas (spHas K CS) := by
  refine Ff.ok sc_has (fun vs H Q E ⟨p, dx, wd, b, r, kvs, R, v, d, e, _⟩ => by rw [e] <;> rfl) (fun cdv A outer s H vs Q E hr ⟨p, dx, wd, b, r, kvs, R, v, d, ev, hp, hd, hs, hk, hK, hf, q⟩ => ?_)
  subst ev
  have h1 : Room 1 _ := hr.mono (by decide)
  refine ⟨_, pss_one (ps_ret (pe_and (pe_cl C2 hr (by rfl) (pa_cons (pv 1) (pa_cons (pe_fld (pv 0) rfl) pa_nil)))
    (pe_one (pe_cmpR op_isN (pe_cl C1 h1 (by rfl) (pa_cons (pe_cl Cr h1 (by rfl) (pa_cons (pv 1) (pa_cons (pe_fld (pv 0) rfl) pa_nil))) pa_nil)) pe_non (nomark _))))), ?_⟩
  have fw : (spF wd b r).lookup ("_width" : Str) = some (.int wd) := rfl
  have fr : (spF wd b r).lookup ("_rows" : Str) = some (.ref r) := rfl
  refine s_ret (v := .bl (hasD wd R d)) (ev_andV (a := isVecD wd d) (b := (Sp.piv (Sp.rem (rowD d) R)).isNone) (ev_isv (K := K) (evd_var rfl hd) (fun H1 e1 => ev_fldI S.cl S.nw (ev_var rfl) (e1 _ _ hp) fw) hs) fun ht => ?_) fun H1 e => q H1 e
  have hfit := hf ht
  obtain ⟨a, rfl, hS⟩ : ∃ a, v = .ref a ∧ SqT K H a (iVs (rowD d)) := by
    cases hd with
    | tup h rs =>
      have h2 := (Bool.and_eq_true _ _).mp ht
      rw [reps_ints rs h2.2] at h
      exact ⟨_, rfl, h⟩
    | _ => cases ht
  intro H1 e1 Q' q'
  have hargs : EvA (tCons (tVar 1) (tCons (tFld K (tVar 0) "_rows") tNil)) [some (.ref p), some (.ref a)] H [.ref a, .ref r] := ea_cons (ev_var rfl) (ea_cons (ev_fldI S.cl S.nr (ev_var rfl) hp fr) ea_nil)
  have hrem : ∀ Q2 : VK, (∀ H' p, Ex H1 H' → SqT K H' p (iVs (Sp.rem (rowD d) R)) → Q2 (.ref p) H') → tCall (spRem K) [] E0 (tCons (tVar 1) (tCons (tFld K (tVar 0) "_rows") tNil)) [some (.ref p), some (.ref a)] H1 Q2 := fun Q2 q2 =>
    hargs H1 e1 _ fun H2 e2 => ⟨a, r, rowD d, R, kvs, rfl, ex_t (e1.trans e2) hS, (e1.trans e2) _ _ hk, hK.mono (e1.trans e2), hfit, fun H3 p3 e3 h3 => q2 H3 p3 (e2.trans e3) h3⟩
  have hpiv : ∀ Q2 : VK, (∀ H', Ex H1 H' → Q2 (match Sp.piv (Sp.rem (rowD d) R) with | some i => .int (i : Nat) | none => .non) H') → tCall (spPivot K) [] E0 (tCons (tCall (spRem K) [] E0 (tCons (tVar 1) (tCons (tFld K (tVar 0) "_rows") tNil))) tNil) [some (.ref p), some (.ref a)] H1 Q2 := fun Q2 q2 =>
    hrem _ fun H2 p2 e2 h2 => ⟨p2, _, rfl, h2, fun H3 e3 => q2 H3 (e2.trans e3)⟩
  refine hpiv _ fun H2 e2 => ⟨rfl, ?_⟩
  have := q' H2 e2
  cases hp5 : Sp.piv (Sp.rem (rowD d) R) with
  | none =>
    rw [hp5] at this
    exact this
  | some i =>
    rw [hp5] at this
    exact this
end
end Tx

/-! part RD -/
/-! What Space.__contains__ answers, told by the span of the drawn vectors. -/
namespace Tx
open PySem PySem.Spec PyProof.Rows L2 Evl Jb
theorem srt_mem {R : Sp.Rows} (nd : (R.map (·.1)).Nodup) {q : Nat × List Int} : q ∈ Sp.srtR R ↔ q ∈ R := by
  unfold Sp.srtR
  rw [List.mem_map]
  constructor
  · rintro ⟨y, hy, e⟩
    obtain ⟨r, hr, e2⟩ := List.mem_map.mp ((Sp.keysUp_perm _).mem_iff.mp hy)
    subst e2
    have e : (((r.1 : Int)).toNat, Sp.rowAt R ((r.1 : Int)).toNat) = q := e
    rw [Int.toNat_natCast, Sp.rowAt_mem nd (show (r.1, r.2) ∈ R from hr)] at e
    rw [← e]
    exact hr
  · intro h
    refine ⟨(q.1 : Int), (Sp.keysUp_perm _).mem_iff.mpr (List.mem_map.mpr ⟨q, h, rfl⟩), ?_⟩
    show (((q.1 : Int)).toNat, Sp.rowAt R ((q.1 : Int)).toNat) = q
    rw [Int.toNat_natCast, Sp.rowAt_mem nd (show (q.1, q.2) ∈ R from h)]
theorem good_srt {wd d : Nat} {R : Sp.Rows} {D : Int} (G : Sp.Good wd R D d) : Sp.Good wd (Sp.srtR R) D d where
  len := fun q hq => G.len q ((srt_mem G.nd).mp hq)
  nd := srt_nd G.nd
  pv := fun q hq => G.pv q ((srt_mem G.nd).mp hq)
  pos := fun q hq => G.pos q ((srt_mem G.nd).mp hq)
  zero := fun q hq r hr => G.zero q ((srt_mem G.nd).mp hq) r ((srt_mem G.nd).mp hr)
  dpos := G.dpos
  dlt := G.dlt
  mul := fun q hq => G.mul q ((srt_mem G.nd).mp hq)
theorem fitR_of2 {wd d c : Nat} {R : Sp.Rows} {D : Int} {v : List Int} (G : Sp.Good wd R D d) (hv : v.length = wd) (hw : wd ≤ 128) (hb : ∀ j, (Sp.ent v j).natAbs < 2 ^ c) (hn : R.length ≤ 128) (hd : d ≤ 8000) (hc : c ≤ 8000) : FitR v R where
  len := fun q hq => ⟨by rw [(G.len q hq).1, hv], by rw [hv]; exact (G.len q hq).2⟩
  pos := G.pos
  nd := G.nd
  bv := fun j => pow_up (hb j) hc
  br := fun q hq j => pow_up (G.row_bd hq j) hd
  sc := fun i => pow_up (G.pre i) (by omega)
  sz := by rw [hv]; exact hw
  sr := hn
theorem good_go {wd c : Nat} : ∀ (vs : List (List Int)) (R : Sp.Rows) (D : Int) (d : Nat), Sp.Good wd R D d → d < 8000 → (∀ v ∈ vs, v.length = wd ∧ ∀ j, (Sp.ent v j).natAbs < 2 ^ c) → R.length + vs.length ≤ 8 → Budget c vs.length d →
    ∃ D' d', Sp.Good wd (Sp.redGo R vs) D' d' ∧ d' < 8000
  | [], R, D, d, G, hd, _, _, _ => ⟨D, d, G, hd⟩
  | v :: vs, R, D, d, G, hd, h, hn, hb => by
    obtain ⟨hv, hbd⟩ := h v List.mem_cons_self
    rw [List.length_cons] at hn hb
    obtain ⟨b1, b2⟩ := hb
    unfold Sp.redGo
    by_cases z : R.length = v.length
    · rw [if_pos z]
      exact ⟨D, d, G, hd⟩
    · rw [if_neg z]
      obtain ⟨D', G'⟩ := G.add hv hbd (by omega)
      have al := Sp.add_len (v := v) (R := R)
      exact good_go vs (Sp.addRow R v) D' _ G' b1 (fun u hu => h u (List.mem_cons_of_mem _ hu)) (by omega) b2
/-- for six drawn vectors of few entries -/
theorem has_in {wd c : Nat} (hw : wd ≤ 8) (hc : c ≤ 8000) {rows : List (List Int)} (hn : rows.length ≤ 8) (hb : Budget c rows.length 1) (h : ∀ v ∈ rows, v.length = wd ∧ ∀ j, (Sp.ent v j).natAbs < 2 ^ c) {d : Dt} (hd : isVecD (wd : Int) d = true → (rowD d).length = wd ∧ ∀ j, (Sp.ent (rowD d) j).natAbs < 2 ^ c) :
    (isVecD (wd : Int) d = true → FitR (rowD d) (Sp.srtR (Sp.red rows))) ∧ (isVecD (wd : Int) d = true → (hasD (wd : Int) (Sp.srtR (Sp.red rows)) d = true ↔ Sp.InQ (rows.map Sp.ent) (Sp.ent (rowD d)))) := by
  obtain ⟨D, e, G, he⟩ := good_go rows [] 1 1 good_nil (by decide) h (by show 0 + _ ≤ 8; omega) hb
  have G : Sp.Good wd (Sp.red rows) D e := G
  have G2 := good_srt G
  have hlen : (Sp.srtR (Sp.red rows)).length ≤ 8 := by
    have h1 := redGo_len rows []
    have h2 : (Sp.red rows).length ≤ 0 + rows.length := h1
    rw [srt_len]
    omega
  obtain ⟨_, _, _, S⟩ := Sp.red_spans (c := c) hw h
  refine ⟨fun hv => fitR_of2 G2 (hd hv).1 (by omega) (hd hv).2 (by omega) (by omega) hc, fun hv => ?_⟩
  unfold hasD
  rw [hv, Bool.true_and, Option.isNone_iff_eq_none, Sp.in_iff G2 (hd hv).1]
  have same : ∀ s ∈ Sp.rws (Sp.srtR (Sp.red rows)), s ∈ (Sp.echOf (Sp.red rows)).map (·.2) := fun s hs => by
    rw [Sp.echOf_snd]
    obtain ⟨q, hq, e⟩ := List.mem_map.mp hs
    exact List.mem_map.mpr ⟨q, (srt_mem G.nd).mp hq, e⟩
  have same2 : ∀ s ∈ (Sp.echOf (Sp.red rows)).map (·.2), s ∈ Sp.rws (Sp.srtR (Sp.red rows)) := fun s hs => by
    rw [Sp.echOf_snd] at hs
    obtain ⟨q, hq, e⟩ := List.mem_map.mp hs
    exact List.mem_map.mpr ⟨q, (srt_mem G.nd).mpr hq, e⟩
  constructor
  · intro z
    exact Sp.inq_trans z fun s hs => S.sub s (same s hs)
  · intro z
    exact Sp.inq_trans z fun s hs => Sp.inq_trans (S.sup s hs) fun t ht => Sp.inq_mem (same2 t ht)
end Tx

/-! part RE -/
/-! Six drawn vectors. -/
namespace Tx
open PySem PySem.Spec PyProof.Rows L2 Evl Jb
theorem budget6 : ∀ n, n ≤ 6 → Budget 90 n 1
  | 0, _ => trivial
  | 1, _ => by repeat (first | exact True.intro | refine ⟨by decide, ?_⟩)
  | 2, _ => by repeat (first | exact True.intro | refine ⟨by decide, ?_⟩)
  | 3, _ => by repeat (first | exact True.intro | refine ⟨by decide, ?_⟩)
  | 4, _ => by repeat (first | exact True.intro | refine ⟨by decide, ?_⟩)
  | 5, _ => by repeat (first | exact True.intro | refine ⟨by decide, ?_⟩)
  | 6, _ => by repeat (first | exact True.intro | refine ⟨by decide, ?_⟩)
  | n + 7, h => by omega
theorem fitV_vecs6 {wd : Nat} {rows : List (List Int)} (hw : wd ≤ 128) (hn : rows.length ≤ 6) (h : Vecs wd (big 6) rows) : FitV (rowsD rows) := by
  refine fitV_of (c := 90) (wd := wd) hw ?_ (by unfold rowsD; rw [List.length_map]; omega) (by unfold rowsD; rw [List.length_map]; exact budget6 _ hn)
  rw [rowsD_row]
  intro v hv
  exact ⟨(h v hv).1, fun j => Nat.lt_of_le_of_lt (ent_bd (h v hv).2 j) (by decide)⟩
/-- what k02 asks: a vector of the width is in the space exactly if the law says so -/
theorem has_vec {wd : Nat} (hw : wd ≤ 7) {rows : List (List Int)} (hn : rows.length ≤ 6) (h : Vecs wd (big 6) rows) {v : List Int} (hv : v.length = wd) (hb : ∀ z ∈ v, z.natAbs ≤ 7 * big 6) :
    FitR v (Sp.srtR (Sp.red rows)) ∧ (hasD (wd : Int) (Sp.srtR (Sp.red rows)) (.tup (v.map Dt.int)) = true ↔ Sp.InQ (rows.map Sp.ent) (Sp.ent v)) := by
  have hr : rowD (.tup (v.map Dt.int)) = v := by
    show (v.map Dt.int).map intD = v
    rw [List.map_map]
    conv => rhs; rw [← List.map_id v]
    exact List.map_congr_left fun i _ => rfl
  have hi : isVecD (wd : Int) (.tup (v.map Dt.int)) = true := by
    unfold isVecD
    rw [Bool.and_eq_true]
    refine ⟨decide_eq_true (by rw [List.length_map, hv]), List.all_eq_true.mpr fun x hx => ?_⟩
    obtain ⟨i, _, e⟩ := List.mem_map.mp hx
    subst e
    rfl
  have k := has_in (wd := wd) (c := 90) (by omega) (by decide) (rows := rows) (by omega) (budget6 _ hn) (fun u hu => ⟨(h u hu).1, fun j => Nat.lt_of_le_of_lt (ent_bd (h u hu).2 j) (by decide)⟩) (d := .tup (v.map Dt.int)) (fun _ => by
    rw [hr]
    exact ⟨hv, fun j => Nat.lt_of_le_of_lt (ent_bd hb j) (by decide)⟩)
  rw [hr] at k
  exact ⟨k.1 hi, k.2 hi⟩
/-- no vector of the width -/
theorem has_not {wd : Int} {R : Sp.Rows} {d : Dt} (h : isVecD wd d = false) : hasD wd R d = false := by
  unfold hasD
  rw [h, Bool.false_and]
end Tx

/-! part RG -/
/-! Tools for the law's own text (as in K19, K21, K22). -/
namespace Tx
open PySem PySem.Spec PyProof.Rows L2 Evl Jb
section
variable {P : Program} {w : World} {K : PySem.W.Frag} {mg : Str → Option Value} {base : Heap} {σ : L2.St} {H H' : Hp} {te ta tb tl : TE} {D : Ends} {tz tu : TS}
theorem evd_lst {tr : TA} {ds : List Dt} (h : EvDs K tr σ H ds) (hl : ds.length ≤ 1000) : EvD K (tLst tr) σ H (.lst ds) := fun H1 e Q q =>
  h H1 e _ fun H2 vs e2 rs => ⟨by rw [← rs.length]; exact Nat.le_of_lt (small1000 hl), fun p hp => q _ (.ref p) (e2.trans (Ex.new hp)) (.lst upd_same (rs.mono (Ex.new hp)))⟩
theorem evd_tupL {l : List Dt} (h : EvD K te σ H (.lst l)) : EvD K (tCB (rTup K) (tCons te tNil)) σ H (.tup l) := fun H1 e Q q =>
  h H1 e _ fun H2 v e2 r => by
    cases r with
    | @lst a _ vs ha rs => exact ⟨a, vs, rfl, .inl ⟨sq_of ha, fun p hp => q _ (.ref p) (e2.trans (Ex.new hp)) (.tup (st_of upd_same) (rs.mono (Ex.new hp)))⟩⟩
theorem reps_rep {l : List Dt} {vs : List V} (r : Reps K H l vs) : ∀ n : Nat, Reps K H (List.replicate n l).flatten (List.replicate n vs).flatten
  | 0 => .nil
  | n + 1 => by
    rw [List.replicate_succ, List.replicate_succ, List.flatten_cons, List.flatten_cons]
    exact r.app (reps_rep r n)
theorem evd_rep {l : List Dt} {k : Nat} (h : EvD K ta σ H (.lst l)) (h2 : ∀ H1, Ex H H1 → Ev tb σ H1 (.int (k : Nat))) (hk : l.length * k ≤ 1000) (hk2 : k ≤ 1000) : EvD K (tOp rRep ta tb) σ H (.lst (List.replicate k l).flatten) := fun H1 e Q q =>
  h H1 e _ fun H2 v e2 r => h2 H2 (e.trans e2) H2 (Ex.refl H2) _ fun H3 e3 => by
    cases r with
    | @lst a _ vs ha rs =>
      refine ⟨a, (k : Nat), vs, rfl, rfl, e3 _ _ ha, by omega, by omega, ?_, fun p hp => ?_⟩
      · rw [← rs.length, Int.toNat_natCast]
        exact Nat.le_of_lt (small1000 hk)
      · rw [Int.toNat_natCast]
        exact q _ (.ref p) ((e2.trans e3).trans (Ex.new hp)) (.lst upd_same ((reps_rep rs k).mono (e3.trans (Ex.new hp))))
theorem evd_cat {l m : List Dt} (h : EvD K ta σ H (.lst l)) (h2 : ∀ H1, Ex H H1 → EvD K tb σ H1 (.lst m)) (hk : l.length + m.length ≤ 1000) : EvD K (tOp rCat ta tb) σ H (.lst (l ++ m)) := fun H1 e Q q =>
  h H1 e _ fun H2 v e2 r => h2 H2 (e.trans e2) H2 (Ex.refl H2) _ fun H3 u e3 r2 => by
    cases r with
    | @lst a _ vs ha rs =>
      cases r2 with
      | @lst b _ us hb rs2 =>
        refine ⟨a, b, vs, us, rfl, rfl, e3 _ _ ha, hb, by rw [← rs.length, ← rs2.length]; exact Nat.le_of_lt (small1000 hk), fun p hp => ?_⟩
        exact q _ (.ref p) ((e2.trans e3).trans (Ex.new hp)) (.lst upd_same ((rs.mono (e3.trans (Ex.new hp))).app (rs2.mono (Ex.new hp))))
theorem ei_listD {ds : List Dt} (h : EvD K tl σ H (.lst ds)) : EvI (iList K tl) σ H ds.length (fun i x H' => ∃ d, ds[i]? = some d ∧ Rep K H' d x) := fun H1 e R q =>
  h H1 e _ fun H2 v e2 r => by
    cases r with
    | @lst a _ vs ha rs =>
      have hl := rs.length
      rw [hl] at q
      refine ⟨a, rfl, ⟨vs, sq_of ha⟩, q _ H2 e2 ⟨_, _, walk_list, fun H3 e3 => sq_of (e3 _ _ ha), fun i H3 x H4 _ e3 y => ?_⟩⟩
      obtain ⟨rfl, hx⟩ := y
      obtain ⟨d, h1, h2⟩ := rs.get hx
      exact ⟨Ex.refl _, d, h1, h2.mono e3⟩
theorem q_opDr {p : Addr} {c : Int} {i : Nat} (hp : PoolAt H p) (h1 : Ev ta σ H (.ref p)) (h2 : ∀ H1, Ex H H1 → Ev tb σ H1 (.int c)) (hc : 0 < c) (hc2 : c.natAbs < 2 ^ 100) (q : ∀ n H', 0 ≤ n → n < c → ExB p H H' → PoolAt H' p → tz D (σ.set i (some (.int (1 + n)))) H') :
    tSeq (tAsg (tOp (rI0 fun i j => V.int (i + j)) (tC (.int 1)) (tCall spDraw [] E0 (tCons ta (tCons tb tNil)))) (gName i)) tz D σ H :=
  d_draw (Q := fun y H2 => rI0 (fun i j => V.int (i + j)) (.int 1) y H2 fun v H3 => tz D (σ.set i (some v)) H3) hp h1 h2 hc hc2 fun n H' n0 n1 x' p' => ⟨1, n, rfl, rfl, q n H' n0 n1 x' p'⟩
theorem ev_mx {i j : Int} (ha : Ev ta σ H (.int i)) (hb : Ev tb σ H (.int j)) : Ev (tCB (fun xs H Q => ∃ i j, xs = [V.int i, V.int j] ∧ Q (V.int (if j > i then j else i)) H) (tCons ta (tCons tb tNil))) σ H (.int (if j > i then j else i)) := fun H1 e Q q =>
  ha H1 e _ fun H2 e2 => hb.mono (e.trans e2) H2 (Ex.refl H2) _ fun H3 e3 => ⟨i, j, rfl, q H3 (e2.trans e3)⟩
theorem ev_mn {i j : Int} (ha : Ev ta σ H (.int i)) (hb : Ev tb σ H (.int j)) : Ev (tCB (fun xs H Q => ∃ i j, xs = [V.int i, V.int j] ∧ Q (V.int (if j < i then j else i)) H) (tCons ta (tCons tb tNil))) σ H (.int (if j < i then j else i)) := fun H1 e Q q =>
  ha H1 e _ fun H2 e2 => hb.mono (e.trans e2) H2 (Ex.refl H2) _ fun H3 e3 => ⟨i, j, rfl, q H3 (e2.trans e3)⟩
theorem evd_tup0 : EvD K (tTup tNil) σ H (.tup []) := fun H1 e Q q => ⟨Nat.zero_le _, fun b hb => q _ (.ref b) (Ex.new hb) (.tup (st_of upd_same) .nil)⟩
end
theorem flat_rep {α : Type} (x : α) : ∀ n : Nat, (List.replicate n [x]).flatten = List.replicate n x
  | 0 => rfl
  | n + 1 => by rw [List.replicate_succ, List.replicate_succ, List.flatten_cons, flat_rep x n]; rfl
theorem rowsD_vec {wd B : Nat} {rows : List (List Int)} (h : Vecs wd B rows) : ∀ m ∈ rowsD rows, isVecD wd m = true := fun m hm => by
  obtain ⟨r, hr, rfl⟩ := List.mem_map.mp hm
  show (decide (((r.map Dt.int).length : Int) = wd) && (r.map Dt.int).all isIntD) = true
  rw [List.length_map, (h r hr).1, decide_eq_true rfl, Bool.true_and, List.all_eq_true]
  intro x hx
  obtain ⟨i, _, rfl⟩ := List.mem_map.mp hx
  rfl
theorem rowsD_small {wd B : Nat} {rows : List (List Int)} (h : Vecs wd B rows) (hw : wd ≤ 100) : ∀ m ∈ rowsD rows, SmallT m := fun m hm l e => by
  obtain ⟨r, hr, rfl⟩ := List.mem_map.mp hm
  cases e
  rw [List.length_map, (h r hr).1]
  omega
theorem bad_good {wd B : Nat} {rows : List (List Int)} (h : Vecs wd B rows) : badD wd (.lst (rowsD rows)) = none := by
  show (firstBad wd (rowsD rows)).map _ = none
  rw [firstBad_no fun j x hx => rowsD_vec h x (List.mem_of_getElem? hx)]
  rfl
theorem reps_rows {K : PySem.W.Frag} {H : Hp} : ∀ {rows : List (List Int)} {us : List V}, Refs K H rows us → Reps K H (rowsD rows) us
  | _, _, .nil => .nil
  | r :: rows, _, .cons ⟨a, h1, h2⟩ t => by
    subst h1
    refine .cons (.tup h2 ?_) (reps_rows t)
    clear h2 t
    induction r with
    | nil => exact .nil
    | cons i r ih => exact .cons (.int i) ih
end Tx

/-! part T1 -/
/-! Any number of vectors may be reduced; a basis is reduced to itself. -/
namespace Tx
open PySem PySem.Spec PyProof.Rows L2 Evl Jb
def Vc (wd c : Nat) (rows : List (List Int)) : Prop := ∀ v ∈ rows, v.length = wd ∧ ∀ j, (Sp.ent v j).natAbs < 2 ^ c
theorem fitGo_sharp {wd c e : Nat} (hw : wd ≤ 7) (he : ∀ k, k ≤ wd → (wd * 2 ^ c) ^ k < 2 ^ e) (h3 : e + (e + c + 3) + 1 < 8000) : ∀ (vs : List (List Int)) (R : Sp.Rows) (ss : List (List Int)), (∃ D d, Sp.Good wd R D d) → Sp.PrmR R → Sp.Both (ss.map Sp.ent) R → Vc wd c ss → Vc wd c vs →
    FitGo R vs ∧ ∃ D', Sp.Good wd (Sp.redGo R vs) D' e
  | [], R, ss, ⟨D, d, G⟩, P, B, hs, _ => ⟨True.intro, G.sharp P (fun r hr => (hs r hr).1) (fun r hr j => Nat.le_of_lt ((hs r hr).2 j)) B.sub B.sup (he _ G.len_le)⟩
  | v :: vs, R, ss, ⟨D, d, G⟩, P, B, hs, hv => by
    obtain ⟨D', G'⟩ := G.sharp P (fun r hr => (hs r hr).1) (fun r hr j => Nat.le_of_lt ((hs r hr).2 j)) B.sub B.sup (he _ G.len_le)
    obtain ⟨hvl, hvb⟩ := hv v List.mem_cons_self
    by_cases z : R.length = v.length
    · refine ⟨.inl z, D', ?_⟩
      unfold Sp.redGo
      rw [if_pos z]
      exact G'
    · have hn : R.length ≤ 7 := by have := G.len_le; omega
      obtain ⟨D2, G2⟩ := G'.add hvl hvb hn
      obtain ⟨f, D3, G3⟩ := fitGo_sharp hw he h3 vs (Sp.addRow R v) (v :: ss) ⟨D2, _, G2⟩ (Sp.prm_add G2 P) (G'.both hvl hvb hn B) (fun u hu => by
        rcases List.mem_cons.mp hu with y | y
        · rw [y]; exact ⟨hvl, hvb⟩
        · exact hs u y) fun u hu => hv u (List.mem_cons_of_mem _ hu)
      refine ⟨.inr ⟨z, fitStep_of G' hvl (by omega) hvb hn h3, f⟩, D3, ?_⟩
      unfold Sp.redGo
      rw [if_neg z]
      exact G3
theorem fitV_made {l : List Dt} {wd d : Nat} {D : Int} (hn : l.length ≤ 60) (f : FitGo [] (l.map rowD)) (G : Sp.Good wd (Sp.red (l.map rowD)) D d) : FitV l := by
  refine ⟨hn, f, G.nd, fun q hq => ?_⟩
  have := (srt_mem G.nd).mp hq
  exact G.pv q this
theorem both_nil' : Sp.Both (([] : List (List Int)).map Sp.ent) [] := Sp.both_nil
theorem fit_sharp {wd c e : Nat} {rows : List (List Int)} (hw : wd ≤ 7) (he : ∀ k, k ≤ wd → (wd * 2 ^ c) ^ k < 2 ^ e) (h3 : e + (e + c + 3) + 1 < 8000) (hn : rows.length ≤ 60) (hv : Vc wd c rows) : FitV (rowsD rows) ∧ ∃ D, Sp.Good wd (Sp.red rows) D e := by
  obtain ⟨f, D, G⟩ := fitGo_sharp hw he h3 rows [] [] ⟨1, 1, good_nil⟩ (fun q hq => by cases hq) both_nil' (fun r hr => by cases hr) hv
  have G : Sp.Good wd (Sp.red rows) D e := G
  refine ⟨fitV_made (wd := wd) (d := e) (D := D) (by unfold rowsD; rw [List.length_map]; exact hn) (by rw [rowsD_row]; exact f) (by rw [rowsD_row]; exact G), D, G⟩
/-! a basis once more -/
theorem gcdL_prm {v : List Int} (h : Sp.Prm v) : Sp.gcdL v = 1 := h _ fun j => Sp.gcdL_dvd j
theorem prim_id {v : List Int} (h : Sp.Prm v) : Sp.prim v = v := by
  unfold Sp.prim
  rw [if_pos (.inl (gcdL_prm h))]
theorem good_sub {wd d : Nat} {R R' : Sp.Rows} {D : Int} (G : Sp.Good wd (R ++ R') D d) : Sp.Good wd R D d where
  len := fun q hq => G.len q (List.mem_append_left _ hq)
  nd := by
    have := G.nd
    rw [List.map_append] at this
    exact (List.nodup_append.mp this).1
  pv := fun q hq => G.pv q (List.mem_append_left _ hq)
  pos := fun q hq => G.pos q (List.mem_append_left _ hq)
  zero := fun q hq r hr => G.zero q (List.mem_append_left _ hq) r (List.mem_append_left _ hr)
  dpos := G.dpos
  dlt := G.dlt
  mul := fun q hq => G.mul q (List.mem_append_left _ hq)
theorem own_step {wd d : Nat} {R qs : Sp.Rows} {q : Nat × List Int} {D : Int} (G : Sp.Good wd (R ++ q :: qs) D d) (P : Sp.PrmR (R ++ q :: qs)) : Sp.addRow R q.2 = R ++ [q] := by
  have hq : q ∈ R ++ q :: qs := List.mem_append_right _ List.mem_cons_self
  have hne : ∀ r ∈ R, r.1 ≠ q.1 := fun r hr z => by
    have := G.nd
    rw [List.map_append, List.map_cons] at this
    exact (List.nodup_append.mp this).2.2 r.1 (List.mem_map.mpr ⟨r, hr, rfl⟩) q.1 List.mem_cons_self z
  have hh : Sp.hits q.2 R = [] := by
    unfold Sp.hits
    rw [List.filter_eq_nil_iff]
    intro p hp
    obtain ⟨r, hr, e⟩ := List.mem_map.mp hp
    subst e
    rw [G.zero q hq r (List.mem_append_left _ hr) (Ne.symm (hne r hr))]
    simp
  have hs : Sp.scaleOf q.2 R = 1 := by unfold Sp.scaleOf; rw [hh]; rfl
  have hr : Sp.rem q.2 R = q.2 := by
    unfold Sp.rem
    rw [hs, hh]
    show q.2.map (1 * ·) = q.2
    conv => rhs; rw [← List.map_id q.2]
    exact List.map_congr_left fun i _ => Int.one_mul i
  have hu : Sp.up q.2 q.1 = q.2 := by
    unfold Sp.up
    rw [if_neg (by have := G.pos q hq; omega)]
  unfold Sp.addRow
  rw [hr, prim_id (P q hq), G.pv q hq]
  dsimp only
  rw [hu]
  congr 1
  conv => rhs; rw [← List.map_id R]
  refine List.map_congr_left fun r hr' => ?_
  have : Sp.clr r.2 q.2 q.1 = r.2 := by
    unfold Sp.clr
    rw [if_pos (G.zero r (List.mem_append_left _ hr') q hq (hne r hr'))]
  rw [this]
  rfl
theorem own_go {wd d : Nat} {D : Int} (hw : wd ≤ 7) (hd : d + (d + d + 3) + 1 < 8000) : ∀ (qs R : Sp.Rows), Sp.Good wd (R ++ qs) D d → Sp.PrmR (R ++ qs) → Sp.redGo R (qs.map (·.2)) = R ++ qs ∧ FitGo R (qs.map (·.2))
  | [], R, G, P => ⟨(List.append_nil R).symm, True.intro⟩
  | q :: qs, R, G, P => by
    have hq : q ∈ R ++ q :: qs := List.mem_append_right _ List.mem_cons_self
    have hl := (G.len q hq).1
    have hz : R.length ≠ q.2.length := by
      have := G.len_le
      rw [List.length_append, List.length_cons] at this
      omega
    have st := own_step G P
    have GR : Sp.Good wd R D d := good_sub G
    have e : R ++ q :: qs = (R ++ [q]) ++ qs := by rw [List.append_assoc]; rfl
    rw [e] at G P
    obtain ⟨h1, h2⟩ := own_go hw hd qs (R ++ [q]) G P
    rw [← e] at h1
    rw [← st] at h1 h2
    refine ⟨?_, .inr ⟨hz, fitStep_of GR hl (by omega) (fun j => by rw [← e] at G; exact G.row_bd hq j) (by have := GR.len_le; omega) hd, h2⟩⟩
    show Sp.redGo R (q.2 :: qs.map (·.2)) = _
    unfold Sp.redGo
    rw [if_neg hz]
    exact h1
def bas (rows : List (List Int)) : List (List Int) := (Sp.srtR (Sp.red rows)).map (·.2)
/-- numbers of the law: eight vectors of a width of at most seven -/
theorem e650 {wd k : Nat} (hw : wd ≤ 7) (hk : k ≤ wd) : (wd * 2 ^ 90) ^ k < 2 ^ 650 :=
  calc (wd * 2 ^ 90) ^ k ≤ (7 * 2 ^ 90) ^ k := Nat.pow_le_pow_left (Nat.mul_le_mul_right _ hw) k
    _ ≤ (7 * 2 ^ 90) ^ 7 := Nat.pow_le_pow_right (by decide) (by omega)
    _ < 2 ^ 650 := by decide
theorem fit_rows {wd : Nat} {rows : List (List Int)} (hw : wd ≤ 7) (hn : rows.length ≤ 60) (hv : Vc wd 90 rows) : FitV (rowsD rows) ∧ ∃ D, Sp.Good wd (Sp.red rows) D 650 := fit_sharp hw (fun k hk => e650 hw hk) (by decide) hn hv
theorem prm_srt {R : Sp.Rows} (nd : (R.map (·.1)).Nodup) (P : Sp.PrmR R) : Sp.PrmR (Sp.srtR R) := fun q hq => P q ((srt_mem nd).mp hq)
theorem bas_facts {wd : Nat} {rows : List (List Int)} (hw : wd ≤ 7) (hn : rows.length ≤ 60) (hv : Vc wd 90 rows) : Vc wd 650 (bas rows) ∧ (bas rows).length ≤ wd ∧ FitV (rowsD (bas rows)) ∧ bas (bas rows) = bas rows := by
  obtain ⟨_, D, G⟩ := fit_rows hw hn hv
  have P := Sp.red_prm (wd := wd) (c := 90) (by omega) hv
  have G2 := good_srt G
  have P2 := prm_srt G.nd P
  have hV : Vc wd 650 (bas rows) := fun v hvm => by
    obtain ⟨q, hq, e⟩ := List.mem_map.mp hvm
    subst e
    exact ⟨(G2.len q hq).1, fun j => G2.row_bd hq j⟩
  have hlen : (bas rows).length ≤ wd := by
    unfold bas
    rw [List.length_map]
    exact G2.len_le
  obtain ⟨h1, h2⟩ := own_go (d := 650) (D := D) hw (by decide) (Sp.srtR (Sp.red rows)) [] (by rw [List.nil_append]; exact G2) (by rw [List.nil_append]; exact P2)
  rw [List.nil_append] at h1
  have hred : Sp.red (bas rows) = Sp.srtR (Sp.red rows) := h1
  refine ⟨hV, hlen, fitV_made (wd := wd) (d := 650) (D := D) (by unfold rowsD; rw [List.length_map]; omega) (by rw [rowsD_row]; exact h2) (by rw [rowsD_row, hred]; exact G2), ?_⟩
  obtain ⟨D1, d1, G1, S1⟩ := Sp.red_spans (c := 90) (wd := wd) (by omega) hv
  refine (Sp.red_eq (wd := wd) (c := 650) (by omega) hV (fun v hvm => ⟨(hv v hvm).1, fun j => pow_up ((hv v hvm).2 j) (by decide)⟩)).mpr ⟨fun v hvm => ?_, fun v hvm => ?_⟩
  · obtain ⟨q, hq, e⟩ := List.mem_map.mp hvm
    subst e
    exact S1.sub _ (by rw [Sp.echOf_snd]; exact List.mem_map.mpr ⟨q, (srt_mem G.nd).mp hq, rfl⟩)
  · refine Sp.inq_trans (S1.sup _ (List.mem_map.mpr ⟨v, hvm, rfl⟩)) fun t ht => ?_
    rw [Sp.echOf_snd] at ht
    obtain ⟨q, hq, e⟩ := List.mem_map.mp ht
    subst e
    exact Sp.inq_mem (List.mem_map.mpr ⟨q.2, List.mem_map.mpr ⟨q, (srt_mem G.nd).mpr hq, rfl⟩, rfl⟩)
end Tx

/-! part U1 -/
/-! The dual of the rows of a reduced system fits: its partial sums stay bounded. -/
namespace Tx
open PySem PySem.Spec PyProof.Rows L2 Evl Jb
theorem comb_at {c : Nat} {S : List Sp.Fun} {v : Sp.Fun} (h : ∀ s ∈ S, s c = 0) (hv : Sp.Comb S v) : v c = 0 := by
  induction hv with
  | nil => rfl
  | @cons b P y k _ ih =>
    show k * b c + y c = 0
    rw [h b List.mem_cons_self, ih fun s hs => h s (List.mem_cons_of_mem _ hs), Int.mul_zero]
    rfl
theorem inq_at {c : Nat} {S : List Sp.Fun} {v : Sp.Fun} (h : ∀ s ∈ S, s c = 0) (hv : Sp.InQ S v) : v c = 0 := by
  obtain ⟨N, n0, hc⟩ := hv
  exact (Int.mul_eq_zero.mp (comb_at h hc)).resolve_left n0
theorem part_in {wd d : Nat} {S : Sp.Rows} {D : Int} (G : Sp.Good wd S D d) : ∀ (L : Sp.Rows) (z : Sp.Fun), (∀ q ∈ L, q ∈ S) → Sp.InQ (Sp.rws S) z → (∀ q ∈ S, q ∉ L → z q.1 = 0) → Sp.InQ (Sp.rws L) z
  | [], z, _, hz, h0 => by
    obtain ⟨N, n0, hc⟩ := hz
    rw [← Sp.echOf_snd] at hc
    refine Sp.inq_zero fun j => ?_
    rcases Sp.comb_lead G.isE hc with y | ⟨c, hc1, l⟩
    · exact (Int.mul_eq_zero.mp (y j)).resolve_left n0
    · rw [Sp.echOf_fst] at hc1
      obtain ⟨t, ht, e⟩ := List.mem_map.mp hc1
      have e : t.1 = c := e
      refine absurd ?_ l.1
      show N * z c = 0
      rw [← e, h0 t ht List.not_mem_nil, Int.mul_zero]
  | r :: L, z, hL, hz, h0 => by
    have hr := hL r List.mem_cons_self
    have hp := G.pos r hr
    have ih := part_in G L (fun j => Sp.ent r.2 r.1 * z j + -(z r.1) * Sp.ent r.2 j) (fun q hq => hL q (List.mem_cons_of_mem _ hq)) (Sp.inq_add (Sp.inq_smul _ hz) (Sp.inq_smul _ (Sp.inq_mem (List.mem_map.mpr ⟨r, hr, rfl⟩)))) fun q hq hqL => by
      show Sp.ent r.2 r.1 * z q.1 + -(z r.1) * Sp.ent r.2 q.1 = 0
      by_cases c : q.1 = r.1
      · rw [c, Int.neg_mul, Int.mul_comm]
        omega
      · rw [h0 q hq fun y => by
          rcases List.mem_cons.mp y with y | y
          · exact c (by rw [y])
          · exact hqL y, G.zero r hr q hq (Ne.symm c), Int.mul_zero, Int.mul_zero]
        rfl
    refine Sp.inq_div (show Sp.ent r.2 r.1 ≠ 0 by omega) (Sp.inq_ext (Sp.inq_add (Sp.inq_mono (fun s hs => List.mem_cons_of_mem _ hs) ih) (Sp.inq_smul (z r.1) (Sp.inq_mem List.mem_cons_self))) fun j => ?_)
    show Sp.ent r.2 r.1 * z j + -(z r.1) * Sp.ent r.2 j + z r.1 * Sp.ent r.2 j = Sp.ent r.2 r.1 * z j
    rw [Int.neg_mul]
    omega
def revT (T : Sp.Rows) : List (List Int) := T.map fun q => q.2.reverse
theorem fitGo2 {wd c0 e dS : Nat} {S : Sp.Rows} {DS : Int} {gens : List (List Int)} (hw : wd ≤ 7) (GS : Sp.Good wd S DS dS) (hg : Vc wd c0 gens) (s1 : ∀ r ∈ Sp.rws S, Sp.InQ (gens.map Sp.ent) r) (s2 : ∀ s ∈ gens.map Sp.ent, Sp.InQ (Sp.rws S) s)
    (hb : ∀ q ∈ S, ∀ j, (Sp.ent q.2 j).natAbs < 2 ^ e) (he : ∀ k, k ≤ wd → (wd * 2 ^ c0) ^ k < 2 ^ e) (h3 : e + (e + e + 3) + 1 < 8000) : ∀ (T2 T1 R : Sp.Rows) , (T1 ++ T2).Perm S → (∃ D d, Sp.Good wd R D d) → Sp.PrmR R → R.length ≤ T1.length → Sp.Both ((revT T1).map Sp.ent) R →
    FitGo R (revT T2) ∧ ∃ D', Sp.Good wd (Sp.redGo R (revT T2)) D' e
  | T2, T1, R, P, ⟨D, d, G⟩, hP, hRl, B => by
    have hlen : T1.length + T2.length = S.length := by rw [← P.length_eq, List.length_append]
    have hSl := GS.len_le
    have in1 : ∀ q ∈ T1, q ∈ S := fun q hq => P.mem_iff.mp (List.mem_append_left _ hq)
    have in2 : ∀ q ∈ T2, q ∈ S := fun q hq => P.mem_iff.mp (List.mem_append_right _ hq)
    have nd : ((T1 ++ T2).map (·.1)).Nodup := (P.map (·.1)).nodup_iff.mpr GS.nd
    rw [List.map_append, List.nodup_append] at nd
    obtain ⟨nd1, nd2, nd3⟩ := nd
    have supG : ∀ s ∈ gens.map Sp.ent, Sp.Sup wd s := fun s hs => by
      obtain ⟨v, hv, rfl⟩ := List.mem_map.mp hs
      exact Sp.ent_sup (hg v hv).1
    have revG : (gens.map List.reverse).map Sp.ent = (gens.map Sp.ent).map (Sp.rvF wd) := Sp.revs_map fun v hv => (hg v hv).1
    have revS : ∀ q ∈ S, Sp.ent q.2.reverse = Sp.rvF wd (Sp.ent q.2) := fun q hq => Sp.ent_rvF (GS.len q hq).1
    have inG : ∀ q ∈ S, Sp.InQ ((gens.map List.reverse).map Sp.ent) (Sp.ent q.2.reverse) := fun q hq => by
      rw [revG, revS q hq]
      exact Sp.rv_inq (s1 _ (List.mem_map.mpr ⟨q, hq, rfl⟩))
    have atc : ∀ q ∈ S, ∀ t ∈ S, Sp.ent q.2.reverse (wd - 1 - t.1) = Sp.ent q.2 t.1 := fun q hq t ht => by
      have := (GS.len t ht).2
      rw [Sp.ent_rev, (GS.len q hq).1, if_pos (by omega)]
      congr 1
      omega
    obtain ⟨D', G'⟩ : ∃ D', Sp.Good wd R D' e := by
      refine G.sharp2 hP (rows := gens.map List.reverse) (B := 2 ^ c0) (Q := T2.map fun q => wd - 1 - q.1) ?_ ?_ ?_ ?_ ?_ ?_ ?_ ?_ ?_
      · refine List.pairwise_map.mpr (List.Pairwise.imp_of_mem (fun {a b} ha hb h z => h ?_) (List.pairwise_map.mp nd2))
        have := (GS.len a (in2 a ha)).2
        have := (GS.len b (in2 b hb)).2
        omega
      · intro c hc
        obtain ⟨q, hq, rfl⟩ := List.mem_map.mp hc
        have := (GS.len q (in2 q hq)).2
        omega
      · intro r hr
        obtain ⟨v, hv, rfl⟩ := List.mem_map.mp hr
        rw [List.length_reverse]
        exact (hg v hv).1
      · intro r hr j
        obtain ⟨v, hv, rfl⟩ := List.mem_map.mp hr
        rw [Sp.ent_rev]
        split
        · exact Nat.le_of_lt ((hg v hv).2 _)
        · exact Nat.zero_le _
      · intro r hr c hc
        obtain ⟨q, hq, rfl⟩ := List.mem_map.mp hc
        refine inq_at (fun s hs => ?_) (B.sub _ (List.mem_map.mpr ⟨r, hr, rfl⟩))
        obtain ⟨u, hu, rfl⟩ := List.mem_map.mp hs
        obtain ⟨t, ht, rfl⟩ := List.mem_map.mp hu
        rw [atc t (in1 t ht) q (in2 q hq)]
        exact GS.zero t (in1 t ht) q (in2 q hq) (nd3 _ (List.mem_map.mpr ⟨t, ht, rfl⟩) _ (List.mem_map.mpr ⟨q, hq, rfl⟩))
      · intro r hr
        refine Sp.inq_trans (B.sub r hr) fun s hs => ?_
        obtain ⟨u, hu, rfl⟩ := List.mem_map.mp hs
        obtain ⟨t, ht, rfl⟩ := List.mem_map.mp hu
        exact inG t (in1 t ht)
      · intro y hy hz
        have sy : Sp.Sup wd y := Sp.inq_sup (fun s hs => by
          rw [revG] at hs
          obtain ⟨t, _, rfl⟩ := List.mem_map.mp hs
          exact Sp.rv_sup) hy
        have hy2 : Sp.InQ (gens.map Sp.ent) (Sp.rvF wd y) := by
          rw [revG, ← Sp.rv_rv sy] at hy
          exact (Sp.rv_back supG Sp.rv_sup).mp hy
        have hy3 := part_in GS T1 (Sp.rvF wd y) in1 (Sp.inq_trans hy2 s2) fun q hq hn => by
          have hq2 : q ∈ T2 := (List.mem_append.mp (P.mem_iff.mpr hq)).resolve_left hn
          have hlt := (GS.len q hq).2
          show (if q.1 < wd then y (wd - 1 - q.1) else 0) = 0
          rw [if_pos hlt]
          exact hz _ (List.mem_map.mpr ⟨q, hq2, rfl⟩)
        have hy4 := Sp.rv_inq (w := wd) hy3
        rw [Sp.rv_rv sy] at hy4
        refine Sp.inq_trans hy4 fun s hs => ?_
        obtain ⟨u, hu, rfl⟩ := List.mem_map.mp hs
        obtain ⟨t, ht, rfl⟩ := List.mem_map.mp hu
        rw [← revS t (in1 t ht)]
        exact B.sup _ (List.mem_map.mpr ⟨_, List.mem_map.mpr ⟨t, ht, rfl⟩, rfl⟩)
      · intro c hc
        obtain ⟨q, hq, rfl⟩ := List.mem_map.mp hc
        refine ⟨_, inG q (in2 q hq), ?_, fun c' hc' hne => ?_⟩
        · rw [atc q (in2 q hq) q (in2 q hq)]
          have := GS.pos q (in2 q hq)
          omega
        · obtain ⟨t, ht, rfl⟩ := List.mem_map.mp hc'
          rw [atc q (in2 q hq) t (in2 t ht)]
          exact GS.zero q (in2 q hq) t (in2 t ht) fun z => hne (by rw [z])
      · exact he _ (by rw [List.length_map]; omega)
    match T2, P, hlen, in2 with
    | [], _, _, _ => exact ⟨True.intro, D', G'⟩
    | q :: T2, P, hlen, in2 =>
      have hq := in2 q List.mem_cons_self
      have hvl : q.2.reverse.length = wd := by rw [List.length_reverse]; exact (GS.len q hq).1
      have hvb : ∀ j, (Sp.ent q.2.reverse j).natAbs < 2 ^ e := fun j => by
        rw [Sp.ent_rev]
        split
        · exact hb q hq _
        · exact Nat.pow_pos (by decide)
      by_cases z : R.length = q.2.reverse.length
      · refine ⟨.inl z, D', ?_⟩
        show Sp.Good wd (Sp.redGo R (q.2.reverse :: revT T2)) D' e
        unfold Sp.redGo
        rw [if_pos z]
        exact G'
      · have hn : R.length ≤ 7 := by have := G'.len_le; omega
        obtain ⟨D2, G2⟩ := G'.add hvl hvb hn
        obtain ⟨f, D3, G3⟩ := fitGo2 hw GS hg s1 s2 hb he h3 T2 (q :: T1) (Sp.addRow R q.2.reverse) (List.Perm.trans List.perm_middle.symm P) ⟨D2, _, G2⟩ (Sp.prm_add G2 hP) (Nat.le_trans (addRow_len _ _) (by rw [List.length_cons]; omega)) (G'.both hvl hvb hn B)
        refine ⟨.inr ⟨z, fitStep_of G' hvl (by omega) hvb hn h3, f⟩, D3, ?_⟩
        show Sp.Good wd (Sp.redGo R (q.2.reverse :: revT T2)) D3 e
        unfold Sp.redGo
        rw [if_neg z]
        exact G3
end Tx

/-! part U2 -/
/-! solution(rows, free, width). -/
namespace Tx
open PySem PySem.Spec PyProof.Rows L2 Evl Jb
abbrev s_compl : Stmt := top 9
abbrev s_sol : Stmt := top 10
abbrev nSol : List Str := ["rows", "free", "width", "scale", "at", "head", "found"]
theorem sc_sol : FnScope nSol ["rows", "free", "width"] (defScope s_sol) := ⟨rfl, rfl, rfl, by decide +kernel, rfl, by decide +kernel, by decide +kernel⟩
structure FitS (R : Sp.Rows) (f w : Nat) : Prop where
  len : ∀ q ∈ R, q.2.length = w ∧ q.1 < w
  pos : ∀ q ∈ R, 0 < Sp.ent q.2 q.1
  nd : (R.map (·.1)).Nodup
  fr : f ∉ R.map (·.1)
  fw : f < w
  br : ∀ q ∈ R, ∀ j, (Sp.ent q.2 j).natAbs < 2 ^ 8000
  sc : ∀ i, (Sp.sclGo f (R.take i) 1).natAbs < 2 ^ 12000
  sz : w ≤ 128
  sr : R.length ≤ 128
theorem sclGo_app {f : Nat} {r : Nat × List Int} : ∀ (L : Sp.Rows) (s : Int), Sp.sclGo f (L ++ [r]) s = ((Nat.lcm (Sp.sclGo f L s).natAbs (Sp.ask r f).natAbs : Nat) : Int)
  | [], s => rfl
  | q :: L, s => sclGo_app L _
theorem sclGo_take {f i : Nat} {R : Sp.Rows} {r : Nat × List Int} (h : R[i]? = some r) : Sp.sclGo f (R.take (i + 1)) 1 = ((Nat.lcm (Sp.sclGo f (R.take i) 1).natAbs (Sp.ask r f).natAbs : Nat) : Int) := by
  rw [List.take_add_one, h, Option.toList_some, sclGo_app]
theorem row_look {R : Sp.Rows} (nd : (R.map (·.1)).Nodup) {r : Nat × List Int} (h : r ∈ R) : R.lookup r.1 = some r.2 := Sp.look_mem nd (show (r.1, r.2) ∈ R from h)
/-- the list while it is filled: the rows before i have been written -/
def fill (R : Sp.Rows) (f w i : Nat) : List Int := (List.range w).map fun j => if j = f then Sp.scl R f else if j ∈ (R.take i).map (·.1) then Sp.solAt R f j else 0
theorem fill_len {R : Sp.Rows} {f w i : Nat} : (fill R f w i).length = w := by unfold fill; rw [List.length_map, List.length_range]
theorem fill_zero {R : Sp.Rows} {f w : Nat} (hf : f < w) : (List.replicate w (V.int 0)).set f (.int (Sp.scl R f)) = iVs (fill R f w 0) := by
  apply List.ext_getElem?
  intro j
  unfold fill iVs
  rw [List.getElem?_set, List.length_replicate, List.getElem?_map, List.getElem?_map, List.getElem?_replicate]
  by_cases c : j < w
  · rw [List.getElem?_range c]
    by_cases e : f = j
    · subst e
      rw [if_pos rfl, if_pos hf]
      simp
    · rw [if_neg e, if_pos c]
      simp [Ne.symm e]
  · rw [List.getElem?_eq_none (l := List.range w) (by rw [List.length_range]; omega)]
    by_cases e : f = j
    · subst e; exact absurd hf c
    · rw [if_neg e, if_neg c]
      rfl
theorem fill_next {R : Sp.Rows} {f w i : Nat} {r : Nat × List Int} (h : R[i]? = some r) (hr : r.1 < w) (hne : r.1 ≠ f) : (iVs (fill R f w i)).set r.1 (.int (Sp.solAt R f r.1)) = iVs (fill R f w (i + 1)) := by
  apply List.ext_getElem?
  intro j
  unfold fill iVs
  rw [List.getElem?_set, List.length_map, List.length_map, List.length_range, List.getElem?_map, List.getElem?_map, List.getElem?_map, List.getElem?_map]
  by_cases c : j < w
  · rw [List.getElem?_range c]
    by_cases e : r.1 = j
    · subst e
      rw [if_pos rfl, if_pos c]
      have : r.1 ∈ (R.take (i + 1)).map (·.1) := by
        rw [List.take_add_one, h, Option.toList_some, List.map_append]
        exact List.mem_append_right _ List.mem_cons_self
      simp only [Option.map_some, if_neg hne, if_pos this]
    · rw [if_neg e]
      by_cases e2 : j = f
      · simp [e2]
      · have : (j ∈ (R.take (i + 1)).map (·.1)) ↔ j ∈ (R.take i).map (·.1) := by
          rw [List.take_add_one, h, Option.toList_some, List.map_append, List.mem_append]
          exact ⟨fun y => y.resolve_right fun z => e (List.mem_singleton.mp z).symm, .inl⟩
        simp only [Option.map_some, if_neg e2, this]
  · rw [List.getElem?_eq_none (l := List.range w) (by rw [List.length_range]; omega)]
    by_cases e : r.1 = j
    · omega
    · rw [if_neg e]; rfl
theorem fill_all {R : Sp.Rows} {f w : Nat} : fill R f w R.length = Sp.sol R f w := by
  unfold fill Sp.sol
  rw [List.take_length]
  refine List.map_congr_left fun j _ => ?_
  by_cases e : j = f
  · rw [if_pos e, e, Sp.solAt_f]
  · rw [if_neg e]
    by_cases m : j ∈ R.map (·.1)
    · rw [if_pos m]
    · rw [if_neg m, Sp.solAt_free e m]
section
variable {P : Program} {w : World} {K : PySem.W.Frag} {mg : Str → Option Value} {base : Heap}
section
variable {H : Hp} {σ : L2.St} {te ta tb : TE} {D : Ends} {tz : TS}
/-- xs[i] = a value -/
theorem s_setV {l : Addr} {xs : List V} {v : V} {j : Nat} (hl : H l = some (.lst xs)) (h : Ev te σ H v) (ho : Ev ta σ H (.ref l)) (hi : Ev tb σ H (.int (j : Int))) (hj : j < xs.length) (k : ∀ H1, Ex H H1 → D.nx σ (upd H1 l (.lst (xs.set j v)))) :
    tAsg te (gSub ta tb rSetL) D σ H := h H (Ex.refl H) _ fun H1 e1 => ho H1 e1 _ fun H2 e2 => hi H2 (e1.trans e2) _ fun H3 e3 =>
  ⟨l, xs, (j : Int), j, rfl, rfl, ((e1.trans e2).trans e3) l _ hl, ixN_nat hj, k H3 ((e1.trans e2).trans e3)⟩
theorem q_setV {l : Addr} {xs : List V} {v : V} {j : Nat} (hl : H l = some (.lst xs)) (h : Ev te σ H v) (ho : Ev ta σ H (.ref l)) (hi : Ev tb σ H (.int (j : Int))) (hj : j < xs.length) (k : ∀ H1, Ex H H1 → tz D σ (upd H1 l (.lst (xs.set j v)))) :
    tSeq (tAsg te (gSub ta tb rSetL)) tz D σ H := s_setV (D := { D with nx := tz D }) hl h ho hi hj k
theorem flat1 {α : Type} : ∀ (n : Nat) (v : α), (List.replicate n [v]).flatten = List.replicate n v
  | 0, _ => rfl
  | n + 1, v => by rw [List.replicate_succ, List.flatten_cons, List.replicate_succ, flat1 n v]; rfl
/-- [x] * n -/
theorem el_rep1 {v : V} {n : Nat} (ha : EvL ta σ H [v]) (hb : ∀ H1, Ex H H1 → Ev tb σ H1 (.int (n : Int))) (hn : n ≤ 1000) : EvL (tOp rRep ta tb) σ H (List.replicate n v) := fun H1 e Q q =>
  ha H1 e _ fun p H2 hp e2 hd => hb H2 (e.trans e2) H2 (Ex.refl H2) _ fun H3 e3 => by
    refine ⟨p, (n : Int), [v], rfl, rfl, e3 _ _ hd, by omega, by omega, ?_, fun l hl => ?_⟩
    · show 1 * (n : Int).toNat ≤ sizeLine
      rw [Int.toNat_natCast, sizeLine_eq]
      omega
    · have : (List.replicate (n : Int).toNat [v]).flatten = List.replicate n v := by rw [Int.toNat_natCast]; exact flat1 n v
      rw [this]
      exact q l _ (fresh_back (e2.trans e3) hl) ((e2.trans e3).trans (Ex.new hl)) upd_same
end
/-- solution(rows, free, width) -/
theorem ex_fresh2 {H H1 : Hp} {l : Addr} {o : HO} (e : Ex H H1) (h : H l = none) : Ex H (upd H1 l o) := fun b u hb => by
  rw [upd_ne (fun z => by subst z; rw [h] at hb; cases hb)]
  exact e b u hb
def spSol (K : PySem.W.Frag) : Sp := fun vs H Q _ => ∃ d kvs R f w, vs = [.ref d, .int (f : Nat), .int (w : Nat)] ∧ H d = some (.dK kvs) ∧ KvR K H R kvs ∧ FitS R f w ∧ GivesT K (Sp.sol R f w) H Q
theorem kvr_updD {H : Hp} {d : Addr} {kvs : List (Key × V)} {R : Sp.Rows} {o : HO} (h : KvR K H R kvs) (hD : H d = some (.dK kvs)) : KvR K (upd H d o) R kvs := paired_mono (fun _ _ ⟨g1, a, g2, g3⟩ => ⟨g1, a, g2, sqt_updD g3 hD⟩) h
theorem kvr_L {H H' : Hp} {l : Addr} {xs : List V} {kvs : List (Key × V)} {R : Sp.Rows} (h : KvR K H R kvs) (hl : H l = some (.lst xs)) (x : ExB l H H') : KvR K H' R kvs := paired_mono (fun _ _ ⟨g1, a, g2, g3⟩ => ⟨g1, a, g2, by
  rcases g3 with (h | ⟨b, h⟩) | h
  · exact .inl (.inl (x _ _ h fun z => by rw [z, hl] at h; cases Option.some.inj h))
  · exact .inl (.inr ⟨b, x _ _ h fun z => by rw [z, hl] at h; cases Option.some.inj h⟩)
  · exact .inr h⟩) h
theorem ok_sol (B : Bt mg) (F : Fd K mg "solution" s_sol ["rows", "free", "width"]) : Cl P w K mg base 1 "solution" ["rows", "free", "width"] (spSol K) := by
  refine cl_mk F sc_sol (fun vs H Q E ⟨d, kvs, R, f, wd, e, _⟩ => by rw [e] <;> rfl) fun fa cdv A outer s H vs Q E hr ⟨d, kvs, R, f, wd, ev, hD, hK, W, q⟩ => ?_
  subst ev
  have hu := hu_of hr
  refine ⟨_, pss_cons (ps_set (i := 3) sc_sol.nd rfl (by first | exact Or.inl rfl | exact Or.inr rfl) pe_int)
    (pss_cons (ps_lock (ps_for PassesOwn.never rfl (pi_keys (pv 0)) (pg_name (i := 4) sc_sol.nd rfl (by first | exact Or.inl rfl | exact Or.inr rfl))
      (pss_cons (ps_set (i := 5) sc_sol.nd rfl (by first | exact Or.inl rfl | exact Or.inr rfl) (pe_ix ix_tup (pe_dget hu (pv 0) (pv 4) (fun _ _ => rfl)) (pv 4) (fun _ _ => rfl)))
      (pss_one (ps_set (i := 3) sc_sol.nd rfl (by first | exact Or.inl rfl | exact Or.inr rfl) (pe_callBfun cr_lcm (by rfl) B.lcm (pa_cons (pv 3) (pa_cons (pe_op op_fdivW (pv 5) (pe_callBfun cr_gcd (by rfl) B.gcd (pa_cons (pv 5) (pa_cons (pe_ix ix_tup (pe_dget hu (pv 0) (pv 4) (fun _ _ => rfl)) (pv 1) (fun _ _ => rfl)) pa_nil)))) pa_nil))))))))
    (pss_cons (ps_set (i := 6) sc_sol.nd rfl (by first | exact Or.inl rfl | exact Or.inr rfl) (pe_op op_rep (pe_lst (pa_cons pe_int pa_nil)) (pv 2)))
    (pss_cons (ps_asg (pv 3) (pg_sub (pv 6) (pv 1) set_list))
    (pss_cons (ps_lock (ps_for PassesOwn.never rfl (pi_keys (pv 0)) (pg_name (i := 4) sc_sol.nd rfl (by first | exact Or.inl rfl | exact Or.inr rfl))
      (pss_one (ps_asg (pe_op op_fdivW (pe_op op_mulW (pe_un un_neg (pe_ix ix_tup (pe_dget hu (pv 0) (pv 4) (fun _ _ => rfl)) (pv 1) (fun _ _ => rfl))) (pv 3)) (pe_ix ix_tup (pe_dget hu (pv 0) (pv 4) (fun _ _ => rfl)) (pv 4) (fun _ _ => rfl))) (pg_sub (pv 6) (pv 4) set_list)))))
    (pss_one (ps_ret (pe_callTy call_tuple_of (by rfl) B.tuple boot_tt (pa_cons (pv 6) pa_nil)))))))), ?_⟩
  have hlk : kvs.length = R.length := hK.length.symm
  have key : ∀ (i : Nat) (k : Key) (u : V), kvs[i]? = some (k, u) → ∃ r, R[i]? = some r ∧ k = Sum.inl (r.1 : Int) := fun i k u e => by
    obtain ⟨r, h1, h2, _⟩ := paired_get hK e
    exact ⟨r, h1, h2⟩
  refine q_asg (v := .int 1) ev_c fun H1 e1 => ?_
  have hD1 := e1 _ _ hD
  refine ⟨d, _, hD1, trivial, fun od => ?_⟩
  have hK1 : KvR K (upd H1 d (.frz od (.dK kvs))) R kvs := kvr_updD (hK.mono e1) hD1
  refine s_forI (ei_keys (tl := tVar 0) (d := d) (o := od) (kvs := kvs) (ev_var rfl) upd_same) (fun H2 i σ' H' => (∃ u4 u5, σ' = [some (.ref d), some (.int (f : Nat)), some (.int (wd : Nat)), some (.int (Sp.sclGo f (R.take i) 1)), u4, u5, none]) ∧ Ex H2 H') (fun H2 _ => ⟨⟨none, none, rfl⟩, Ex.refl H2⟩) (fun _ _ _ _ h => h.2) ?_ ?_
  · rintro H2 i x σ' H3 H4 hi e2 ⟨⟨u4, u5, rfl⟩, e3⟩ e4 ⟨k, u, hk, rfl⟩
    obtain ⟨r, hri, rfl⟩ := key i k u hk
    have hr := List.mem_of_getElem? hri
    have ee := (e2.trans e3).trans e4
    obtain ⟨b, b1, b2⟩ := (hK1.mono ee).look (row_look W.nd hr)
    obtain ⟨l1, l2⟩ := W.len r hr
    have hp := W.pos r hr
    have r6 := W.br r hr
    have hfz : H4 d = some (.frz od (.dK kvs)) := ee _ _ upd_same
    refine q_asg (v := .int (Sp.ent r.2 r.1)) (ev_ixV (K := K) (ev_dget (k := Sum.inl (r.1 : Int)) (ev_var rfl) (ev_var rfl) (.inr ⟨_, hfz⟩) b1) (ev_var rfl) b2 (by omega)) fun H6 e6 => ?_
    have gl : (Nat.gcd (Sp.ent r.2 r.1).natAbs (Sp.ent r.2 f).natAbs) ≤ (Sp.ent r.2 r.1).natAbs := Nat.gcd_le_left _ (by omega)
    have gp : 0 < Nat.gcd (Sp.ent r.2 r.1).natAbs (Sp.ent r.2 f).natAbs := Nat.gcd_pos_of_pos_left _ (by omega)
    have eg : Ev (tCB rGcd (tCons (tVar 5) (tCons (tOp (rIxT K) (tDGet (tVar 0) (tVar 4)) (tVar 1)) tNil))) [some (.ref d), some (.int (f : Nat)), some (.int (wd : Nat)), some (.int (Sp.sclGo f (R.take i) 1)), some (.int (r.1 : Int)), some (.int (Sp.ent r.2 r.1)), none] H6 (.int (Nat.gcd (Sp.ent r.2 r.1).natAbs (Sp.ent r.2 f).natAbs : Nat)) :=
      ev_gcd (ea_cons (ev_var rfl) (ea_cons (ev_ixV (K := K) (ev_dget (k := Sum.inl (r.1 : Int)) (ev_var rfl) (ev_var rfl) (.inr ⟨_, e6 _ _ hfz⟩) b1) (ev_var rfl) (ex_t e6 b2) (by rw [l1]; exact W.fw)) ea_nil))
    have ed := ev_div (ta := tVar 5) (ev_var rfl) eg ⟨by omega, log_small (z := ((Nat.gcd (Sp.ent r.2 r.1).natAbs (Sp.ent r.2 f).natAbs : Nat) : Int)) (n := 8000) (Nat.lt_of_le_of_lt gl (r6 r.1)) (by decide) (by decide)⟩
    refine s_asg (ev_lcm (ea_cons (ev_var rfl) (ea_cons ed ea_nil)) (pow_lt (W.sc i) (by decide)) (Nat.lt_of_le_of_lt (nat_div_le _ _) (pow_lt (r6 r.1) (by decide)))) fun H7 e7 => ⟨⟨some (.int (r.1 : Int)), some (.int (Sp.ent r.2 r.1)), ?_⟩, (e3.trans e4).trans (e6.trans e7)⟩
    rw [sclGo_take hri]
    rfl
  · rintro H2 σ' H3 e2 ⟨⟨u4, u5, rfl⟩, e3⟩
    rw [hlk, List.take_length]
    have e23 := e2.trans e3
    refine ⟨e23 _ _ upd_same, ?_⟩
    have e4 : Ex H (upd H3 d (.dK kvs)) := e1.trans (ex_back hD1 e23)
    generalize (upd H3 d (.dK kvs)) = H4 at e4
    have bs : (Sp.scl R f).natAbs < 2 ^ 12000 := by
      have := W.sc R.length
      rwa [List.take_length] at this
    refine q_asgL (i := 6) (xs := List.replicate wd (.int 0)) (el_rep1 (el_lst (ea_cons ev_c ea_nil) (by show 1 ≤ 100000; decide)) (fun _ _ => ev_var rfl) (by have := W.sz; omega)) fun l H5 hl e5 hl5 => ?_
    refine q_setV hl5 (ev_var rfl) (ev_var rfl) (ev_var rfl) (by rw [List.length_replicate]; exact W.fw) fun H6 e6 => ?_
    rw [show Sp.sclGo f R 1 = Sp.scl R f from rfl, fill_zero W.fw]
    have e46 := e5.trans e6
    have hlH : H l = none := by
      cases e : H l with
      | none => rfl
      | some o => rw [e4 _ _ e] at hl; cases hl
    have hdl : d ≠ l := fun z => by rw [z] at hD; rw [hD] at hlH; cases hlH
    have e7 : Ex H (upd H6 l (.lst (iVs (fill R f wd 0)))) := ex_fresh2 (e4.trans e46) hlH
    have hD7 := e7 _ _ hD
    have hl7 : (upd H6 l (.lst (iVs (fill R f wd 0)))) l = some (.lst (iVs (fill R f wd 0))) := upd_same
    generalize (upd H6 l (.lst (iVs (fill R f wd 0)))) = H7 at e7 hD7 hl7
    refine ⟨d, _, hD7, trivial, fun od2 => ?_⟩
    have hK8 : KvR K (upd H7 d (.frz od2 (.dK kvs))) R kvs := kvr_updD (hK.mono e7) hD7
    have hl8 : (upd H7 d (.frz od2 (.dK kvs))) l = some (.lst (iVs (fill R f wd 0))) := by rw [upd_ne (Ne.symm hdl)]; exact hl7
    have hd8 : (upd H7 d (.frz od2 (.dK kvs))) d = some (.frz od2 (.dK kvs)) := upd_same
    have hx8 : ∀ c u, c ≠ d → H7 c = some u → (upd H7 d (.frz od2 (.dK kvs))) c = some u := fun c u hc h => by rw [upd_ne hc]; exact h
    generalize (upd H7 d (.frz od2 (.dK kvs))) = H8 at hK8 hl8 hd8 hx8
    refine ⟨_, rfl, d, od2, rfl, .inl ⟨kvs, hd8, for_it (walk_keys (d := d) (o := od2)) (fun i σ' H' => (∃ u4, σ' = [some (.ref d), some (.int (f : Nat)), some (.int (wd : Nat)), some (.int (Sp.scl R f)), u4, u5, some (.ref l)]) ∧ ExB l H8 H' ∧ H' l = some (.lst (iVs (fill R f wd i)))) ⟨⟨_, rfl⟩, ExB.of (Ex.refl H8), hl8⟩ (fun i σ' H' _ h => h.2.1 _ _ hd8 hdl) ?_ ?_⟩⟩
    · rintro i x σ' H9 H10 hi ⟨⟨u4, rfl⟩, x9, hl9⟩ ⟨rfl, k, u, hk, rfl⟩
      obtain ⟨r, hri, rfl⟩ := key i k u hk
      have hr := List.mem_of_getElem? hri
      have hK9 := kvr_L hK8 hl8 x9
      obtain ⟨b, b1, b2⟩ := hK9.look (row_look W.nd hr)
      obtain ⟨l1, l2⟩ := W.len r hr
      have hp := W.pos r hr
      have r6 := W.br r hr
      have hfz : H10 d = some (.frz od2 (.dK kvs)) := x9 _ _ hd8 hdl
      have hne : r.1 ≠ f := fun z => W.fr (z ▸ List.mem_map.mpr ⟨r, hr, rfl⟩)
      have eat : Sp.solAt R f r.1 = -(Sp.ent r.2 f) * Sp.scl R f / Sp.ent r.2 r.1 := by
        unfold Sp.solAt
        rw [if_neg hne, if_pos (List.mem_map.mpr ⟨r, hr, rfl⟩), Sp.rowAt_mem W.nd (show (r.1, r.2) ∈ R from hr)]
      have hn2 : (-(Sp.ent r.2 f)).natAbs < 2 ^ 8000 := by rw [Int.natAbs_neg]; exact r6 f
      refine s_setV (v := .int (Sp.solAt R f r.1)) (j := r.1) hl9 (ev_is (ev_div (ev_mul (ev_un (ev_ixV (K := K) (ev_dget (k := Sum.inl (r.1 : Int)) (ev_var rfl) (ev_var rfl) (.inr ⟨_, hfz⟩) b1) (ev_var rfl) b2 (by rw [l1]; exact W.fw)) ru_neg) (ev_var rfl) (wide_mul hn2 bs (by decide) (by decide) (by decide))) (ev_ixV (K := K) (ev_dget (k := Sum.inl (r.1 : Int)) (ev_var rfl) (ev_var rfl) (.inr ⟨_, hfz⟩) b1) (ev_var rfl) b2 (by omega)) ⟨hp, log_small (r6 r.1) (by decide) (by decide)⟩) (by rw [eat])) (ev_var rfl) (ev_var rfl) (by rw [iVs_len, fill_len]; exact l2) fun H11 e11 => ⟨⟨_, rfl⟩, ?_, ?_⟩
      · intro c u2 hc hcl
        rw [upd_ne hcl]
        exact e11 _ _ (x9 _ _ hc hcl)
      · rw [upd_same, fill_next hri l2 hne]
    · rintro σ' H9 ⟨⟨u4, rfl⟩, x9, hl9⟩
      rw [hlk, fill_all] at hl9
      refine ⟨x9 _ _ hd8 hdl, ?_⟩
      have hl10 : (upd H9 d (.dK kvs)) l = some (.lst (iVs (Sp.sol R f wd))) := by rw [upd_ne (Ne.symm hdl)]; exact hl9
      refine s_retU (eu_tupA (K := K) (ev_var rfl) (sq_of hl10)) fun p H11 _ e11 hp => q H11 p (fun c u hc => e11 _ _ ?_) (st_of hp)
      by_cases cd : c = d
      · subst cd
        rw [upd_same]
        rw [hD] at hc
        exact hc
      · rw [upd_ne cd]
        exact x9 _ _ (hx8 c u cd (e7 _ _ hc)) fun z => by rw [z, hlH] at hc; cases hc
end
end Tx

/-! part U3 -/
/-! t[::-1] of a tuple. -/
namespace Tx
open PySem PySem.Spec PyProof PyProof.Rows L2 Evl Jb
section
variable {prog : Program} {w : World} {A : Around} {E : Value → Shared → Prop} {s : Shared}
theorem adjust_rev (n : Nat) : Builtin.Slice.sliceAdjust none none (-1) (n : Int) = ((n : Int) - 1, -1) := by
  unfold Builtin.Slice.sliceAdjust
  simp
theorem places_rev (n : Nat) : Builtin.Slice.slicePlaces ((n : Int) - 1) (-1) (-1) = n := by
  unfold Builtin.Slice.slicePlaces
  rw [if_neg (by decide)]
  by_cases c : (n : Int) - 1 > -1
  · rw [if_pos c]
    simp
  · rw [if_neg c]
    have : n = 0 := by omega
    subst this
    rfl
theorem fm_congr {α β : Type} {f g : α → Option β} : ∀ {l : List α}, (∀ a ∈ l, f a = g a) → l.filterMap f = l.filterMap g
  | [], _ => rfl
  | a :: l, h => by
    rw [List.filterMap_cons, List.filterMap_cons, h a List.mem_cons_self, fm_congr fun b hb => h b (List.mem_cons_of_mem _ hb)]
theorem pick_rev (xs : Array Value) : ((List.range xs.size).filterMap fun (m : Nat) => xs[((xs.size : Int) - 1 + (m : Int) * -1).toNat]?).toArray = xs.toList.reverse.toArray := by
  congr 1
  have key : ∀ l : List Value, (List.range l.length).filterMap (fun m => l[l.length - 1 - m]?) = l.reverse := by
    intro l
    have e : (List.range l.length).filterMap (fun m => l[l.length - 1 - m]?) = (List.range l.length).filterMap (fun m => l.reverse[m]?) := by
      refine fm_congr fun m hm => ?_
      rw [List.getElem?_reverse (List.mem_range.mp hm)]
    rw [e]
    have h2 : ∀ r : List Value, (List.range r.length).filterMap (fun m => r[m]?) = r := by
      intro r
      induction r with
      | nil => rfl
      | cons a r ih =>
        rw [List.length_cons, List.range_succ_eq_map, List.filterMap_cons]
        simp only [List.getElem?_cons_zero, List.filterMap_map]
        exact congrArg (a :: ·) ih
    have := h2 l.reverse
    rwa [List.length_reverse] at this
  rw [← key xs.toList]
  refine fm_congr fun m hm => ?_
  have hm := List.mem_range.mp hm
  have : ((xs.size : Int) - 1 + (m : Int) * -1).toNat = xs.toList.length - 1 - m := by rw [Array.length_toList]; omega
  rw [this, Array.getElem?_toList]
theorem sliceApplied_rev {sl : Addr} {vl vu vs : Value} {n : Nat} {Q : Int × Int × Nat → Shared → Prop} (hs : s.heap.IsSliceOf sl vl vu vs) (pl : IsPart vl none) (pu : IsPart vu none) (ps : IsPart vs (some (-1)))
    (h : Q ((n : Int) - 1, -1, n) s) : wpAny (model prog w) A (Builtin.Slice.sliceApplied (.ref sl) (pure (n : Int))) Q E s := by
  obtain ⟨os, hos, hcs, hds⟩ := id hs
  unfold Builtin.Slice.sliceApplied Builtin.Slice.sliceFields
  refine wpAny_bind (wpAny_bind (wpAny_field hos hds (x := vl) rfl (wpAny_bind (wpAny_field hos hds (x := vu) rfl (wpAny_bind (wpAny_field hos hds (x := vs) rfl (wpAny_pure ?_)))))))
  refine wpAny_bind (HT.slicePart_ ps ?_)
  show wpAny _ _ (if ((-1 : Int) == 0) = true then _ else _) _ _ s
  rw [if_neg (by decide)]
  refine wpAny_bind (HT.slicePart_ pl (wpAny_bind (HT.slicePart_ pu (wpAny_bind (wpAny_pure ?_)))))
  show wpAny _ _ (match Builtin.Slice.sliceAdjust none none (-1) (n : Int) with | (lo, hi) => pure (lo, (-1 : Int), Builtin.Slice.slicePlaces lo hi (-1))) _ _ s
  rw [adjust_rev n]
  show wpAny _ _ (pure ((n : Int) - 1, (-1 : Int), Builtin.Slice.slicePlaces ((n : Int) - 1) (-1) (-1))) _ _ s
  rw [places_rev]
  exact wpAny_pure h
theorem getItem_tuple_rev {t sl : Addr} {items : Array Value} {vl vu vs : Value} {Q : Value → Shared → Prop} (ht : IsTup s.heap t items) (hs : s.heap.IsSliceOf sl vl vu vs) (pl : IsPart vl none) (pu : IsPart vu none) (ps : IsPart vs (some (-1)))
    (h : Q (.ref s.heap.objs.size) { s with heap := s.heap.push { cls := .type "tuple", data := .seq items.toList.reverse.toArray } })
    (hsz : items.size ≤ sizeLine) : wpAny (model prog w) A (getItem (.ref t) (.ref sl)) Q E s := by
  have htake : sizeOk (.seq items.toList.reverse.toArray) := by
    show items.toList.reverse.toArray.size ≤ sizeLine
    rw [List.size_toArray, List.length_reverse, Array.length_toList]
    exact hsz
  obtain ⟨os, hos, hcs, hds⟩ := id hs
  have hTs : s.TypeIs (.ref sl) "slice" := ⟨os, hos, hcs⟩
  unfold getItem
  try with_reducible refine wpAny_holding ?_
  first | refine wpAny_bind (wpAny_pure ?_) | skip
  refine wpAny_bind (wpAny_sequenceKey ht.typeIs (by decide) ?_)
  refine wpAny_bind (wpAny_callSpecial?_slot (name := Str.ofString "__getitem__") ht.typeIs PyProof.Rows.slot_tuple_getitem
    (wpAny_call_entry PyProof.Rows.slot_tuple_getitem ht.typeIs entry_tuple_getitem ?_ (args_tuple_getitem _ _)))
  show wpAny _ _ (Builtin.Tuple.tupleItemsOf (.ref t) >>= _) _ _ s
  refine wpAny_bind (tupleItemsOf_ ht ?_)
  refine wpAny_bind (wpAny_typeOf hTs ?_)
  rw [if_pos (by decide)]
  refine wpAny_bind (sliceApplied_rev hs pl pu ps ?_)
  have hno : ¬ ((((items.size : Int) - 1) == 0 && (-1 : Int) == 1 && items.size == items.size) = true) := by
    intro q
    rw [Bool.and_eq_true, Bool.and_eq_true] at q
    exact absurd q.1.2 (by decide)
  show wpAny _ _ (if (((items.size : Int) - 1) == 0 && (-1 : Int) == 1 && items.size == items.size) = true then _ else _) _ _ s
  rw [if_neg hno, pick_rev]
  first
    | exact wpAny_bind (m := Builtin.Tuple.tupleExact _) (wpAny_newObj_type (wpAny_pure ⟨_, rfl, wpAny_pure h⟩) htake)
    | exact wpAny_bind (m := Builtin.Tuple.tupleExact _) (wpAny_newObj_type (wpAny_bind (wpAny_pure (wpAny_pure ⟨_, rfl, wpAny_pure h⟩))) htake)
    | exact wpAny_bind (wpAny_bind (m := Builtin.Tuple.tupleExact _) (wpAny_newObj_type (wpAny_pure (wpAny_pure ⟨_, rfl, wpAny_pure h⟩)) htake))
    | exact wpAny_bind (wpAny_bind (m := Builtin.Tuple.tupleExact _) (wpAny_newObj_type (wpAny_pure ⟨_, rfl, wpAny_pure h⟩) htake))
end
def tRevT (K : PySem.W.Frag) (te : TE) : TE := fun σ H Q => te σ H fun x H1 => ∃ a xs, x = .ref a ∧ SqT K H1 a xs ∧ ∀ p, H1 p = none → Q (.ref p) (upd H1 p (.tup xs.reverse))
theorem pe_revT {X : Cx} {e : Expr} {te : TE} {k : Nat} {p1 p2 p3 pos : Pos} (he : PE X e te) : PE X (.Subscript e (.Slice none none (some (.UnaryOp .USub (.Constant (.int 1) k p1) p2)) p3) pos) (tRevT X.K te) := by
  refine ⟨fun pins s σ H Q I h => ?_⟩
  refine Subscript_ (thn (he.run pins s σ H _ I h) fun v s1 ⟨x, H1, I1, r1, q1⟩ => ?_)
  obtain ⟨a, xs, ex, hx, q⟩ := q1
  subst ex
  cases r1
  have hst : PO X (some (.UnaryOp .USub (.Constant (.int 1) k p1) p2)) (tPart (tUn (rU fun i => .int (-i)) (tC (.int 1)))) := po_some (pe_un un_neg pe_int)
  refine wpAny_Slice (thn (po_none.run pins s1 σ H1 (fun o H2 => o = none ∧ H2 = H1) I1 ⟨rfl, rfl⟩) fun vl s2 ⟨l, H2, I2, pl, el, e2⟩ => ?_)
  subst el e2
  refine thn (po_none.run pins s2 σ H2 (fun o H3 => o = none ∧ H3 = H2) I2 ⟨rfl, rfl⟩) fun vu s3 ⟨u, H3, I3, pu, eu, e3⟩ => ?_
  subst eu e3
  refine thn (hst.run pins s3 σ H3 (fun o H4 => o = some (-1) ∧ H4 = H3) I3 ⟨1, rfl, -1, rfl, rfl, rfl⟩) fun vs s4 ⟨o, H4, I4, ps, eo, e4⟩ => ?_
  subst eo e4
  have I5 : Inv X pins σ H4 { s4 with heap := s4.heap.push { cls := .type "slice", data := .fields #[vl, vu, vs] } } := I4.kept (t' := s4.toks) fun b ob q => Heap.get?_push_of_some _ q
  obtain ⟨its, r, ht, hz⟩ := I5.tuple hx
  have hlen := r.length
  show wpAny (model X.prog X.w) X.A (subscriptTail e (.Slice none none (some (.UnaryOp .USub (.Constant (.int 1) k p1) p2)) p3) (.ref a) (.ref s4.heap.objs.size)) (EP X pins σ Q) X.xe { s4 with heap := s4.heap.push { cls := .type "slice", data := .fields #[vl, vu, vs] } }
  refine tail_any (ops := [.ref a, .ref s4.heap.objs.size]) ht.typeIs (PyProof.Rows.slot_tuple_getitem.lookup) ?_ (by with_unfolding_all rfl)
  refine getItem_tuple_rev ht (Heap.IsSliceOf.new _ vl vu vs) pl pu ps ?_ (by rw [List.size_toArray]; omega)
  refine ⟨.ref _, _, I5.laid (t' := s4.toks) (o := .tup xs.reverse) (fun b ob q => Heap.get?_push_of_some _ q) (Nat.le_refl _) ?_, rfl, q _ (I5.hok.fresh (Nat.le_refl _))⟩
  exact ⟨by rw [List.length_reverse]; exact hz, _, r.reverse, IsTup.new _ _⟩
end Tx

/-! part U4 -/
/-! complement(basis, width). -/
namespace Tx
open PySem PySem.Spec PyProof.Rows L2 Evl Jb
section
variable {P : Program} {w : World} {K : PySem.W.Frag} {mg : Str → Option Value} {base : Heap} {H H' : Hp} {σ : L2.St} {te ta tb tl : TE} {D : Ends} {tz tu : TS} {i : Nat} {g : TG} {wi : TI} {us : List V}
/-- a comprehension whose items are new things, and the list under way is known to be a list -/
theorem el_lcQ {vs : List Nat} {n : Nat} {Pt : Nat → V → Hp → Prop} (R : Addr → Nat → V → Hp → Prop) (hR : ∀ D i y G G', R D i y G → ExB D G G' → R D i y G') (S : Nat → L2.St → Prop) (hw : EvI wi σ H n Pt) (hn : n ≤ 40000)
    (hg : ∀ i x H2, i < n → Ex H H2 → Pt i x H2 → ∀ Q : L2.St → Hp → Prop, (∀ σ2, S i σ2 → wipe σ2 vs = wipe σ vs → Q σ2 H2) → g x (wipe σ vs) H2 Q)
    (he : ∀ i σ2 H2 D acc, i < n → S i σ2 → Ex H H2 → H D = none → H2 D = some (.lst acc) → ∀ Q : VK, (∀ H3 y, Ex H2 H3 → R D i y H3 → Q y H3) → te σ2 H2 Q) :
    ∀ H0, Ex H H0 → ∀ Q : VK, (∀ D H', Ex H0 H' → H0 D = none → (∃ acc, H' D = some (.lst acc) ∧ acc.length = n ∧ ∀ i y, acc[i]? = some y → R D i y H') → Q (.ref D) H') → tLc wi g tYes te vs σ H0 Q := fun H0 e0 Q q =>
  hw H0 e0 _ fun J H1 e1 ⟨G, Y, W, hG, hY⟩ Dl hD => by
    refine lc_it W (fun i H' => Ex H1 H' ∧ ∃ acc, H' Dl = some (.lst acc) ∧ acc.length = i ∧ ∀ k y, acc[k]? = some y → R Dl k y H') ⟨Ex.new hD, [], upd_same, rfl, fun k y hk => by simp at hk⟩ (fun i H2 _ p => hG H2 p.1) ?_ ?_
    · rintro i x H2 H3 hi ⟨p1, acc, p2, p3, p4⟩ y
      obtain ⟨e3, pt⟩ := hY i H2 x H3 hi p1 y
      have e4 : Ex H1 H3 := p1.trans e3
      refine hg i x H3 hi ((e0.trans e1).trans e4) pt _ fun σ2 s2 hwp => ⟨hwp, ?_⟩
      have hD3 : H3 Dl = some (.lst acc) := e3 _ _ p2
      have hDH : H Dl = none := by
        cases e : H Dl with
        | none => rfl
        | some o => rw [e1 _ _ (e0 _ _ e)] at hD; cases hD
      have key : te σ2 H3 (fun y H4 => ∃ ac, H4 Dl = some (.lst ac) ∧ ac.length < sizeLine ∧ (Ex H1 (upd H4 Dl (.lst (ac ++ [y]))) ∧ ∃ acc, (upd H4 Dl (.lst (ac ++ [y]))) Dl = some (.lst acc) ∧ acc.length = i + 1 ∧ ∀ k z, acc[k]? = some z → R Dl k z (upd H4 Dl (.lst (ac ++ [y]))))) := by
       refine he i σ2 H3 Dl acc hi s2 ((e0.trans e1).trans e4) hDH hD3 _ fun H4 z e5 rz => ?_
       have hD4 : H4 Dl = some (.lst acc) := e5 _ _ hD3
       refine ⟨acc, hD4, Nat.lt_of_lt_of_le (by omega : acc.length < 40001) (by decide), Ex.mut (e4.trans e5) hD, acc ++ [z], upd_same, by rw [List.length_append, p3]; rfl, fun k y hk => ?_⟩
       have xb : ExB Dl H2 (upd H4 Dl (.lst (acc ++ [z]))) := fun c o hc hne => by rw [upd_ne hne]; exact e5 _ _ (e3 _ _ hc)
       have xb4 : ExB Dl H4 (upd H4 Dl (.lst (acc ++ [z]))) := fun c o hc hne => by rw [upd_ne hne]; exact hc
       by_cases hk2 : k < acc.length
       · rw [List.getElem?_append_left hk2] at hk
         exact hR _ _ _ _ _ (p4 k y hk) xb
       · have hke : k = acc.length := by
           have := (List.getElem?_eq_some_iff.mp hk).1
           rw [List.length_append] at this
           have h1 : [z].length = 1 := rfl
           omega
         subst hke
         rw [List.getElem?_append_right (Nat.le_refl _), Nat.sub_self] at hk
         obtain rfl : z = y := Option.some.inj hk
         rw [p3]
         exact hR _ _ _ _ _ rz xb4
      exact key
    · rintro H2 ⟨p1, acc, p2, p3, p4⟩
      exact q Dl H2 (e1.trans p1) (fresh_back e1 hD) ⟨acc, p2, p3, p4⟩
/-- an expression gives a list of rows -/
def EvR (K : PySem.W.Frag) (te : TE) (σ : L2.St) (H : Hp) (rows : List (List Int)) : Prop := ∀ H1, Ex H H1 → ∀ Q : VK, (∀ L H2 xs, Ex H1 H2 → H2 L = some (.lst xs) → Refs K H2 rows xs → Q (.ref L) H2) → te σ H1 Q
theorem evr_var {t : Addr} {us : List V} {rows : List (List Int)} {j : Nat} (h : σ[j]? = some (some (.ref t))) (ht : H t = some (.lst us)) (hR : Refs K H rows us) : EvR K (tVar j) σ H rows := fun H1 e Q q => ⟨_, h, q t H1 us (Ex.refl H1) (e _ _ ht) (hR.mono e)⟩
theorem refs_idx {H : Hp} : ∀ {rows : List (List Int)} {acc : List V}, acc.length = rows.length → (∀ (i : Nat) y, acc[i]? = some y → ∃ r a, rows[i]? = some r ∧ y = .ref a ∧ SqT K H a (iVs r)) → Refs K H rows acc
  | [], [], _, _ => .nil
  | [], _ :: _, h, _ => by cases h
  | _ :: _, [], h, _ => by cases h
  | r :: rows, y :: acc, h, f => by
    refine .cons ?_ (refs_idx (by simpa using h) fun i z hz => by
      obtain ⟨r', a, h1, h2, h3⟩ := f (i + 1) z (by simpa using hz)
      exact ⟨r', a, by simpa using h1, h2, h3⟩)
    obtain ⟨r', a, h1, h2, h3⟩ := f 0 y rfl
    obtain rfl : r = r' := Option.some.inj h1
    exact ⟨a, h2, h3⟩
/-- [tuple(f(v)) for v in rows]: every row gives a new tuple -/
theorem evr_map {n vsl : Nat} {rows : List (List Int)} {us : List V} (f : List Int → List Int) (hn : σ.length = n) (hv : vsl < n) (hw : EvI wi σ H us.length (fun i x _ => us[i]? = some x)) (hR : Refs K H rows us) (hz : rows.length ≤ 1000)
    (he : ∀ (r : List Int) (a : Addr) H2, r ∈ rows → Ex H H2 → SqT K H2 a (iVs r) → EvU te ((wipe σ [vsl]).set vsl (some (.ref a))) H2 (iVs (f r))) (hwp : ∀ x, wipe ((wipe σ [vsl]).set vsl (some x)) [vsl] = wipe σ [vsl]) :
    EvR K (tLc wi (gName vsl) tYes te [vsl]) σ H (rows.map f) := fun H1 e1 Q q => by
  have hlen : us.length = rows.length := hR.length.symm
  refine el_lcQ (H := H) (σ := σ) (te := te) (g := gName vsl) (wi := wi) (vs := [vsl]) (n := us.length) (fun D i y G => ∃ b r, y = .ref b ∧ b ≠ D ∧ rows[i]? = some r ∧ G b = some (.tup (iVs (f r)))) (fun D i y G G' ⟨b, r, h1, h2, h3, h4⟩ x => ⟨b, r, h1, h2, h3, x _ _ h4 h2⟩)
    (fun i σ2 => ∃ r a, rows[i]? = some r ∧ SqT K H a (iVs r) ∧ σ2 = (wipe σ [vsl]).set vsl (some (.ref a))) hw (by omega)
    (fun i x H2 hi _ hx Q hQ => ?_) (fun i σ2 H2 D acc hi ⟨r, a, h1, h2, h3⟩ e hD hD2 Q q => ?_) H1 e1 Q (fun L H' e hL ⟨acc, g1, g2, g3⟩ => q L H' acc e g1 (refs_idx (by rw [g2, List.length_map]; omega) fun i y hy => ?_))
  · obtain ⟨r, hr, a, rfl, ha⟩ := paired_get hR hx
    exact hQ _ ⟨r, a, hr, ha, rfl⟩ (hwp _)
  · subst h3
    refine he r a H2 (List.mem_of_getElem? h1) e (ex_t e h2) H2 (Ex.refl H2) _ fun b H3 hb e3 hd => q H3 (.ref b) e3 ⟨b, r, rfl, (fun z => by rw [z, hD2] at hb; cases hb), h1, hd⟩
  · obtain ⟨b, r, a1, a2, a3, a4⟩ := g3 i y hy
    exact ⟨f r, b, by rw [List.getElem?_map, a3]; rfl, a1, st_of a4⟩
theorem eu_revV {r : List Int} {a : Addr} {j : Nat} (h : σ[j]? = some (some (.ref a))) (hs : SqT K H a (iVs r)) : EvU (tRevT K (tVar j)) σ H (iVs r.reverse) := fun H1 e Q q =>
  ⟨_, h, a, iVs r, rfl, ex_t e hs, fun p hp => q p _ hp (Ex.new hp) (by rw [upd_same]; unfold iVs; rw [List.map_reverse])⟩
theorem ei_rng1 {tr : TA} {n : Nat} (h : EvA tr σ H [.int (n : Nat)]) (hb : n ≤ 1000) : EvI (iRng1 tr) σ H n (fun i x _ => x = .int (i : Nat)) := fun H1 e R q =>
  h H1 e _ fun H2 e2 => ⟨n, rfl, by omega, by omega, q _ H2 e2 ⟨_, _, walk_range, fun _ _ => True.intro, fun i H3 x H4 _ e3 y => ⟨y.1 ▸ Ex.refl _, y.2.trans (congrArg V.int (Int.zero_add _))⟩⟩⟩
theorem ei_rev {t : Addr} {j : Nat} (h : σ[j]? = some (some (.ref t))) (ht : H t = some (.lst us)) : EvI (iList K (tRevL K (tVar j))) σ H us.reverse.length (fun i x _ => us.reverse[i]? = some x) := fun H1 e R q =>
  ⟨_, h, t, us, rfl, sq_of (e _ _ ht), fun p hp => ⟨p, rfl, ⟨us.reverse, sq_of upd_same⟩, q _ _ (Ex.new hp) ⟨_, _, walk_list (xs := us.reverse), fun H3 e3 => sq_of (e3 _ _ upd_same), fun i H3 x H4 _ _ y => ⟨y.1 ▸ Ex.refl _, y.2⟩⟩⟩⟩
end
theorem ret_tup {σ : L2.St} {H : Hp} {te : TE} {K : PySem.W.Frag} {D : Ends} (h : te σ H fun v H1 => rTup K [v] H1 D.rt) : tRet (tCB (rTup K) (tCons te tNil)) D σ H := h
theorem call1 {σ : L2.St} {H : Hp} {te : TE} {sp : Sp} {dvs : List V} {E : XK} {Q : VK} (h : te σ H fun v H1 => sp ([v] ++ dvs) H1 Q E) : tCall sp dvs E (tCons te tNil) σ H Q := h
abbrev nCom : List Str := ["basis", "width", "rows", "free", "row", "at"]
theorem sc_com : FnScope nCom ["basis", "width"] (defScope s_compl) := ⟨rfl, rfl, rfl, by decide +kernel, rfl, by decide +kernel, by decide +kernel⟩
def revs (b : List (List Int)) : List (List Int) := b.map List.reverse
def cR (b : List (List Int)) : Sp.Rows := Sp.srtR (Sp.red (revs b))
def compl (b : List (List Int)) (w : Nat) : List (List Int) := Sp.dualR (cR b) w
structure FitCm (b : List (List Int)) (w : Nat) : Prop where
  len : ∀ v ∈ b, v.length = w
  num : b.length ≤ 60
  go : FitGo [] (revs b)
  gd : ∃ D d, Sp.Good w (cR b) D d ∧ d ≤ 8000
  sz : w ≤ 100
theorem fitS_of {w f d : Nat} {R : Sp.Rows} {D : Int} (G : Sp.Good w R D d) (hd : d ≤ 8000) (hw : w ≤ 100) (hf : f ∈ Sp.free R w) : FitS R f w where
  len := G.len
  pos := G.pos
  nd := G.nd
  fr := (Sp.mem_free.mp hf).2
  fw := (Sp.mem_free.mp hf).1
  br := fun q hq j => pow_up (G.row_bd hq j) hd
  sc := fun i => by
    have h : Sp.sclGo f (R.take i) 1 ∣ D := Sp.scl_dvd ⟨D, (Int.one_mul D).symm⟩ fun r hr => G.ask_D (List.mem_of_mem_take hr)
    have h2 := Int.natAbs_dvd_natAbs.mpr h
    have := G.dpos
    exact pow_up (Nat.lt_of_le_of_lt (Nat.le_of_dvd (by omega) h2) G.dlt) (by omega)
  sz := by omega
  sr := by have := G.len_le; omega
section
variable {P : Program} {w : World} {K : PySem.W.Frag} {mg : Str → Option Value} {base : Heap}
/-- complement(basis, width) -/
def spCom (K : PySem.W.Frag) : Sp := fun vs H Q _ => ∃ a us b w, vs = [.ref a, .int (w : Nat)] ∧ SqT K H a us ∧ Refs K H b us ∧ FitCm b w ∧ ∀ H' p ws, Ex H H' → SqT K H' p ws → Refs K H' (compl b w) ws → Q (.ref p) H'
theorem ok_com (B : Bt mg) (F : Fd K mg "complement" s_compl ["basis", "width"]) (Fs : Fd K mg "solution" s_sol ["rows", "free", "width"]) (Cred : Cl P w K mg base 3 "reduced" ["vectors"] (spRed K)) (Cby : Cl P w K mg base 2 "by_pivots" ["basis"] (spByPiv K)) : Cl P w K mg base 4 "complement" ["basis", "width"] (spCom K) := by
  have Cs : Cl P w K mg base 1 "solution" ["rows", "free", "width"] (spSol K) := ok_sol B Fs
  refine cl_mk F sc_com (fun vs H Q E ⟨a, us, b, wd, e, _⟩ => by rw [e] <;> rfl) fun fa cdv A outer s H vs Q E hr ⟨a, us, b, wd, ev, hS, hR, W, q⟩ => ?_
  subst ev
  have hu := hr.units
  have h1 : Room 1 _ := hr.mono (by decide)
  have h2 : Room 2 _ := hr.mono (by decide)
  refine ⟨_, pss_cons (ps_set (i := 2) sc_com.nd rfl (by first | exact Or.inl rfl | exact Or.inr rfl) (pe_cl Cby h2 (by rfl) (pa_cons (pe_cl Cred hr (by rfl) (pa_cons
      (pe_lc (own := [("row", 4)]) (g := gName 4) (tt := tYes) (te := tRevT K (tVar 4)) rfl sc_com.nd (pi_tup (pv 0)) (blkOk_by (N := nCom) (sc := defScope s_compl) (by decide +kernel)) (fun _ _ _ _ _ => (pg_name (i := 4) sc_com.nd rfl (by first | exact Or.inl rfl | exact Or.inr rfl))) (fun _ _ _ _ _ => pts_nil) (fun _ _ _ _ _ => pe_revT (pv 4))) pa_nil)) pa_nil)))
    (pss_cons (ps_setLc (i := 3) (own := [("at", 5)]) (g := gName 5) (tt := tB (tDNotIn (tVar 5) (tVar 2))) (te := tVar 5) rfl sc_com.nd rfl rfl (sw_true rfl rfl rfl (by decide +kernel)) (pi_range1 (by rfl) B.range (pa_cons (pv 1) pa_nil)) (blkOk_by (N := nCom) (sc := defScope s_compl) (by decide +kernel)) (fun _ _ _ _ _ => (pg_name (i := 5) sc_com.nd rfl (by first | exact Or.inl rfl | exact Or.inr rfl))) (fun _ _ _ _ _ => pts_one (pt_cmp (pc_dnotin (by have := hr.units; exact Nat.lt_of_le_of_lt (Nat.add_le_add_left (by decide) _) this) (pv 5) (pv 2)))) (fun _ _ _ _ _ => pv 5))
    (pss_one (ps_ret (pe_callTy call_tuple_of (by rfl) B.tuple boot_tt (pa_cons
      (pe_lc (own := [("at", 5)]) (g := gName 5) (tt := tYes) (te := tRevT K (tCall (spSol K) [] E0 (tCons (tVar 2) (tCons (tVar 5) (tCons (tVar 1) tNil))))) rfl sc_com.nd (pi_list (pe_revL (pv 3))) (blkOk_by (N := nCom) (sc := defScope s_compl) (by decide +kernel)) (fun _ _ _ _ _ => (pg_name (i := 5) sc_com.nd rfl (by first | exact Or.inl rfl | exact Or.inr rfl))) (fun _ _ _ _ _ => pts_nil) (fun _ _ _ _ _ => pe_revT (pe_cl Cs h1 (by rfl) (pa_cons (pv 2) (pa_cons (pv 5) (pa_cons (pv 1) pa_nil)))))) pa_nil))))), ?_⟩
  obtain ⟨DD, dd, G, hdd⟩ := W.gd
  have hR0 : (cR b).length ≤ 1000 := by have := G.len_le; have := W.sz; omega
  refine q_asgE (call1 (call1 ?_))
  refine evr_map (K := K) (σ := L2.start nCom [.ref a, .int (wd : Nat)]) (n := 6) (vsl := 4) (rows := b) (us := us) List.reverse rfl (by decide) (ei_tup (K := K) (tl := tVar 0) (ev_var rfl) hS) hR (by have := W.num; omega)
    (fun r c H2 hr e2 hs => eu_revV (K := K) (a := c) rfl hs) (fun _ => rfl) H (Ex.refl H) _ fun L H1 xs e1 hL hRx => ?_
  refine ⟨true, L, xs, revs b, rfl, sq_of hL, hRx, by unfold revs; rw [List.length_map]; exact W.num, W.go, srt_keys.nodup_iff.mp G.nd, fun H2 p ws e2 hp hws => ⟨p, ws, cR b, rfl, hp, hws, G.pv, G.nd, hR0, fun H3 Dd kvs hD0 e3 hD hK => ?_⟩⟩
  have hg := el_lcG (t := tB (tDNotIn (tVar 5) (tVar 2))) (te := tVar 5) (g := gName 5) (wi := iRng1 (tCons (tVar 1) tNil)) (σ := [some (.ref a), some (.int (wd : Nat)), some (.ref Dd), none, none, none]) (H := H3) (vs := [5]) (fun i => !decide (i ∈ (cR b).map (·.1))) (fun i => .int (i : Nat))
    (fun i σ2 => σ2[5]? = some (some (.int (i : Nat))) ∧ σ2[2]? = some (some (.ref Dd))) (ei_rng1 (n := wd) (ea_cons (ev_var rfl) ea_nil) (by have := W.sz; omega)) (by have := W.sz; omega)
    (fun i x H4 hi _ hx Q hQ => by
      subst hx
      exact hQ _ ⟨rfl, rfl⟩ rfl)
    (fun i σ2 H4 hi ⟨g5, g2⟩ e4 => et_B fun H5 e5 Q q => ⟨_, g5, _, g2, Dd, valV kvs (Sum.inl (i : Int)), rfl, .inl ⟨kvs, Sum.inl (i : Int), .inl (e5 _ _ (e4 _ _ hD)), rfl, rfl⟩, by
      have hb : (!(valV kvs (Sum.inl (i : Int))).isSome) = !decide (i ∈ (cR b).map (·.1)) := by
        by_cases c : i ∈ (cR b).map (·.1)
        · obtain ⟨r, hr, e⟩ := List.mem_map.mp c
          obtain ⟨bb, b1, _⟩ := hK.look (row_look G.nd hr)
          rw [← e, b1]
          have : r.1 ∈ (cR b).map (·.1) := List.mem_map.mpr ⟨r, hr, rfl⟩
          simp [this]
        · rw [hK.none c]
          simp [c]
      rw [hb]
      exact q H5 (Ex.refl H5)⟩)
    (fun i σ2 H4 hi ⟨g5, g2⟩ _ _ => ev_var g5)
  refine q_asgL (i := 3) hg fun l H4 hl0 e4 hl4 => ?_
  have hD4 := e4 _ _ hD
  have hK4 := hK.mono e4
  have hl4 : H4 l = some (.lst ((Sp.free (cR b) wd).map fun i => V.int (i : Nat))) := hl4
  have hrev : ∀ (i : Nat) (x : V), ((Sp.free (cR b) wd).map fun i => V.int (i : Nat)).reverse[i]? = some x → ∃ f : Nat, (Sp.free (cR b) wd).reverse[i]? = some f ∧ x = .int (f : Nat) := fun i x hx => by
    rw [← List.map_reverse, List.getElem?_map] at hx
    cases e : (Sp.free (cR b) wd).reverse[i]? with
    | none => rw [e] at hx; cases hx
    | some f => rw [e] at hx; exact ⟨f, rfl, (Option.some.inj hx).symm⟩
  have hfl : (Sp.free (cR b) wd).length ≤ wd := by have := Sp.free_len G; omega
  refine ret_tup ?_
  refine el_lcQ (H := H4) (σ := [some (.ref a), some (.int (wd : Nat)), some (.ref Dd), some (.ref l), none, none]) (te := tRevT K (tCall (spSol K) [] E0 (tCons (tVar 2) (tCons (tVar 5) (tCons (tVar 1) tNil))))) (g := gName 5) (wi := iList K (tRevL K (tVar 3))) (vs := [5]) (n := ((Sp.free (cR b) wd).map fun i => V.int (i : Nat)).reverse.length)
    (fun Dl i y G' => ∃ c f, y = .ref c ∧ c ≠ Dl ∧ (Sp.free (cR b) wd).reverse[i]? = some f ∧ G' c = some (.tup (iVs (Sp.sol (cR b) f wd).reverse))) (fun Dl i y G1 G2 ⟨c, f, h1, h2, h3, h4⟩ x => ⟨c, f, h1, h2, h3, x _ _ h4 h2⟩)
    (fun i σ2 => ∃ f : Nat, (Sp.free (cR b) wd).reverse[i]? = some f ∧ σ2[5]? = some (some (.int (f : Nat))) ∧ σ2[2]? = some (some (.ref Dd)) ∧ σ2[1]? = some (some (.int (wd : Nat)))) (ei_rev (K := K) (j := 3) rfl hl4) (by rw [List.length_reverse, List.length_map]; have := W.sz; omega)
    (fun i x H5 hi _ hx Q hQ => by
      obtain ⟨f, hf, rfl⟩ := hrev i x hx
      exact hQ _ ⟨f, hf, rfl, rfl, rfl⟩ rfl)
    (fun i σ2 H5 Dl acc hi ⟨f, hf, g5, g2, g1⟩ e5 hDl hDl2 Q q => ?_) H4 (Ex.refl H4) _ fun Dl H5 e5 hDl ⟨acc, a1, a2, a3⟩ => ?_
  · have hff : f ∈ Sp.free (cR b) wd := List.mem_reverse.mp (List.mem_of_getElem? hf)
    refine ⟨_, g2, _, g5, _, g1, Dd, kvs, cR b, f, wd, rfl, e5 _ _ hD4, hK4.mono e5, fitS_of G hdd W.sz hff, fun H6 p e6 hp => ⟨p, _, rfl, hp, fun p2 hp2 => ?_⟩⟩
    refine q _ (.ref p2) (e6.trans (Ex.new hp2)) ⟨p2, f, rfl, fun z => ?_, hf, ?_⟩
    · have := e6 _ _ hDl2
      rw [← z, hp2] at this
      cases this
    · rw [upd_same]
      unfold iVs
      rw [List.map_reverse]
  · refine ⟨Dl, acc, rfl, .inl ⟨sq_of a1, fun t ht => ?_⟩⟩
    have en := Ex.new (o := .tup acc) ht
    refine q _ t acc ((((e1.trans e2).trans e3).trans e4).trans (e5.trans en)) (st_of upd_same) ?_
    refine Refs.mono en (refs_idx (by rw [a2, List.length_reverse, List.length_map]; unfold compl Sp.dualR; rw [List.length_map, List.length_reverse]) fun i y hy => ?_)
    obtain ⟨c, f, y1, y2, y3, y4⟩ := a3 i y hy
    refine ⟨(Sp.sol (cR b) f wd).reverse, c, ?_, y1, st_of y4⟩
    unfold compl Sp.dualR
    rw [List.getElem?_map, y3]
    rfl
end
end Tx

/-! part U5 -/
/-! Spaces: len, what stands, what is made; operators of an own class that return. -/
namespace Tx
section
open PySem PySem.Spec PySem.Calls PySem.W PyProof.Rows
variable {prog : Program} {w : World} {A : Around} {E : Value → Shared → Prop} {s : Shared} {K : PySem.W.Frag} {x C f : Addr} {ox : Obj} {od : Option Obj} {T : String}
theorem bin_retC {op : Operator} {b : Value} {Q : Value → Shared → Prop} (X : K.In s.heap) (I : InstAt s.heap x ox C od) (hb : Looks (model prog w) s.heap (typeOf b) (.ref C)) (hc : selfFirst K C = true)
    (hs : findIn K (.ref C) (PySem.dunder op.info.2) = some (some (.ref f))) (hf : isFn K (.ref f) = true)
    (h : wpAny (model prog w) A (call (.ref f) [.ref x, b]) (PySem.W.CmpBack Q) E s) : wpAny (model prog w) A (binaryOp op (.ref x) b) Q E s := by
  obtain ⟨cd, rest, hcd, hm⟩ := ksp_first hc
  rcases e0 : op.info with ⟨sg, nn⟩
  rw [e0] at hs
  dsimp only at hs
  have one := ksp_try X I hs hf h
  obtain ⟨hh, gn, dr, tk, os⟩ := s
  have T1 : Looks (model prog w) hh (typeOf (.ref x)) (.ref C) := I.type
  have T2 : Looks (model prog w) hh (typeOf b) (.ref C) := hb
  have S1 : Looks (model prog w) hh (fillsNumberSlot (.ref C) nn) true := fills_K X hcd hm hs
  simp only [binaryOp, e0]
  refine wpAny_holding (wpAny_bind ?_)
  unfold binaryOp1
  refine wpAny_bind (T1.at (wpAny_bind (T2.at (wpAny_bind (S1.at ?_)))))
  simp only [beq_self_eq_true, if_true]
  ksp_lk
  refine wpAny_mono one (fun r s' hr' => ?_) fun _ _ e => e
  obtain ⟨v, rfl, hq⟩ := hr'
  ksp_lk
  exact hq
end
open PySem PySem.Spec PyProof.Rows L2 Evl Jb
def rBinO (K : PySem.W.Frag) (C : Addr) (sp : Sp) : R2 := fun x y H Q => ∃ a dx fs, x = .ref a ∧ H a = some (.ins C dx fs) ∧ TyX K H y (.ref C) ∧ sp [x, y] H (fun v H3 => (∃ r, v = .ref r) ∧ Q v H3) E0
def rInvO (C : Addr) (sp : Sp) : V → Hp → VK → Prop := fun x H Q => ∃ a dx fs, x = .ref a ∧ H a = some (.ins C dx fs) ∧ sp [x] H Q E0
section
variable {X : Cx} {k : Nat} {f C : Addr} {fd : FuncData} {ps : List Str} {sp : Sp}
theorem op_binO {op : Operator} (first : PySem.W.selfFirst X.K C = true) (hs : PySem.W.findIn X.K (.ref C) (PySem.dunder op.info.2) = some (some (.ref f))) (hf : PySem.W.isFn X.K (.ref f) = true) (F : FnOk X.prog X.w X.K X.mg X.base (L2.CX X.prog X.w) k f fd ps sp) (hr : Room k X.A) (hb : Binds X.K fd ps []) : OpR X (binaryOp op) (rBinO X.K C sp) := by
  rintro pins s σ H x y v u Q I rx ry ⟨a, dx, fs, ex, ea, ty, q⟩
  subst ex
  obtain rfl : v = Value.ref a := rx
  obtain ⟨mA, Oi, _⟩ := ins_get I.hok ea
  obtain ⟨od, J, _⟩ := Oi.look
  obtain ⟨Pz, Z, pz, _⟩ := kit_of I ry ty
  refine bin_retC I.kIn J (Z.ty _ _ I.kIn pz) first hs hf ?_
  refine wpAny_mono (run_fn (us := [.ref a, u]) (vs := [.ref a, y]) (dvs := []) (ds := []) F hr hb .nil passL I (.cons rfl (.cons ry .nil)) q) (fun v s1 ⟨z, H3, I3, rz, ⟨r, e⟩, q3⟩ => ?_) fun _ _ e => e
  subst e
  obtain rfl : v = Value.ref r := rz
  exact ⟨.ref r, H3, I3, rfl, q3⟩
theorem un_invO (hs : PySem.W.findIn X.K (.ref C) "__invert__" = some (some (.ref f))) (hf : PySem.W.isFn X.K (.ref f) = true) (F : FnOk X.prog X.w X.K X.mg X.base (L2.CX X.prog X.w) k f fd ps sp) (hr : Room k X.A) (hb : Binds X.K fd ps []) : UnR X (unaryOp .Invert) (rInvO C sp) := by
  rintro pins s σ H x v Q I rx ⟨a, dx, fs, ex, ea, q⟩
  subst ex
  obtain rfl : v = Value.ref a := rx
  obtain ⟨mA, Oi, _⟩ := ins_get I.hok ea
  obtain ⟨od, J, _⟩ := Oi.look
  obtain ⟨m, hF⟩ := I.fr
  refine PySem.W.ksp_inv hF I.ok.mod.kin J hs hf ?_
  exact run_fn (us := [.ref a]) (vs := [.ref a]) (dvs := []) (ds := []) F hr hb .nil passL I (.cons rfl .nil) q
end
end Tx

/-! part U6 -/
/-! Spaces that stand; sums, meets and duals of them. -/
namespace Tx
open PySem PySem.Spec PyProof PyProof.Rows L2 Evl Jb
def rCatTT (K : PySem.W.Frag) : R2 := fun x y H Q => ∃ a b xs ys, x = .ref a ∧ y = .ref b ∧ SqT K H a xs ∧ SqT K H b ys ∧ xs.length + ys.length ≤ sizeLine ∧
  (xs = [] → Q (.ref b) H) ∧ (xs ≠ [] → ys = [] → Q (.ref a) H) ∧ (xs ≠ [] → ys ≠ [] → ∀ p, H p = none → Q (.ref p) (upd H p (.tup (xs ++ ys))))
theorem op_catTT {X : Cx} : OpR X (binaryOp .Add) (rCatTT X.K) := by
  intro pins s σ H x y v u Q I rx ry h
  obtain ⟨a, b, xs, ys, rfl, rfl, ha, hb, hz, q0, q1, q2⟩ := h
  by_cases c : xs = []
  · cases rx
    cases ry
    obtain ⟨its, r1, p1, _⟩ := I.tuple ha
    obtain ⟨its2, r2, p2, _⟩ := I.tuple hb
    have e1 : its = [] := r1.nil_iff.mpr c
    obtain ⟨⟨cls, dd, data, sl⟩, ho, hc, n, hd⟩ := id p1
    obtain ⟨⟨cls2, dd2, data2, sl2⟩, ho2, hc2, n2, hd2⟩ := id p2
    simp only at hc hd hc2 hd2
    subst hc hd hc2 hd2
    exact concat_meets ⟨_, ho, rfl⟩ ⟨_, ho2, rfl⟩ noFill_tuple_add seq_tuple_add PySem.F.slot_tuple_add PySem.F.entry_tuple_add (PySem.F.args_tuple_add_2 _ _)
      (tuple_addW0 a b its.toArray its2.toArray n n2 dd dd2 sl sl2 (by simp [e1])) ⟨ho, ho2, ⟨.ref b, H, I, rfl, q0 c⟩⟩
  · exact op_catT pins s σ H _ _ v u Q I rx ry ⟨a, b, xs, ys, rfl, rfl, ha, hb, c, hz, q1 c, q2 c⟩
section
variable {P : Program} {w : World} {K : PySem.W.Frag} {mg : Str → Option Value} {base : Heap}
/-- a space of some rows stands -/
def SpAt (K : PySem.W.Frag) (CS : Addr) (H : Hp) (x : Addr) (wd : Int) (rows : List (List Int)) : Prop := ∃ dx b r ws kvs, H x = some (.ins CS dx (spF wd b r)) ∧ SqT K H b ws ∧ Refs K H (bas rows) ws ∧ H r = some (.dK kvs) ∧ KvR K H (Sp.srtR (Sp.red rows)) kvs
theorem SpAt.mono {CS x : Addr} {wd : Int} {rows : List (List Int)} {H H' : Hp} (e : Ex H H') (h : SpAt K CS H x wd rows) : SpAt K CS H' x wd rows := by
  obtain ⟨dx, b, r, ws, kvs, h1, h2, h3, h4, h5⟩ := h
  exact ⟨dx, b, r, ws, kvs, e _ _ h1, ex_t e h2, h3.mono e, e _ _ h4, h5.mono e⟩
/-! len of an own class by its __len__ -/
def rLenO (C : Addr) (sp : Sp) : List V → Hp → VK → Prop := fun xs H Q => ∃ a dx fs, xs = [.ref a] ∧ H a = some (.ins C dx fs) ∧ sp [.ref a] H (fun v H3 => ∃ n : Nat, v = .int (n : Int) ∧ (n : Int) < 2 ^ 62 ∧ Q (.int (n : Int)) H3) E0
theorem call_lenO {X : Cx} {k : Nat} {f C : Addr} {fd : FuncData} {ps : List Str} {sp : Sp} (hs : PySem.W.findIn X.K (.ref C) "__len__" = some (some (.ref f))) (hf : PySem.W.isFn X.K (.ref f) = true)
    (F : FnOk X.prog X.w X.K X.mg X.base CX0 k f fd ps sp) (hr : Room (k + 1) X.A) (hb : Binds X.K fd ps []) : CallR X (.builtin "len") (rLenO C sp) := by
  rintro pins s σ H xs us Q I r ⟨a, dx, fs, rfl, ea, q⟩
  obtain ⟨u, rfl, rx⟩ := vals1 r
  obtain rfl : u = Value.ref a := rx
  obtain ⟨mA, Oi, _⟩ := ins_get I.hok ea
  obtain ⟨od, J, _⟩ := Oi.look
  obtain ⟨m, hF⟩ := I.fr
  refine PySem.W.len_K hF I.ok.mod.kin J hs hf ?_
  have e0 : Env0 X.prog X.w X.K X.mg X.base X.A.in1 X.stack s H := by
    have e := I.env0
    exact ⟨e.frames, e.mod, e.bs, e.bsz, e.funs, e.frf, e.hok, e.bare⟩
  have hl := F.len _ _ _ _ q
  have r2 : Vals [V.ref a] [Value.ref a] := .cons rfl .nil
  refine wpAny_call (codeAny_mono (F.run X.A.in1 X.stack s H ⟨[.ref a], []⟩ [.ref a] [.ref a] _ E0 hr.in1 e0 (by
    have := hb s [.ref a] I.kIn (by simpa using hl)
    simpa using this) r2 q) fun r s' hq => ?_)
  cases r with
  | error e => exact False.elim hq
  | ok fl =>
    cases fl with
    | ret w =>
      obtain ⟨z, H', I', rz, n, ez, hn, q3⟩ := I.after hq
      subst ez
      obtain ⟨t, rfl⟩ := rz
      exact ⟨⟨by omega, by omega⟩, .int n, H', I'.tok _, ⟨_, rfl⟩, q3⟩
    | next => exact False.elim hq
    | brk => exact False.elim hq
    | cont => exact False.elim hq
abbrev s_lenm : Stmt := inClass (top 24) 3
theorem sc_lenm : FnScope ["self"] ["self"] (defScope s_lenm) := ⟨rfl, rfl, rfl, by decide +kernel, rfl, by decide +kernel, by decide +kernel⟩
def spLenm (K : PySem.W.Frag) (CS : Addr) : Sp := fun vs H Q _ => ∃ x wd rows, vs = [.ref x] ∧ SpAt K CS H x wd rows ∧ ∀ H', Ex H H' → Q (.int ((bas rows).length : Nat)) H'
theorem ok_lenm {CS f : Addr} {fd : FuncData} (B : Bt mg) (S : SpT K mg CS) (Ff : L2.Fun K "__len__" "Space.__len__" s_lenm f fd) : FnOk P w K mg base CX0 1 f fd ["self"] (spLenm K CS) := by
  refine Ff.ok sc_lenm (fun vs H Q E ⟨x, wd, rows, e, _⟩ => by rw [e] <;> rfl) (fun cdv A outer s H vs Q E hr ⟨x, wd, rows, ev, hS, q⟩ => ?_)
  subst ev
  refine ⟨_, pss_one (ps_ret (pe_callB call_len (by rfl) B.len boot_le (pa_cons (pe_fld (pv 0) rfl) pa_nil))), ?_⟩
  obtain ⟨dx, b, r, ws, kvs, h1, h2, h3, _⟩ := hS
  have fb : (spF wd b r).lookup ("_basis" : Str) = some (.ref b) := rfl
  have hlen : ws.length = (bas rows).length := h3.length.symm
  rw [← hlen] at q
  exact s_ret (ev_lenB (K := K) (b := false) (ev_fldI S.cl S.nb (ev_var rfl) h1 fb) h2) fun H1 e => q H1 e
end
section
variable {K : PySem.W.Frag} {H H' G : Hp} {σ : L2.St} {te ta tb tl : TE} {D : Ends} {tz tu : TS} {i : Nat}
theorem tl_lenO {CS : Addr} {wd : Int} {rows : List (List Int)} (h : ∀ H1, Ex H H1 → ∀ Q : VK, (∀ H2 x, Ex H1 H2 → SpAt K CS H2 x wd rows → Q (.ref x) H2) → te σ H1 Q) (hn : (bas rows).length ≤ 1000) : Ev (tCB (rLenO CS (spLenm K CS)) (tCons te tNil)) σ H (.int ((bas rows).length : Nat)) := fun H1 e Q q =>
  h H1 e _ fun H2 x e2 hS => by
    have hS0 := hS
    obtain ⟨dx, b, r, ws, kvs, h1, _⟩ := hS
    exact ⟨x, dx, _, rfl, h1, x, wd, rows, rfl, hS0, fun H3 e3 => ⟨_, rfl, by omega, q H3 (e2.trans e3)⟩⟩
/-- an expression gives a list or a tuple of rows -/
def EvRB (K : PySem.W.Frag) (te : TE) (σ : L2.St) (H : Hp) (rows : List (List Int)) : Prop := ∀ H1, Ex H H1 → ∀ Q : VK, (∀ L H2 xs, Ex H1 H2 → (H2 L = some (.lst xs) ∨ SqT K H2 L xs) → Refs K H2 rows xs → Q (.ref L) H2) → te σ H1 Q
theorem evrb_l {t : Addr} {us : List V} {rows : List (List Int)} {j : Nat} (h : σ[j]? = some (some (.ref t))) (ht : H t = some (.lst us)) (hR : Refs K H rows us) : EvRB K (tVar j) σ H rows := fun H1 e Q q => ⟨_, h, q t H1 us (Ex.refl H1) (.inl (e _ _ ht)) (hR.mono e)⟩
theorem evrb_t {t : Addr} {us : List V} {rows : List (List Int)} {j : Nat} (h : σ[j]? = some (some (.ref t))) (ht : SqT K H t us) (hR : Refs K H rows us) : EvRB K (tVar j) σ H rows := fun H1 e Q q => ⟨_, h, q t H1 us (Ex.refl H1) (.inr (ex_t e ht)) (hR.mono e)⟩
theorem evrb_tl {t : Addr} {us : List V} {rows : List (List Int)} {j : Nat} (h : σ[j]? = some (some (.ref t))) (ht : H t = some (.lst us)) (hR : Refs K H rows us) : EvRB K (tCB (rTup K) (tCons (tVar j) tNil)) σ H rows := fun H1 e Q q =>
  eu_tupA (K := K) (a := t) (xs := us) (ev_var h) (sq_of ht) H1 e Q fun p H2 hp e2 hd => q p H2 us e2 (.inr (st_of hd)) (hR.mono (e.trans e2))
variable {CS CW CV : Addr} {wd : Nat} {rows : List (List Int)} {us : List V}
theorem ts_spaceV {B : Nat} {Q : VK} (h1 : Ev ta σ H (.int (wd : Nat))) (h2 : ∀ H1, Ex H H1 → EvRB K te σ H1 rows) (hw1 : 1 ≤ wd) (hw : wd ≤ 7) (hf : FitV (rowsD rows)) (hV : Vecs wd B rows)
    (q : ∀ G x, Ex H G → SpAt K CS G x (wd : Int) rows → Q (.ref x) G) : tMake CS (spInit K CS CW CV) [] E0 (tCons ta (tCons te tNil)) σ H Q :=
  h1 H (Ex.refl H) _ fun H1 e1 => h2 H1 e1 H1 (Ex.refl H1) _ fun L H2 xs e2 hL hR x dx hx hdx hne => by
    have e0 : Ex H2 (upd (upd H2 dx (.own x)) x (.ins CS dx [])) := (Ex.new hdx).trans (Ex.new (by rw [upd_ne (Ne.symm hne)]; exact hx))
    have ho : okW (.int (wd : Int)) = some (wd : Int) := if_pos (by omega)
    rcases hL with hL | hL
    · refine ⟨x, dx, .int (wd : Int), .int (wd : Int), .ref L, .lst (rowsD rows), rfl, upd_same, .int _, .lst (e0 _ _ hL) ((reps_rows hR).mono e0), fun l hl m hm => ?_, ?_⟩
      · rcases hl with hl | hl
        · cases hl
        · cases hl
          exact rowsD_small hV (by omega) m hm
      rw [ho]
      dsimp only
      rw [bad_good hV]
      refine ⟨rowsD rows, hf, .inl rfl, fun M1 b r ws kvs kp hx1 hb1 hf1 hr1 hk1 => ⟨rfl, ?_⟩⟩
      rw [rowsD_row] at hk1 hf1
      have ek : Ex H2 M1 := fun c o hc => kp c o (e0 c o hc) fun z => by rw [z, hx] at hc; cases hc
      exact q M1 x ((e1.trans e2).trans ek) ⟨dx, b, r, ws, kvs, hx1, hb1, hf1, hr1, hk1⟩
    · refine ⟨x, dx, .int (wd : Int), .int (wd : Int), .ref L, .tup (rowsD rows), rfl, upd_same, .int _, .tup (ex_t e0 hL) ((reps_rows hR).mono e0), fun l hl m hm => ?_, ?_⟩
      · rcases hl with hl | hl
        · cases hl
          exact rowsD_small hV (by omega) m hm
        · cases hl
      rw [ho]
      dsimp only
      rw [show badD (wd : Int) (.tup (rowsD rows)) = none from bad_good hV]
      refine ⟨rowsD rows, hf, .inr rfl, fun M1 b r ws kvs kp hx1 hb1 hf1 hr1 hk1 => ⟨rfl, ?_⟩⟩
      rw [rowsD_row] at hk1 hf1
      have ek : Ex H2 M1 := fun c o hc => kp c o (e0 c o hc) fun z => by rw [z, hx] at hc; cases hc
      exact q M1 x ((e1.trans e2).trans ek) ⟨dx, b, r, ws, kvs, hx1, hb1, hf1, hr1, hk1⟩
/-- t + u of tuples of rows -/
theorem evrb_cat {a b : Addr} {us vs : List V} {A B : List (List Int)} (ha : Ev ta σ H (.ref a)) (hb : Ev tb σ H (.ref b)) (sa : SqT K H a us) (sb : SqT K H b vs) (rA : Refs K H A us) (rB : Refs K H B vs) (hz : us.length + vs.length ≤ 1000) : EvRB K (tOp (rCatTT K) ta tb) σ H (A ++ B) := fun H1 e Q q =>
  ha H1 e _ fun H2 e2 => hb H2 (e.trans e2) _ fun H3 e3 => by
    have eE := (e.trans e2).trans e3
    refine ⟨a, b, us, vs, rfl, rfl, ex_t eE sa, ex_t eE sb, Nat.le_of_lt (small1000 hz), fun z => ?_, fun _ z => ?_, fun _ _ p hp => ?_⟩
    · subst z
      cases rA
      exact q b H3 vs (e2.trans e3) (.inr (ex_t eE sb)) (rB.mono eE)
    · subst z
      cases rB
      rw [List.append_nil] at q
      exact q a H3 us (e2.trans e3) (.inr (ex_t eE sa)) (rA.mono eE)
    · have en := Ex.new (o := .tup (us ++ vs)) hp
      exact q p _ (us ++ vs) ((e2.trans e3).trans en) (.inr (st_of upd_same)) (paired_app (rA.mono (eE.trans en)) (rB.mono (eE.trans en)))
theorem eqv_ints : ∀ a b : List Int, PyData.eqvAll (a.map PyData.int) (b.map PyData.int) = decide (a = b)
  | [], [] => rfl
  | [], _ :: _ => rfl
  | _ :: _, [] => rfl
  | i :: a, j :: b => by
    show (PyData.eqv (.int i) (.int j) && PyData.eqvAll (a.map PyData.int) (b.map PyData.int)) = _
    rw [eqv_ints a b]
    show ((i == j) && _) = _
    by_cases c : i = j
    · subst c
      by_cases d : a = b
      · subst d; simp
      · rw [decide_eq_false d, decide_eq_false fun z => d (List.cons.inj z).2, Bool.and_false]
    · rw [decide_eq_false fun z => c (List.cons.inj z).1, beq_false_of_ne c, Bool.false_and]
theorem eqv_rows : ∀ a b : List (List Int), PyData.eqvAll (pyR a) (pyR b) = decide (a = b)
  | [], [] => rfl
  | [], _ :: _ => rfl
  | _ :: _, [] => rfl
  | i :: a, j :: b => by
    show (PyData.eqv (.tuple (i.map PyData.int)) (.tuple (j.map PyData.int)) && PyData.eqvAll (pyR a) (pyR b)) = _
    rw [eqv_rows a b]
    show (PyData.eqvAll (i.map PyData.int) (j.map PyData.int) && _) = _
    rw [eqv_ints]
    by_cases c : i = j
    · subst c
      by_cases d : a = b
      · subst d; simp
      · rw [decide_eq_false d, decide_eq_false fun z => d (List.cons.inj z).2, Bool.and_false]
    · rw [decide_eq_false fun z => c (List.cons.inj z).1, decide_eq_false c, Bool.false_and]
theorem shaped_tup (rows : List (List Int)) : SeqAt.shaped (.tuple (pyR rows)) = true := by
  obtain ⟨h1, h2⟩ := lay_rows rows
  unfold SeqAt.shaped
  rw [Bool.and_eq_true]
  refine ⟨by simp only [PyData.canLay0, h1], decide_eq_true ?_⟩
  simp only [PyData.depth]
  omega
end
/-! ### one | other, ~one, one & other -/
abbrev s_or : Stmt := inClass (top 24) 5
abbrev s_and : Stmt := inClass (top 24) 6
abbrev s_inv : Stmt := inClass (top 24) 7
abbrev nAnd : List Str := ["self", "other", "rows"]
theorem sc_or : FnScope ["self", "other"] ["self", "other"] (defScope s_or) := ⟨rfl, rfl, rfl, by decide +kernel, rfl, by decide +kernel, by decide +kernel⟩
theorem sc_and : FnScope nAnd ["self", "other"] (defScope s_and) := ⟨rfl, rfl, rfl, by decide +kernel, rfl, by decide +kernel, by decide +kernel⟩
theorem sc_inv : FnScope ["self"] ["self"] (defScope s_inv) := ⟨rfl, rfl, rfl, by decide +kernel, rfl, by decide +kernel, by decide +kernel⟩
section
variable {P : Program} {w : World} {K : PySem.W.Frag} {mg : Str → Option Value} {base : Heap}
def spOr (K : PySem.W.Frag) (CS : Addr) : Sp := fun vs H Q _ => ∃ x y wd A B Bd, vs = [.ref x, .ref y] ∧ SpAt K CS H x (wd : Nat) A ∧ SpAt K CS H y (wd : Nat) B ∧ TyX K H (.ref y) (.ref CS) ∧ 1 ≤ wd ∧ wd ≤ 7 ∧ (bas A ++ bas B).length ≤ 100 ∧ FitV (rowsD (bas A ++ bas B)) ∧ Vecs wd Bd (bas A ++ bas B) ∧
  ∀ H' z, Ex H H' → SpAt K CS H' z (wd : Nat) (bas A ++ bas B) → Q (.ref z) H'
theorem ok_or {CS CW CV CI CD f fI : Addr} {fd fdI : FuncData} (B : Bt mg) (S : SpT K mg CS) (Ff : L2.Fun K "__or__" "Space.__or__" s_or f fd) (C : ClX P w K mg base 3 "check_operands" nCo (spCo K CS CI CD)) (Wb : Wid P w K mg base CS "basis" "_basis")
    (M : Mk K CS fI) (FI : FnOk P w K mg base (L2.CX P w) 4 fI fdI nIni (spInit K CS CW CV)) (hb : Binds K fdI nIni []) : FnOk P w K mg base (L2.CX P w) 6 f fd ["self", "other"] (spOr K CS) := by
  refine Ff.okX sc_or (fun vs H Q E ⟨x, y, wd, A, Bq, Bd, e, _⟩ => by rw [e] <;> rfl) (fun cdv A0 outer s H vs Q E hr ⟨x, y, wd, A, Bq, Bd, ev, hS, hS2, ty, hw1, hw, hn, hf, hV, q⟩ => ?_)
  subst ev
  have h2 : Room 2 _ := hr.mono (by decide)
  have h3 : Room 3 _ := hr.mono (by decide)
  have h5 : Room 5 _ := hr.mono (by decide)
  refine ⟨_, pss_cons (ps_expr (pe_clx (E := WE fun cls d _ H => E cls d H) C h3 (by rfl) (fun σ => L2.passAt (takes_of rfl rfl rfl rfl) σ) (pa_cons (pv 0) (pa_cons (pv 1) pa_nil))))
    (pss_one (ps_ret (pe_make (dvs := []) M FI h5 (by rfl) S.g hb .nil passL (pa_cons (pe_fld (pv 0) rfl) (pa_cons (pe_op op_catTT (pe_fld (pv 0) rfl) (pe_wid Wb S.cl h2 (pv 1) rfl)) pa_nil))))), ?_⟩
  obtain ⟨dx, b, r, ws, kvs, g1, g2, g3, g4, g5⟩ := hS
  obtain ⟨dx2, b2, r2, ws2, kvs2, k1, k2, k3, k4, k5⟩ := hS2
  have fw : (spF (wd : Int) b r).lookup ("_width" : Str) = some (.int (wd : Int)) := rfl
  have fb : (spF (wd : Int) b r).lookup ("_basis" : Str) = some (.ref b) := rfl
  have fb2 : (spF (wd : Int) b2 r2).lookup ("_basis" : Str) = some (.ref b2) := rfl
  have hl : ws.length + ws2.length ≤ 1000 := by
    have := g3.length
    have := k3.length
    rw [List.length_append] at hn
    omega
  refine ⟨_, rfl, _, rfl, x, dx, (wd : Int), b, r, .ref y, rfl, g1, .inr ⟨y, dx2, (wd : Int), b2, r2, rfl, ty, k1, fun _ H1 e1 => ?_, fun hne => absurd rfl hne⟩⟩
  refine ts_spaceV (K := K) (CS := CS) (CW := CW) (CV := CV) (wd := wd) (rows := bas A ++ bas Bq) (B := Bd) (ev_fldI S.cl S.nw (ev_var rfl) (e1 _ _ g1) fw) (fun H2 e2 => evrb_cat (ev_fldI S.cl S.nb (ev_var rfl) ((e1.trans e2) _ _ g1) fb) (ev_wid (ev_var rfl) ((e1.trans e2) _ _ k1) fb2) (ex_t (e1.trans e2) g2) (ex_t (e1.trans e2) k2) (g3.mono (e1.trans e2)) (k3.mono (e1.trans e2)) hl) hw1 hw hf hV fun G z eG hz => q G z (e1.trans eG) hz
theorem t_com {σ : L2.St} {H : Hp} {ta tb : TE} {b : Addr} {us : List V} {rows : List (List Int)} {wd : Nat} {Q : VK} (h1 : Ev ta σ H (.ref b)) (h2 : ∀ H1, Ex H H1 → Ev tb σ H1 (.int (wd : Nat))) (hS : SqT K H b us) (hR : Refs K H rows us) (W : FitCm rows wd)
    (q : ∀ H' p ws, Ex H H' → SqT K H' p ws → Refs K H' (compl rows wd) ws → Q (.ref p) H') : tCall (spCom K) [] E0 (tCons ta (tCons tb tNil)) σ H Q :=
  h1 H (Ex.refl H) _ fun H1 e1 => h2 H1 e1 H1 (Ex.refl H1) _ fun H2 e2 => ⟨b, us, rows, wd, rfl, ex_t (e1.trans e2) hS, hR.mono (e1.trans e2), W, fun H' p ws e3 k1 k2 => q H' p ws ((e1.trans e2).trans e3) k1 k2⟩
def spInv (K : PySem.W.Frag) (CS : Addr) : Sp := fun vs H Q _ => ∃ x wd A Bd, vs = [.ref x] ∧ SpAt K CS H x (wd : Nat) A ∧ 1 ≤ wd ∧ wd ≤ 7 ∧ FitCm (bas A) wd ∧ FitV (rowsD (compl (bas A) wd)) ∧ Vecs wd Bd (compl (bas A) wd) ∧
  ∀ H' z, Ex H H' → SpAt K CS H' z (wd : Nat) (compl (bas A) wd) → Q (.ref z) H'
theorem ok_inv {CS CW CV f fI : Addr} {fd fdI : FuncData} (B : Bt mg) (S : SpT K mg CS) (Ff : L2.Fun K "__invert__" "Space.__invert__" s_inv f fd) (Cc : Cl P w K mg base 4 "complement" ["basis", "width"] (spCom K))
    (M : Mk K CS fI) (FI : FnOk P w K mg base (L2.CX P w) 4 fI fdI nIni (spInit K CS CW CV)) (hb : Binds K fdI nIni []) : FnOk P w K mg base (L2.CX P w) 6 f fd ["self"] (spInv K CS) := by
  refine Ff.okX sc_inv (fun vs H Q E ⟨x, wd, A, Bd, e, _⟩ => by rw [e] <;> rfl) (fun cdv A0 outer s H vs Q E hr ⟨x, wd, A, Bd, ev, hS, hw1, hw, hW, hf, hV, q⟩ => ?_)
  subst ev
  have h4 : Room 4 _ := hr.mono (by decide)
  have h5 : Room 5 _ := hr.mono (by decide)
  refine ⟨_, pss_one (ps_ret (pe_make (dvs := []) M FI h5 (by rfl) S.g hb .nil passL (pa_cons (pe_fld (pv 0) rfl) (pa_cons (pe_cl Cc h4 (by rfl) (pa_cons (pe_fld (pv 0) rfl) (pa_cons (pe_fld (pv 0) rfl) pa_nil))) pa_nil)))), ?_⟩
  obtain ⟨dx, b, r, ws, kvs, g1, g2, g3, g4, g5⟩ := hS
  have fw : (spF (wd : Int) b r).lookup ("_width" : Str) = some (.int (wd : Int)) := rfl
  have fb : (spF (wd : Int) b r).lookup ("_basis" : Str) = some (.ref b) := rfl
  refine ts_spaceV (K := K) (CS := CS) (CW := CW) (CV := CV) (wd := wd) (rows := compl (bas A) wd) (B := Bd) (ev_fldI S.cl S.nw (ev_var rfl) g1 fw)
    (fun H2 e2 H3 e3 Q' q' => t_com (K := K) (ev_fldI S.cl S.nb (ev_var rfl) ((e2.trans e3) _ _ g1) fb) (fun H4 e4 => ev_fldI S.cl S.nw (ev_var rfl) (((e2.trans e3).trans e4) _ _ g1) fw) (ex_t (e2.trans e3) g2) (g3.mono (e2.trans e3)) hW fun H' p ws' e' k1 k2 => q' p H' ws' e' (.inr k1) k2) hw1 hw hf hV fun G z eG hz => q G z eG hz
def meetX (A B : List (List Int)) (wd : Nat) : List (List Int) := compl (bas A) wd ++ compl (bas B) wd
def spAnd (K : PySem.W.Frag) (CS : Addr) : Sp := fun vs H Q _ => ∃ x y wd A B Bd, vs = [.ref x, .ref y] ∧ SpAt K CS H x (wd : Nat) A ∧ SpAt K CS H y (wd : Nat) B ∧ TyX K H (.ref y) (.ref CS) ∧ 1 ≤ wd ∧ wd ≤ 7 ∧ FitCm (bas A) wd ∧ FitCm (bas B) wd ∧
  (meetX A B wd).length ≤ 60 ∧ FitGo [] (meetX A B wd) ∧ ((Sp.red (meetX A B wd)).map (·.1)).Nodup ∧ FitCm (bas (meetX A B wd)) wd ∧ FitV (rowsD (compl (bas (meetX A B wd)) wd)) ∧ Vecs wd Bd (compl (bas (meetX A B wd)) wd) ∧
  ∀ H' z, Ex H H' → SpAt K CS H' z (wd : Nat) (compl (bas (meetX A B wd)) wd) → Q (.ref z) H'
theorem ok_and {CS CW CV CI CD f fI : Addr} {fd fdI : FuncData} (B : Bt mg) (S : SpT K mg CS) (Ff : L2.Fun K "__and__" "Space.__and__" s_and f fd) (C : ClX P w K mg base 3 "check_operands" nCo (spCo K CS CI CD)) (Wb : Wid P w K mg base CS "basis" "_basis") (Cc : Cl P w K mg base 4 "complement" ["basis", "width"] (spCom K)) (Cred : Cl P w K mg base 3 "reduced" ["vectors"] (spRed K))
    (M : Mk K CS fI) (FI : FnOk P w K mg base (L2.CX P w) 4 fI fdI nIni (spInit K CS CW CV)) (hb : Binds K fdI nIni []) : FnOk P w K mg base (L2.CX P w) 6 f fd ["self", "other"] (spAnd K CS) := by
  refine Ff.okX sc_and (fun vs H Q E ⟨x, y, wd, A, Bq, Bd, e, _⟩ => by rw [e] <;> rfl) (fun cdv A0 outer s H vs Q E hr ⟨x, y, wd, A, Bq, Bd, ev, hS, hS2, ty, hw1, hw, hWA, hWB, hXn, hXg, hXd, hWX, hf, hV, q⟩ => ?_)
  subst ev
  have h2 : Room 2 _ := hr.mono (by decide)
  have h3 : Room 3 _ := hr.mono (by decide)
  have h4 : Room 4 _ := hr.mono (by decide)
  have h5 : Room 5 _ := hr.mono (by decide)
  refine ⟨_, pss_cons (ps_expr (pe_clx (E := WE fun cls d _ H => E cls d H) C h3 (by rfl) (fun σ => L2.passAt (takes_of rfl rfl rfl rfl) σ) (pa_cons (pv 0) (pa_cons (pv 1) pa_nil))))
    (pss_cons (ps_set (i := 2) sc_and.nd rfl (by first | exact Or.inl rfl | exact Or.inr rfl) (pe_op op_catTT (pe_cl Cc h4 (by rfl) (pa_cons (pe_fld (pv 0) rfl) (pa_cons (pe_fld (pv 0) rfl) pa_nil))) (pe_cl Cc h4 (by rfl) (pa_cons (pe_wid Wb S.cl h2 (pv 1) rfl) (pa_cons (pe_fld (pv 0) rfl) pa_nil)))))
    (pss_one (ps_ret (pe_make (dvs := []) M FI h5 (by rfl) S.g hb .nil passL (pa_cons (pe_fld (pv 0) rfl) (pa_cons (pe_cl Cc h4 (by rfl) (pa_cons (pe_cl Cred h3 (by rfl) (pa_cons (pv 2) pa_nil)) (pa_cons (pe_fld (pv 0) rfl) pa_nil))) pa_nil)))))), ?_⟩
  obtain ⟨dx, b, r, ws, kvs, g1, g2, g3, g4, g5⟩ := hS
  obtain ⟨dx2, b2, r2, ws2, kvs2, k1, k2, k3, k4, k5⟩ := hS2
  have fw : (spF (wd : Int) b r).lookup ("_width" : Str) = some (.int (wd : Int)) := rfl
  have fb : (spF (wd : Int) b r).lookup ("_basis" : Str) = some (.ref b) := rfl
  have fb2 : (spF (wd : Int) b2 r2).lookup ("_basis" : Str) = some (.ref b2) := rfl
  refine ⟨_, rfl, _, rfl, x, dx, (wd : Int), b, r, .ref y, rfl, g1, .inr ⟨y, dx2, (wd : Int), b2, r2, rfl, ty, k1, fun _ H1 e1 => ?_, fun hne => absurd rfl hne⟩⟩
  dsimp only
  refine q_asgE ?_
  refine t_com (K := K) (ev_fldI S.cl S.nb (ev_var rfl) (e1 _ _ g1) fb) (fun H4 e4 => ev_fldI S.cl S.nw (ev_var rfl) ((e1.trans e4) _ _ g1) fw) (ex_t e1 g2) (g3.mono e1) hWA fun H2 p1 us1 e2 a1 a2 => ?_
  have e12 := e1.trans e2
  refine t_com (K := K) (ev_wid (ev_var rfl) (e12 _ _ k1) fb2) (fun H4 e4 => ev_fldI S.cl S.nw (ev_var rfl) ((e12.trans e4) _ _ g1) fw) (ex_t e12 k2) (k3.mono e12) hWB fun H3 p2 us2 e3 c1 c2 => ?_
  have e13 := e12.trans e3
  have hXl : us1.length + us2.length ≤ 60 := by
    have := a2.length
    have := c2.length
    unfold meetX at hXn
    rw [List.length_append] at hXn
    omega
  -- what comes after the sum
  have rest : ∀ H4 p us, Ex H H4 → SqT K H4 p us → Refs K H4 (meetX A Bq wd) us → tRet (tMake CS (spInit K CS CW CV) [] E0 (tCons (tFld K (tVar 0) "_width") (tCons (tCall (spCom K) [] E0 (tCons (tCall (spRed K) [] E0 (tCons (tVar 2) tNil)) (tCons (tFld K (tVar 0) "_width") tNil))) tNil))) { nx := fun _ H' => Q .non H', rt := Q } [some (.ref x), some (.ref y), some (.ref p)] H4 := fun H4 p us e4 hp hR => by
    refine ts_spaceV (K := K) (CS := CS) (CW := CW) (CV := CV) (wd := wd) (rows := compl (bas (meetX A Bq wd)) wd) (B := Bd) (ev_fldI S.cl S.nw (ev_var rfl) (e4 _ _ g1) fw)
      (fun H5 e5 H6 e6 Q' q' => ?_) hw1 hw hf hV fun G z eG hz => q G z (e4.trans eG) hz
    have e56 := e5.trans e6
    refine ⟨_, rfl, false, p, us, meetX A Bq wd, rfl, ex_t e56 hp, hR.mono e56, hXn, hXg, hXd, fun H7 p7 ws7 e7 h7 r7 => ?_⟩
    exact ev_fldI S.cl S.nw (ev_var rfl) (((e4.trans e56).trans e7) _ _ g1) fw H7 (Ex.refl H7) _ fun H8 e8 => ⟨p7, ws7, bas (meetX A Bq wd), wd, rfl, ex_t e8 h7, r7.mono e8, hWX, fun H9 p9 ws9 e9 h9 r9 => q' p9 H9 ws9 ((e7.trans e8).trans e9) (.inr h9) r9⟩
  have x1 := ex_t e3 a1
  have x2 := a2.mono e3
  refine ⟨p1, p2, us1, us2, rfl, rfl, x1, c1, Nat.le_of_lt (small1000 (by omega)), fun z => ?_, fun _ z => ?_, fun _ _ p hp => ?_⟩
  · subst z
    generalize hA : compl (bas A) wd = XA at x2
    cases x2
    refine rest H3 p2 us2 e13 c1 ?_
    unfold meetX
    rw [hA]
    exact c2
  · subst z
    generalize hA : compl (bas Bq) wd = XB at c2
    cases c2
    refine rest H3 p1 us1 e13 x1 ?_
    unfold meetX
    rw [hA, List.append_nil]
    exact x2
  · have en := Ex.new (o := .tup (us1 ++ us2)) hp
    exact rest _ p (us1 ++ us2) (e13.trans en) (st_of upd_same) (paired_app (x2.mono en) (c2.mono en))
end
end Tx

/-! part U7 -/
/-! Numbers and dimensions of k03. -/
namespace Tx
open PySem PySem.Spec PyProof.Rows L2 Evl Jb
theorem hp6 {wd k c e : Nat} (hw : wd ≤ 6) (hk : k ≤ 6) (h : (6 * 2 ^ c) ^ 6 < 2 ^ e) : (wd * 2 ^ c) ^ k < 2 ^ e :=
  calc (wd * 2 ^ c) ^ k ≤ (6 * 2 ^ c) ^ k := Nat.pow_le_pow_left (Nat.mul_le_mul_right _ hw) k
    _ ≤ (6 * 2 ^ c) ^ 6 := Nat.pow_le_pow_right (Nat.mul_pos (by decide) (Nat.pow_pos (by decide))) hk
    _ < 2 ^ e := h
theorem hp5 {wd k c e : Nat} (hw : wd ≤ 6) (hk : k ≤ 5) (h : (6 * 2 ^ c) ^ 5 < 2 ^ e) : (wd * 2 ^ c) ^ k < 2 ^ e :=
  calc (wd * 2 ^ c) ^ k ≤ (6 * 2 ^ c) ^ k := Nat.pow_le_pow_left (Nat.mul_le_mul_right _ hw) k
    _ ≤ (6 * 2 ^ c) ^ 5 := Nat.pow_le_pow_right (Nat.mul_pos (by decide) (Nat.pow_pos (by decide))) hk
    _ < 2 ^ e := h
theorem vc_revs {wd c : Nat} {b : List (List Int)} (h : Vc wd c b) : Vc wd c (revs b) := fun v hv => by
  obtain ⟨u, hu, rfl⟩ := List.mem_map.mp hv
  refine ⟨by rw [List.length_reverse]; exact (h u hu).1, fun j => ?_⟩
  rw [Sp.ent_rev]
  split
  · exact (h u hu).2 _
  · exact Nat.pow_pos (by decide)
theorem vc_app {wd c : Nat} {a b : List (List Int)} (h : Vc wd c a) (g : Vc wd c b) : Vc wd c (a ++ b) := fun v hv => by
  rcases List.mem_append.mp hv with z | z
  · exact h v z
  · exact g v z
theorem vc_up {wd c d : Nat} {a : List (List Int)} (h : Vc wd c a) (hd : c ≤ d) : Vc wd d a := fun v hv => ⟨(h v hv).1, fun j => pow_up ((h v hv).2 j) hd⟩
theorem vecs_of {wd c : Nat} {rows : List (List Int)} (h : Vc wd c rows) : Vecs wd (2 ^ c) rows := fun r hr => ⟨(h r hr).1, fun z hz => by
  obtain ⟨i, hi, e⟩ := List.mem_iff_getElem.mp hz
  have := (h r hr).2 i
  unfold Sp.ent at this
  rw [List.getD_eq_getElem?_getD, List.getElem?_eq_getElem hi, Option.getD_some, e] at this
  exact Nat.le_of_lt this⟩
theorem vc_of {wd B c : Nat} {rows : List (List Int)} (h : Vecs wd B rows) (hB : B < 2 ^ c) : Vc wd c rows := fun v hv => ⟨(h v hv).1, fun j => Nat.lt_of_le_of_lt (ent_bd (h v hv).2 j) hB⟩
theorem sup_rows {wd c : Nat} {a : List (List Int)} (h : Vc wd c a) : ∀ s ∈ a.map Sp.ent, Sp.Sup wd s := fun s hs => by
  obtain ⟨v, hv, rfl⟩ := List.mem_map.mp hs
  exact Sp.ent_sup (h v hv).1
/-- the basis spans what the rows span -/
theorem bas_sub {wd c : Nat} {A : List (List Int)} (hw : wd ≤ 7) (h : Vc wd c A) : ∀ s ∈ (bas A).map Sp.ent, Sp.InQ (A.map Sp.ent) s := fun s hs => by
  obtain ⟨u, hu, rfl⟩ := List.mem_map.mp hs
  obtain ⟨D, d, G, S⟩ := Sp.red_spans (c := c) (wd := wd) (by omega) h
  obtain ⟨q, hq, rfl⟩ := List.mem_map.mp hu
  exact S.sub _ (by rw [Sp.echOf_snd]; exact List.mem_map.mpr ⟨q, (srt_mem G.nd).mp hq, rfl⟩)
theorem bas_sup {wd c : Nat} {A : List (List Int)} (hw : wd ≤ 7) (h : Vc wd c A) : ∀ s ∈ A.map Sp.ent, Sp.InQ ((bas A).map Sp.ent) s := fun s hs => by
  obtain ⟨D, d, G, S⟩ := Sp.red_spans (c := c) (wd := wd) (by omega) h
  refine Sp.inq_trans (S.sup s hs) fun t ht => ?_
  rw [Sp.echOf_snd] at ht
  obtain ⟨q, hq, rfl⟩ := List.mem_map.mp ht
  exact Sp.inq_mem (List.mem_map.mpr ⟨q.2, List.mem_map.mpr ⟨q, (srt_mem G.nd).mpr hq, rfl⟩, rfl⟩)
theorem dim_bas {wd c : Nat} {A : List (List Int)} (hw : wd ≤ 7) (h : Vc wd c A) : Sp.Dim (A.map Sp.ent) (bas A).length := by
  obtain ⟨D, d, G, S⟩ := Sp.red_spans (c := c) (wd := wd) (by omega) h
  refine ⟨_, S, ?_⟩
  unfold bas Sp.echOf
  rw [List.length_map, List.length_map, srt_len]
theorem revs_ent {wd c : Nat} {b : List (List Int)} (h : Vc wd c b) : (revs b).map Sp.ent = (b.map Sp.ent).map (Sp.rvF wd) := Sp.revs_map fun v hv => (h v hv).1
theorem dim_revs {wd c : Nat} {b : List (List Int)} (hw : wd ≤ 7) (h : Vc wd c b) : (bas (revs b)).length = (bas b).length := by
  refine Sp.dim_lin (n := wd) (n' := wd) Sp.lin_rv Sp.lin_rv (fun v => Sp.rv_sup) (fun v => Sp.rv_sup) (fun s hs => Sp.rv_rv (sup_rows h s hs)) (dim_bas hw h) ?_
  rw [← revs_ent h]
  exact dim_bas hw (vc_revs h)
theorem revs_inq {wd c1 c2 : Nat} {a b : List (List Int)} (ha : Vc wd c1 a) (hb : Vc wd c2 b) (h : ∀ s ∈ a.map Sp.ent, Sp.InQ (b.map Sp.ent) s) : ∀ s ∈ (revs a).map Sp.ent, Sp.InQ ((revs b).map Sp.ent) s := fun s hs => by
  rw [revs_ent ha] at hs
  obtain ⟨t, ht, rfl⟩ := List.mem_map.mp hs
  rw [revs_ent hb]
  exact Sp.rv_inq (h t ht)
/-- what the program makes of a dual, all in one -/
structure ComOk (b : List (List Int)) (w e : Nat) : Prop where
  fit : FitCm b w
  rev : Sp.Rev w b (cR b)
  gd : ∃ D, Sp.Good w (cR b) D e
  fv : FitV (rowsD (compl b w))
  same : bas (compl b w) = compl b w
  vc : Vc w e (compl b w)
  num : (compl b w).length + (bas b).length = w
theorem com_ok {wd c e : Nat} {b : List (List Int)} (hw : wd ≤ 6) (h : Vc wd c b) (hn : b.length ≤ 60) (f : FitGo [] (revs b)) (G : ∃ D, Sp.Good wd (Sp.red (revs b)) D e) (he : e + (e + e + 3) + 1 < 8000) : ComOk b wd e := by
  obtain ⟨D, G⟩ := G
  have GS : Sp.Good wd (cR b) D e := good_srt G
  have GC := GS.crows
  have PC := GS.cprm
  obtain ⟨o1, o2⟩ := own_go (wd := wd) (d := e) (D := D) (by omega) he (Sp.cRows (cR b) wd) [] (by rw [List.nil_append]; exact GC) (by rw [List.nil_append]; exact PC)
  rw [List.nil_append, Sp.cRows_snd] at o1
  rw [Sp.cRows_snd] at o2
  have o1 : Sp.red (compl b wd) = Sp.cRows (cR b) wd := o1
  obtain ⟨D2, d2, G2, S2⟩ := Sp.red_spans (c := c) (wd := wd) (by omega) (vc_revs h)
  have hl : (compl b wd).length + (cR b).length = wd := Sp.dualR_len GS
  refine ⟨⟨fun v hv => (h v hv).1, hn, f, ⟨D, e, GS, by omega⟩, by omega⟩, ⟨fun v hv => (h v hv).1, fun r hr => ?_, fun s hs => ?_⟩, ⟨D, GS⟩, ?_, ?_, fun v hv => ?_, ?_⟩
  · obtain ⟨q, hq, rfl⟩ := List.mem_map.mp hr
    exact S2.sub _ (by rw [Sp.echOf_snd]; exact List.mem_map.mpr ⟨q, (srt_mem G.nd).mp hq, rfl⟩)
  · refine Sp.inq_trans (S2.sup s hs) fun t ht => ?_
    rw [Sp.echOf_snd] at ht
    obtain ⟨q, hq, rfl⟩ := List.mem_map.mp ht
    exact Sp.inq_mem (List.mem_map.mpr ⟨q, (srt_mem G.nd).mpr hq, rfl⟩)
  · refine fitV_made (wd := wd) (d := e) (D := D) (by unfold rowsD; rw [List.length_map]; omega) (by rw [rowsD_row]; exact o2) (by rw [rowsD_row, o1]; exact GC)
  · show (Sp.srtR (Sp.red (compl b wd))).map (·.2) = _
    rw [o1, GS.csrt, Sp.cRows_snd]
    rfl
  · have hv : v ∈ (Sp.cRows (cR b) wd).map (·.2) := by rw [Sp.cRows_snd]; exact hv
    obtain ⟨q, hq, rfl⟩ := List.mem_map.mp hv
    exact ⟨(GC.len q hq).1, fun j => GC.row_bd hq j⟩
  · have e1 : (bas (revs b)).length = (cR b).length := by unfold bas cR; rw [List.length_map]
    rw [← dim_revs (by omega) h, e1]
    exact hl
/-- given rows -/
theorem giv_fit {wd : Nat} {A : List (List Int)} (hw : wd ≤ 6) (h : Vc wd 80 A) (hn : A.length ≤ 60) : FitV (rowsD A) ∧ ∃ D, Sp.Good wd (Sp.red A) D 500 := fit_sharp (c := 80) (e := 500) (by omega) (fun k hk => hp6 hw (by omega) (by decide)) (by decide) hn h
theorem giv_bas {wd : Nat} {A : List (List Int)} (hw : wd ≤ 6) (h : Vc wd 80 A) (hn : A.length ≤ 60) : Vc wd 500 (bas A) ∧ (bas A).length ≤ wd := by
  obtain ⟨_, D, G⟩ := giv_fit hw h hn
  have G2 := good_srt G
  refine ⟨fun v hvm => ?_, by unfold bas; rw [List.length_map]; exact G2.len_le⟩
  obtain ⟨q, hq, rfl⟩ := List.mem_map.mp hvm
  exact ⟨(G2.len q hq).1, fun j => G2.row_bd hq j⟩
theorem giv_com {wd : Nat} {A : List (List Int)} (hw : wd ≤ 6) (h : Vc wd 80 A) (hn : A.length ≤ 60) : ComOk (bas A) wd 500 ∧ Vc wd 414 (compl (bas A) wd) := by
  obtain ⟨hb, hbl⟩ := giv_bas hw h hn
  have hrv := vc_revs hb
  obtain ⟨f, D, G⟩ := fitGo_sharp (wd := wd) (c := 500) (e := 3020) (by omega) (fun k hk => hp6 hw (by omega) (by decide)) (by decide) (revs (bas A)) [] [] ⟨1, 1, good_nil⟩ (fun q hq => by cases hq) both_nil' (fun r hr => by cases hr) hrv
  have G : Sp.Good wd (Sp.red (revs (bas A))) D 3020 := G
  have PR := Sp.red_prm (wd := wd) (c := 500) (by omega) hrv
  obtain ⟨D2, d2, G2, S2⟩ := Sp.red_spans (c := 500) (wd := wd) (by omega) hrv
  have s1 : ∀ r ∈ Sp.rws (Sp.red (revs (bas A))), Sp.InQ ((revs A).map Sp.ent) r := fun r hr => Sp.inq_trans (S2.sub r (by rw [Sp.echOf_snd]; exact hr)) (revs_inq hb h (bas_sub (by omega) h))
  have s2 : ∀ s ∈ (revs A).map Sp.ent, Sp.InQ (Sp.rws (Sp.red (revs (bas A)))) s := fun s hs => by
    have := Sp.inq_trans (revs_inq h hb (bas_sup (by omega) h) s hs) S2.sup
    rwa [Sp.echOf_snd] at this
  have sh : ∀ e, (wd * 2 ^ 80) ^ (Sp.red (revs (bas A))).length < 2 ^ e → ∃ D, Sp.Good wd (Sp.red (revs (bas A))) D e := fun e he => G.sharp PR (rows := revs A) (B := 2 ^ 80) (fun r hr => (vc_revs h r hr).1) (fun r hr j => Nat.le_of_lt ((vc_revs h r hr).2 j)) s1 s2 he
  have hlen := G.len_le
  have ok := com_ok hw hb (by omega) f (sh 500 (hp6 hw (by omega) (by decide))) (by decide)
  refine ⟨ok, ?_⟩
  by_cases c5 : (Sp.red (revs (bas A))).length ≤ 5
  · exact (com_ok hw hb (by omega) f (sh 414 (hp5 hw c5 (by decide))) (by decide)).vc
  · have h1 : (bas (revs (bas A))).length = (Sp.red (revs (bas A))).length := by unfold bas; rw [List.length_map, srt_len]
    have h2 := dim_revs (wd := wd) (by omega) hb
    have h3 := ok.num
    have : (compl (bas A) wd).length = 0 := by omega
    rw [List.eq_nil_of_length_eq_zero this]
    exact fun v hv => by cases hv
/-- the dual of a dual -/
theorem dual_com {wd : Nat} {C : List (List Int)} (hw : wd ≤ 6) (h : Vc wd 414 C) (hn : C.length ≤ 60) : ComOk C wd 2500 := by
  obtain ⟨f, D, G⟩ := fitGo_sharp (wd := wd) (c := 414) (e := 2500) (by omega) (fun k hk => hp6 hw (by omega) (by decide)) (by decide) (revs C) [] [] ⟨1, 1, good_nil⟩ (fun q hq => by cases hq) both_nil' (fun r hr => by cases hr) (vc_revs h)
  exact com_ok hw h hn f ⟨D, G⟩ (by decide)
/-- the sum of two duals, and its dual -/
theorem meet_com {wd : Nat} {X : List (List Int)} (hw : wd ≤ 6) (h : Vc wd 414 X) (hn : X.length ≤ 60) : FitGo [] X ∧ (∃ D, Sp.Good wd (Sp.red X) D 2500) ∧ ComOk (bas X) wd 2500 := by
  obtain ⟨f, D, G⟩ := fitGo_sharp (wd := wd) (c := 414) (e := 2500) (by omega) (fun k hk => hp6 hw (by omega) (by decide)) (by decide) X [] [] ⟨1, 1, good_nil⟩ (fun q hq => by cases hq) both_nil' (fun r hr => by cases hr) h
  have G : Sp.Good wd (Sp.red X) D 2500 := G
  have GS := good_srt G
  refine ⟨f, ⟨D, G⟩, ?_⟩
  obtain ⟨D2, d2, G2, S2⟩ := Sp.red_spans (c := 414) (wd := wd) (by omega) h
  obtain ⟨f2, D3, G3⟩ := fitGo2 (wd := wd) (c0 := 414) (e := 2500) (S := Sp.srtR (Sp.red X)) (gens := X) (by omega) GS h
    (fun r hr => by
      obtain ⟨q, hq, rfl⟩ := List.mem_map.mp hr
      exact S2.sub _ (by rw [Sp.echOf_snd]; exact List.mem_map.mpr ⟨q, (srt_mem G.nd).mp hq, rfl⟩))
    (fun s hs => by
      refine Sp.inq_trans (S2.sup s hs) fun t ht => ?_
      rw [Sp.echOf_snd] at ht
      obtain ⟨q, hq, rfl⟩ := List.mem_map.mp ht
      exact Sp.inq_mem (List.mem_map.mpr ⟨q, (srt_mem G.nd).mpr hq, rfl⟩))
    (fun q hq j => GS.row_bd hq j) (fun k hk => hp6 hw (by omega) (by decide)) (by decide) (Sp.srtR (Sp.red X)) [] [] (List.Perm.refl _) ⟨1, 1, good_nil⟩ (fun q hq => by cases hq) (Nat.le_refl _) Sp.both_nil
  have er : revT (Sp.srtR (Sp.red X)) = revs (bas X) := by
    unfold revT revs bas
    rw [List.map_map]
    rfl
  rw [er] at f2 G3
  have hb : Vc wd 2500 (bas X) := fun v hvm => by
    obtain ⟨q, hq, rfl⟩ := List.mem_map.mp hvm
    exact ⟨(GS.len q hq).1, fun j => GS.row_bd hq j⟩
  have hbl : (bas X).length ≤ wd := by unfold bas; rw [List.length_map]; exact GS.len_le
  exact com_ok hw hb (by omega) f2 ⟨D3, G3⟩ (by decide)
end Tx

/-! part U8 -/
/-! The law's own sum of products. -/
namespace Tx
open PySem PySem.Spec PyProof.Rows L2 Evl Jb
abbrev s_dot : Stmt := top 31
abbrev nDot : List Str := ["_law_one", "_law_other", "_law_at", "_law_entry"]
theorem sc_dot : FnScope nDot ["_law_one", "_law_other"] (defScope s_dot) := ⟨rfl, rfl, rfl, by decide +kernel, rfl, by decide +kernel, by decide +kernel⟩
theorem boot_sum' : bootBuiltins "sum" = some (.builtin "sum") := by decide +kernel
def prods (x y : List Int) : List Int := (List.range x.length).map fun j => Sp.ent x j * Sp.ent y j
theorem prods_sum : ∀ (n : Nat) (x y : Sp.Fun), ((List.range n).map fun j => x j * y j).sum = Sp.dot n x y
  | 0, _, _ => rfl
  | n + 1, x, y => by
    rw [List.range_succ, List.map_append, List.sum_append, prods_sum n x y]
    show Sp.dot n x y + (x n * y n + 0) = Sp.dot n x y + x n * y n
    omega
theorem ret_cb {σ : L2.St} {H : Hp} {te : TE} {r : List V → Hp → VK → Prop} {D : Ends} (h : te σ H fun v H1 => r [v] H1 D.rt) : tRet (tCB r (tCons te tNil)) D σ H := h
def tDt (K : PySem.W.Frag) : TE := tOp (rI CMulX fun i j => V.int (i * j)) (tVar 3) (tOp (rIxT K) (tVar 1) (tVar 2))
section
variable {P : Program} {w : World} {K : PySem.W.Frag} {mg : Str → Option Value} {base : Heap}
def spDot (K : PySem.W.Frag) : Sp := fun vs H Q _ => ∃ a b x y c, vs = [.ref a, .ref b] ∧ SqT K H a (iVs x) ∧ SqT K H b (iVs y) ∧ x.length = y.length ∧ x.length ≤ 1000 ∧ (∀ j, (Sp.ent x j).natAbs < 2 ^ c) ∧ (∀ j, (Sp.ent y j).natAbs < 2 ^ c) ∧ c ≤ 6000 ∧ ∀ H', Ex H H' → Q (.int (Sp.dot x.length (Sp.ent x) (Sp.ent y))) H'
theorem ok_dot (B : Bt mg) (hsum : mg "sum" = none) (F : Fd K mg "_law_dot" s_dot ["_law_one", "_law_other"]) : Cl P w K mg base 1 "_law_dot" ["_law_one", "_law_other"] (spDot K) := by
  refine cl_mk F sc_dot (fun vs H Q E ⟨a, b, x, y, c, e, _⟩ => by rw [e] <;> rfl) fun f cdv A outer s H vs Q E hr ⟨a, b, x, y, c, ev, hA, hB, hl, hn, bx, by_, hc, q⟩ => ?_
  subst ev
  refine ⟨_, pss_one (ps_ret (pe_callB (cr_sum rfl) (by rfl) hsum boot_sum' (pa_cons (pe_lc (own := [("_law_at", 2), ("_law_entry", 3)]) (g := gTup K 2 (gCons (gName 2) (gCons (gName 3) gNil))) (tt := tYes) (te := tDt K) rfl sc_dot.nd (piE false (by rfl) B.enumerate (pa_cons (pv 0) pa_nil)) (blkOk_by (N := nDot) (sc := defScope s_dot) (by decide +kernel))
    (fun _ _ _ _ _ => (pg_tup rfl (pgs_cons (pg_name (i := 2) sc_dot.nd rfl (by first | exact Or.inl rfl | exact Or.inr rfl)) (pgs_cons (pg_name (i := 3) sc_dot.nd rfl (by first | exact Or.inl rfl | exact Or.inr rfl)) pgs_nil)))) (fun _ _ _ _ _ => pts_nil) (fun _ _ _ _ _ => (pe_op op_mulX (pv 3) (pe_ix ix_tup (pv 1) (pv 2) (fun _ _ => rfl))))) pa_nil))), ?_⟩
  have hg := el_lcG (t := tYes) (te := tDt K) (g := gTup K 2 (gCons (gName 2) (gCons (gName 3) gNil))) (σ := L2.start nDot [.ref a, .ref b]) (H := H) (vs := [2, 3]) (fun _ => true) (fun i => .int (Sp.ent x i * Sp.ent y i))
    (fun i σ2 => i < x.length ∧ σ2[1]? = some (some (.ref b)) ∧ σ2[2]? = some (some (.int (i : Nat))) ∧ σ2[3]? = some (some (.int (Sp.ent x i)))) (ei_enum (K := K) (b := false) (ta := tCons (tVar 0) tNil) (ea_cons (ev_var rfl) ea_nil) hA) (by rw [iVs_len]; omega)
    (fun i z H2 hi _ hz Q hQ => by
      rw [iVs_len] at hi
      refine g_pair hz fun u v hu hv => ?_
      obtain rfl : V.int (i : Nat) = u := Option.some.inj hu
      obtain rfl : V.int (Sp.ent x i) = v := Option.some.inj ((iVs_ent hi).symm.trans hv)
      exact hQ _ ⟨hi, rfl, rfl, rfl⟩ rfl)
    (fun i σ2 H2 _ _ _ => yes_ev)
    (fun i σ2 H2 _ ⟨hi, g1, g2, g3⟩ _ e => ev_op (ev_var g3) (ev_ixV (ev_var g1) (ev_var g2) (ex_t e hB) (by omega)) (rv_I (mulx_ok (a := 6000) (b := 6000) (pow_up (bx i) hc) (pow_up (by_ i) hc) (by decide))))
  rw [iVs_len, given_all fun _ _ => rfl] at hg
  have eg : (List.range x.length).map (fun i => V.int (Sp.ent x i * Sp.ent y i)) = iVs (prods x y) := by unfold prods iVs; rw [List.map_map]; rfl
  rw [eg] at hg
  have hs : (prods x y).sum = Sp.dot x.length (Sp.ent x) (Sp.ent y) := prods_sum _ _ _
  refine ret_cb ?_
  refine hg H (Ex.refl H) _ fun p H2 hp e2 hd => ⟨p, prods x y, rfl, sq_of hd, ?_⟩
  rw [hs]
  exact q H2 e2
end
end Tx

/-! part U9 -/
/-! The law of k03. -/
namespace Tx
open PySem PySem.Spec PyProof.Rows L2 Evl Jb
abbrev s_lawV : Stmt := top 32
abbrev nLaw : List Str := ["_law_script", "_law_k", "_law_pool_here", "_law_width", "_law_first", "_law_second", "_law_one", "_law_other", "_law_saved", "_law_join", "_law_meet", "_law_dual", "_law_vector_here", "_law_row"]
theorem sc_law : FnScope nLaw ["_law_script"] (defScope s_lawV) := ⟨rfl, rfl, rfl, by decide +kernel, rfl, by decide +kernel, by decide +kernel⟩
theorem boot_min : bootBuiltins "min" = some (.builtin "min") := by decide +kernel
def tN1 (K : PySem.W.Frag) (CS : Addr) : TT := tTest (tOp (rInO CS (spHas K CS) true) (tVar 12) (tVar 9))
def tN2 (K : PySem.W.Frag) (CS : Addr) : TT := tOr (tTest (tOp (rInO CS (spHas K CS) true) (tVar 12) (tVar 6))) (tTest (tOp (rInO CS (spHas K CS) true) (tVar 12) (tVar 7)))
def tN3 (K : PySem.W.Frag) : TT := tTest (tOp rNe (tCall (spDot K) [] E0 (tCons (tVar 12) (tCons (tVar 13) tNil))) (tC (.int 0)))
theorem row_vec (v : List Int) : rowD (.tup (v.map Dt.int)) = v := by
  show (v.map Dt.int).map intD = v
  rw [List.map_map]
  conv => rhs; rw [← List.map_id v]
  exact List.map_congr_left fun i _ => rfl
theorem vec_d {wd : Nat} {v : List Int} (hv : v.length = wd) : isVecD (wd : Int) (.tup (v.map Dt.int)) = true := by
  unfold isVecD
  rw [Bool.and_eq_true]
  refine ⟨decide_eq_true (by rw [List.length_map, hv]), List.all_eq_true.mpr fun x hx => ?_⟩
  obtain ⟨i, _, e⟩ := List.mem_map.mp hx
  subst e
  rfl
theorem rep_vec' {K : PySem.W.Frag} {H : Hp} {a : Addr} {v : List Int} (h : SqT K H a (iVs v)) : Rep K H (.tup (v.map Dt.int)) (.ref a) := by
  have := reps_rows (K := K) (H := H) (rows := [v]) (us := [.ref a]) (.cons ⟨a, rfl, h⟩ .nil)
  cases this with
  | cons h _ => exact h
theorem paired_take {α β : Type} {r : α → β → Prop} : ∀ (n : Nat) {xs : List α} {ys : List β}, Paired r xs ys → Paired r (xs.take n) (ys.take n)
  | 0, _, _, _ => .nil
  | _ + 1, _, _, .nil => .nil
  | n + 1, _, _, .cons h t => .cons h (paired_take n t)
section
variable {K : PySem.W.Frag} {H H' : Hp} {σ : L2.St} {ta tb tc : TE} {D : Ends} {tz : TS} {CS CW CV : Addr} {wd : Nat}
theorem ev_nin {x a : Addr} {rows : List (List Int)} {v : List Int} {i j c d : Nat} {DD : Int} (hi : σ[i]? = some (some (.ref a))) (hj : σ[j]? = some (some (.ref x))) (hS : SpAt K CS H x (wd : Nat) rows) (ha : SqT K H a (iVs v)) (hw : wd ≤ 7)
    (G : Sp.Good wd (Sp.srtR (Sp.red rows)) DD d) (hd : d ≤ 8000) (hv : v.length = wd) (hb : ∀ j, (Sp.ent v j).natAbs < 2 ^ c) (hc : c ≤ 8000) (hin : Sp.InQ (Sp.rws (Sp.srtR (Sp.red rows))) (Sp.ent v)) : Ev (tOp (rInO CS (spHas K CS) true) (tVar i) (tVar j)) σ H (.bl false) := fun H1 e Q q => by
  obtain ⟨dx, b, r, ws, kvs, g1, g2, g3, g4, g5⟩ := hS.mono e
  have hh : hasD (wd : Int) (Sp.srtR (Sp.red rows)) (.tup (v.map Dt.int)) = true := by
    unfold hasD
    rw [vec_d hv, Bool.true_and, Option.isNone_iff_eq_none, row_vec]
    exact (Sp.in_iff G hv).mpr hin
  refine ⟨_, hi, _, hj, x, dx, _, rfl, g1, x, dx, (wd : Int), b, r, kvs, Sp.srtR (Sp.red rows), .ref a, .tup (v.map Dt.int), rfl, g1, rep_vec' (ex_t e ha), (fun l el => by cases el; rw [List.length_map, hv]; omega), g4, g5, (fun _ => by rw [row_vec]; exact fitR_of2 G hv (by omega) hb (by have := G.len_le; omega) hd hc), fun H4 e4 => ⟨_, rfl, ?_⟩⟩
  rw [hh]
  exact q H4 e4
theorem q_tup2 {i j : Nat} (h : ta σ H fun x H1 => tb σ H1 fun y H2 => 2 ≤ sizeLine ∧ ∀ p, H2 p = none → gTup K 2 (gCons (gName i) (gCons (gName j) gNil)) (.ref p) σ (upd H2 p (.tup [x, y])) (tz D)) : tSeq (tAsg (tTup (tCons ta (tCons tb tNil))) (gTup K 2 (gCons (gName i) (gCons (gName j) gNil)))) tz D σ H := h
theorem g_two {i j : Nat} {x y : V} {p : Addr} {R : L2.St → Hp → Prop} (k : R ((σ.set i (some x)).set j (some y)) (upd H p (.tup [x, y]))) : gTup K 2 (gCons (gName i) (gCons (gName j) gNil)) (.ref p) σ (upd H p (.tup [x, y])) R := ⟨p, _, rfl, .inl (.inl upd_same), rfl, _, _, rfl, _, _, rfl, rfl, k⟩
theorem q_tup3 {i j l : Nat} (h : ta σ H fun x H1 => tb σ H1 fun y H2 => tc σ H2 fun z H3 => 3 ≤ sizeLine ∧ ∀ p, H3 p = none → gTup K 3 (gCons (gName i) (gCons (gName j) (gCons (gName l) gNil))) (.ref p) σ (upd H3 p (.tup [x, y, z])) (tz D)) : tSeq (tAsg (tTup (tCons ta (tCons tb (tCons tc tNil)))) (gTup K 3 (gCons (gName i) (gCons (gName j) (gCons (gName l) gNil))))) tz D σ H := h
theorem g_three {i j l : Nat} {x y z : V} {p : Addr} {R : L2.St → Hp → Prop} (k : R (((σ.set i (some x)).set j (some y)).set l (some z)) (upd H p (.tup [x, y, z]))) : gTup K 3 (gCons (gName i) (gCons (gName j) (gCons (gName l) gNil))) (.ref p) σ (upd H p (.tup [x, y, z])) R := ⟨p, _, rfl, .inl (.inl upd_same), rfl, _, _, rfl, _, _, rfl, _, _, rfl, rfl, k⟩
theorem q_ifdraw {p t t2 : Addr} {us us2 : List V} {rows rows2 : List (List Int)} {Bd : Nat} (hp : PoolAt H p) (h2 : σ[2]? = some (some (.ref p))) (h4 : σ[4]? = some (some (.ref t))) (h5 : σ[5]? = some (some (.ref t2))) (hσ : σ.set 5 (some (.ref t2)) = σ) (tp : t ≠ p) (tp2 : t2 ≠ p) (hl : H t = some (.lst us)) (hl2 : H t2 = some (.lst us2)) (hR : Refs K H rows us) (hR2 : Refs K H rows2 us2)
    (hn : rows.length ≤ 5) (hn2 : rows2.length ≤ 5) (hV : Vecs wd Bd rows) (hV2 : Vecs wd Bd rows2) (k : ∀ H' t3 us3 rows3, ExB p H H' → H' t3 = some (.lst us3) → Refs K H' rows3 us3 → rows3.length ≤ 7 → Vecs wd Bd rows3 → tz D (σ.set 5 (some (.ref t3))) H') :
    tSeq (tIfS (tTest (tOp rEq (tCall spDraw [] E0 (tCons (tVar 2) (tCons (tC (.int 3)) tNil))) (tC (.int 0)))) (tAsg (tOp rCat (tVar 5) (tSl (rSlL K) (tVar 4) tNoPart (tPart (tC (.int 2))))) (gName 5)) tNext) tz D σ H := by
  refine d_draw (Q := fun y H1 => rEq y (.int 0) H1 fun z H2 => ∃ b, z = .bl b ∧ if b = true then (tAsg (tOp rCat (tVar 5) (tSl (rSlL K) (tVar 4) tNoPart (tPart (tC (.int 2))))) (gName 5)) { D with nx := tz D } σ H2 else tz D σ H2) hp (ev_var h2) (fun _ _ => ev_c) (by decide) (by decide) fun n H1 n0 n1 x1 p1 => ⟨rfl, _, rfl, ?_⟩
  have a1 := x1 _ _ hl tp
  have a2 := x1 _ _ hl2 tp2
  have r1 := refs_B hp hR x1
  have r2 := refs_B hp hR2 x1
  by_cases c : n = 0
  · rw [c]
    refine iteT ?_
    have hlu : us.length = rows.length := hR.length.symm
    have hlu2 : us2.length = rows2.length := hR2.length.symm
    have hcl := cutV_length us none (some 2)
    refine s_asgL (el_catV (ev_var h5) a2 (fun H2 e2 => el_sl (ev_var h4) eo_none (eo_some ev_c) (sq_of (e2 _ _ a1))) (by omega)) fun t3 H3 ht3 e3 hd3 => ?_
    have ec : cutV us none (some 2) = us.take (min 2 us.length) := by
      unfold cutV
      rw [HT.sIx_none, show HT.sIx us.length us.length (some 2) = min 2 us.length from HT.sIx_nat _ _ 2, List.drop_zero, Nat.sub_zero]
    rw [ec] at hd3
    refine k H3 t3 _ (rows2 ++ rows.take (min 2 us.length)) (x1.trans (ExB.of e3)) hd3 (paired_app (r2.mono e3) (paired_take _ (r1.mono e3))) (by rw [List.length_append, List.length_take]; omega) fun r hr => ?_
    rcases List.mem_append.mp hr with z | z
    · exact hV2 r z
    · exact hV r (List.mem_of_mem_take z)
  · have : decide (V.int n = V.int 0) = false := decide_eq_false fun z => c (V.int.inj z)
    rw [this]
    refine iteF ?_
    rw [← hσ]
    exact k H1 t2 us2 rows2 x1 a2 r2 (by omega) hV2
theorem t_or {x y : Addr} {A B : List (List Int)} {Bd : Nat} {Q : VK} (tyI : ∀ H a dx fs, H a = some (.ins CS dx fs) → TyX K H (.ref a) (.ref CS)) (h6 : σ[6]? = some (some (.ref x))) (h7 : σ[7]? = some (some (.ref y))) (hS : SpAt K CS H x (wd : Nat) A) (hS2 : SpAt K CS H y (wd : Nat) B) (hw1 : 1 ≤ wd) (hw : wd ≤ 7) (hn : (bas A ++ bas B).length ≤ 100) (hf : FitV (rowsD (bas A ++ bas B))) (hV : Vecs wd Bd (bas A ++ bas B))
    (q : ∀ H' z, Ex H H' → SpAt K CS H' z (wd : Nat) (bas A ++ bas B) → Q (.ref z) H') : tOp (rBinO K CS (spOr K CS)) (tVar 6) (tVar 7) σ H Q := by
  have k1 := hS
  have k2 := hS2
  obtain ⟨dx, b, r, ws, kvs, g1, _⟩ := k1
  obtain ⟨dx2, b2, r2, ws2, kvs2, g2, _⟩ := k2
  exact ⟨_, h6, _, h7, x, dx, _, rfl, g1, tyI _ _ _ _ g2, x, y, wd, A, B, Bd, rfl, hS, hS2, tyI _ _ _ _ g2, hw1, hw, hn, hf, hV, fun H' z e hz => ⟨⟨z, rfl⟩, q H' z e hz⟩⟩
theorem t_inv {x : Addr} {A : List (List Int)} {Bd i : Nat} {Q : VK} (h6 : σ[i]? = some (some (.ref x))) (hS : SpAt K CS H x (wd : Nat) A) (hw1 : 1 ≤ wd) (hw : wd ≤ 7) (hW : FitCm (bas A) wd) (hf : FitV (rowsD (compl (bas A) wd))) (hV : Vecs wd Bd (compl (bas A) wd))
    (q : ∀ H' z, Ex H H' → SpAt K CS H' z (wd : Nat) (compl (bas A) wd) → Q (.ref z) H') : tUn (rInvO CS (spInv K CS)) (tVar i) σ H Q := by
  have k1 := hS
  obtain ⟨dx, b, r, ws, kvs, g1, _⟩ := k1
  exact ⟨_, h6, x, dx, _, rfl, g1, x, wd, A, Bd, rfl, hS, hw1, hw, hW, hf, hV, fun H' z e hz => q H' z e hz⟩
theorem t_and {x y : Addr} {A B : List (List Int)} {Bd : Nat} {Q : VK} (tyI : ∀ H a dx fs, H a = some (.ins CS dx fs) → TyX K H (.ref a) (.ref CS)) (h6 : σ[6]? = some (some (.ref x))) (h7 : σ[7]? = some (some (.ref y))) (hS : SpAt K CS H x (wd : Nat) A) (hS2 : SpAt K CS H y (wd : Nat) B) (hw1 : 1 ≤ wd) (hw : wd ≤ 7) (hWA : FitCm (bas A) wd) (hWB : FitCm (bas B) wd)
    (hXn : (meetX A B wd).length ≤ 60) (hXg : FitGo [] (meetX A B wd)) (hXd : ((Sp.red (meetX A B wd)).map (·.1)).Nodup) (hWX : FitCm (bas (meetX A B wd)) wd) (hf : FitV (rowsD (compl (bas (meetX A B wd)) wd))) (hV : Vecs wd Bd (compl (bas (meetX A B wd)) wd))
    (q : ∀ H' z, Ex H H' → SpAt K CS H' z (wd : Nat) (compl (bas (meetX A B wd)) wd) → Q (.ref z) H') : tOp (rBinO K CS (spAnd K CS)) (tVar 6) (tVar 7) σ H Q := by
  have k1 := hS
  have k2 := hS2
  obtain ⟨dx, b, r, ws, kvs, g1, _⟩ := k1
  obtain ⟨dx2, b2, r2, ws2, kvs2, g2, _⟩ := k2
  exact ⟨_, h6, _, h7, x, dx, _, rfl, g1, tyI _ _ _ _ g2, x, y, wd, A, B, Bd, rfl, hS, hS2, tyI _ _ _ _ g2, hw1, hw, hWA, hWB, hXn, hXg, hXd, hWX, hf, hV, fun H' z e hz => ⟨⟨z, rfl⟩, q H' z e hz⟩⟩
end
theorem rws_bas {A : List (List Int)} : Sp.rws (Sp.srtR (Sp.red A)) = (bas A).map Sp.ent := by
  unfold Sp.rws bas
  rw [List.map_map]
  rfl
theorem bas_bas {wd c d : Nat} {A : List (List Int)} (hw : wd ≤ 7) (h : Vc wd c A) (h2 : Vc wd d (bas A)) : (bas (bas A)).length = (bas A).length :=
  Sp.dim_eq (dim_bas hw h2) (dim_bas hw h) (bas_sub hw h) (bas_sup hw h)
structure LawF (wd : Nat) (A B : List (List Int)) : Prop where
  fA : FitV (rowsD A)
  fB : FitV (rowsD B)
  vA : Vc wd 500 (bas A)
  vB : Vc wd 500 (bas B)
  gA : ∃ D, Sp.Good wd (Sp.srtR (Sp.red A)) D 500
  gB : ∃ D, Sp.Good wd (Sp.srtR (Sp.red B)) D 500
  lA : (bas A).length ≤ wd
  lB : (bas B).length ≤ wd
  cA : ComOk (bas A) wd 500
  cB : ComOk (bas B) wd 500
  fJ : FitV (rowsD (bas A ++ bas B))
  gJ : ∃ D, Sp.Good wd (Sp.srtR (Sp.red (bas A ++ bas B))) D 3020
  lJ : (bas (bas A ++ bas B)).length = Sp.rank wd (A ++ B)
  sJ : ∀ v ∈ A ++ B, Sp.InQ (Sp.rws (Sp.srtR (Sp.red (bas A ++ bas B)))) (Sp.ent v)
  xn : (meetX A B wd).length ≤ 60
  xf : FitGo [] (meetX A B wd)
  xd : ((Sp.red (meetX A B wd)).map (·.1)).Nodup
  cX : ComOk (bas (meetX A B wd)) wd 2500
  dimM : (bas A).length + (bas B).length = (bas (bas A ++ bas B)).length + (compl (bas (meetX A B wd)) wd).length
  inM : ∀ v ∈ compl (bas (meetX A B wd)) wd, Sp.InQ (Sp.rws (Sp.srtR (Sp.red A))) (Sp.ent v) ∧ Sp.InQ (Sp.rws (Sp.srtR (Sp.red B))) (Sp.ent v)
  lD : (compl (bas A) wd).length + (bas A).length = wd
  dD : ∀ c ∈ compl (bas A) wd, ∀ v ∈ A, Sp.dot wd (Sp.ent c) (Sp.ent v) = 0
  c2 : ComOk (compl (bas A) wd) wd 2500
  back : bas (compl (compl (bas A) wd) wd) = bas A
theorem lawF {wd : Nat} {A B : List (List Int)} (hw : wd ≤ 6) (hA : Vc wd 80 A) (hB : Vc wd 80 B) (nA : A.length ≤ 60) (nB : B.length ≤ 60) : LawF wd A B := by
  obtain ⟨fA, DA, GA⟩ := giv_fit hw hA nA
  obtain ⟨fB, DB, GB⟩ := giv_fit hw hB nB
  obtain ⟨vA, lA⟩ := giv_bas hw hA nA
  obtain ⟨vB, lB⟩ := giv_bas hw hB nB
  obtain ⟨cA, wA⟩ := giv_com hw hA nA
  obtain ⟨cB, wB⟩ := giv_com hw hB nB
  have vJ := vc_app vA vB
  obtain ⟨fJ, DJ, GJ⟩ := fit_sharp (wd := wd) (c := 500) (e := 3020) (by omega) (fun k hk => hp6 hw (by omega) (by decide)) (by decide) (show (bas A ++ bas B).length ≤ 60 by rw [List.length_append]; omega) vJ
  have vX : Vc wd 414 (meetX A B wd) := vc_app wA wB
  have xn : (meetX A B wd).length ≤ 60 := by
    have := cA.num
    have := cB.num
    unfold meetX
    rw [List.length_append]
    omega
  obtain ⟨xf, ⟨DX, GX⟩, cX⟩ := meet_com hw vX xn
  have c2 := dual_com hw wA (by have := cA.num; omega)
  have hAB : Vc wd 80 (A ++ B) := vc_app hA hB
  have j1 : ∀ s ∈ (A ++ B).map Sp.ent, Sp.InQ ((bas A ++ bas B).map Sp.ent) s := fun s hs => by
    rw [List.map_append] at hs ⊢
    rcases List.mem_append.mp hs with z | z
    · exact Sp.inq_mono (fun t ht => List.mem_append_left _ ht) (bas_sup (by omega) hA s z)
    · exact Sp.inq_mono (fun t ht => List.mem_append_right _ ht) (bas_sup (by omega) hB s z)
  have j2 : ∀ s ∈ (bas A ++ bas B).map Sp.ent, Sp.InQ ((A ++ B).map Sp.ent) s := fun s hs => by
    rw [List.map_append] at hs ⊢
    rcases List.mem_append.mp hs with z | z
    · exact Sp.inq_mono (fun t ht => List.mem_append_left _ ht) (bas_sub (by omega) hA s z)
    · exact Sp.inq_mono (fun t ht => List.mem_append_right _ ht) (bas_sub (by omega) hB s z)
  obtain ⟨D1, G1⟩ := cA.gd
  obtain ⟨D2, G2⟩ := cB.gd
  obtain ⟨D3, G3⟩ := cX.gd
  obtain ⟨D4, G4⟩ := c2.gd
  -- what lies in the meet
  have hm : ∀ x, Sp.Sup wd x → (Sp.InQ ((compl (bas (meetX A B wd)) wd).map Sp.ent) x ↔ Sp.InQ ((bas A).map Sp.ent) x ∧ Sp.InQ ((bas B).map Sp.ent) x) := fun x sx => by
    have e1 : Sp.InQ ((compl (bas (meetX A B wd)) wd).map Sp.ent) x ↔ _ := G3.dualR_iff cX.rev sx
    have e2 : Sp.InQ ((bas A).map Sp.ent) x ↔ ∀ c ∈ compl (bas A) wd, _ := G1.dualR_dual cA.rev sx
    have e3 : Sp.InQ ((bas B).map Sp.ent) x ↔ ∀ c ∈ compl (bas B) wd, _ := G2.dualR_dual cB.rev sx
    rw [e1, e2, e3]
    constructor
    · intro h
      have h2 : ∀ v ∈ meetX A B wd, Sp.dot wd (Sp.ent v) x = 0 := fun v hv => by
        rw [Sp.dot_comm]
        refine Sp.dot_inq (fun s hs => ?_) (bas_sup (by omega) vX _ (List.mem_map.mpr ⟨v, hv, rfl⟩))
        obtain ⟨u, hu, rfl⟩ := List.mem_map.mp hs
        rw [Sp.dot_comm]
        exact h u hu
      exact ⟨fun c hc => h2 c (List.mem_append_left _ hc), fun c hc => h2 c (List.mem_append_right _ hc)⟩
    · rintro ⟨h1, h2⟩ v hv
      rw [Sp.dot_comm]
      refine Sp.dot_inq (fun s hs => ?_) (bas_sub (by omega) vX _ (List.mem_map.mpr ⟨v, hv, rfl⟩))
      obtain ⟨u, hu, rfl⟩ := List.mem_map.mp hs
      rw [Sp.dot_comm]
      rcases List.mem_append.mp hu with z | z
      · exact h1 u z
      · exact h2 u z
  have vM := cX.vc
  have bA : (bas (bas A)).length = (bas A).length := bas_bas (by omega) hA vA
  have bB : (bas (bas B)).length = (bas B).length := bas_bas (by omega) hB vB
  refine {
    fA := fA, fB := fB, vA := vA, vB := vB, gA := ⟨DA, good_srt GA⟩, gB := ⟨DB, good_srt GB⟩, lA := lA, lB := lB, cA := cA, cB := cB, fJ := fJ, gJ := ⟨DJ, good_srt GJ⟩,
    lJ := ?_, sJ := fun v hv => ?_, xn := xn, xf := xf, xd := GX.nd, cX := cX, dimM := ?_, inM := fun v hv => ?_, lD := ?_, dD := fun c hc v hv => ?_, c2 := c2, back := ?_ }
  · have h1 : (bas (A ++ B)).length = Sp.rank wd (A ++ B) := by
      unfold bas
      rw [List.length_map, srt_len]
      exact Sp.red_rank (c := 80) (wd := wd) (by omega) hAB
    rw [← h1]
    exact Sp.dim_eq (dim_bas (by omega) vJ) (dim_bas (by omega) hAB) j2 j1
  · rw [rws_bas]
    exact Sp.inq_trans (j1 _ (List.mem_map.mpr ⟨v, hv, rfl⟩)) (bas_sup (by omega) vJ)
  · have k := Sp.dim_add (w := wd) (sup_rows vA) (sup_rows vB) (dim_bas (by omega) vA) (dim_bas (by omega) vB) (by rw [← List.map_append]; exact dim_bas (by omega) vJ) (dim_bas (by omega) vM) (sup_rows vM) hm
    rw [bA, bB, cX.same] at k
    exact k
  · rw [rws_bas, rws_bas]
    exact (hm _ (Sp.ent_sup (vM v hv).1)).mp (Sp.inq_mem (List.mem_map.mpr ⟨v, hv, rfl⟩))
  · have := cA.num
    rw [bA] at this
    exact this
  · have h1 : ∀ u ∈ bas A, Sp.dot wd (Sp.ent u) (Sp.ent c) = 0 := (G1.dualR_iff cA.rev (Sp.ent_sup (wA c hc).1)).mp (Sp.inq_mem (List.mem_map.mpr ⟨c, hc, rfl⟩))
    refine Sp.dot_inq (fun s hs => ?_) (bas_sup (by omega) hA _ (List.mem_map.mpr ⟨v, hv, rfl⟩))
    obtain ⟨u, hu, rfl⟩ := List.mem_map.mp hs
    rw [Sp.dot_comm]
    exact h1 u hu
  · refine (Sp.red_eq (wd := wd) (c := 2500) (by omega) c2.vc (vc_up hA (by decide))).mpr ⟨fun x hx => ?_, fun x hx => ?_⟩
    · have sx : Sp.Sup wd (Sp.ent x) := Sp.ent_sup (c2.vc x hx).1
      have h1 := (G4.dualR_iff c2.rev sx).mp (Sp.inq_mem (List.mem_map.mpr ⟨x, hx, rfl⟩))
      exact Sp.inq_trans ((G1.dualR_dual cA.rev sx).mpr h1) (bas_sub (by omega) hA)
    · have sx : Sp.Sup wd (Sp.ent x) := Sp.ent_sup (hA x hx).1
      exact (G4.dualR_iff c2.rev sx).mpr ((G1.dualR_dual cA.rev sx).mp (bas_sup (by omega) hA _ (List.mem_map.mpr ⟨x, hx, rfl⟩)))
theorem eqv_refI (r : List Int) : PyData.eqv (.list (r.map PyData.int)) (.list (r.map PyData.int)) = true := SeqAt.eqv_refl _ (by simp only [PyData.canLay0, (lay_ints r).1])
theorem given_none {n : Nat} {v : Nat → V} : given n (fun _ => false) v = [] := by
  unfold given
  rw [List.map_eq_nil_iff, List.filter_eq_nil_iff]
  exact fun _ _ => nofun
section
variable {K : PySem.W.Frag} {H : Hp} {σ : L2.St} {ta tb te : TE} {CS : Addr}
theorem el_catW {l m : Addr} {us ys : List V} (ha : Ev ta σ H (.ref l)) (hb : Ev tb σ H (.ref m)) (hl : H l = some (.lst us)) (hm : H m = some (.lst ys)) (hz : us.length + ys.length ≤ 1000) : EvL (tOp rCat ta tb) σ H (us ++ ys) := fun H1 e Q q =>
  ha H1 e _ fun H2 e2 => hb H2 (e.trans e2) _ fun H3 e3 => ⟨l, m, us, ys, rfl, rfl, ((e.trans e2).trans e3) _ _ hl, ((e.trans e2).trans e3) _ _ hm, Nat.le_of_lt (small1000 hz), fun p hp => q p _ (fresh_back (e2.trans e3) hp) ((e2.trans e3).trans (Ex.new hp)) upd_same⟩
theorem et_neNil {te : TE} (h : EvL te σ H []) : EvT (tTest (tOp (rNeD K) te (tLst tNil))) σ H false :=
  et_test (ev_opLL (ys := []) h (el_lst ea_nil (by decide)) fun p q H1 hp hq e H2 e2 Q k => ⟨.list [], .list [], .lst (sq_of (e2 _ _ hp)) .nil, .lst (sq_of (e2 _ _ hq)) .nil, rfl, rfl, k H2 (Ex.refl H2)⟩)
theorem et_neBas {rows want : List (List Int)} {wi : Int} (h : ∀ H1, Ex H H1 → ∀ Q : VK, (∀ H2 x, Ex H1 H2 → SpAt K CS H2 x wi rows → Q (.ref x) H2) → te σ H1 Q)
    (h2 : ∀ H1, Ex H H1 → ∀ Q : VK, (∀ H2 t ws, Ex H1 H2 → SqT K H2 t ws → Refs K H2 want ws → Q (.ref t) H2) → tb σ H1 Q) (hb : bas rows = want) : EvT (tTest (tOp (rNeD K) (tProp CS (getSp CS "_basis") [] E0 te) tb)) σ H false := by
  refine et_test fun H1 e Q q => ?_
  refine h H1 e _ fun H2 x e2 ⟨dx, b, r, ws, kvs, g1, g2, g3, _⟩ => ?_
  have fb : (spF wi b r).lookup ("_basis" : Str) = some (.ref b) := rfl
  refine ⟨x, dx, _, rfl, g1, x, dx, _, .ref b, rfl, g1, fb, ?_⟩
  refine h2 H2 (e.trans e2) _ fun H3 t ws2 e3 ht hR => ?_
  refine ⟨.tuple (pyR (bas rows)), .tuple (pyR want), .tup (ex_t e3 g2) (dp_rows (g3.mono e3)), .tup ht (dp_rows hR), shaped_tup _, shaped_tup _, ?_⟩
  have e4 : PyData.eqv (.tuple (pyR (bas rows))) (.tuple (pyR want)) = decide (bas rows = want) := eqv_rows _ _
  rw [e4, decide_eq_true hb]
  exact q H3 (e2.trans e3)
end

section
variable {P : Program} {w : World} {K : PySem.W.Frag} {mg : Str → Option Value} {base : Heap}
theorem ok_law {CS CW CV fI f fL fO fA fV fC : Addr} {fdI fd dL dO dA dV dC : FuncData} (B : Bt mg) (S : SpT K mg CS) (F : L2.Fun K "law" "law" s_lawV f fd) (M : Mk K CS fI) (FI : FnOk P w K mg base (L2.CX P w) 4 fI fdI nIni (spInit K CS CW CV)) (hb : Binds K fdI nIni [])
    (hl : PySem.W.findIn K (.ref CS) "__len__" = some (some (.ref fL))) (hlf : PySem.W.isFn K (.ref fL) = true) (Fl : FnOk P w K mg base CX0 1 fL dL ["self"] (spLenm K CS)) (hbl : Binds K dL ["self"] []) (Wb : Wid P w K mg base CS "basis" "_basis") (Ww : Wid P w K mg base CS "width" "_width")
    (first : PySem.W.selfFirst K CS = true) (hso : PySem.W.findIn K (.ref CS) (PySem.dunder (Operator.info .BitOr).2) = some (some (.ref fO))) (hfo : PySem.W.isFn K (.ref fO) = true) (Fo : FnOk P w K mg base (L2.CX P w) 6 fO dO ["self", "other"] (spOr K CS)) (hbo : Binds K dO ["self", "other"] [])
    (hsa : PySem.W.findIn K (.ref CS) (PySem.dunder (Operator.info .BitAnd).2) = some (some (.ref fA))) (hfa : PySem.W.isFn K (.ref fA) = true) (Fa : FnOk P w K mg base (L2.CX P w) 6 fA dA ["self", "other"] (spAnd K CS)) (hba : Binds K dA ["self", "other"] [])
    (hsi : PySem.W.findIn K (.ref CS) "__invert__" = some (some (.ref fV))) (hfi : PySem.W.isFn K (.ref fV) = true) (Fi : FnOk P w K mg base (L2.CX P w) 6 fV dV ["self"] (spInv K CS)) (hbi : Binds K dV ["self"] [])
    (hc : PySem.W.findIn K (.ref CS) "__contains__" = some (some (.ref fC))) (hcf : PySem.W.isFn K (.ref fC) = true) (Fh : FnOk P w K mg base CX0 3 fC dC nHas (spHas K CS)) (hbh : Binds K dC nHas []) (tyI : ∀ H a dx fs, H a = some (.ins CS dx fs) → TyX K H (.ref a) (.ref CS))
    (Cp : Cl P w K mg base 1 "_law_pool" ["_law_script", "_law_k"] (spPool K)) (Cd : Cl P w K mg base 1 "_law_draw" ["_law_pool_here", "_law_count"] spDraw) (Cv : Cl P w K mg base 3 "_law_vectors" ["_law_pool_here", "_law_width", "_law_most"] (spVecs K))
    (Cr : Cl P w K mg base 1 "_law_rank" ["_law_vectors_here"] (spRank K)) (Ct : Cl P w K mg base 1 "_law_dot" ["_law_one", "_law_other"] (spDot K)) :
    FnOk P w K mg base CX0 7 f fd ["_law_script"] (fun vs H Q _ => ∃ a ns, vs = [.ref a] ∧ SqL K H a (iVs ns) ∧ (∀ z ∈ ns, Builtin.Int.intBits z ≤ 1048576) ∧ ∀ H', Q (.bl true) H') := by
  refine F.ok sc_law (fun vs H Q E ⟨a, ns, e, _⟩ => by rw [e] <;> rfl) (fun cdv A outer s H vs Q E hr ⟨a, ns, ev, hS, hbt, q⟩ => ?_)
  subst ev
  have hu := hr.units
  have h1 : Room 1 _ := hr.mono (by decide)
  have h2 : Room 2 _ := hr.mono (by decide)
  have h3 : Room 3 _ := hr.mono (by decide)
  have h5 : Room 5 _ := hr.mono (by decide)
  have h6 : Room 6 _ := hr
  refine ⟨_, pss_cons (ps_for PassesOwn.never rfl (pi_range1 (by rfl) B.range (pa_cons (pe_callB (call_max2 rfl) (by rfl) B.max boot_max (pa_cons pe_int (pa_cons (pe_callB (call_min2 rfl) (by rfl) B.min boot_min (pa_cons pe_int (pa_cons (pe_callB call_len (by rfl) B.len boot_le (pa_cons (pv 0) pa_nil)) pa_nil))) pa_nil))) pa_nil)) (pg_name (i := 1) sc_law.nd rfl (by first | exact Or.inl rfl | exact Or.inr rfl)) (pss_cons (ps_set (i := 2) sc_law.nd rfl (by first | exact Or.inl rfl | exact Or.inr rfl) (pe_cl Cp h1 (by rfl) (pa_cons (pv 0) (pa_cons (pv 1) pa_nil))))
    (pss_cons (ps_set (i := 3) sc_law.nd rfl (by first | exact Or.inl rfl | exact Or.inr rfl) (pe_op op_add pe_int (pe_cl Cd h1 (by rfl) (pa_cons (pv 2) (pa_cons pe_int pa_nil)))))
    (pss_cons (ps_par (i := 4) (j := 5) rfl sc_law.nd rfl rfl (by decide) rfl rfl (pa_cons (pe_cl Cv h3 (by rfl) (pa_cons (pv 2) (pa_cons (pv 3) (pa_cons pe_int pa_nil)))) (pa_cons (pe_cl Cv h3 (by rfl) (pa_cons (pv 2) (pa_cons (pv 3) (pa_cons pe_int pa_nil)))) pa_nil)) rfl)
    (pss_cons (ps_if (pt_cmpR op_eq (pe_cl Cd h1 (by rfl) (pa_cons (pv 2) (pa_cons pe_int pa_nil))) pe_int (nomark _)) (pss_one (ps_set (i := 5) sc_law.nd rfl (by first | exact Or.inl rfl | exact Or.inr rfl) (pe_op op_cat (pv 5) (pe_slice sl_list (pv 4) po_none (po_some pe_int))))) pss_nil)
    (pss_cons (ps_asg (pe_tup (pa_cons (pe_make (dvs := []) M FI h5 (by rfl) S.g hb .nil passL (pa_cons (pv 3) (pa_cons (pv 4) pa_nil))) (pa_cons (pe_make (dvs := []) M FI h5 (by rfl) S.g hb .nil passL (pa_cons (pv 3) (pa_cons (pv 5) pa_nil))) pa_nil))) (pg_tup rfl (pgs_cons (pg_name (i := 6) sc_law.nd rfl (by first | exact Or.inl rfl | exact Or.inr rfl)) (pgs_cons (pg_name (i := 7) sc_law.nd rfl (by first | exact Or.inl rfl | exact Or.inr rfl)) pgs_nil))))
    (pss_cons (ps_set (i := 8) sc_law.nd rfl (by first | exact Or.inl rfl | exact Or.inr rfl) (pe_lst (pa_cons (pe_wid Wb S.cl h2 (pv 6) rfl) (pa_cons (pe_wid Wb S.cl h2 (pv 7) rfl) pa_nil))))
    (pss_cons (ps_asg (pe_tup (pa_cons (pe_op (op_binO first hso hfo Fo h6 hbo) (pv 6) (pv 7)) (pa_cons (pe_op (op_binO first hsa hfa Fa h6 hba) (pv 6) (pv 7)) (pa_cons (pe_un (un_invO hsi hfi Fi h6 hbi) (pv 6)) pa_nil)))) (pg_tup rfl (pgs_cons (pg_name (i := 9) sc_law.nd rfl (by first | exact Or.inl rfl | exact Or.inr rfl)) (pgs_cons (pg_name (i := 10) sc_law.nd rfl (by first | exact Or.inl rfl | exact Or.inr rfl)) (pgs_cons (pg_name (i := 11) sc_law.nd rfl (by first | exact Or.inl rfl | exact Or.inr rfl)) pgs_nil)))))
    (pss_cons (ps_if (pt_cmpR op_ne (pe_callB (call_lenO hl hlf Fl h2 hbl) (by rfl) B.len boot_le (pa_cons (pv 9) pa_nil)) (pe_cl Cr h1 (by rfl) (pa_cons (pe_op op_cat (pv 4) (pv 5)) pa_nil)) (nomark _)) (pss_one (ps_ret pe_bl)) pss_nil)
    (pss_cons (ps_if (pt_cmpR (op_neD hu) (pe_lc (own := [("_law_vector_here", 12)]) (g := gName 12) (tt := tN1 K CS) (te := (tVar 12)) rfl sc_law.nd (pi_list (pe_op op_cat (pv 4) (pv 5))) (blkOk_by (N := nLaw) (sc := defScope s_lawV) (by decide +kernel)) (fun _ _ _ _ _ => (pg_name (i := 12) sc_law.nd rfl (by first | exact Or.inl rfl | exact Or.inr rfl))) (fun _ _ _ _ _ => (pts_one (pt_cmpR (op_ninO hc hcf Fh h3 hbh) (pv 12) (pv 9) (by with_unfolding_all rfl)))) (fun _ _ _ _ _ => (pv 12))) (pe_lst pa_nil) (nomark _)) (pss_one (ps_ret pe_bl)) pss_nil)
    (pss_cons (ps_if (pt_cmpR op_ne (pe_callB (call_lenO hl hlf Fl h2 hbl) (by rfl) B.len boot_le (pa_cons (pv 10) pa_nil)) (pe_op op_sub (pe_op op_add (pe_callB (call_lenO hl hlf Fl h2 hbl) (by rfl) B.len boot_le (pa_cons (pv 6) pa_nil)) (pe_callB (call_lenO hl hlf Fl h2 hbl) (by rfl) B.len boot_le (pa_cons (pv 7) pa_nil))) (pe_callB (call_lenO hl hlf Fl h2 hbl) (by rfl) B.len boot_le (pa_cons (pv 9) pa_nil))) (nomark _)) (pss_one (ps_ret pe_bl)) pss_nil)
    (pss_cons (ps_if (pt_cmpR (op_neD hu) (pe_lc (own := [("_law_vector_here", 12)]) (g := gName 12) (tt := tN2 K CS) (te := (tVar 12)) rfl sc_law.nd (pi_tup (pe_wid Wb S.cl h2 (pv 10) rfl)) (blkOk_by (N := nLaw) (sc := defScope s_lawV) (by decide +kernel)) (fun _ _ _ _ _ => (pg_name (i := 12) sc_law.nd rfl (by first | exact Or.inl rfl | exact Or.inr rfl))) (fun _ _ _ _ _ => (pts_one (PW.pt (pw_or (pt_cmpR (op_ninO hc hcf Fh h3 hbh) (pv 12) (pv 6) (by with_unfolding_all rfl)) (pw_or1 (pt_cmpR (op_ninO hc hcf Fh h3 hbh) (pv 12) (pv 7) (by with_unfolding_all rfl))))))) (fun _ _ _ _ _ => (pv 12))) (pe_lst pa_nil) (nomark _)) (pss_one (ps_ret pe_bl)) pss_nil)
    (pss_cons (ps_if (pt_cmpR op_ne (pe_callB (call_lenO hl hlf Fl h2 hbl) (by rfl) B.len boot_le (pa_cons (pv 11) pa_nil)) (pe_op op_sub (pv 3) (pe_callB (call_lenO hl hlf Fl h2 hbl) (by rfl) B.len boot_le (pa_cons (pv 6) pa_nil))) (nomark _)) (pss_one (ps_ret pe_bl)) pss_nil)
    (pss_cons (ps_if (pt_cmpR (op_neD hu) (pe_lst (pa_cons (pe_wid Ww S.cl h2 (pv 9) rfl) (pa_cons (pe_wid Ww S.cl h2 (pv 10) rfl) (pa_cons (pe_wid Ww S.cl h2 (pv 11) rfl) pa_nil)))) (pe_op op_rep (pe_lst (pa_cons (pv 3) pa_nil)) pe_int) (nomark _)) (pss_one (ps_ret pe_bl)) pss_nil)
    (pss_cons (ps_for PassesOwn.never rfl (pi_tup (pe_wid Wb S.cl h2 (pv 11) rfl)) (pg_name (i := 12) sc_law.nd rfl (by first | exact Or.inl rfl | exact Or.inr rfl)) (pss_one (ps_if (pt_cmpR (op_neD hu) (pe_lc (own := [("_law_row", 13)]) (g := gName 13) (tt := tN3 K) (te := (tVar 13)) rfl sc_law.nd (pi_list (pv 4)) (blkOk_by (N := nLaw) (sc := defScope s_lawV) (by decide +kernel)) (fun _ _ _ _ _ => (pg_name (i := 13) sc_law.nd rfl (by first | exact Or.inl rfl | exact Or.inr rfl))) (fun _ _ _ _ _ => (pts_one (pt_cmpR op_ne (pe_cl Ct h1 (by rfl) (pa_cons (pv 12) (pa_cons (pv 13) pa_nil))) pe_int (nomark _)))) (fun _ _ _ _ _ => (pv 13))) (pe_lst pa_nil) (nomark _)) (pss_one (ps_ret pe_bl)) pss_nil)))
    (pss_one (ps_if (PW.pt (pw_or (pt_cmpR (op_neD hu) (pe_lst (pa_cons (pe_wid Wb S.cl h2 (pv 6) rfl) (pa_cons (pe_wid Wb S.cl h2 (pv 7) rfl) pa_nil))) (pv 8) (nomark _)) (pw_or1 (pt_cmpR (op_neD hu) (pe_wid Wb S.cl h2 (pe_un (un_invO hsi hfi Fi h6 hbi) (pv 11)) rfl) (pe_wid Wb S.cl h2 (pv 6) rfl) (nomark _))))) (pss_one (ps_ret pe_bl)) pss_nil))))))))))))))))) (pss_one (ps_ret pe_bl)), ?_⟩
  have hn : ∀ m : Int, 0 ≤ (if (if m < 5 then m else 5) > 1 then (if m < 5 then m else 5) else (1 : Int)) ∧ (if (if m < 5 then m else 5) > 1 then (if m < 5 then m else 5) else (1 : Int)) ≤ 5 := fun m => by split <;> split <;> omega
  refine q_forR1 (n := if (if ((iVs ns).length : Int) < 5 then ((iVs ns).length : Int) else 5) > 1 then (if ((iVs ns).length : Int) < 5 then ((iVs ns).length : Int) else 5) else 1) (ea_cons (ev_mx ev_c (ev_mn ev_c (ev_lenB (K := K) (b := true) (ev_var rfl) hS))) ea_nil)
    ⟨(hn _).1, by have := (hn ((iVs ns).length : Int)).2; omega⟩
    (fun i σ' H' => (∃ u1 u2 u3 u4 u5 u6 u7 u8 u9 u10 u11 u12 u13, σ' = [some (.ref a), u1, u2, u3, u4, u5, u6, u7, u8, u9, u10, u11, u12, u13]) ∧ Ex H H') (fun H5 e5 => ⟨⟨_, _, _, _, _, _, _, _, _, _, _, _, _, rfl⟩, e5⟩) ?_ ?_
  · rintro i σ' H5 hi ⟨⟨u1, u2, u3, u4, u5, u6, u7, u8, u9, u10, u11, u12, u13, rfl⟩, e5⟩
    have hi4 : i ≤ 1000 := by have := (hn ((iVs ns).length : Int)).2; omega
    refine ⟨_, rfl, _, rfl, a, ns, i, rfl, ex_l e5 hS, hi4, hbt, fun H6 p e6 hp pl6 => ?_⟩
    refine q_opDr (i := 3) (c := 6) pl6 (ev_var rfl) (fun _ _ => ev_c) (by decide) (by decide) fun n H7 n0 n1 x7 pl7 => ?_
    obtain ⟨wd, hwd, hwe⟩ : ∃ wd : Nat, (1 ≤ wd ∧ wd ≤ 6) ∧ 1 + n = (wd : Int) := ⟨(1 + n).toNat, by omega, by omega⟩
    rw [hwe]
    have hw1 := hwd.1
    have hw7 : wd ≤ 7 := by omega
    refine ⟨_, rfl, _, rfl, p, wd, 5, rfl, pl7, by omega, by decide, fun H8 t us rows x8 pl8 ht7 ht hR hlen hV => ?_⟩
    refine ⟨_, rfl, _, rfl, p, wd, 5, rfl, pl8, by omega, by decide, fun H9 t2 us2 rows2 x9 pl9 ht8 ht2 hR2 hlen2 hV2 => ⟨_, _, rfl, ?_⟩⟩
    have htp := pl7.ne ht7
    have htp2 := pl8.ne ht8
    have ht9 := x9 _ _ ht htp
    have hR9 := refs_B pl8 hR x9
    have hV5 : Vecs wd (big 5) rows := hV.mono (big_up hlen)
    refine q_ifdraw (K := K) (wd := wd) (Bd := big 5) pl9 rfl rfl rfl rfl htp htp2 ht9 ht2 hR9 hR2 hlen hlen2 hV5 (hV2.mono (big_up hlen2)) fun H10 t3 us3 rows3 x10 ht3 hR3 hn3 hV3 => ?_
    have ht10 := x10 _ _ ht9 htp
    have hR10 := refs_B pl9 hR9 x10
    have e510 : Ex H5 H10 := exb_back hp e6 (((x7.trans x8).trans x9).trans x10)
    have LF := lawF (wd := wd) (A := rows) (B := rows3) hwd.2 (vc_of hV5 (by decide)) (vc_of hV3 (by decide)) (by omega) (by omega)
    clear x7 x8 x9 x10 pl6 pl7 pl8 pl9 hR hR9
    -- two spaces
    refine q_tup2 ?_
    refine ts_spaceV (K := K) (CS := CS) (CW := CW) (CV := CV) (wd := wd) (rows := rows) (B := big 5) (ev_var rfl) (fun G e => evrb_l rfl (e _ _ ht10) (hR10.mono e)) hw1 hw7 LF.fA hV5 fun G1 s1 d1 hs1 => ?_
    refine ts_spaceV (K := K) (CS := CS) (CW := CW) (CV := CV) (wd := wd) (rows := rows3) (B := big 5) (ev_var rfl) (fun G e => evrb_l rfl ((d1.trans e) _ _ ht3) (hR3.mono (d1.trans e))) hw1 hw7 LF.fB hV3 fun G2 s2 d2 hs2 => ?_
    refine ⟨by show 2 ≤ sizeLine; decide, fun T hT => g_two ?_⟩
    have dT := Ex.new (o := .tup [.ref s1, .ref s2]) hT
    have d3 : Ex H10 (upd G2 T (.tup [.ref s1, .ref s2])) := (d1.trans d2).trans dT
    have hs1 := hs1.mono (d2.trans dT)
    have hs2 := hs2.mono dT
    generalize (upd G2 T (.tup [.ref s1, .ref s2])) = G3 at d3 hs1 hs2
    obtain ⟨dx1, b1, r1, ws1, kv1, p1, p2, p3, p4, p5⟩ := id hs1
    obtain ⟨dx2, b2, r2, ws2, kv2, q1, q2, q3, q4, q5⟩ := id hs2
    have fb1 : (spF (wd : Int) b1 r1).lookup ("_basis" : Str) = some (.ref b1) := rfl
    have fb2 : (spF (wd : Int) b2 r2).lookup ("_basis" : Str) = some (.ref b2) := rfl
    -- what is kept of them
    refine q_asgL (i := 8) (xs := [.ref b1, .ref b2]) (el_lst (ea_cons (ev_wid (ev_var rfl) p1 fb1) (ea_cons (ev_wid (ev_var rfl) q1 fb2) ea_nil)) (by show 2 ≤ 100000; decide)) fun l8 G4 hl8 d4 hd8 => ?_
    -- sum, meet, dual
    refine q_tup3 ?_
    refine t_or (K := K) (Bd := 2 ^ 500) tyI rfl rfl (hs1.mono d4) (hs2.mono d4) hw1 hw7 (by rw [List.length_append]; have := LF.lA; have := LF.lB; omega) LF.fJ (vecs_of (vc_app LF.vA LF.vB)) fun G5 z1 d5 hz1 => ?_
    refine t_and (K := K) (Bd := 2 ^ 2500) tyI rfl rfl (hs1.mono (d4.trans d5)) (hs2.mono (d4.trans d5)) hw1 hw7 LF.cA.fit LF.cB.fit LF.xn LF.xf LF.xd LF.cX.fit LF.cX.fv (vecs_of LF.cX.vc) fun G6 z2 d6 hz2 => ?_
    refine t_inv (K := K) (Bd := 2 ^ 500) (i := 6) rfl (hs1.mono ((d4.trans d5).trans d6)) hw1 hw7 LF.cA.fit LF.cA.fv (vecs_of LF.cA.vc) fun G7 z3 d7 hz3 => ?_
    refine ⟨by show 3 ≤ sizeLine; decide, fun T hT => g_three ?_⟩
    have dT := Ex.new (o := .tup [.ref z1, .ref z2, .ref z3]) hT
    have hd8 := (((d5.trans d6).trans d7).trans dT) _ _ hd8
    have d8 : Ex G3 (upd G7 T (.tup [.ref z1, .ref z2, .ref z3])) := (d4.trans ((d5.trans d6).trans d7)).trans dT
    have hz1 := hz1.mono ((d6.trans d7).trans dT)
    have hz2 := hz2.mono (d7.trans dT)
    have hz3 := hz3.mono dT
    generalize (upd G7 T (.tup [.ref z1, .ref z2, .ref z3])) = G8 at d8 hz1 hz2 hz3 hd8
    have d38 := d3.trans d8
    have hs1 := hs1.mono d8
    have hs2 := hs2.mono d8
    have p1 := d8 _ _ p1
    have p2 := ex_t d8 p2
    have p3 := p3.mono d8
    have q1 := d8 _ _ q1
    have q2 := ex_t d8 q2
    have q3 := q3.mono d8
    have ht := d38 _ _ ht10
    have ht3 := d38 _ _ ht3
    have hR := hR10.mono d38
    have hR3 := hR3.mono d38
    have e58 := e510.trans d38
    clear d1 d2 d3 d4 d5 d6 d7 d8 d38 hR10 ht10 dT hT
    have hul : us.length = rows.length := hR.length.symm
    have hul3 : us3.length = rows3.length := hR3.length.symm
    have hV8 : Vecs wd (big 5) (rows ++ rows3) := fun r hr => by
      rcases List.mem_append.mp hr with z | z
      · exact hV5 r z
      · exact hV3 r z
    have sM := LF.cX.same
    have sC := LF.cA.same
    have lenO : ∀ {σ2 : L2.St} {G : Hp} {x : Addr} {R : List (List Int)} {j : Nat}, σ2[j]? = some (some (.ref x)) → SpAt K CS G x (wd : Int) R → (bas R).length ≤ 1000 → Ev (tCB (rLenO CS (spLenm K CS)) (tCons (tVar j) tNil)) σ2 G (.int ((bas R).length : Nat)) := fun hj hx hn' => tl_lenO (K := K) (fun G1 e Q q => ⟨_, hj, q G1 _ (Ex.refl G1) (hx.mono e)⟩) hn'
    have lA := LF.lA
    have lB := LF.lB
    have dM := LF.dimM
    have lD := LF.lD
    have bJ : (bas (bas rows ++ bas rows3)).length ≤ 1000 := by omega
    have bM : (bas (compl (bas (meetX rows rows3 wd)) wd)).length = (compl (bas (meetX rows rows3 wd)) wd).length := by rw [sM]
    have bC : (bas (compl (bas rows) wd)).length = (compl (bas rows) wd).length := by rw [sC]
    refine q_when (b := false) (et_is (et_test (ev_op (lenO (j := 9) rfl hz1 bJ) (ev_rankL (K := K) (n := wd) (B := big 5) (rows := rows ++ rows3) (E := E0) (el_catW (ev_var rfl) (ev_var rfl) ht ht3 (by omega)) (paired_app hR hR3) (by rw [List.length_append]; omega) hw7 hV8 (by decide)) (rv_ne rfl))) (by rw [LF.lJ]; simp)) (fun z => by cases z) fun _ K1 k1 => ?_
    have hRR := paired_app hR hR3
    obtain ⟨DJ, GJ⟩ := LF.gJ
    obtain ⟨DA, GA⟩ := LF.gA
    obtain ⟨DB, GB⟩ := LF.gB
    -- all vectors in the sum
    have f1 := el_lcG (t := tN1 K CS) (te := tVar 12) (g := gName 12) (wi := iList K (tOp rCat (tVar 4) (tVar 5))) (σ := [some (.ref a), some (.int (i : Int)), some (.ref p), some (.int (wd : Int)), some (.ref t), some (.ref t3), some (.ref s1), some (.ref s2), some (.ref l8), some (.ref z1), some (.ref z2), some (.ref z3), u12, u13]) (H := K1) (vs := [12]) (fun k => false) (fun k => .int (k : Nat))
      (fun k σ2 => ∃ c u, u ∈ rows ++ rows3 ∧ SqT K K1 c (iVs u) ∧ σ2[12]? = some (some (.ref c)) ∧ σ2[9]? = some (some (.ref z1))) (ei_listN (K := K) (el_catW (ev_var rfl) (ev_var rfl) (k1 _ _ ht) (k1 _ _ ht3) (by omega))) (by rw [List.length_append]; omega)
      (fun k y H2 hk _ hy Q hQ => by
        obtain ⟨u, hu, c, rfl, hc⟩ := paired_get hRR hy
        exact hQ _ ⟨c, u, List.mem_of_getElem? hu, ex_t k1 hc, rfl, rfl⟩ rfl)
      (fun k σ2 H2 _ ⟨c, u, hu, hc, g12, g9⟩ e => et_test (ev_nin (K := K) (c := 80) g12 g9 (hz1.mono (k1.trans e)) (ex_t e hc) hw7 GJ (by decide) (hV8 u hu).1 (vc_of hV8 (by decide) u hu).2 (by decide) (LF.sJ u hu)))
      (fun k σ2 H2 _ _ z _ => by cases z)
    rw [given_none] at f1
    refine q_when (b := false) (et_neNil (K := K) f1) (fun z => by cases z) fun _ K2 k2 => ?_
    have k12 := k1.trans k2
    -- the length of the meet
    refine q_when (b := false) (et_is (et_test (ev_op (lenO (j := 10) rfl (hz2.mono k12) (by omega)) (ev_op (ev_op (lenO (j := 6) rfl (hs1.mono k12) (by omega)) (lenO (j := 7) rfl (hs2.mono k12) (by omega)) rv_I0) (lenO (j := 9) rfl (hz1.mono k12) bJ) rv_I0) (rv_ne rfl))) (by
      have : (((bas rows).length : Nat) : Int) + (((bas rows3).length : Nat) : Int) - (((bas (bas rows ++ bas rows3)).length : Nat) : Int) = (((bas (compl (bas (meetX rows rows3 wd)) wd)).length : Nat) : Int) := by omega
      rw [this]
      simp)) (fun z => by cases z) fun _ K3 k3 => ?_
    have k13 := k12.trans k3
    -- the rows of the meet in both
    obtain ⟨dxm, bm, rm, wsm, kvm, m1, m2, m3, _⟩ := id (hz2.mono k13)
    have fbm : (spF (wd : Int) bm rm).lookup ("_basis" : Str) = some (.ref bm) := rfl
    rw [sM] at m3
    have hwm : wsm.length = (compl (bas (meetX rows rows3 wd)) wd).length := m3.length.symm
    have f2 := el_lcG (t := tN2 K CS) (te := tVar 12) (g := gName 12) (wi := iTup K (tProp CS (getSp CS "_basis") [] E0 (tVar 10))) (σ := [some (.ref a), some (.int (i : Int)), some (.ref p), some (.int (wd : Int)), some (.ref t), some (.ref t3), some (.ref s1), some (.ref s2), some (.ref l8), some (.ref z1), some (.ref z2), some (.ref z3), u12, u13]) (H := K3) (vs := [12]) (fun k => false) (fun k => .int (k : Nat))
      (fun k σ2 => ∃ c u, u ∈ compl (bas (meetX rows rows3 wd)) wd ∧ SqT K K3 c (iVs u) ∧ σ2[12]? = some (some (.ref c)) ∧ σ2[6]? = some (some (.ref s1)) ∧ σ2[7]? = some (some (.ref s2))) (ei_tup (K := K) (ev_wid (ev_var rfl) m1 fbm) m2) (by omega)
      (fun k y H2 hk _ hy Q hQ => by
        obtain ⟨u, hu, c, rfl, hc⟩ := paired_get m3 hy
        exact hQ _ ⟨c, u, List.mem_of_getElem? hu, hc, rfl, rfl, rfl⟩ rfl)
      (fun k σ2 H2 _ ⟨c, u, hu, hc, g12, g6, g7⟩ e => et_is (et_or (a := false) (b := false) (et_test (ev_nin (K := K) (c := 2500) g12 g6 (hs1.mono (k13.trans e)) (ex_t e hc) hw7 GA (by decide) (LF.cX.vc u hu).1 (LF.cX.vc u hu).2 (by decide) (LF.inM u hu).1))
        fun _ => et_test (ev_nin (K := K) (c := 2500) g12 g7 (hs2.mono (k13.trans e)) (ex_t e hc) hw7 GB (by decide) (LF.cX.vc u hu).1 (LF.cX.vc u hu).2 (by decide) (LF.inM u hu).2)) rfl)
      (fun k σ2 H2 _ _ z _ => by cases z)
    rw [given_none] at f2
    refine q_when (b := false) (et_neNil (K := K) f2) (fun z => by cases z) fun _ K4 k4 => ?_
    have k14 := k13.trans k4
    -- the length of the dual
    refine q_when (b := false) (et_is (et_test (ev_op (lenO (j := 11) rfl (hz3.mono k14) (by omega)) (ev_op (ev_var rfl) (lenO (j := 6) rfl (hs1.mono k14) (by omega)) rv_I0) (rv_ne rfl))) (by
      have : (wd : Int) - (((bas rows).length : Nat) : Int) = (((bas (compl (bas rows) wd)).length : Nat) : Int) := by omega
      rw [this]
      simp)) (fun z => by cases z) fun _ K5 k5 => ?_
    have k15 := k14.trans k5
    -- the widths
    obtain ⟨dxj, bj, rj, wsj, kvj, j1, _⟩ := id (hz1.mono k15)
    obtain ⟨dxn, bn, rn, wsn, kvn, n1', _⟩ := id (hz2.mono k15)
    obtain ⟨dxd, bd, rd', wsd, kvd, d1, d2, d3, _⟩ := id (hz3.mono k15)
    have fwj : (spF (wd : Int) bj rj).lookup ("_width" : Str) = some (.int (wd : Int)) := rfl
    have fwn : (spF (wd : Int) bn rn).lookup ("_width" : Str) = some (.int (wd : Int)) := rfl
    have fwd : (spF (wd : Int) bd rd').lookup ("_width" : Str) = some (.int (wd : Int)) := rfl
    have fbd : (spF (wd : Int) bd rd').lookup ("_basis" : Str) = some (.ref bd) := rfl
    refine q_when (b := false) (et_test (ev_opLL (xs := iVs [(wd : Int), wd, wd]) (ys := List.replicate 3 (.int (wd : Int))) (el_lst (ea_cons (ev_wid (ev_var rfl) j1 fwj) (ea_cons (ev_wid (ev_var rfl) n1' fwn) (ea_cons (ev_wid (ev_var rfl) d1 fwd) ea_nil))) (by show 3 ≤ 100000; decide))
      (el_rep1 (n := 3) (el_lst (ea_cons (ev_var rfl) ea_nil) (by show 1 ≤ 100000; decide)) (fun _ _ => ev_c) (by decide)) fun q1' q2' G hq1 hq2 e G2 e2 Q k => by
        refine ⟨.list ([(wd : Int), wd, wd].map PyData.int), .list ([(wd : Int), wd, wd].map PyData.int), .lst (sq_of (e2 _ _ hq1)) (dp_ints _), .lst (sq_of (e2 _ _ hq2)) (dp_ints [(wd : Int), wd, wd]), shaped_ints _, shaped_ints _, ?_⟩
        rw [eqv_refI]
        exact k G2 (Ex.refl G2))) (fun z => by cases z) fun _ K6 k6 => ?_
    have k16 := k15.trans k6
    have d1 := k6 _ _ d1
    have d2 := ex_t k6 d2
    have d3 := d3.mono k6
    rw [sC] at d3
    have hwsd : wsd.length = (compl (bas rows) wd).length := d3.length.symm
    -- the rows of the dual
    refine q_forI (ei_tup (K := K) (tl := tProp CS (getSp CS "_basis") [] E0 (tVar 11)) (ev_wid (ev_var rfl) d1 fbd) d2) (fun G j σ' G' => (∃ w12, σ' = [some (.ref a), some (.int (i : Int)), some (.ref p), some (.int (wd : Int)), some (.ref t), some (.ref t3), some (.ref s1), some (.ref s2), some (.ref l8), some (.ref z1), some (.ref z2), some (.ref z3), w12, u13]) ∧ Ex G G') (fun G e => ⟨⟨_, rfl⟩, Ex.refl G⟩) (fun _ _ _ _ h => h.2) ?_ ?_
    · rintro G j x σ' G1 G2 hj e0 ⟨⟨w12, rfl⟩, e1⟩ e2 hx
      obtain ⟨u, hu, c, rfl, hc⟩ := paired_get d3 hx
      have hum := List.mem_of_getElem? hu
      have ee := (e0.trans e1).trans e2
      have eG := k16.trans ee
      have f3 := el_lcG (t := tN3 K) (te := tVar 13) (g := gName 13) (wi := iList K (tVar 4)) (σ := [some (.ref a), some (.int (i : Int)), some (.ref p), some (.int (wd : Int)), some (.ref t), some (.ref t3), some (.ref s1), some (.ref s2), some (.ref l8), some (.ref z1), some (.ref z2), some (.ref z3), some (.ref c), u13]) (H := G2) (vs := [13]) (fun k => false) (fun k => .int (k : Nat))
        (fun k σ2 => ∃ c2 v, v ∈ rows ∧ SqT K G2 c2 (iVs v) ∧ σ2[13]? = some (some (.ref c2)) ∧ σ2[12]? = some (some (.ref c))) (ei_list (K := K) (ev_var rfl) (sq_of (eG _ _ ht))) (by omega)
        (fun k y H2 hk _ hy Q hQ => by
          obtain ⟨v, hv, c2, rfl, hc2⟩ := paired_get hR hy
          exact hQ _ ⟨c2, v, List.mem_of_getElem? hv, ex_t eG hc2, rfl, rfl⟩ rfl)
        (fun k σ2 H2 _ ⟨c2, v, hv, hc2, g13, g12⟩ e => et_is (et_test (ev_op (ev_call (z := .int 0) (ea_cons (ev_var g12) (ea_cons (ev_var g13) ea_nil)) fun H3 e3 Q q E => ⟨c, c2, u, v, 500, rfl, ex_t ((ee.trans e).trans e3) hc, ex_t (e.trans e3) hc2, ((LF.cA.vc u hum).1).trans ((hV5 v hv).1).symm, by rw [(LF.cA.vc u hum).1]; omega, (LF.cA.vc u hum).2, (vc_of hV5 (by decide) v hv).2, by decide, fun H4 e4 => by
            rw [(LF.cA.vc u hum).1, LF.dD u hum v hv]
            exact q H4 e4⟩) ev_c (rv_ne rfl))) rfl)
        (fun k σ2 H2 _ _ z _ => by cases z)
      rw [given_none] at f3
      exact s_when (b := false) (et_neNil (K := K) f3) (fun z => by cases z) fun _ G3 e3 => ⟨⟨_, rfl⟩, (e1.trans e2).trans e3⟩
    · rintro G σ' G1 e0 ⟨⟨w12, rfl⟩, e1⟩
      have eG := k16.trans (e0.trans e1)
      have P1 := eG _ _ p1
      have Q1 := eG _ _ q1
      refine s_when (b := false) (et_is (et_or (a := false) (b := false) (et_test (ev_opL1 (xs := [.ref b1, .ref b2]) (el_lst (ea_cons (ev_wid (ev_var rfl) P1 fb1) (ea_cons (ev_wid (ev_var rfl) Q1 fb2) ea_nil)) (by show 2 ≤ 100000; decide)) (fun _ _ => ev_var rfl) fun l9 G2 h9 e2 G3 e3 Q k => ?_))
        fun _ => et_neBas (K := K) (CS := CS) (rows := compl (bas (compl (bas rows) wd)) wd) (want := bas rows) (wi := (wd : Int)) (fun G2 e2 Q k => t_inv (K := K) (Bd := 2 ^ 2500) (i := 11) rfl (hz3.mono (eG.trans e2)) hw1 hw7 (by rw [sC]; exact LF.c2.fit) (by rw [sC]; exact LF.c2.fv) (by rw [sC]; exact vecs_of LF.c2.vc) fun G3 z e3 hz => k G3 z e3 hz)
          (fun G2 e2 Q k => ev_wid (ev_var rfl) (e2 _ _ P1) fb1 G2 (Ex.refl G2) _ fun G3 e3 => k G3 b1 ws1 e3 (ex_t (eG.trans (e2.trans e3)) p2) (p3.mono (eG.trans (e2.trans e3)))) (by rw [sC]; exact LF.back)) rfl) (fun z => by cases z) fun _ G2 e2 => ?_
      · have eH := (eG.trans e2).trans e3
        have hx : PyData.canLay0 (.list [.tuple (pyR (bas rows)), .tuple (pyR (bas rows3))]) = true := by simp only [PyData.canLay0, PyData.canLayAll0, (lay_rows (bas rows)).1, (lay_rows (bas rows3)).1, Bool.and_self]
        have hsh : SeqAt.shaped (.list [.tuple (pyR (bas rows)), .tuple (pyR (bas rows3))]) = true := by
          have d1 := (lay_rows (bas rows)).2
          have d2 := (lay_rows (bas rows3)).2
          unfold SeqAt.shaped
          rw [Bool.and_eq_true]
          refine ⟨hx, decide_eq_true ?_⟩
          simp only [PyData.depth, PyData.depthAll]
          omega
        refine ⟨.list [.tuple (pyR (bas rows)), .tuple (pyR (bas rows3))], .list [.tuple (pyR (bas rows)), .tuple (pyR (bas rows3))], .lst (sq_of (e3 _ _ h9)) (.cons (.tup (ex_t eH p2) (dp_rows (p3.mono eH))) (.cons (.tup (ex_t eH q2) (dp_rows (q3.mono eH))) .nil)), .lst (sq_of (eH _ _ hd8)) (.cons (.tup (ex_t eH p2) (dp_rows (p3.mono eH))) (.cons (.tup (ex_t eH q2) (dp_rows (q3.mono eH))) .nil)), hsh, hsh, ?_⟩
        rw [SeqAt.eqv_refl _ hx]
        exact k G3 (Ex.refl G3)
      · exact ⟨⟨_, _, _, _, _, _, _, _, _, _, _, _, _, rfl⟩, e5.trans (e58.trans (eG.trans e2))⟩
  · rintro σ' H5 ⟨⟨u1, u2, u3, u4, u5, u6, u7, u8, u9, u10, u11, u12, u13, rfl⟩, e5⟩
    exact s_ret (v := .bl true) ev_c fun H1 e1 => q H1

end
end Tx

/-! part RN -/
/-! All that the top has written, put together. -/
namespace Tx
open PySem PySem.Spec PyProof.Rows L2 Evl Jb
def spLaw (K : PySem.W.Frag) : Sp := fun vs H Q _ => ∃ a ns, vs = [.ref a] ∧ SqL K H a (iVs ns) ∧ (∀ z ∈ ns, Builtin.Int.intBits z ≤ 1048576) ∧ ∀ H', Q (.bl true) H'
theorem fnG_ok {P : Program} {w : World} {K : PySem.W.Frag} {mg : Str → Option Value} {base : Heap} {k : Nat} {f : Addr} {fd : FuncData} {ps : List Str} {sp : Sp} (F : FnOk P w K mg base CX0 k f fd ps sp) : FnG P w K mg base k f fd ps sp :=
  ⟨F.len, fun A outer s H args us vs Q E _ room env binds vals want => F.run A outer s H args us vs Q E room env binds vals want⟩
abbrev s_gW : Stmt := inClass (top 24) 1
abbrev s_gB : Stmt := inClass (top 24) 2
theorem sc_gW : FnScope ["self"] ["self"] (defScope s_gW) := ⟨rfl, rfl, rfl, by decide +kernel, rfl, by decide +kernel, by decide +kernel⟩
theorem sc_gB : FnScope ["self"] ["self"] (defScope s_gB) := ⟨rfl, rfl, rfl, by decide +kernel, rfl, by decide +kernel, by decide +kernel⟩
theorem all_mk {P : Program} {w : World} {K : PySem.W.Frag} {h : Heap} {mg : Str → Option Value} {fa : Addr} (X : K.In h) (G : h.Ns mainGlobals mg) (hfa : mg "law" = some (.ref fa))
    {fd0 : Addr}
    {odd0 and0 : Option Addr} {sld0 : Array (Option Value)} {ocd0 kVd0 dcd0 pmd0 cdd0 ctd0 : Value}
    {fd1 : Addr}
    {odd1 and1 : Option Addr} {sld1 : Array (Option Value)} {ocd1 kVd1 dcd1 pmd1 cdd1 ctd1 : Value}
    {fd2 : Addr}
    {odd2 and2 : Option Addr} {sld2 : Array (Option Value)} {ocd2 kVd2 dcd2 pmd2 cdd2 ctd2 : Value}
    {fd3 : Addr}
    {odd3 and3 : Option Addr} {sld3 : Array (Option Value)} {ocd3 kVd3 dcd3 pmd3 cdd3 ctd3 : Value}
    {fd4 : Addr}
    {odd4 and4 : Option Addr} {sld4 : Array (Option Value)} {ocd4 kVd4 dcd4 pmd4 cdd4 ctd4 : Value}
    {fd5 : Addr}
    {odd5 and5 : Option Addr} {sld5 : Array (Option Value)} {ocd5 kVd5 dcd5 pmd5 cdd5 ctd5 : Value}
    {fd6 : Addr}
    {odd6 and6 : Option Addr} {sld6 : Array (Option Value)} {ocd6 kVd6 dcd6 pmd6 cdd6 ctd6 : Value}
    {fd7 : Addr}
    {odd7 and7 : Option Addr} {sld7 : Array (Option Value)} {ocd7 kVd7 dcd7 pmd7 cdd7 ctd7 : Value}
    {fd8 : Addr}
    {odd8 and8 : Option Addr} {sld8 : Array (Option Value)} {ocd8 kVd8 dcd8 pmd8 cdd8 ctd8 : Value}
    {fd9 : Addr}
    {odd9 and9 : Option Addr} {sld9 : Array (Option Value)} {ocd9 kVd9 dcd9 pmd9 cdd9 ctd9 : Value}
    {fd10 : Addr}
    {odd10 and10 : Option Addr} {sld10 : Array (Option Value)} {ocd10 kVd10 dcd10 pmd10 cdd10 ctd10 : Value}
    {fd11 : Addr}
    {odd11 and11 : Option Addr} {sld11 : Array (Option Value)} {ocd11 kVd11 dcd11 pmd11 cdd11 ctd11 : Value}
    {fd12 : Addr}
    {odd12 and12 : Option Addr} {sld12 : Array (Option Value)} {ocd12 kVd12 dcd12 pmd12 cdd12 ctd12 : Value}
    {fd13 : Addr}
    {odd13 and13 : Option Addr} {sld13 : Array (Option Value)} {ocd13 kVd13 dcd13 pmd13 cdd13 ctd13 : Value}
    {fd14 : Addr}
    {odd14 and14 : Option Addr} {sld14 : Array (Option Value)} {ocd14 kVd14 dcd14 pmd14 cdd14 ctd14 : Value}
    {fd15 : Addr}
    {odd15 and15 : Option Addr} {sld15 : Array (Option Value)} {ocd15 kVd15 dcd15 pmd15 cdd15 ctd15 : Value}
    {fd16 : Addr}
    {odd16 and16 : Option Addr} {sld16 : Array (Option Value)} {ocd16 kVd16 dcd16 pmd16 cdd16 ctd16 : Value}
    {fd17 : Addr}
    {odd17 and17 : Option Addr} {sld17 : Array (Option Value)} {ocd17 kVd17 dcd17 pmd17 cdd17 ctd17 : Value}
    {fd18 : Addr}
    {odd18 and18 : Option Addr} {sld18 : Array (Option Value)} {ocd18 kVd18 dcd18 pmd18 cdd18 ctd18 : Value}
    {CR : Addr}
    {CW fW : Addr}
    {nmW qW : Str} {NW : Addr} {bsW : List Value} {snW : List Str} {subW : List Value} {abW : Bool} {colW : Option Bool} {ddW : Option Addr} {m0W m1W m2W m3W m5W : Option Value}
    {odW anW : Option Addr} {slW : Array (Option Value)} {ocW kVW dcW pmW cdW ctW : Value}
    {CV fV : Addr}
    {nmV qV : Str} {NV : Addr} {bsV : List Value} {snV : List Str} {subV : List Value} {abV : Bool} {colV : Option Bool} {ddV : Option Addr} {m0V m1V m2V m3V m5V : Option Value}
    {odV anV : Option Addr} {slV : Array (Option Value)} {ocV kVV dcV pmV cdV ctV : Value}
    {CI fI : Addr}
    {nmI qI : Str} {NI : Addr} {bsI : List Value} {snI : List Str} {subI : List Value} {abI : Bool} {colI : Option Bool} {ddI : Option Addr} {m0I m1I m2I m3I m5I : Option Value}
    {odI anI : Option Addr} {slI : Array (Option Value)} {ocI kVI dcI pmI cdI ctI : Value}
    {CD fD : Addr}
    {nmD qD : Str} {ND : Addr} {bsD : List Value} {snD : List Str} {subD : List Value} {abD : Bool} {colD : Option Bool} {ddD : Option Addr} {m0D m1D m2D m3D m5D : Option Value}
    {odD anD : Option Addr} {slD : Array (Option Value)} {ocD kVD dcD pmD cdD ctD : Value}
    {CS fN : Addr}
    {tkW : Tok}
    {T0 T1 : Addr} {z0 z1 : Nat}
    {odN anN : Option Addr} {slN : Array (Option Value)} {ocN kVN dcN pmN cdN ctN : Value}
    {oc0 : Value} {od0 : Option Addr} {sl0 : Array (Option Value)} {od1 : Option Addr} {sl1 : Array (Option Value)}
    {fH : Addr}
    {odH anH : Option Addr} {slH : Array (Option Value)} {ocH kVH dcH pmH cdH ctH : Value}
    {fL : Addr}
    {odL anL : Option Addr} {slL : Array (Option Value)} {ocL kVL dcL pmL cdL ctL : Value}
    {fO : Addr}
    {odO anO : Option Addr} {slO : Array (Option Value)} {ocO kVO dcO pmO cdO ctO : Value}
    {fA : Addr}
    {odA anA : Option Addr} {slA : Array (Option Value)} {ocA kVA dcA pmA cdA ctA : Value}
    {fJ : Addr}
    {odJ anJ : Option Addr} {slJ : Array (Option Value)} {ocJ kVJ dcJ pmJ cdJ ctJ : Value}
    {pW gW : Addr}
    {rsW : List Value}
    {odgW angW : Option Addr} {slgW : Array (Option Value)} {ocgW kVgW dcgW pmgW cdgW ctgW : Value}
    {pB gB : Addr}
    {rsB : List Value}
    {odgB angB : Option Addr} {slgB : Array (Option Value)} {ocgB kVgB dcgB pmgB cdgB ctgB : Value}
    (ad0 : PySem.W.nsIn K mainGlobals "pivot" = some (some (.ref fd0)))
    (ld0 : K.lookup fd0 = some ⟨ocd0, odd0, .func (PySem.W.fnOf "pivot" "pivot" (defArgs s_pivot) (defBody s_pivot) (defScope s_pivot) .none kVd0 dcd0 pmd0 and0 cdd0 ctd0), sld0⟩)
    (cd0 : PySem.W.codeIn K cdd0 "pivot" = true)
    (kd0 : PySem.W.keepIn K (.ref fd0) = true)
    (ad1 : PySem.W.nsIn K mainGlobals "primitive" = some (some (.ref fd1)))
    (ld1 : K.lookup fd1 = some ⟨ocd1, odd1, .func (PySem.W.fnOf "primitive" "primitive" (defArgs s_primitive) (defBody s_primitive) (defScope s_primitive) .none kVd1 dcd1 pmd1 and1 cdd1 ctd1), sld1⟩)
    (cd1 : PySem.W.codeIn K cdd1 "primitive" = true)
    (kd1 : PySem.W.keepIn K (.ref fd1) = true)
    (ad2 : PySem.W.nsIn K mainGlobals "by_pivots" = some (some (.ref fd2)))
    (ld2 : K.lookup fd2 = some ⟨ocd2, odd2, .func (PySem.W.fnOf "by_pivots" "by_pivots" (defArgs s_by_pivots) (defBody s_by_pivots) (defScope s_by_pivots) .none kVd2 dcd2 pmd2 and2 cdd2 ctd2), sld2⟩)
    (cd2 : PySem.W.codeIn K cdd2 "by_pivots" = true)
    (kd2 : PySem.W.keepIn K (.ref fd2) = true)
    (ad3 : PySem.W.nsIn K mainGlobals "remainder" = some (some (.ref fd3)))
    (ld3 : K.lookup fd3 = some ⟨ocd3, odd3, .func (PySem.W.fnOf "remainder" "remainder" (defArgs s_remainder) (defBody s_remainder) (defScope s_remainder) .none kVd3 dcd3 pmd3 and3 cdd3 ctd3), sld3⟩)
    (cd3 : PySem.W.codeIn K cdd3 "remainder" = true)
    (kd3 : PySem.W.keepIn K (.ref fd3) = true)
    (ad4 : PySem.W.nsIn K mainGlobals "cleared" = some (some (.ref fd4)))
    (ld4 : K.lookup fd4 = some ⟨ocd4, odd4, .func (PySem.W.fnOf "cleared" "cleared" (defArgs s_cleared) (defBody s_cleared) (defScope s_cleared) .none kVd4 dcd4 pmd4 and4 cdd4 ctd4), sld4⟩)
    (cd4 : PySem.W.codeIn K cdd4 "cleared" = true)
    (kd4 : PySem.W.keepIn K (.ref fd4) = true)
    (ad5 : PySem.W.nsIn K mainGlobals "reduced" = some (some (.ref fd5)))
    (ld5 : K.lookup fd5 = some ⟨ocd5, odd5, .func (PySem.W.fnOf "reduced" "reduced" (defArgs s_reduced) (defBody s_reduced) (defScope s_reduced) .none kVd5 dcd5 pmd5 and5 cdd5 ctd5), sld5⟩)
    (cd5 : PySem.W.codeIn K cdd5 "reduced" = true)
    (kd5 : PySem.W.keepIn K (.ref fd5) = true)
    (ad6 : PySem.W.nsIn K mainGlobals "is_int" = some (some (.ref fd6)))
    (ld6 : K.lookup fd6 = some ⟨ocd6, odd6, .func (PySem.W.fnOf "is_int" "is_int" (defArgs s_is_int) (defBody s_is_int) (defScope s_is_int) .none kVd6 dcd6 pmd6 and6 cdd6 ctd6), sld6⟩)
    (cd6 : PySem.W.codeIn K cdd6 "is_int" = true)
    (kd6 : PySem.W.keepIn K (.ref fd6) = true)
    (ad7 : PySem.W.nsIn K mainGlobals "is_vector" = some (some (.ref fd7)))
    (ld7 : K.lookup fd7 = some ⟨ocd7, odd7, .func (PySem.W.fnOf "is_vector" "is_vector" (defArgs s_is_vector) (defBody s_is_vector) (defScope s_is_vector) .none kVd7 dcd7 pmd7 and7 cdd7 ctd7), sld7⟩)
    (cd7 : PySem.W.codeIn K cdd7 "is_vector" = true)
    (kd7 : PySem.W.keepIn K (.ref fd7) = true)
    (ad8 : PySem.W.nsIn K mainGlobals "check_vectors" = some (some (.ref fd8)))
    (ld8 : K.lookup fd8 = some ⟨ocd8, odd8, .func (PySem.W.fnOf "check_vectors" "check_vectors" (defArgs s_check_vectors) (defBody s_check_vectors) (defScope s_check_vectors) .none kVd8 dcd8 pmd8 and8 cdd8 ctd8), sld8⟩)
    (cd8 : PySem.W.codeIn K cdd8 "check_vectors" = true)
    (kd8 : PySem.W.keepIn K (.ref fd8) = true)
    (ad9 : PySem.W.nsIn K mainGlobals "complement" = some (some (.ref fd9)))
    (ld9 : K.lookup fd9 = some ⟨ocd9, odd9, .func (PySem.W.fnOf "complement" "complement" (defArgs s_compl) (defBody s_compl) (defScope s_compl) .none kVd9 dcd9 pmd9 and9 cdd9 ctd9), sld9⟩)
    (cd9 : PySem.W.codeIn K cdd9 "complement" = true)
    (kd9 : PySem.W.keepIn K (.ref fd9) = true)
    (ad10 : PySem.W.nsIn K mainGlobals "solution" = some (some (.ref fd10)))
    (ld10 : K.lookup fd10 = some ⟨ocd10, odd10, .func (PySem.W.fnOf "solution" "solution" (defArgs s_sol) (defBody s_sol) (defScope s_sol) .none kVd10 dcd10 pmd10 and10 cdd10 ctd10), sld10⟩)
    (cd10 : PySem.W.codeIn K cdd10 "solution" = true)
    (kd10 : PySem.W.keepIn K (.ref fd10) = true)
    (ad11 : PySem.W.nsIn K mainGlobals "check_operands" = some (some (.ref fd11)))
    (ld11 : K.lookup fd11 = some ⟨ocd11, odd11, .func (PySem.W.fnOf "check_operands" "check_operands" (defArgs s_check_operands) (defBody s_check_operands) (defScope s_check_operands) .none kVd11 dcd11 pmd11 and11 cdd11 ctd11), sld11⟩)
    (cd11 : PySem.W.codeIn K cdd11 "check_operands" = true)
    (kd11 : PySem.W.keepIn K (.ref fd11) = true)
    (ad12 : PySem.W.nsIn K mainGlobals "_law_pool" = some (some (.ref fd12)))
    (ld12 : K.lookup fd12 = some ⟨ocd12, odd12, .func (PySem.W.fnOf "_law_pool" "_law_pool" (defArgs s_pool) (defBody s_pool) (defScope s_pool) .none kVd12 dcd12 pmd12 and12 cdd12 ctd12), sld12⟩)
    (cd12 : PySem.W.codeIn K cdd12 "_law_pool" = true)
    (kd12 : PySem.W.keepIn K (.ref fd12) = true)
    (ad13 : PySem.W.nsIn K mainGlobals "_law_draw" = some (some (.ref fd13)))
    (ld13 : K.lookup fd13 = some ⟨ocd13, odd13, .func (PySem.W.fnOf "_law_draw" "_law_draw" (defArgs s_draw) (defBody s_draw) (defScope s_draw) .none kVd13 dcd13 pmd13 and13 cdd13 ctd13), sld13⟩)
    (cd13 : PySem.W.codeIn K cdd13 "_law_draw" = true)
    (kd13 : PySem.W.keepIn K (.ref fd13) = true)
    (ad14 : PySem.W.nsIn K mainGlobals "_law_vector" = some (some (.ref fd14)))
    (ld14 : K.lookup fd14 = some ⟨ocd14, odd14, .func (PySem.W.fnOf "_law_vector" "_law_vector" (defArgs s_vector) (defBody s_vector) (defScope s_vector) .none kVd14 dcd14 pmd14 and14 cdd14 ctd14), sld14⟩)
    (cd14 : PySem.W.codeIn K cdd14 "_law_vector" = true)
    (kd14 : PySem.W.keepIn K (.ref fd14) = true)
    (ad15 : PySem.W.nsIn K mainGlobals "_law_vectors" = some (some (.ref fd15)))
    (ld15 : K.lookup fd15 = some ⟨ocd15, odd15, .func (PySem.W.fnOf "_law_vectors" "_law_vectors" (defArgs s_vectors) (defBody s_vectors) (defScope s_vectors) .none kVd15 dcd15 pmd15 and15 cdd15 ctd15), sld15⟩)
    (cd15 : PySem.W.codeIn K cdd15 "_law_vectors" = true)
    (kd15 : PySem.W.keepIn K (.ref fd15) = true)
    (ad16 : PySem.W.nsIn K mainGlobals "_law_rank" = some (some (.ref fd16)))
    (ld16 : K.lookup fd16 = some ⟨ocd16, odd16, .func (PySem.W.fnOf "_law_rank" "_law_rank" (defArgs s_rank) (defBody s_rank) (defScope s_rank) .none kVd16 dcd16 pmd16 and16 cdd16 ctd16), sld16⟩)
    (cd16 : PySem.W.codeIn K cdd16 "_law_rank" = true)
    (kd16 : PySem.W.keepIn K (.ref fd16) = true)
    (ad17 : PySem.W.nsIn K mainGlobals "_law_dot" = some (some (.ref fd17)))
    (ld17 : K.lookup fd17 = some ⟨ocd17, odd17, .func (PySem.W.fnOf "_law_dot" "_law_dot" (defArgs s_dot) (defBody s_dot) (defScope s_dot) .none kVd17 dcd17 pmd17 and17 cdd17 ctd17), sld17⟩)
    (cd17 : PySem.W.codeIn K cdd17 "_law_dot" = true)
    (kd17 : PySem.W.keepIn K (.ref fd17) = true)
    (ad18 : PySem.W.nsIn K mainGlobals "law" = some (some (.ref fd18)))
    (ld18 : K.lookup fd18 = some ⟨ocd18, odd18, .func (PySem.W.fnOf "law" "law" (defArgs s_lawV) (defBody s_lawV) (defScope s_lawV) .none kVd18 dcd18 pmd18 and18 cdd18 ctd18), sld18⟩)
    (cd18 : PySem.W.codeIn K cdd18 "law" = true)
    (kd18 : PySem.W.keepIn K (.ref fd18) = true)
    (aCW : PySem.W.nsIn K mainGlobals "InvalidWidth" = some (some (.ref CW)))
    (xCW : K.lookup CW = some (excClassObj nmW qW CW NW bsW [.ref CR, .type "ValueError", .type "Exception", .type "BaseException", .type "object"] true snW subW abW colW ddW m0W m1W m2W m3W m5W "ValueError.__new__"))
    (saCW : PySem.W.findIn K (.ref CW) "__setattr__" = some (some (.builtin "object.__setattr__")))
    (nCWvalue : PySem.W.findIn K (.ref CW) "value" = some none)
    (iCW : PySem.W.findIn K (.ref CW) "__init__" = some (some (.ref fW)))
    (tCW : PySem.W.typeIn K (.ref fW) = some (.type "function"))
    (lW : K.lookup fW = some ⟨ocW, odW, .func (PySem.W.fnOf "__init__" "InvalidWidth.__init__" (defArgs s_iw) (defBody s_iw) (defScope s_iw) .none kVW dcW pmW anW cdW ctW), slW⟩)
    (cW : PySem.W.codeIn K cdW "InvalidWidth.__init__" = true)
    (kW : PySem.W.keepIn K (.ref fW) = true)
    (kcCW : PySem.W.keepIn K (.ref CW) = true)
    (eCW : PySem.W.subIn K (.ref CW) (.type "BaseException") = some true)
    (tyCW : PySem.W.typeIn K (.ref CW) = some (.type "type"))
    (aCV : PySem.W.nsIn K mainGlobals "InvalidVectors" = some (some (.ref CV)))
    (xCV : K.lookup CV = some (excClassObj nmV qV CV NV bsV [.ref CR, .type "ValueError", .type "Exception", .type "BaseException", .type "object"] true snV subV abV colV ddV m0V m1V m2V m3V m5V "ValueError.__new__"))
    (saCV : PySem.W.findIn K (.ref CV) "__setattr__" = some (some (.builtin "object.__setattr__")))
    (nCVposition : PySem.W.findIn K (.ref CV) "position" = some none)
    (iCV : PySem.W.findIn K (.ref CV) "__init__" = some (some (.ref fV)))
    (tCV : PySem.W.typeIn K (.ref fV) = some (.type "function"))
    (lV : K.lookup fV = some ⟨ocV, odV, .func (PySem.W.fnOf "__init__" "InvalidVectors.__init__" (defArgs s_iv) (defBody s_iv) (defScope s_iv) .none kVV dcV pmV anV cdV ctV), slV⟩)
    (cV : PySem.W.codeIn K cdV "InvalidVectors.__init__" = true)
    (kV : PySem.W.keepIn K (.ref fV) = true)
    (kcCV : PySem.W.keepIn K (.ref CV) = true)
    (eCV : PySem.W.subIn K (.ref CV) (.type "BaseException") = some true)
    (tyCV : PySem.W.typeIn K (.ref CV) = some (.type "type"))
    (aCI : PySem.W.nsIn K mainGlobals "InvalidSpace" = some (some (.ref CI)))
    (xCI : K.lookup CI = some (excClassObj nmI qI CI NI bsI [.ref CR, .type "ValueError", .type "Exception", .type "BaseException", .type "object"] true snI subI abI colI ddI m0I m1I m2I m3I m5I "ValueError.__new__"))
    (saCI : PySem.W.findIn K (.ref CI) "__setattr__" = some (some (.builtin "object.__setattr__")))
    (nCIvalue : PySem.W.findIn K (.ref CI) "value" = some none)
    (iCI : PySem.W.findIn K (.ref CI) "__init__" = some (some (.ref fI)))
    (tCI : PySem.W.typeIn K (.ref fI) = some (.type "function"))
    (lI : K.lookup fI = some ⟨ocI, odI, .func (PySem.W.fnOf "__init__" "InvalidSpace.__init__" (defArgs s_is) (defBody s_is) (defScope s_is) .none kVI dcI pmI anI cdI ctI), slI⟩)
    (cI : PySem.W.codeIn K cdI "InvalidSpace.__init__" = true)
    (kI : PySem.W.keepIn K (.ref fI) = true)
    (kcCI : PySem.W.keepIn K (.ref CI) = true)
    (eCI : PySem.W.subIn K (.ref CI) (.type "BaseException") = some true)
    (tyCI : PySem.W.typeIn K (.ref CI) = some (.type "type"))
    (aCD : PySem.W.nsIn K mainGlobals "DifferentWidths" = some (some (.ref CD)))
    (xCD : K.lookup CD = some (excClassObj nmD qD CD ND bsD [.ref CR, .type "ValueError", .type "Exception", .type "BaseException", .type "object"] true snD subD abD colD ddD m0D m1D m2D m3D m5D "ValueError.__new__"))
    (saCD : PySem.W.findIn K (.ref CD) "__setattr__" = some (some (.builtin "object.__setattr__")))
    (nCDone : PySem.W.findIn K (.ref CD) "one" = some none)
    (nCDother : PySem.W.findIn K (.ref CD) "other" = some none)
    (iCD : PySem.W.findIn K (.ref CD) "__init__" = some (some (.ref fD)))
    (tCD : PySem.W.typeIn K (.ref fD) = some (.type "function"))
    (lD : K.lookup fD = some ⟨ocD, odD, .func (PySem.W.fnOf "__init__" "DifferentWidths.__init__" (defArgs s_dw) (defBody s_dw) (defScope s_dw) .none kVD dcD pmD anD cdD ctD), slD⟩)
    (cD : PySem.W.codeIn K cdD "DifferentWidths.__init__" = true)
    (kD : PySem.W.keepIn K (.ref fD) = true)
    (kcCD : PySem.W.keepIn K (.ref CD) = true)
    (eCD : PySem.W.subIn K (.ref CD) (.type "BaseException") = some true)
    (tyCD : PySem.W.typeIn K (.ref CD) = some (.type "type"))
    (aCS : PySem.W.nsIn K mainGlobals "Space" = some (some (.ref CS)))
    (pg : PySem.W.plainGet K CS Str.empty = true)
    (hd : PySem.W.hasDictIn K CS = true)
    (po : PySem.W.plainOver K CS = true)
    (sa : PySem.W.findIn K (.ref CS) "__setattr__" = some (some (.builtin "object.__setattr__")))
    (n_width : PySem.W.findIn K (.ref CS) "_width" = some none)
    (n_basis : PySem.W.findIn K (.ref CS) "_basis" = some none)
    (n_rows : PySem.W.findIn K (.ref CS) "_rows" = some none)
    (mW : PySem.W.nsIn K mainGlobals "_MOST_WIDTH" = some (some (.int 128 tkW)))
    (mk : PySem.W.makesIn K CS = true)
    (kc : PySem.W.keepIn K (.ref CS) = true)
    (aN : PySem.W.findIn K (.ref CS) "__init__" = some (some (.ref fN)))
    (iN : PySem.W.isFn K (.ref fN) = true)
    (lN : K.lookup fN = some ⟨ocN, odN, .func (PySem.W.fnOf "__init__" "Space.__init__" (defArgs s_init) (defBody s_init) (defScope s_init) (.ref T0) kVN dcN pmN anN cdN ctN), slN⟩)
    (cN : PySem.W.codeIn K cdN "Space.__init__" = true)
    (kN : PySem.W.keepIn K (.ref fN) = true)
    (lT0 : K.lookup T0 = some ⟨oc0, od0, .seq #[.ref T1] z0, sl0⟩)
    (lT1 : K.lookup T1 = some ⟨.type "tuple", od1, .seq #[] z1, sl1⟩)
    (aH : PySem.W.findIn K (.ref CS) "__contains__" = some (some (.ref fH)))
    (iH : PySem.W.isFn K (.ref fH) = true)
    (lH : K.lookup fH = some ⟨ocH, odH, .func (PySem.W.fnOf "__contains__" "Space.__contains__" (defArgs s_has) (defBody s_has) (defScope s_has) .none kVH dcH pmH anH cdH ctH), slH⟩)
    (cH : PySem.W.codeIn K cdH "Space.__contains__" = true)
    (kH : PySem.W.keepIn K (.ref fH) = true)
    (aL : PySem.W.findIn K (.ref CS) "__len__" = some (some (.ref fL)))
    (iL : PySem.W.isFn K (.ref fL) = true)
    (lL : K.lookup fL = some ⟨ocL, odL, .func (PySem.W.fnOf "__len__" "Space.__len__" (defArgs s_lenm) (defBody s_lenm) (defScope s_lenm) .none kVL dcL pmL anL cdL ctL), slL⟩)
    (cL : PySem.W.codeIn K cdL "Space.__len__" = true)
    (kL : PySem.W.keepIn K (.ref fL) = true)
    (aO : PySem.W.findIn K (.ref CS) "__or__" = some (some (.ref fO)))
    (iO : PySem.W.isFn K (.ref fO) = true)
    (lO : K.lookup fO = some ⟨ocO, odO, .func (PySem.W.fnOf "__or__" "Space.__or__" (defArgs s_or) (defBody s_or) (defScope s_or) .none kVO dcO pmO anO cdO ctO), slO⟩)
    (cO : PySem.W.codeIn K cdO "Space.__or__" = true)
    (kO : PySem.W.keepIn K (.ref fO) = true)
    (aA : PySem.W.findIn K (.ref CS) "__and__" = some (some (.ref fA)))
    (iA : PySem.W.isFn K (.ref fA) = true)
    (lA : K.lookup fA = some ⟨ocA, odA, .func (PySem.W.fnOf "__and__" "Space.__and__" (defArgs s_and) (defBody s_and) (defScope s_and) .none kVA dcA pmA anA cdA ctA), slA⟩)
    (cA : PySem.W.codeIn K cdA "Space.__and__" = true)
    (kA : PySem.W.keepIn K (.ref fA) = true)
    (aJ : PySem.W.findIn K (.ref CS) "__invert__" = some (some (.ref fJ)))
    (iJ : PySem.W.isFn K (.ref fJ) = true)
    (lJ : K.lookup fJ = some ⟨ocJ, odJ, .func (PySem.W.fnOf "__invert__" "Space.__invert__" (defArgs s_inv) (defBody s_inv) (defScope s_inv) .none kVJ dcJ pmJ anJ cdJ ctJ), slJ⟩)
    (cJ : PySem.W.codeIn K cdJ "Space.__invert__" = true)
    (kJ : PySem.W.keepIn K (.ref fJ) = true)
    (clC : PySem.W.findIn K (.ref CS) "__class__" = some (some (.builtin "object.__class__")))
    (clG : PySem.W.specialIn K (.builtin "object.__class__") "__get__" = some (some (.builtin "getset_descriptor.__get__")))
    (clT : PySem.W.takesIn K (.builtin "object.__class__") = some true)
    (clM : PySem.W.mroIn K CS (.type "object") = some true)
    (sfi : PySem.W.selfFirst K CS = true)
    (paW : PySem.W.findIn K (.ref CS) "width" = some (some (.ref pW)))
    (pgW : PySem.W.specialIn K (.ref pW) "__get__" = some (some (.builtin "property.__get__")))
    (ptW : PySem.W.takesIn K (.ref pW) = some true)
    (prW : PySem.W.recIn K pW "property" = some (.ref gW :: rsW))
    (lgW : K.lookup gW = some ⟨ocgW, odgW, .func (PySem.W.fnOf "width" "Space.width" (defArgs s_gW) (defBody s_gW) (defScope s_gW) .none kVgW dcgW pmgW angW cdgW ctgW), slgW⟩)
    (cgW : PySem.W.codeIn K cdgW "Space.width" = true)
    (kgW : PySem.W.keepIn K (.ref gW) = true)
    (paB : PySem.W.findIn K (.ref CS) "basis" = some (some (.ref pB)))
    (pgB : PySem.W.specialIn K (.ref pB) "__get__" = some (some (.builtin "property.__get__")))
    (ptB : PySem.W.takesIn K (.ref pB) = some true)
    (prB : PySem.W.recIn K pB "property" = some (.ref gB :: rsB))
    (lgB : K.lookup gB = some ⟨ocgB, odgB, .func (PySem.W.fnOf "basis" "Space.basis" (defArgs s_gB) (defBody s_gB) (defScope s_gB) .none kVgB dcgB pmgB angB cdgB ctgB), slgB⟩)
    (cgB : PySem.W.codeIn K cdgB "Space.basis" = true)
    (kgB : PySem.W.keepIn K (.ref gB) = true)
    (zisinstance : PySem.W.nsIn K mainGlobals "isinstance" = some none)
    (zlen : PySem.W.nsIn K mainGlobals "len" = some none)
    (zall : PySem.W.nsIn K mainGlobals "all" = some none)
    (zsorted : PySem.W.nsIn K mainGlobals "sorted" = some none)
    (ztuple : PySem.W.nsIn K mainGlobals "tuple" = some none)
    (zzip : PySem.W.nsIn K mainGlobals "zip" = some none)
    (zenumerate : PySem.W.nsIn K mainGlobals "enumerate" = some none)
    (zint : PySem.W.nsIn K mainGlobals "int" = some none)
    (zbool : PySem.W.nsIn K mainGlobals "bool" = some none)
    (zlist : PySem.W.nsIn K mainGlobals "list" = some none)
    (zrange : PySem.W.nsIn K mainGlobals "range" = some none)
    (zabs : PySem.W.nsIn K mainGlobals "abs" = some none)
    (zrepr : PySem.W.nsIn K mainGlobals "repr" = some none)
    (zmax : PySem.W.nsIn K mainGlobals "max" = some none)
    (zmin : PySem.W.nsIn K mainGlobals "min" = some none)
    (zsum : PySem.W.nsIn K mainGlobals "sum" = some none)
    (zgcd : PySem.W.nsIn K mainGlobals "gcd" = some (some (.builtin "math.gcd")))
    (zlcm : PySem.W.nsIn K mainGlobals "lcm" = some (some (.builtin "math.lcm"))) :
    ∃ fd : FuncData, (∀ (s : Shared) (u : Value), BindsTo s fd ⟨[u], []⟩ [("_law_script", u)]) ∧ ∀ base : Heap, K.In base → base.Ns mainGlobals mg → FnG P w K mg base 7 fa fd ["_law_script"] (spLaw K) := by
  have ee := hfa.symm.trans (PySem.W.mg_of X G ad18)
  cases ee
  have Ud0 := fun_mk (st := s_pivot) ld0 cd0 kd0
  have Bd0 := Ud0.binds (ps := ["vector"]) fun _ _ _ _ _ _ us hl => match us, hl with | [_], _ => rfl
  have Fd0 : Fd K mg "pivot" s_pivot ["vector"] := ⟨_, _, Ud0, PySem.W.mg_of X G ad0, Bd0⟩
  have Ud1 := fun_mk (st := s_primitive) ld1 cd1 kd1
  have Bd1 := Ud1.binds (ps := ["vector"]) fun _ _ _ _ _ _ us hl => match us, hl with | [_], _ => rfl
  have Fd1 : Fd K mg "primitive" s_primitive ["vector"] := ⟨_, _, Ud1, PySem.W.mg_of X G ad1, Bd1⟩
  have Ud2 := fun_mk (st := s_by_pivots) ld2 cd2 kd2
  have Bd2 := Ud2.binds (ps := ["basis"]) fun _ _ _ _ _ _ us hl => match us, hl with | [_], _ => rfl
  have Fd2 : Fd K mg "by_pivots" s_by_pivots ["basis"] := ⟨_, _, Ud2, PySem.W.mg_of X G ad2, Bd2⟩
  have Ud3 := fun_mk (st := s_remainder) ld3 cd3 kd3
  have Bd3 := Ud3.binds (ps := ["vector", "rows"]) fun _ _ _ _ _ _ us hl => match us, hl with | [_, _], _ => rfl
  have Fd3 : Fd K mg "remainder" s_remainder ["vector", "rows"] := ⟨_, _, Ud3, PySem.W.mg_of X G ad3, Bd3⟩
  have Ud4 := fun_mk (st := s_cleared) ld4 cd4 kd4
  have Bd4 := Ud4.binds (ps := ["row", "vector", "at"]) fun _ _ _ _ _ _ us hl => match us, hl with | [_, _, _], _ => rfl
  have Fd4 : Fd K mg "cleared" s_cleared ["row", "vector", "at"] := ⟨_, _, Ud4, PySem.W.mg_of X G ad4, Bd4⟩
  have Ud5 := fun_mk (st := s_reduced) ld5 cd5 kd5
  have Bd5 := Ud5.binds (ps := ["vectors"]) fun _ _ _ _ _ _ us hl => match us, hl with | [_], _ => rfl
  have Fd5 : Fd K mg "reduced" s_reduced ["vectors"] := ⟨_, _, Ud5, PySem.W.mg_of X G ad5, Bd5⟩
  have Ud6 := fun_mk (st := s_is_int) ld6 cd6 kd6
  have Bd6 := Ud6.binds (ps := ["value"]) fun _ _ _ _ _ _ us hl => match us, hl with | [_], _ => rfl
  have Fd6 : Fd K mg "is_int" s_is_int ["value"] := ⟨_, _, Ud6, PySem.W.mg_of X G ad6, Bd6⟩
  have Ud7 := fun_mk (st := s_is_vector) ld7 cd7 kd7
  have Bd7 := Ud7.binds (ps := ["value", "width"]) fun _ _ _ _ _ _ us hl => match us, hl with | [_, _], _ => rfl
  have Fd7 : Fd K mg "is_vector" s_is_vector ["value", "width"] := ⟨_, _, Ud7, PySem.W.mg_of X G ad7, Bd7⟩
  have Ud8 := fun_mk (st := s_check_vectors) ld8 cd8 kd8
  have Bd8 := Ud8.binds (ps := ["vectors", "width"]) fun _ _ _ _ _ _ us hl => match us, hl with | [_, _], _ => rfl
  have Fd8 : Fd K mg "check_vectors" s_check_vectors ["vectors", "width"] := ⟨_, _, Ud8, PySem.W.mg_of X G ad8, Bd8⟩
  have Ud9 := fun_mk (st := s_compl) ld9 cd9 kd9
  have Bd9 := Ud9.binds (ps := ["basis", "width"]) fun _ _ _ _ _ _ us hl => match us, hl with | [_, _], _ => rfl
  have Fd9 : Fd K mg "complement" s_compl ["basis", "width"] := ⟨_, _, Ud9, PySem.W.mg_of X G ad9, Bd9⟩
  have Ud10 := fun_mk (st := s_sol) ld10 cd10 kd10
  have Bd10 := Ud10.binds (ps := ["rows", "free", "width"]) fun _ _ _ _ _ _ us hl => match us, hl with | [_, _, _], _ => rfl
  have Fd10 : Fd K mg "solution" s_sol ["rows", "free", "width"] := ⟨_, _, Ud10, PySem.W.mg_of X G ad10, Bd10⟩
  have Ud11 := fun_mk (st := s_check_operands) ld11 cd11 kd11
  have Bd11 := Ud11.binds (ps := ["one", "other"]) fun _ _ _ _ _ _ us hl => match us, hl with | [_, _], _ => rfl
  have Fd11 : Fd K mg "check_operands" s_check_operands ["one", "other"] := ⟨_, _, Ud11, PySem.W.mg_of X G ad11, Bd11⟩
  have Ud12 := fun_mk (st := s_pool) ld12 cd12 kd12
  have Bd12 := Ud12.binds (ps := ["_law_script", "_law_k"]) fun _ _ _ _ _ _ us hl => match us, hl with | [_, _], _ => rfl
  have Fd12 : Fd K mg "_law_pool" s_pool ["_law_script", "_law_k"] := ⟨_, _, Ud12, PySem.W.mg_of X G ad12, Bd12⟩
  have Ud13 := fun_mk (st := s_draw) ld13 cd13 kd13
  have Bd13 := Ud13.binds (ps := ["_law_pool_here", "_law_count"]) fun _ _ _ _ _ _ us hl => match us, hl with | [_, _], _ => rfl
  have Fd13 : Fd K mg "_law_draw" s_draw ["_law_pool_here", "_law_count"] := ⟨_, _, Ud13, PySem.W.mg_of X G ad13, Bd13⟩
  have Ud14 := fun_mk (st := s_vector) ld14 cd14 kd14
  have Bd14 := Ud14.binds (ps := ["_law_pool_here", "_law_width"]) fun _ _ _ _ _ _ us hl => match us, hl with | [_, _], _ => rfl
  have Fd14 : Fd K mg "_law_vector" s_vector ["_law_pool_here", "_law_width"] := ⟨_, _, Ud14, PySem.W.mg_of X G ad14, Bd14⟩
  have Ud15 := fun_mk (st := s_vectors) ld15 cd15 kd15
  have Bd15 := Ud15.binds (ps := ["_law_pool_here", "_law_width", "_law_most"]) fun _ _ _ _ _ _ us hl => match us, hl with | [_, _, _], _ => rfl
  have Fd15 : Fd K mg "_law_vectors" s_vectors ["_law_pool_here", "_law_width", "_law_most"] := ⟨_, _, Ud15, PySem.W.mg_of X G ad15, Bd15⟩
  have Ud16 := fun_mk (st := s_rank) ld16 cd16 kd16
  have Bd16 := Ud16.binds (ps := ["_law_vectors_here"]) fun _ _ _ _ _ _ us hl => match us, hl with | [_], _ => rfl
  have Fd16 : Fd K mg "_law_rank" s_rank ["_law_vectors_here"] := ⟨_, _, Ud16, PySem.W.mg_of X G ad16, Bd16⟩
  have Ud17 := fun_mk (st := s_dot) ld17 cd17 kd17
  have Bd17 := Ud17.binds (ps := ["_law_one", "_law_other"]) fun _ _ _ _ _ _ us hl => match us, hl with | [_, _], _ => rfl
  have Fd17 : Fd K mg "_law_dot" s_dot ["_law_one", "_law_other"] := ⟨_, _, Ud17, PySem.W.mg_of X G ad17, Bd17⟩
  have Ud18 := fun_mk (st := s_lawV) ld18 cd18 kd18
  have Bd18 := Ud18.binds (ps := ["_law_script"]) fun _ _ _ _ _ _ us hl => match us, hl with | [_], _ => rfl
  have Fd18 : Fd K mg "law" s_lawV ["_law_script"] := ⟨_, _, Ud18, PySem.W.mg_of X G ad18, Bd18⟩
  have UW := fun_mk (st := s_iw) lW cW kW
  have BW := UW.binds (ps := ["self", "value"]) fun _ _ _ _ _ _ us hl => match us, hl with | [_, _], _ => rfl
  have OW : OexC K CW := ⟨⟨nmW, qW, NW, bsW, _, snW, subW, abW, colW, ddW, m0W, m1W, m2W, m3W, m5W, xCW, rfl⟩, saCW, eCW, tyCW, kcCW⟩
  have UV := fun_mk (st := s_iv) lV cV kV
  have BV := UV.binds (ps := ["self", "position"]) fun _ _ _ _ _ _ us hl => match us, hl with | [_, _], _ => rfl
  have OV : OexC K CV := ⟨⟨nmV, qV, NV, bsV, _, snV, subV, abV, colV, ddV, m0V, m1V, m2V, m3V, m5V, xCV, rfl⟩, saCV, eCV, tyCV, kcCV⟩
  have UI := fun_mk (st := s_is) lI cI kI
  have BI := UI.binds (ps := ["self", "value"]) fun _ _ _ _ _ _ us hl => match us, hl with | [_, _], _ => rfl
  have OI : OexC K CI := ⟨⟨nmI, qI, NI, bsI, _, snI, subI, abI, colI, ddI, m0I, m1I, m2I, m3I, m5I, xCI, rfl⟩, saCI, eCI, tyCI, kcCI⟩
  have UD := fun_mk (st := s_dw) lD cD kD
  have BD := UD.binds (ps := ["self", "one", "other"]) fun _ _ _ _ _ _ us hl => match us, hl with | [_, _, _], _ => rfl
  have OD : OexC K CD := ⟨⟨nmD, qD, ND, bsD, _, snD, subD, abD, colD, ddD, m0D, m1D, m2D, m3D, m5D, xCD, rfl⟩, saCD, eCD, tyCD, kcCD⟩
  have UH := fun_mk (st := s_has) lH cH kH
  have BH := UH.binds (ps := ["self", "vector"]) fun _ _ _ _ _ _ us hl => match us, hl with | [_, _], _ => rfl
  have UL := fun_mk (st := s_lenm) lL cL kL
  have BL := UL.binds (ps := ["self"]) fun _ _ _ _ _ _ us hl => match us, hl with | [_], _ => rfl
  have UO := fun_mk (st := s_or) lO cO kO
  have BO := UO.binds (ps := ["self", "other"]) fun _ _ _ _ _ _ us hl => match us, hl with | [_, _], _ => rfl
  have UA := fun_mk (st := s_and) lA cA kA
  have BA := UA.binds (ps := ["self", "other"]) fun _ _ _ _ _ _ us hl => match us, hl with | [_, _], _ => rfl
  have UJ := fun_mk (st := s_inv) lJ cJ kJ
  have BJ := UJ.binds (ps := ["self"]) fun _ _ _ _ _ _ us hl => match us, hl with | [_], _ => rfl
  have UgW := fun_mk (st := s_gW) lgW cgW kgW
  have BgW := UgW.binds (ps := ["self"]) fun _ _ _ _ _ _ us hl => match us, hl with | [_], _ => rfl
  have UgB := fun_mk (st := s_gB) lgB cgB kgB
  have BgB := UgB.binds (ps := ["self"]) fun _ _ _ _ _ _ us hl => match us, hl with | [_], _ => rfl
  have B : Bt mg := ⟨PySem.W.mg_none_of X G zisinstance, PySem.W.mg_none_of X G zlen, PySem.W.mg_none_of X G zall, PySem.W.mg_none_of X G zsorted, PySem.W.mg_none_of X G ztuple, PySem.W.mg_none_of X G zzip, PySem.W.mg_none_of X G zenumerate, PySem.W.mg_none_of X G zint, PySem.W.mg_none_of X G zbool, PySem.W.mg_none_of X G zlist, PySem.W.mg_none_of X G zrange, PySem.W.mg_none_of X G zabs, PySem.W.mg_none_of X G zrepr, PySem.W.mg_none_of X G zmax, PySem.W.mg_none_of X G zmin, PySem.W.mg_of X G zgcd, PySem.W.mg_of X G zlcm⟩
  have S : SpT K mg CS := ⟨⟨pg, hd, po, sa⟩, n_width, n_basis, n_rows, PySem.W.mg_of X G aCS, ⟨tkW, PySem.W.mg_of X G mW⟩⟩
  have UN : L2.FunD K "__init__" "Space.__init__" (defArgs s_init) (defBody s_init) (defScope s_init) [.ref T1] [] fN _ := ⟨⟨ocN, odN, .ref T0, kVN, dcN, pmN, anN, cdN, ctN, slN, rfl, lN, cN, .inr ⟨by simp, T0, _, [.ref T1], z0, rfl, lT0, rfl, .cons rfl .nil⟩, .inl rfl⟩, kN⟩
  obtain ⟨ds2, r2, BN2⟩ := UN.binds1 (ps := nIni) 3 1 (by simp) rfl (fun _ _ _ _ _ _ _ us its h1 h2 => match us, its, h1, h2 with | [_, _, _], [_], _, _ => ⟨_, rfl, rfl⟩)
  cases r2
  obtain ⟨ds1, r1, BN1⟩ := UN.binds1 (ps := nIni) 2 0 (by simp) rfl (fun _ _ _ _ _ _ _ us its h1 h2 => match us, its, h1, h2 with | [_, _], [_], _, _ => ⟨_, rfl, rfl⟩)
  obtain ⟨dv, rfl, rdv⟩ := vals1 r1
  have hdv : ∀ H, Rep K H (.tup []) (.ref T1) := fun H => .tup (vs := []) (.inr ⟨_, #[], z1, lT1, rfl, rfl, Nat.zero_le _, .nil⟩) .nil
  refine ⟨PySem.W.fnOf "law" "law" (defArgs s_lawV) (defBody s_lawV) (defScope s_lawV) .none kVd18 dcd18 pmd18 and18 cdd18 ctd18, fun s u => .of_eq rfl, fun base KB GB => ?_⟩
  have TW : ErC P w K mg base "InvalidWidth" CW ["self", "value"] (spI1 CW "value") := ⟨OW, PySem.W.mg_of X G aCW, fW, _, iCW, tCW, ini_iw UW OW nCWvalue, BW⟩
  have TV : ErC P w K mg base "InvalidVectors" CV ["self", "position"] (spI1 CV "position") := ⟨OV, PySem.W.mg_of X G aCV, fV, _, iCV, tCV, ini_iv UV OV nCVposition, BV⟩
  have C1 : Cl P w K mg base 1 "is_int" ["value"] (spIsI K) := ok_is_int B Fd6
  have C2 : Cl P w K mg base 2 "is_vector" ["value", "width"] (spIsV K) := ok_is_vector B Fd7 Fd6
  have Cpi : Cl P w K mg base 1 "pivot" ["vector"] (spPivot K) := ok_pivot B Fd0
  have Cre : Cl P w K mg base 1 "remainder" ["vector", "rows"] (spRem K) := ok_rem B Fd3
  have Ccv : ClX P w K mg base 3 "check_vectors" ["vectors", "width"] (spCv K CV) := ok_cv B Fd8 TV Fd7 Fd6
  have Cred : Cl P w K mg base 3 "reduced" ["vectors"] (spRed K) := ok_red B Fd5 Fd0 Fd1 Fd3 Fd4
  have Cbyp : Cl P w K mg base 2 "by_pivots" ["basis"] (spByPiv K) := ok_byp B Fd2 Fd0
  have FI := ok_init (P := P) (w := w) (base := base) B S UN TW C1 Ccv Cred Cbyp
  have MK : Mk K CS fN := ⟨mk, aN, iN, kc⟩
  have tyI : ∀ H a dx fs, H a = some (HO.ins CS dx fs) → TyX K H (.ref a) (.ref CS) := fun H a dx fs e => .base (.ins e ⟨pg, hd, po, sa⟩ clC clG clT clM)
  have cl : Cls K CS := ⟨pg, hd, po, sa⟩
  have TI : ErC P w K mg base "InvalidSpace" CI ["self", "value"] (spI1 CI "value") := ⟨OI, PySem.W.mg_of X G aCI, fI, _, iCI, tCI, ini_is UI OI nCIvalue, BI⟩
  have TD : ErC P w K mg base "DifferentWidths" CD ["self", "one", "other"] (spI2 CD "one" "other") := ⟨OD, PySem.W.mg_of X G aCD, fD, _, iCD, tCD, ini_dw UD OD nCDone nCDother, BD⟩
  have Ww : Wid P w K mg base CS "width" "_width" := ⟨pW, gW, _, ⟨paW, pgW, ptW, ⟨_, prW⟩⟩, fn_getter lgW cgW sc_gW rfl rfl cl n_width, BgW⟩
  have Wb : Wid P w K mg base CS "basis" "_basis" := ⟨pB, gB, _, ⟨paB, pgB, ptB, ⟨_, prB⟩⟩, fn_getter lgB cgB sc_gB rfl rfl cl n_basis, BgB⟩
  have Cco : ClX P w K mg base 3 "check_operands" nCo (spCo K CS CI CD) := ok_co B S Ww Fd11 TI TD
  have Ccom := ok_com (P := P) (w := w) (base := base) B Fd9 Fd10 Cred Cbyp
  have Fh := ok_has (P := P) (w := w) (base := base) S UH C2 Cpi Cre
  have Fl := ok_lenm (P := P) (w := w) (base := base) B S UL
  have Fo := ok_or (P := P) (w := w) (base := base) B S UO Cco Wb MK FI BN2
  have Fa := ok_and (P := P) (w := w) (base := base) B S UA Cco Wb Ccom Cred MK FI BN2
  have Fi := ok_inv (P := P) (w := w) (base := base) B S UJ Ccom MK FI BN2
  exact fnG_ok (ok_law B S Ud18 MK FI BN2 aL iL Fl BL Wb Ww sfi aO iO Fo BO aA iA Fa BA aJ iJ Fi BJ aH iH Fh BH tyI (ok_pool B Fd12) (ok_draw Fd13) (ok_vecs B Fd15 Fd14 Fd13) (ok_rank B Fd16) (ok_dot B (PySem.W.mg_none_of X G zsum) Fd17))
end Tx

/-! part RO -/
namespace Tx
open PySem PySem.Spec PyProof.Rows L2
theorem walk {l : PySem.W.OpenLaw} {q : Program} {loose : List Str} {XP : (Str → Option Value) → Heap → Prop} {YP : World → Heap → Prop} {d : DefRec} {K : Params → PySem.W.Frag} (hn : l.most = some 63) (hdf : d.params.defaults = [])
    (hY : ∀ (w : World) (h : Heap), YP w h → (K w.params).In h)
    (F : ∀ (w : World) (mg : Str → Option Value) (fa : Addr) (h : Heap), (K w.params).In h → h.Ns mainGlobals mg → mg d.name = some (.ref fa) →
      ∃ fd : FuncData, (∀ (s : Shared) (u : Value), BindsTo s fd ⟨[u], []⟩ [("_law_script", u)]) ∧ ∀ base : Heap, (K w.params).In base → base.Ns mainGlobals mg → Jb.FnG l.prog w (K w.params) mg base 7 fa fd ["_law_script"] (spLaw (K w.params))) :
    PySem.W.WalkO q loose XP YP l.row.toRowW d [] (fun f vs => PySem.call f vs) :=
  Jb.walkG (n := 63) (k := 7) (x := "_law_script") (sp := fun w => spLaw (K w.params)) hn (by decide) hdf ⟨rfl, by decide, by decide⟩ hY F fun _ _ a ns _ hb _ hS => ⟨a, ns, rfl, hS, hb, fun _ => rfl⟩
end Tx
open PySem PySem.W PyProof.Rows in
set_option maxRecDepth 100000 in
set_option maxHeartbeats 0 in
theorem PySem.Challenge.cw_retrysafe_k03_sums_meets_and_duals_holds : PySem.Challenge.rw_retrysafe_k03_sums_meets_and_duals.Holds := by
  w_on; o_law; k_head; (case hw => w_witness2)
  k_fill
  refine Tx.walk (l := PySem.Challenge.rw_retrysafe_k03_sums_meets_and_duals) rfl rfl (fun w h Y => PySem.W.kIn_of Y) ?F
  case F =>
    intro w mg fa h KX G hmg
    refine' Tx.all_mk KX G hmg ?ad0 ?ld0 ?cd0 ?kd0 ?ad1 ?ld1 ?cd1 ?kd1 ?ad2 ?ld2 ?cd2 ?kd2 ?ad3 ?ld3 ?cd3 ?kd3 ?ad4 ?ld4 ?cd4 ?kd4 ?ad5 ?ld5 ?cd5 ?kd5 ?ad6 ?ld6 ?cd6 ?kd6 ?ad7 ?ld7 ?cd7 ?kd7 ?ad8 ?ld8 ?cd8 ?kd8 ?ad9 ?ld9 ?cd9 ?kd9 ?ad10 ?ld10 ?cd10 ?kd10 ?ad11 ?ld11 ?cd11 ?kd11 ?ad12 ?ld12 ?cd12 ?kd12 ?ad13 ?ld13 ?cd13 ?kd13 ?ad14 ?ld14 ?cd14 ?kd14 ?ad15 ?ld15 ?cd15 ?kd15 ?ad16 ?ld16 ?cd16 ?kd16 ?ad17 ?ld17 ?cd17 ?kd17 ?ad18 ?ld18 ?cd18 ?kd18 ?aCW ?xCW ?saCW ?nCWvalue ?iCW ?tCW ?lW ?cW ?kW ?kcCW ?eCW ?tyCW ?aCV ?xCV ?saCV ?nCVposition ?iCV ?tCV ?lV ?cV ?kV ?kcCV ?eCV ?tyCV ?aCI ?xCI ?saCI ?nCIvalue ?iCI ?tCI ?lI ?cI ?kI ?kcCI ?eCI ?tyCI ?aCD ?xCD ?saCD ?nCDone ?nCDother ?iCD ?tCD ?lD ?cD ?kD ?kcCD ?eCD ?tyCD ?aCS ?pg ?hd ?po ?sa ?n_width ?n_basis ?n_rows ?mW ?mk ?kc ?aN ?iN ?lN ?cN ?kN ?lT0 ?lT1 ?aH ?iH ?lH ?cH ?kH ?aL ?iL ?lL ?cL ?kL ?aO ?iO ?lO ?cO ?kO ?aA ?iA ?lA ?cA ?kA ?aJ ?iJ ?lJ ?cJ ?kJ ?clC ?clG ?clT ?clM ?sfi ?paW ?pgW ?ptW ?prW ?lgW ?cgW ?kgW ?paB ?pgB ?ptB ?prB ?lgB ?cgB ?kgB ?zisinstance ?zlen ?zall ?zsorted ?ztuple ?zzip ?zenumerate ?zint ?zbool ?zlist ?zrange ?zabs ?zrepr ?zmax ?zmin ?zsum ?zgcd ?zlcm
    (case ad0 => k_is)
    (case ld0 => k_is)
    (case cd0 => k_is)
    (case kd0 => k_is)
    (case ad1 => k_is)
    (case ld1 => k_is)
    (case cd1 => k_is)
    (case kd1 => k_is)
    (case ad2 => k_is)
    (case ld2 => k_is)
    (case cd2 => k_is)
    (case kd2 => k_is)
    (case ad3 => k_is)
    (case ld3 => k_is)
    (case cd3 => k_is)
    (case kd3 => k_is)
    (case ad4 => k_is)
    (case ld4 => k_is)
    (case cd4 => k_is)
    (case kd4 => k_is)
    (case ad5 => k_is)
    (case ld5 => k_is)
    (case cd5 => k_is)
    (case kd5 => k_is)
    (case ad6 => k_is)
    (case ld6 => k_is)
    (case cd6 => k_is)
    (case kd6 => k_is)
    (case ad7 => k_is)
    (case ld7 => k_is)
    (case cd7 => k_is)
    (case kd7 => k_is)
    (case ad8 => k_is)
    (case ld8 => k_is)
    (case cd8 => k_is)
    (case kd8 => k_is)
    (case ad9 => k_is)
    (case ld9 => k_is)
    (case cd9 => k_is)
    (case kd9 => k_is)
    (case ad10 => k_is)
    (case ld10 => k_is)
    (case cd10 => k_is)
    (case kd10 => k_is)
    (case ad11 => k_is)
    (case ld11 => k_is)
    (case cd11 => k_is)
    (case kd11 => k_is)
    (case ad12 => k_is)
    (case ld12 => k_is)
    (case cd12 => k_is)
    (case kd12 => k_is)
    (case ad13 => k_is)
    (case ld13 => k_is)
    (case cd13 => k_is)
    (case kd13 => k_is)
    (case ad14 => k_is)
    (case ld14 => k_is)
    (case cd14 => k_is)
    (case kd14 => k_is)
    (case ad15 => k_is)
    (case ld15 => k_is)
    (case cd15 => k_is)
    (case kd15 => k_is)
    (case ad16 => k_is)
    (case ld16 => k_is)
    (case cd16 => k_is)
    (case kd16 => k_is)
    (case ad17 => k_is)
    (case ld17 => k_is)
    (case cd17 => k_is)
    (case kd17 => k_is)
    (case ad18 => k_is)
    (case ld18 => k_is)
    (case cd18 => k_is)
    (case kd18 => k_is)
    (case aCW => k_is)
    (case xCW => k_is)
    (case saCW => k_is)
    (case nCWvalue => k_is)
    (case iCW => k_is)
    (case tCW => k_is)
    (case lW => k_is)
    (case cW => k_is)
    (case kW => k_is)
    (case kcCW => k_is)
    (case eCW => k_is)
    (case tyCW => k_is)
    (case aCV => k_is)
    (case xCV => k_is)
    (case saCV => k_is)
    (case nCVposition => k_is)
    (case iCV => k_is)
    (case tCV => k_is)
    (case lV => k_is)
    (case cV => k_is)
    (case kV => k_is)
    (case kcCV => k_is)
    (case eCV => k_is)
    (case tyCV => k_is)
    (case aCI => k_is)
    (case xCI => k_is)
    (case saCI => k_is)
    (case nCIvalue => k_is)
    (case iCI => k_is)
    (case tCI => k_is)
    (case lI => k_is)
    (case cI => k_is)
    (case kI => k_is)
    (case kcCI => k_is)
    (case eCI => k_is)
    (case tyCI => k_is)
    (case aCD => k_is)
    (case xCD => k_is)
    (case saCD => k_is)
    (case nCDone => k_is)
    (case nCDother => k_is)
    (case iCD => k_is)
    (case tCD => k_is)
    (case lD => k_is)
    (case cD => k_is)
    (case kD => k_is)
    (case kcCD => k_is)
    (case eCD => k_is)
    (case tyCD => k_is)
    (case aCS => k_is)
    (case pg => k_is)
    (case hd => k_is)
    (case po => k_is)
    (case sa => k_is)
    (case n_width => k_is)
    (case n_basis => k_is)
    (case n_rows => k_is)
    (case mW => k_is)
    (case mk => k_is)
    (case kc => k_is)
    (case aN => k_is)
    (case iN => k_is)
    (case lN => k_is)
    (case cN => k_is)
    (case kN => k_is)
    (case lT0 => k_is)
    (case lT1 => k_is)
    (case aH => k_is)
    (case iH => k_is)
    (case lH => k_is)
    (case cH => k_is)
    (case kH => k_is)
    (case aL => k_is)
    (case iL => k_is)
    (case lL => k_is)
    (case cL => k_is)
    (case kL => k_is)
    (case aO => k_is)
    (case iO => k_is)
    (case lO => k_is)
    (case cO => k_is)
    (case kO => k_is)
    (case aA => k_is)
    (case iA => k_is)
    (case lA => k_is)
    (case cA => k_is)
    (case kA => k_is)
    (case aJ => k_is)
    (case iJ => k_is)
    (case lJ => k_is)
    (case cJ => k_is)
    (case kJ => k_is)
    (case clC => k_is)
    (case clG => k_is)
    (case clT => k_is)
    (case clM => k_is)
    (case sfi => k_is)
    (case paW => k_is)
    (case pgW => k_is)
    (case ptW => k_is)
    (case prW => k_is)
    (case lgW => k_is)
    (case cgW => k_is)
    (case kgW => k_is)
    (case paB => k_is)
    (case pgB => k_is)
    (case ptB => k_is)
    (case prB => k_is)
    (case lgB => k_is)
    (case cgB => k_is)
    (case kgB => k_is)
    (case zisinstance => k_is)
    (case zlen => k_is)
    (case zall => k_is)
    (case zsorted => k_is)
    (case ztuple => k_is)
    (case zzip => k_is)
    (case zenumerate => k_is)
    (case zint => k_is)
    (case zbool => k_is)
    (case zlist => k_is)
    (case zrange => k_is)
    (case zabs => k_is)
    (case zrepr => k_is)
    (case zmax => k_is)
    (case zmin => k_is)
    (case zsum => k_is)
    (case zgcd => k_is)
    (case zlcm => k_is)
